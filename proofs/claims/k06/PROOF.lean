import PyProof.Rows.All
import Wide.All
import OpenK.AllK
import Wide.FinOn
import HandS.ForMost
import HandS.ForExc
import HandS.ExcField
import HandS.ExcInit
import HandS.ExcValue
import HandS.Defaults
import KE.KExcIs
import HandS.IsInst
import HandS.Codes
import HandS.Style
import HandS.Flow
import HandS.Zip
import HandS.Walk
import HandS.TupAny
import HandS.TryOnly
import KE.GoesEnumKw
import HandS.List
import HandS.MakeKwOnly
import KE.GoesMore
import KE.GoesEnum
import HandS.Rev
import HandS.RaiseMore
import HandS.Star
import HandS.WrittenGet
import HandS.Conv
import HandS.Strs
import HandS.FStr
import HandS.ExcIs
import PySem.Challenge.RW_cardlines_k06_runs_of_cards
set_option Elab.async false
set_option linter.all false
set_option maxRecDepth 100000
set_option maxHeartbeats 4000000
namespace My
open PySem PySem.Spec PyProof.Rows L2
/-! ### an exception that is caught, and kept behind its except clause -/
/-- at a stands an exception of the class cls, its own dict at d -/
def exK (a : Addr) (cls : Value) (d : Option Addr) : HO := .ext fun h => ∃ (oe : Obj) (vs : Array Value), h.get? a = some oe ∧ Zc cls d oe ∧ oe.data = .fields vs
theorem exK_ok {P : Program} {w : World} {H : Hp} {h : Heap} {a : Addr} {cls : Value} {d : Option Addr} {oe : Obj} {vs : Array Value} (e : h.get? a = some oe) (z : Zc cls d oe) (hd : oe.data = .fields vs) : ObjOk P w H h a (exK a cls d) :=
  ⟨⟨oe, vs, e, z, hd⟩, ⟨oe, e⟩, fun _ _ ⟨o, v, q, r⟩ k => ⟨o, v, k o q, r⟩⟩
section
variable {X : Cx} {pins : List (Addr × Obj)} {σ : L2.St} {H : Hp} {s : Shared}
theorem track {a : Addr} {oe : Obj} {vs : Array Value} {cls : Value} {d : Option Addr} (I : Inv X pins σ H s) (ha : s.heap.get? a = some oe) (hz : Zc cls d oe) (hd : oe.data = .fields vs) (na : H a = none)
    (n0 : X.s_0.heap.get? a = none) (nL : a ≠ X.env.locals) (np : ∀ p ∈ X.pn ++ pins, p.1 ≠ a) : Inv X pins σ (upd H a (exK a cls d)) s := by
  have nc : ∀ x c, X.env.cells.lookup x = some c → c ≠ a := fun x c hc e => by
    obtain ⟨v, hv⟩ := I.cell x c hc
    subst e
    obtain ⟨o, ho, hdat⟩ := hv
    rw [ha] at ho
    cases ho
    rw [hd] at hdat
    cases hdat
  exact
    { ok := I.ok
      os := I.os
      bare := I.bare
      base :=
        { keep := I.base.keep
          slot := I.base.slot
          free := fun b o e n hx => by
            rw [upd_ne (fun z => by rw [z, n0] at e; cases e)]
            exact I.base.free b o e n hx
          there := I.base.there
          tups := fun b xs e => by
            have e1 := I.base.tups b xs e
            rw [upd_ne (ne_of_none e1 na)]
            exact e1
          frzs := fun b o u e => by
            have e1 := I.base.frzs b o u e
            rw [upd_ne (ne_of_none e1 na)]
            exact e1
          tbls := fun b ps e => by
            obtain ⟨more, e1⟩ := I.base.tbls b ps e
            exact ⟨more, by rw [upd_ne (ne_of_none e1 na)]; exact e1⟩ }
      loc := I.loc
      cell := I.cell
      free := by rw [upd_ne (Ne.symm nL)]; exact I.free
      freeC := fun x c hc => by rw [upd_ne (nc x c hc)]; exact I.freeC x c hc
      pin := fun p hp => by
        obtain ⟨h1, h2, h3⟩ := I.pin p hp
        exact ⟨h1, by rw [upd_ne (np p hp)]; exact h2, h3⟩
      hok := L2.HOk.laidN I.hok (fun _ _ q => q) na (exK_ok ha hz hd)
      len := I.len }
end
/-- where the suite's end goes on: the name is gone, the exception is kept at a -/
def keepEnds (D : Ends) (i : Nat) (a : Addr) (cls : Value) (d : Option Addr) : Ends :=
  { nx := fun σ' H' => D.nx (σ'.set i none) (upd H' a (exK a cls d)), rt := D.rt, bk := fun σ' H' => D.bk (σ'.set i none) H', ct := fun σ' H' => D.ct (σ'.set i none) H' }
def wKeep (K : PySem.W.Frag) (c : Value) (i : Nat) (ts : Addr → Value → Option Addr → TS) (Wout : WX) (D : Ends) : WX := fun cls d σ H =>
  ∃ b, PySem.W.exmOne K cls c = some b ∧ (b = true → ∀ a, H a = none → ts a cls d (keepEnds D i a cls d) (σ.set i (some (.ref a))) H) ∧ (b = false → Wout cls d σ H)
section
variable {X : Cx} {pins : List (Addr × Obj)} {σ : L2.St} {H : Hp} {s : Shared}
/-- out of the suite, the exception still pinned -/
theorem still {a b : Addr} {q : Addr × Obj} {pn' : List (Addr × Obj)} (I : Inv (X.suite b (q :: (X.pn ++ pins))) pn' σ H s) (ok : X.Ok) : Inv X (q :: pins) σ H s :=
  { ok := ok, os := I.os, bare := I.bare, base := I.base, loc := I.loc, cell := I.cell, free := I.free, freeC := I.freeC, hok := I.hok, len := I.len
    pin := fun p hp => I.pin p (List.mem_append_left _ (by
      rcases List.mem_append.mp hp with h | h
      · exact List.mem_cons_of_mem _ (List.mem_append_left _ h)
      · rcases List.mem_cons.mp h with h | h
        · rw [h]; exact List.mem_cons_self
        · exact List.mem_cons_of_mem _ (List.mem_append_right _ h))) }
theorem unpin {q : Addr × Obj} (I : Inv X (q :: pins) σ H s) : Inv X pins σ H s :=
  { ok := I.ok, os := I.os, bare := I.bare, base := I.base, loc := I.loc, cell := I.cell, free := I.free, freeC := I.freeC, hok := I.hok, len := I.len
    pin := fun p hp => I.pin p (by
      rcases List.mem_append.mp hp with h | h
      · exact List.mem_append_left _ h
      · exact List.mem_append_right _ (List.mem_cons_of_mem _ h)) }
end
section
variable {X : Cx} {x n : Str} {c : Value} {i : Nat} {body suite : List Stmt} {b₀ : Stmt} {np pos pos' : Pos} {tb : WX → TS} {ts : Addr → Value → Option Addr → TS} {Wout : WX}
/-- try: body / except x as n: suite, where behind the suite the exception is still told of -/
theorem ps_try_keep (hs : X.stack = X.env :: X.outer) (hf : X.env.frame = some X.env.locals) (hex : X.ex = []) (hN : X.N.Nodup) (hi : X.N[i]? = some n) (hln : X.env.kindOf n = some .local) (hc : Names X x c) (tk : Takes X Wout)
    (hb : ∀ (W : WX) (pn : List (Addr × Obj)) (xe : Value → Shared → Prop), Takes (X.tr pn xe) W → PassesOwn (model X.prog X.w) X.A X.env xe → PSs (X.tr pn xe) body (tb W))
    (hsu : ∀ (a : Addr) (oe : Obj) (cls : Value) (d : Option Addr) (pn : List (Addr × Obj)), Zc cls d oe → (∃ vs, oe.data = .fields vs) → PSs (X.suite a ((a, oe) :: pn)) (b₀ :: suite) (ts a cls d)) :
    PS X (.Try body [.ExceptHandler (some (.Name x np)) (some n) (b₀ :: suite) pos'] [] [] pos) (fun D σ H => tb (wKeep X.K c i ts Wout D) D σ H) := by
  constructor
  intro pins s σ H D I h
  have ok := I.ok
  have frames : X.A.frames = some (X.env :: X.outer) := by
    rw [ok.frames, hs]
  have run := (hb (wKeep X.K c i ts Wout D) (X.pn ++ pins) (fun e s₁ => wpAny (model X.prog X.w) X.A (noteFrame e X.env) (fun _ s₂ => wpAny (model X.prog X.w) X.A (setFlight e none) (fun _ s₃ =>
      wpAny (model X.prog X.w) X.A (handleBy e X.env [.ExceptHandler (some (.Name x np)) (some n) (b₀ :: suite) pos']) (SP X pins D) X.xe s₃) X.xe s₂) X.xe s₁) ?caught PassesOwn.looking).run [] s σ H D (I.toTry _) h
  · refine wpAny_Try_except (wpAny_mono run (fun fl s1 out => ?_) fun _ _ z => z)
    cases fl with
    | next => obtain ⟨σ1, H1, J1, q1⟩ := out; exact wpAny_execs_nil ⟨σ1, H1, J1.ofTry ok, q1⟩
    | ret u => obtain ⟨v1, σ1, H1, J1, r1, q1⟩ := out; exact ⟨v1, σ1, H1, J1.ofTry ok, r1, q1⟩
    | brk => obtain ⟨σ1, H1, J1, q1⟩ := out; exact ⟨σ1, H1, J1.ofTry ok, q1⟩
    | cont => obtain ⟨σ1, H1, J1, q1⟩ := out; exact ⟨σ1, H1, J1.ofTry ok, q1⟩
  · rintro u s' ⟨a, B, sI, pins', σ1, H1, cls, d, rfl, J1, ground, up, sky, na, os, ag, mt, em, yes, no⟩
    have J : Inv X pins σ1 H1 sI := J1.ofTry ok
    rw [show (X.tr (X.pn ++ pins) _).stack = X.env :: X.outer from hs] at sky
    refine Sky.land Zc.steady frames hf sky fun h3 fly up3 => ?_
    have Jl : Inv X pins σ1 H1 { s' with heap := h3 } := J.landed ground fly.1 (up.trans up3) os ag
    obtain ⟨oe, vs, he, hz, hdat⟩ := fly.there
    -- the exception is none of the frames
    have apart : ∀ {hh : Heap} {ob : Obj} {fv : Array Value}, hh.FunFrames B (X.env :: X.outer) → hh.get? a = some ob → ob.data = .fields fv → a ∉ frs (X.env :: X.outer) := by
      intro hh ob fv ff e1 e2 mem
      obtain ⟨_, ob', e3, nf⟩ := ff.mem mem
      rw [e1] at e3
      cases e3
      exact nf _ e2
    have nfr := apart fly.2.2.1 he hdat
    have nL : a ≠ X.env.locals := by
      intro z
      exact nfr (List.mem_filterMap.mpr ⟨X.env, List.mem_cons_self, by rw [hf, z]⟩)
    have nF : a ∉ X.fs := by
      intro hm
      obtain ⟨ev, hev, q⟩ := List.mem_filterMap.mp hm
      exact nfr (List.mem_filterMap.mpr ⟨ev, List.mem_cons_of_mem _ hev, q⟩)
    have away : ∀ b o, sI.heap.get? b = some o → b ∉ frs X.stack → b ≠ a := by
      intro b o e hb' z
      have gb := ground b o e hb'
      rw [z, fly.2.1] at gb
      cases gb
    have n0 : X.s_0.heap.get? a = none := by
      cases e0 : X.s_0.heap.get? a with
      | none => rfl
      | some o =>
        obtain ⟨o', e1⟩ := J.base.there a o e0 (by rw [hex]; exact fun z => nomatch z)
        exact absurd rfl (away a o' e1 (by rw [hs]; exact nfr))
    have npin : ∀ p ∈ X.pn ++ pins, p.1 ≠ a := by
      intro p hp
      obtain ⟨g1, _, g3, g4, _⟩ := J.pin p hp
      refine away p.1 p.2 g1 fun mem => ?_
      rw [hs] at mem
      obtain ⟨ev, hev, q⟩ := List.mem_filterMap.mp mem
      rcases List.mem_cons.mp hev with rfl | hev
      · rw [hf] at q
        exact g3 (Option.some.inj q).symm
      · exact g4 (List.mem_filterMap.mpr ⟨ev, hev, q⟩)
    have Sl := Jl.suite he hdat na nL nF
    refine wpAny_handleBy_cons (codeAny_handlers_test ?_) (by intro z; cases z)
    have ofCls : PySem.W.Looks (model X.prog X.w) h3 (typeOf (.ref a)) cls := by
      intro A Q E st kp q
      exact wpAny_typeOf_ref (kp _ _ he) (by rw [hz.1]; exact q)
    have fits_ := PySem.W.exm_one (M := model X.prog X.w) Jl.kIn ofCls em
    have named : ∀ {Q : Value → Shared → Prop} {E : Value → Shared → Prop}, Q c { s' with heap := h3 } → wpAny (model X.prog X.w) (X.A.mark (some (.ref a))) (eval (.Name x np) X.env) Q E { s' with heap := h3 } := by
      intro Q E q
      obtain ⟨gl, dbg, own | ⟨own, bt, nn⟩⟩ := hc
      · exact ld_glob (X := X.suite a ((a, oe) :: (X.pn ++ pins))) Sl gl own q dbg
      · exact ld_blt (X := X.suite a ((a, oe) :: (X.pn ++ pins))) Sl gl own bt q nn dbg
    refine named (fits_.here ?_)
    cases mt with
    | true =>
      refine codeAny_handlers_suite_as (HandSPX.lands_againZ fly fun h4 fly4 up4 => ?_)
      have Jm : Inv X pins σ1 H1 { s' with heap := h4 } := J.landed ground fly4.1 ((up.trans up3).trans up4) os ag
      obtain ⟨oe4, vs4, he4, hz4, hdat4⟩ := fly4.there
      refine store_ok (X := X.suite a ((a, oe4) :: (X.pn ++ pins))) (v := .ref a) (Jm.suite he4 hdat4 na nL nF) hN hi (.inl hln) rfl (fun s5 S5 => ?_) (.inr hln)
      refine wpAny_mono ((hsu a oe4 cls d (X.pn ++ pins) hz4 ⟨_, hdat4⟩).run [] s5 _ H1 _ S5 (yes rfl a na)) (fun fl s6 out => ?_) fun _ _ z => z.elim
      cases fl with
      | next =>
        obtain ⟨σ6, H6, S6, q6⟩ := out
        refine gone_ok (still (a := a) S6 ok) hN hi hln fun s7 J7 => ⟨_, _, ?_, q6⟩
        obtain ⟨g1, g2, _⟩ := J7.pin (a, oe4) (List.mem_append_right _ List.mem_cons_self)
        exact track (unpin J7) g1 hz4 hdat4 g2 n0 nL npin
      | ret u =>
        obtain ⟨v6, σ6, H6, S6, r6, q6⟩ := out
        exact gone_ok (S6.unsuite ok) hN hi hln fun s7 J7 => ⟨_, _, _, J7, r6, q6⟩
      | brk =>
        obtain ⟨σ6, H6, S6, q6⟩ := out
        exact gone_ok (S6.unsuite ok) hN hi hln fun s7 J7 => ⟨_, _, J7, q6⟩
      | cont =>
        obtain ⟨σ6, H6, S6, q6⟩ := out
        exact gone_ok (S6.unsuite ok) hN hi hln fun s7 J7 => ⟨_, _, J7, q6⟩
    | false =>
      refine (show wpAny (model X.prog X.w) X.A (handleBy (.ref a) X.env []) _ _ _ from wpAny_handleBy_nil ?_)
      obtain ⟨_, _, _, o5, fv, T, oT, tf, g1, g2, g3, g4, _⟩ := id fly
      have onward : wpAny (model X.prog X.w) X.A (setFlight (.ref a) X.env.frame) (fun _ s4 => wpAny (model X.prog X.w) X.A (throw (.ref a) : Sem Flow) (SP X pins D) X.xe s4) X.xe { s' with heap := h3 } := by
        rw [hf]
        refine HandSPX.setFlight_upZ fly fun h4 held up4 => wpAny_throw (tk _ _ ⟨a, B, sI, pins, σ1, H1, cls, d, rfl, J, ground, (up.trans up3).trans up4, .inr (.inr (by rw [hs]; exact held)), na, os, ag, no rfl⟩)
      unfold PySem.passOn
      refine wpAny_bind (wpAny_field g1 g3 g4 ?_)
      rw [if_neg (by simp : ¬ ((Value.ref T == Value.none) = true))]
      first
        | exact wpAny_bind onward
        | exact wpAny_bind (wpAny_pure (wpAny_bind onward))
end
/-! ### the fields of a kept exception -/
def tXk (K : PySem.W.Frag) (C : Addr) (f : Str) (te : TE) : TE := fun σ H Q => te σ H fun x H1 => ∃ (a dd : Addr) (fs : List (Str × V)) (v : V), x = .ref a ∧ H1 a = some (exK a (.ref C) (some dd)) ∧ H1 dd = some (.xd fs) ∧ fs.lookup f = some v ∧ Q v H1
theorem pe_xk {X : Cx} {C : Addr} {e : Expr} {te : TE} {pos : Pos} {n : Str} (T : XfC X.K C) (hno : PySem.W.findIn X.K (.ref C) n = some none) (he : PE X e te) (hb : attributeBase e n X.env (eval e X.env) = eval e X.env := by rfl) :
    PE X (.Attribute e n pos) (tXk X.K C n te) := by
  constructor
  intro pins s σ H Q I h
  refine attr_of hb (thn (he.run pins s σ H _ I h) fun u s1 hh => ?_)
  obtain ⟨y, H1, I1, ry, a, dd, fs, v, rfl, ea, ed, lk, q⟩ := hh
  obtain rfl : u = Value.ref a := ry
  obtain ⟨⟨oe, vs, h1, h2, h3⟩, _⟩ := (show ObjOk X.prog X.w H1 s1.heap a (exK a (.ref C) (some dd)) from I1.hok a _ ea)
  obtain ⟨mA, hns, hr⟩ := (show ObjOk X.prog X.w H1 s1.heap dd (.xd fs) from I1.hok dd _ ed)
  obtain ⟨od, ho, hl⟩ := lookIn_ns hns
  obtain ⟨u, hu, ru⟩ := RelO.some_of (v := v) (o := mA n) (by rw [← lk]; exact hr n)
  have J : PySem.W.InstAt s1.heap a oe C (some od) := ⟨h1, h2.1, by unfold PySem.W.notCls; rw [h3] <;> rfl, by rw [h2.2]; exact ho⟩
  have found := PySem.W.findObj_own T.hdC hno rfl (show PySem.W.lookIn n od = some (some u) by rw [hl, hu])
  have done : EP X pins σ Q u { s1 with toks := s1.toks + 1 } := ⟨v, H1, I1.tok _, ru, q⟩
  exact HandSPX.exc_get I1.kIn J T.ga T.gg T.exC found (handed_of ru) done
/-! ### a method by names alone -/
structure MeK (P : Program) (w : World) (K : PySem.W.Frag) (mg : Str → Option Value) (base : Heap) (k : Nat) (C : Addr) (m : Str) (ks : List Str) (gV : List V → List V → List V) (sp : Sp) : Prop where
  cl : Cls K C
  ex : ∃ f fd ps g, FnOk P w K mg base CX0 k f fd ps sp ∧ PySem.W.findIn K (.ref C) m = some (some (.ref f)) ∧ PySem.W.isFn K (.ref f) = true ∧ PySem.W.keepIn K (.ref f) = true ∧ KBn K fd ps 1 ks g gV
def tMethK (C : Addr) (m : Str) (n : Nat) (sp : Sp) (gV : List V → List V → List V) (E : XK) (ta : TE) (tk : TA) : TE := fun σ H Q => ta σ H fun x H1 => ∃ a dx fs, x = .ref a ∧ H1 a = some (.ins C dx fs) ∧ fs.lookup m = none ∧ tk σ H1 fun zs H2 => zs.length = n ∧ sp (gV [x] zs) H2 Q E
section
variable {X : Cx} {k j : Nat} {sp : Sp} {C : Addr} {m : Str} {ks : List Str} {gV : List V → List V → List V} {o : Expr} {kws : List Keyword} {ta : TE} {tk : TA} {pos apos : Pos}
theorem pe_mtK {pl : Sem Bool} (M : MeK X.prog X.w X.K X.mg X.base k C m ks gV sp) (hr : Room j X.A) (hk : k ≤ j) (he : PE X o ta) (hkw : PK X kws tk)
    (hall : (backToKw pos (keywordEach kws X.env)).all (·.1.isSome) = true := by rfl) (hks : (backToKw pos (keywordEach kws X.env)).filterMap (·.1) = ks := by rfl)
    (hpl : ((backTo pos (starEach [] X.env)).any (·.1) || (backToKw pos (keywordEach kws X.env)).any (·.1.isNone)) = false := by rfl)
    (ht : eval (.Call (.Attribute o m apos) [] kws pos) X.env = (do
      let ov ← eval o X.env
      standAt apos.atName
      let (f, first) ← holding [ov] (getMethod ov m pl)
      callWith pos f first (backTo pos (starEach [] X.env)) (backToKw pos (keywordEach kws X.env))) := by rfl) :
    PE X (.Call (.Attribute o m apos) [] kws pos) (tMethK C m ks.length sp gV E0 ta tk) := by
  obtain ⟨f, fd, ps, g, F, hs, hf, kp, hb⟩ := M.ex
  constructor
  intro pins s σ H Q I h
  refine PySem.W.methodCall_KW (pl := pl) (thn (he.run pins s σ H _ I h) fun u s1 hh => ?_) ht
  obtain ⟨y, H1, I1, ry, a, dx, fs, rfl, ea, lk, q⟩ := hh
  obtain rfl : u = Value.ref a := ry
  refine getmeth_ok I1 ea M.cl ⟨hs, hf, kp⟩ lk ?_
  refine PySem.W.callWith_KW0 (first := [.ref a]) (h₀ := X.base) I.ok.mod.kin kp hall (thn (hkw.run pos pins s1 σ H1 _ I1 q) fun ws s2 hh => ?_) hpl
  obtain ⟨zs, H2, I2, rz, l2, q2⟩ := hh
  refine ⟨I2.kIn, ?_⟩
  rw [hks]
  exact run_fnN (us := [.ref a]) (vs := [.ref a]) F (hr.mono hk) hb pass0 I2 (.cons rfl .nil) rz rfl l2 q2
end
/-! ### == and != by an own __eq__, whatever it tells -/
section
variable {prog : Program} {w : World} {A : Around} {E : Value → Shared → Prop} {s : Shared} {K : PySem.W.Frag} {x C f : Addr} {ox : Obj} {od : Option Obj}
open PySem.W PySem.Calls
theorem bound_builtin {M : Model} {name : Str} {id : String} {args : List Value} {Q : Option Value → Shared → Prop} (X : K.In s.heap) (I : InstAt s.heap x ox C od) (hs : findIn K (.ref C) name = some (some (.builtin id)))
    (hb : ∀ self, bindSpecial (.builtin id) self = pure (.builtin id, [self])) (h : wpAny M A (call (.builtin id) (.ref x :: args)) (fun v => Q (some v)) E s) : wpAny M A (callSpecialIfBound? (.ref x) name args) Q E s := by
  have told : wpAny M A (call (.builtin id) ([.ref x] ++ args) >>= fun v => pure (some v)) Q E s := wpAny_bind (wpAny_mono h (fun _ _ z => wpAny_pure z) fun _ _ z => z)
  unfold callSpecialIfBound? bindSpecialIfBound?
  refine wpAny_holding (wpAny_bind (wpAny_bind (wpAny_bind (I.type.here ((looks_findIn X hs).here ?_)))))
  refine wpAny_bind (wpAny_askSetting (wpAny_ite ?_))
  split
  · exact wpAny_bind ((Looks.of_pure (hb _)).here (wpAny_pure (by exact told)))
  · exact wpAny_tryCatch (wpAny_bind ((Looks.of_pure (hb _)).here (wpAny_pure (by exact told))))
open Builtin in
theorem ne_object {b : Value} {Q : Value → Shared → Prop} (hu : A.in1.units < cLine) (X : K.In s.heap) (I : InstAt s.heap x ox C od) (hm : mroIn K C (.type "object") = some true) (hs : findIn K (.ref C) "__eq__" = some (some (.ref f))) (hf : isFn K (.ref f) = true)
    (h : wpAny (model prog w) A.in1 (call (.ref f) [.ref x, b]) (fun v s' => ∃ r, v = .bool r ∧ Q (.bool (!r)) s') E s) : wpAny (model prog w) A (call (.builtin "object.__ne__") [.ref x, b]) Q E s := by
  refine wpAny_call (codeAny_call_builtin PySem.F.slot_object_ne.plain PySem.F.entry_object_ne (check_slot (i := "object.__ne__") (owner := "object") (n := "__ne__") (by decide +kernel) (by decide +kernel) (I.type.andThen (looks_mroIn X hm)) (PySem.F.args_object_ne_2 _ _) ?_))
  unfold Builtin.«object.__ne__»
  refine wpAny_bind (m := slotArgs "__ne__" 1 _) (wpAny_pure ?_)
  refine wpAny_bind (m := cRoomFor _ _) (wpAny_cRoomFor hu ?_)
  refine wpAny_bind (m := callSpecialIfBound? (.ref x) (Str.ofString "__eq__") _) (ifBound_K X I hs hf (wpAny_mono h (fun v s' hv => ?_) fun _ _ z => z))
  obtain ⟨r, rfl, q⟩ := hv
  first
    | exact wpAny_bind (wpAny_pure (wpAny_pure ⟨_, rfl, q⟩))
    | exact wpAny_bind (wpAny_pure (wpAny_pure q))
    | exact wpAny_bind (wpAny_truthy_bool (wpAny_pure ⟨_, rfl, q⟩))
/-- x == b, x != b where b is an object of the same class -/
theorem cmp_same {op : CmpOp} {b : Addr} {Q : Value → Shared → Prop} (hu : A.units < cLine) (I : InstAt s.heap x ox C od) (hb : Looks (model prog w) s.heap (typeOf (.ref b)) (.ref C))
    (h : wpAny (model prog w) A (tryCompare (.ref x) (cmpInfo op).2.1 (.ref b)) (fun r s' => ∃ v, r = some v ∧ Q v s') E s) : wpAny (model prog w) A (richCompare op (.ref x) (.ref b)) Q E s := by
  unfold richCompare
  simp only [oneThing_ref]
  refine wpAny_holding (wpAny_bind (wpAny_cRoomFor hu (wpAny_bind (I.type.here (wpAny_bind (hb.here ?_))))))
  have first_ : wpAny (model prog w) A (tryCompare (.ref x) (cmpInfo op).2.1 (.ref b)) (fun r s' => ∃ v, r = some v ∧ Q v s') E s := h
  split
  · rename_i q
    simp at q
  · refine wpAny_bind (wpAny_pure ?_)
    simp only [Bool.false_eq_true, if_false]
    refine wpAny_bind (wpAny_mono first_ (fun r s' z => ?_) fun _ _ z => z)
    obtain ⟨v, rfl, hq⟩ := z
    exact wpAny_pure hq
end
section
variable {X : Cx} {n : Nat} {C : Addr} {sp : Sp}
/-- the method m of the class at C keeps the promise sp -/
structure OwnE (P : Program) (w : World) (K : PySem.W.Frag) (mg : Str → Option Value) (base : Heap) (n : Nat) (C : Addr) (sp : Sp) : Prop where
  ex : ∃ f fd ps, FnOk P w K mg base CX0 n f fd ps sp ∧ PySem.W.findIn K (.ref C) "__eq__" = some (some (.ref f)) ∧ PySem.W.isFn K (.ref f) = true ∧ Binds K fd ps []
  ne : PySem.W.findIn K (.ref C) "__ne__" = some (some (.builtin "object.__ne__"))
  hm : PySem.W.mroIn K C (.type "object") = some true
def rOwnE (C : Addr) (sp : Sp) (turn : Bool → Bool) : R2 := fun x y H Q => ∃ a b dx dy fs gs, x = .ref a ∧ y = .ref b ∧ H a = some (.ins C dx fs) ∧ H b = some (.ins C dy gs) ∧ sp [.ref a, .ref b] H (fun v H' => ∃ r, v = .bl r ∧ Q (.bl (turn r)) H') E0
theorem run_fn2 {A : Around} {f : Addr} {fd : FuncData} {ps : List Str} {pins : List (Addr × Obj)} {σ : L2.St} {H : Hp} {s : Shared} {vs : List V} {us : List Value} {Q : VK}
    (F : FnOk X.prog X.w X.K X.mg X.base CX0 n f fd ps sp) (hb : Binds X.K fd ps []) (I : Inv X pins σ H s) (hr : Room n A) (fr : A.frames = X.A.frames) (r : Vals vs us) (h : sp vs H Q E0) :
    wpAny (model X.prog X.w) A (call (.ref f) us) (EP X pins σ Q) X.xe s := by
  have e := I.env0
  have e0 : Env0 X.prog X.w X.K X.mg X.base A X.stack s H := ⟨by rw [fr]; exact e.frames, e.mod, e.bs, e.bsz, e.funs, e.frf, e.hok, e.bare⟩
  have hl := F.len _ _ _ _ h
  have bd : BindsTo s fd ⟨us, []⟩ (ps.zip us) := by
    have z := hb s us I.kIn (by rw [List.append_nil, ← r.length]; exact hl)
    rw [List.append_nil] at z
    exact z
  refine wpAny_call (codeAny_mono (F.run A X.stack s H ⟨us, []⟩ us vs Q E0 hr e0 bd r h) fun r s' hq => ?_)
  match r, hq with
  | .error _, hq => exact hq.elim
  | .ok (.ret _), hq => exact I.after hq
  | .ok .next, hq => exact hq.elim
  | .ok .brk, hq => exact hq.elim
  | .ok .cont, hq => exact hq.elim
theorem op_eqB (O : OwnE X.prog X.w X.K X.mg X.base n C sp) (hr : Room n X.A) : OpR X (compareOp .Eq) (rOwnE C sp id) := by
  obtain ⟨f, fd, ps, F, hs, hf, hb⟩ := O.ex
  intro pins s σ H x y v u Q I rx ry h
  obtain ⟨a, b, dx, dy, fs, gs, rfl, rfl, ha, hb', h⟩ := h
  cases rx
  cases ry
  obtain ⟨mA, J, _⟩ := ins_get I.hok ha
  obtain ⟨mB, J', _⟩ := ins_get I.hok hb'
  obtain ⟨od, J, _⟩ := J.look
  obtain ⟨od', J', _⟩ := J'.look
  show wpAny (model X.prog X.w) X.A (richCompare .Eq _ _) _ _ _
  refine cmp_same hr.units0 J J'.type ?_
  unfold tryCompare
  refine wpAny_bind (PySem.W.ifBound_K I.kIn J hs hf (wpAny_mono (run_fn2 (vs := [.ref a, .ref b]) F hb I hr rfl (.cons rfl (.cons rfl .nil)) h) (fun w s' hw => ?_) fun _ _ z => z))
  obtain ⟨z, H', I', rz, r, rfl, q⟩ := hw
  cases rz
  exact wpAny_pure ⟨_, rfl, .bl r, H', I', rfl, q⟩
theorem op_neB (O : OwnE X.prog X.w X.K X.mg X.base n C sp) (hr : Room (n + 1) X.A) : OpR X (compareOp .NotEq) (rOwnE C sp (!·)) := by
  obtain ⟨f, fd, ps, F, hs, hf, hb⟩ := O.ex
  intro pins s σ H x y v u Q I rx ry h
  obtain ⟨a, b, dx, dy, fs, gs, rfl, rfl, ha, hb', h⟩ := h
  cases rx
  cases ry
  obtain ⟨mA, J, _⟩ := ins_get I.hok ha
  obtain ⟨mB, J', _⟩ := ins_get I.hok hb'
  obtain ⟨od, J, _⟩ := J.look
  obtain ⟨od', J', _⟩ := J'.look
  show wpAny (model X.prog X.w) X.A (richCompare .NotEq _ _) _ _ _
  refine cmp_same hr.units0 J J'.type ?_
  unfold tryCompare
  refine wpAny_bind (bound_builtin I.kIn J O.ne PySem.F.slot_object_ne.bind (ne_object (by have := hr.un; show X.A.units + 1 < cLine; omega) I.kIn J O.hm hs hf (wpAny_mono (run_fn2 (vs := [.ref a, .ref b]) F hb I hr.in1 rfl (.cons rfl (.cons rfl .nil)) h) (fun w s' hw => ?_) fun _ _ z => z)))
  obtain ⟨z, H', I', rz, r, rfl, q⟩ := hw
  cases rz
  exact ⟨r, rfl, wpAny_pure ⟨_, rfl, .bl (!r), H', I', rfl, q⟩⟩
end
end My

namespace My
open PySem PySem.Spec PyProof.Rows L2
/-! ### methods that may raise, within a try -/
structure MeX (P : Program) (w : World) (K : PySem.W.Frag) (mg : Str → Option Value) (base : Heap) (k : Nat) (C : Addr) (m : Str) (sp : Sp) : Prop where
  cl : Cls K C
  ex : ∃ f fd ps, FnOk P w K mg base (L2.CX P w) k f fd ps sp ∧ PySem.W.findIn K (.ref C) m = some (some (.ref f)) ∧ PySem.W.isFn K (.ref f) = true ∧ PySem.W.keepIn K (.ref f) = true ∧ Binds K fd ps []
structure MeKX (P : Program) (w : World) (K : PySem.W.Frag) (mg : Str → Option Value) (base : Heap) (k : Nat) (C : Addr) (m : Str) (ks : List Str) (gV : List V → List V → List V) (sp : Sp) : Prop where
  cl : Cls K C
  ex : ∃ f fd ps g, FnOk P w K mg base (L2.CX P w) k f fd ps sp ∧ PySem.W.findIn K (.ref C) m = some (some (.ref f)) ∧ PySem.W.isFn K (.ref f) = true ∧ PySem.W.keepIn K (.ref f) = true ∧ KBn K fd ps 1 ks g gV
def tMethS (C : Addr) (m : Str) (sp : Sp) (E : L2.St → XK) (ta : TE) (t : TA) : TE := fun σ H Q => ta σ H fun x H1 => ∃ a dx fs, x = .ref a ∧ H1 a = some (.ins C dx fs) ∧ fs.lookup m = none ∧ t σ H1 fun vs H2 => sp (x :: vs) H2 Q (E σ)
def tMethKS (C : Addr) (m : Str) (n : Nat) (sp : Sp) (gV : List V → List V → List V) (E : L2.St → XK) (ta : TE) (tk : TA) : TE := fun σ H Q => ta σ H fun x H1 => ∃ a dx fs, x = .ref a ∧ H1 a = some (.ins C dx fs) ∧ fs.lookup m = none ∧ tk σ H1 fun zs H2 => zs.length = n ∧ sp (gV [x] zs) H2 Q (E σ)
section
variable {X : Cx} {k j : Nat} {sp : Sp} {C : Addr} {m : Str} {ks : List Str} {gV : List V → List V → List V} {o e : Expr} {es : List Expr} {kws : List Keyword} {ta : TE} {t tk : TA} {pos apos : Pos} {W : WX}
theorem pe_mtS {pl : Sem Bool} (M : MeX X.prog X.w X.K X.mg X.base k C m sp) (hr : Room j X.A) (hk : k ≤ j) (tw : Takes X W) (he : PE X o ta) (ha : PA X (e :: es) t)
    (hst : starEach (e :: es) X.env = (false, eval e X.env) :: starEach es X.env := by rfl) (hpl : (backTo pos (starEach es X.env)).any (·.1) = false := by rfl)
    (ht : eval (.Call (.Attribute o m apos) (e :: es) [] pos) X.env = (do
      let ov ← eval o X.env
      standAt apos.atName
      let (f, first) ← holding [ov] (getMethod ov m pl)
      callWith pos f first (backTo pos (starEach (e :: es) X.env)) (backToKw pos (keywordEach [] X.env))) := by rfl) :
    PE X (.Call (.Attribute o m apos) (e :: es) [] pos) (tMethS C m sp (WE W) ta t) := by
  obtain ⟨f, fd, ps, F, hs, hf, kp, hb⟩ := M.ex
  constructor
  intro pins s σ H Q I h
  refine PySem.W.methodCall_KW (pl := pl) (thn (he.run pins s σ H _ I h) fun u s1 hh => ?_) ht
  obtain ⟨y, H1, I1, ry, a, dx, fs, rfl, ea, lk, q⟩ := hh
  obtain rfl : u = Value.ref a := ry
  refine getmeth_ok I1 ea M.cl ⟨hs, hf, kp⟩ lk ?_
  refine PySem.W.callWith_K (first := [.ref a]) (h₀ := X.base) I.ok.mod.kin kp (thn (ha.run pos pins s1 σ H1 _ I1 q) fun us s2 hh => ?_) hst hpl
  obtain ⟨vs, H2, I2, r, q2⟩ := hh
  refine ⟨I2.kIn, ?_⟩
  exact run_fnS (E := WE W) (us := .ref a :: us) (vs := .ref a :: vs) F (hr.mono hk) hb (passAt tw σ) I2 (.cons rfl r) q2
theorem pe_mtKS {pl : Sem Bool} (M : MeKX X.prog X.w X.K X.mg X.base k C m ks gV sp) (hr : Room j X.A) (hk : k ≤ j) (tw : Takes X W) (he : PE X o ta) (hkw : PK X kws tk)
    (hall : (backToKw pos (keywordEach kws X.env)).all (·.1.isSome) = true := by rfl) (hks : (backToKw pos (keywordEach kws X.env)).filterMap (·.1) = ks := by rfl)
    (hpl : ((backTo pos (starEach [] X.env)).any (·.1) || (backToKw pos (keywordEach kws X.env)).any (·.1.isNone)) = false := by rfl)
    (ht : eval (.Call (.Attribute o m apos) [] kws pos) X.env = (do
      let ov ← eval o X.env
      standAt apos.atName
      let (f, first) ← holding [ov] (getMethod ov m pl)
      callWith pos f first (backTo pos (starEach [] X.env)) (backToKw pos (keywordEach kws X.env))) := by rfl) :
    PE X (.Call (.Attribute o m apos) [] kws pos) (tMethKS C m ks.length sp gV (WE W) ta tk) := by
  obtain ⟨f, fd, ps, g, F, hs, hf, kp, hb⟩ := M.ex
  constructor
  intro pins s σ H Q I h
  refine PySem.W.methodCall_KW (pl := pl) (thn (he.run pins s σ H _ I h) fun u s1 hh => ?_) ht
  obtain ⟨y, H1, I1, ry, a, dx, fs, rfl, ea, lk, q⟩ := hh
  obtain rfl : u = Value.ref a := ry
  refine getmeth_ok I1 ea M.cl ⟨hs, hf, kp⟩ lk ?_
  refine PySem.W.callWith_KW0 (first := [.ref a]) (h₀ := X.base) I.ok.mod.kin kp hall (thn (hkw.run pos pins s1 σ H1 _ I1 q) fun ws s2 hh => ?_) hpl
  obtain ⟨zs, H2, I2, rz, l2, q2⟩ := hh
  refine ⟨I2.kIn, ?_⟩
  rw [hks]
  have r2 := hb.rel (.cons (show RelV (.ref a) (.ref a) from rfl) .nil) rz
  have bd := hb.to s2 [.ref a] ws I2.kIn rfl (rz.length.symm.trans l2)
  refine wpAny_call (codeAny_mono (F.run X.A X.stack s2 H2 ⟨[.ref a], ks.zip ws⟩ _ _ Q (WE W σ) (hr.mono hk) I2.env0 bd r2 q2) fun r s' hq => ?_)
  match r, hq with
  | .error e, hq => exact passAt tw σ pins H2 s2 e s' I2 hq
  | .ok (.ret _), hq => exact I2.after hq
  | .ok .next, hq => exact hq.elim
  | .ok .brk, hq => exact hq.elim
  | .ok .cont, hq => exact hq.elim
end
end My

namespace My
open PySem PySem.Spec PyProof.Rows L2
/-! ### isinstance of a kept exception -/
/-- what the class at D says of its instances' __class__ -/
structure ExI (K : PySem.W.Frag) (D : Addr) : Prop where
  xf : XfC K D
  ic : (PySem.W.clsIn K D).isSome = true
  ha : PySem.W.findIn K (.ref D) "__class__" = some (some (.builtin "object.__class__"))
  hn : PySem.W.specialIn K (.builtin "object.__class__") "__get__" = some (some (.builtin "getset_descriptor.__get__"))
  ht : PySem.W.takesIn K (.builtin "object.__class__") = some true
  hm : PySem.W.mroIn K D (.type "object") = some true
def rIsX (K : PySem.W.Frag) : List V → Hp → VK → Prop := fun xs H Q => ∃ (a D dd : Addr) (fs : List (Str × V)) (c : V) (u : Value) (b : Bool), xs = [.ref a, c] ∧ H a = some (exK a (.ref D) (some dd)) ∧ H dd = some (.xd fs) ∧ ExI K D ∧ ClsV c u ∧ PySem.W.kitOne K (.ref D) u = some b ∧ Q (.bl b) H
def rIsXT (K : PySem.W.Frag) : List V → Hp → VK → Prop := fun xs H Q => ∃ (a D dd tp : Addr) (fs : List (Str × V)) (cs : List V) (us : List Value) (b : Bool), xs = [.ref a, .ref tp] ∧ H a = some (exK a (.ref D) (some dd)) ∧ H dd = some (.xd fs) ∧ ExI K D ∧ H tp = some (.tup cs) ∧ Paired ClsV cs us ∧ PySem.W.kitAny K (.ref D) us = some b ∧ Q (.bl b) H
section
variable {X : Cx} {pins : List (Addr × Obj)} {σ : L2.St} {H : Hp} {s : Shared}
theorem kept_at {a D dd : Addr} {fs : List (Str × V)} (I : Inv X pins σ H s) (ea : H a = some (exK a (.ref D) (some dd))) (ed : H dd = some (.xd fs)) : ∃ oe od, PySem.W.InstAt s.heap a oe D (some od) := by
  obtain ⟨⟨oe, vs, h1, h2, h3⟩, _⟩ := (show ObjOk X.prog X.w H s.heap a (exK a (.ref D) (some dd)) from I.hok a _ ea)
  obtain ⟨mA, hns, hr⟩ := (show ObjOk X.prog X.w H s.heap dd (.xd fs) from I.hok dd _ ed)
  obtain ⟨od, ho, hl⟩ := lookIn_ns hns
  exact ⟨oe, od, h1, h2.1, by unfold PySem.W.notCls; rw [h3] <;> rfl, by rw [h2.2]; exact ho⟩
end
section
variable {X : Cx}
/-- isinstance(e, c) -/
theorem call_isX : CallR X (.builtin "isinstance") (rIsX X.K) := by
  intro pins s σ H xs us Q I r h
  obtain ⟨a, D, dd, fs, c, u, b, rfl, ea, ed, C, k, e, q⟩ := h
  obtain ⟨u1, u2, rfl, r1, r2⟩ := vals2 r
  have e2 := k.eq r2
  subst e2
  cases (show u1 = Value.ref a from r1)
  obtain ⟨oe, od, J⟩ := kept_at I ea ed
  exact PySem.W.kia_one (PySem.W.kitx_exc C.ic C.xf.ga C.xf.gg C.xf.exC C.ha C.hn C.ht C.hm) I.kIn J e (fun z => nomatch z) fun tk => ⟨.bl b, H, I.tok tk, rfl, q⟩
/-- isinstance(e, (c1, c2, ..)) -/
theorem call_isXT : CallR X (.builtin "isinstance") (rIsXT X.K) := by
  intro pins s σ H xs us Q I r h
  obtain ⟨a, D, dd, tp, fs, cs, ws, b, rfl, ea, ed, C, hT, k, e, q⟩ := h
  obtain ⟨u1, u2, rfl, r1, r2⟩ := vals2 r
  cases (show u1 = Value.ref a from r1)
  cases (show u2 = Value.ref tp from r2)
  obtain ⟨oe, od, J⟩ := kept_at I ea ed
  obtain ⟨_, its, rv, o, h1, h2, n, h3⟩ := (show ObjOk X.prog X.w H s.heap tp (.tup cs) from I.hok tp _ hT)
  have e3 := ClsV.all k rv
  subst e3
  obtain ⟨oc, odt, dt, sl⟩ := o
  simp only at h2 h3
  subst h2 h3
  exact PySem.W.kia_tup (PySem.W.kitx_exc C.ic C.xf.ga C.xf.gg C.xf.exC C.ha C.hn C.ht C.hm) I.kIn J h1 e (fun z => nomatch z) fun tk => ⟨.bl b, H, I.tok tk, rfl, q⟩
end
end My

namespace Mir
open PySem PySem.Spec PyProof.Rows L2

/-! ### plain data, and what stands for it -/
inductive D where
  | non | bl (b : Bool) | int (i : Int) | str (z : Str) | raw (v : V)
  | scr (ns : List Int) | lst (ds : List D) | tup (ds : List D) | ob (c : Str) (ns : List Str) (ds : List D) | exn (c f : Str) (d : D) | cls (c : Str)
/-- a tuple that is read -/
def SqU (K : PySem.W.Frag) (H : Hp) (a : Addr) (xs : List V) : Prop := H a = some (.tup xs) ∨
  ∃ (o : Obj) (its : Array Value) (n : Nat), K.lookup a = some o ∧ o.cls = .type "tuple" ∧ o.data = .seq its n ∧ its.size ≤ sizeLine ∧ Vals xs its.toList
theorem SqU.t {K : PySem.W.Frag} {H : Hp} {a : Addr} {xs : List V} (h : SqU K H a xs) : SqT K H a xs := h.elim (fun z => .inl (.inl z)) .inr
theorem SqU.same {K : PySem.W.Frag} {H H' : Hp} {a : Addr} {xs : List V} (h : SqU K H a xs) (e : Same H H') : SqU K H' a xs := h.elim (fun z => .inl (e _ _ z)) .inr
mutual
inductive Rep (K : PySem.W.Frag) (cl : Str → Addr) (F : Hp) : V → D → Prop
  | non : Rep K cl F .non .non
  | bl (b : Bool) : Rep K cl F (.bl b) (.bl b)
  | int (i : Int) : Rep K cl F (.int i) (.int i)
  | str (z : Str) : Rep K cl F (.str z) (.str z)
  | raw (v : V) : Rep K cl F v (.raw v)
  | scr {a : Addr} {ns : List Int} (h : SqL K F a (ns.map V.int)) : Rep K cl F (.ref a) (.scr ns)
  | lst {a : Addr} {vs : List V} {ds : List D} (h : F a = some (.lst vs)) (hs : Reps K cl F vs ds) : Rep K cl F (.ref a) (.lst ds)
  | tup {a : Addr} {vs : List V} {ds : List D} (h : SqU K F a vs) (hs : Reps K cl F vs ds) : Rep K cl F (.ref a) (.tup ds)
  | ob {p dx : Addr} {c : Str} {ns : List Str} {vs : List V} {ds : List D} (h : F p = some (.ins (cl c) dx (ns.zip vs))) (hl : ns.length = vs.length) (hs : Reps K cl F vs ds) : Rep K cl F (.ref p) (.ob c ns ds)
  | exn {p x : Addr} {c f : Str} {w : V} {d : D} (h : F p = some (My.exK p (.ref (cl c)) (some x))) (hx : F x = some (.xd [(f, w)])) (hw : Rep K cl F w d) : Rep K cl F (.ref p) (.exn c f d)
  | cls (c : Str) : Rep K cl F (.ref (cl c)) (.cls c)
inductive Reps (K : PySem.W.Frag) (cl : Str → Addr) (F : Hp) : List V → List D → Prop
  | nil : Reps K cl F [] []
  | cons {v : V} {d : D} {vs : List V} {ds : List D} (h : Rep K cl F v d) (hs : Reps K cl F vs ds) : Reps K cl F (v :: vs) (d :: ds)
end
theorem same_upd {H : Hp} {p : Addr} {o : HO} (h : H p = none) : Same H (upd H p o) := fun b x e => by
  rw [upd_ne (ne_of_none e h)]
  exact e
theorem sameT {K : PySem.W.Frag} {H H' : Hp} {a : Addr} {xs : List V} (e : Same H H') (h : SqT K H a xs) : SqT K H' a xs := by
  rcases h with (h | ⟨o, h⟩) | h
  · exact .inl (.inl (e _ _ h))
  · exact .inl (.inr ⟨o, e _ _ h⟩)
  · exact .inr h
section
variable {K : PySem.W.Frag} {cl : Str → Addr} {F F' : Hp}
mutual
theorem Rep.same (e : Same F F') : ∀ {v : V} {d : D}, Rep K cl F v d → Rep K cl F' v d
  | _, _, .non => .non
  | _, _, .bl b => .bl b
  | _, _, .int i => .int i
  | _, _, .str z => .str z
  | _, _, .raw v => .raw v
  | _, _, .scr h => .scr (e.seq h)
  | _, _, .lst h hs => .lst (e _ _ h) (Reps.same e hs)
  | _, _, .tup h hs => .tup (h.same e) (Reps.same e hs)
  | _, _, .ob h hl hs => .ob (e _ _ h) hl (Reps.same e hs)
  | _, _, .exn h hx hw => .exn (e _ _ h) (e _ _ hx) (Rep.same e hw)
  | _, _, .cls c => .cls c
theorem Reps.same (e : Same F F') : ∀ {vs : List V} {ds : List D}, Reps K cl F vs ds → Reps K cl F' vs ds
  | _, _, .nil => .nil
  | _, _, .cons h hs => .cons (Rep.same e h) (Reps.same e hs)
end
theorem Reps.len : ∀ {vs : List V} {ds : List D}, Reps K cl F vs ds → vs.length = ds.length
  | _, _, .nil => rfl
  | _, _, .cons h hs => by rw [List.length_cons, List.length_cons, Reps.len hs]
theorem Reps.append : ∀ {vs us : List V} {ds es : List D}, Reps K cl F vs ds → Reps K cl F us es → Reps K cl F (vs ++ us) (ds ++ es)
  | _, _, _, _, .nil, g => g
  | _, _, _, _, .cons h hs, g => .cons h (Reps.append hs g)
theorem Reps.get : ∀ {vs : List V} {ds : List D}, Reps K cl F vs ds → ∀ {i : Nat} {d : D}, ds[i]? = some d → ∃ v, vs[i]? = some v ∧ Rep K cl F v d
  | _, _, .nil, i, d, h => by cases i <;> cases h
  | _, _, .cons h hs, 0, d, e => by cases e; exact ⟨_, rfl, h⟩
  | _, _, .cons h hs, i + 1, d, e => by
    obtain ⟨v, h1, h2⟩ := Reps.get hs (i := i) (d := d) e
    exact ⟨v, h1, h2⟩
theorem Reps.getV : ∀ {vs : List V} {ds : List D}, Reps K cl F vs ds → ∀ {i : Nat} {v : V}, vs[i]? = some v → ∃ d, ds[i]? = some d ∧ Rep K cl F v d
  | _, _, .nil, i, d, h => by cases i <;> cases h
  | _, _, .cons h hs, 0, d, e => by cases e; exact ⟨_, rfl, h⟩
  | _, _, .cons h hs, i + 1, d, e => by
    obtain ⟨v, h1, h2⟩ := Reps.getV hs (i := i) (v := d) e
    exact ⟨v, h1, h2⟩
theorem Reps.drop : ∀ {vs : List V} {ds : List D}, Reps K cl F vs ds → ∀ n, Reps K cl F (vs.drop n) (ds.drop n)
  | _, _, .nil, n => by rw [List.drop_nil, List.drop_nil]; exact .nil
  | _, _, .cons h hs, 0 => .cons h hs
  | _, _, .cons h hs, n + 1 => Reps.drop hs n
theorem Reps.take : ∀ {vs : List V} {ds : List D}, Reps K cl F vs ds → ∀ n, Reps K cl F (vs.take n) (ds.take n)
  | _, _, .nil, n => by rw [List.take_nil, List.take_nil]; exact .nil
  | _, _, .cons h hs, 0 => .nil
  | _, _, .cons h hs, n + 1 => .cons h (Reps.take hs n)
theorem Reps.reverse : ∀ {vs : List V} {ds : List D}, Reps K cl F vs ds → Reps K cl F vs.reverse ds.reverse
  | _, _, .nil => .nil
  | _, _, .cons h hs => by
    rw [List.reverse_cons, List.reverse_cons]
    exact (Reps.reverse hs).append (.cons h .nil)
theorem Reps.set : ∀ {vs : List V} {ds : List D}, Reps K cl F vs ds → ∀ {v : V} {d : D}, Rep K cl F v d → ∀ n, Reps K cl F (vs.set n v) (ds.set n d)
  | _, _, .nil, _, _, _, n => .nil
  | _, _, .cons h hs, _, _, g, 0 => .cons g hs
  | _, _, .cons h hs, _, _, g, n + 1 => .cons h (Reps.set hs g n)
theorem Reps.rep : ∀ {v : V} {d : D}, Rep K cl F v d → ∀ n, Reps K cl F (List.replicate n v) (List.replicate n d)
  | _, _, h, 0 => .nil
  | _, _, h, n + 1 => .cons h (Reps.rep h n)
theorem Reps.ints : ∀ ns : List Int, Reps K cl F (ns.map V.int) (ns.map D.int)
  | [] => .nil
  | n :: ns => .cons (.int n) (Reps.ints ns)
theorem Reps.bls : ∀ ns : List Bool, Reps K cl F (ns.map V.bl) (ns.map D.bl)
  | [] => .nil
  | n :: ns => .cons (.bl n) (Reps.bls ns)
theorem Reps.toInts : ∀ {vs : List V} {ns : List Int}, Reps K cl F vs (ns.map D.int) → vs = ns.map V.int
  | _, [], h => by cases h; rfl
  | _, n :: ns, h => by
    cases h with
    | cons h hs =>
      cases h
      rw [Reps.toInts hs]
      rfl
theorem Reps.toBls : ∀ {vs : List V} {ns : List Bool}, Reps K cl F vs (ns.map D.bl) → vs = ns.map V.bl
  | _, [], h => by cases h; rfl
  | _, n :: ns, h => by
    cases h with
    | cons h hs =>
      cases h
      rw [Reps.toBls hs]
      rfl
end

/-! ### the world of a def that runs -/
inductive Sl where
  | va (d : D) | ow (ds : List D)
abbrev En := List (Option Sl)
abbrev Tm := List (Addr × List D)
/-- K: the written part; cl: the classes' addresses by name; F0, H0: what stood at the entry (F0 the part that is never changed); om: which parameters are own lists that may be changed, and where they stand; W: what is wanted of exceptions -/
structure Mc where
  K : PySem.W.Frag
  cl : Str → Addr
  F0 : Hp
  H0 : Hp
  bi : List (Nat × Addr)
  W : WX
abbrev Mc.B (c : Mc) : List Addr := c.bi.map (·.2)
abbrev Mc.rep (c : Mc) (F : Hp) (v : V) (d : D) : Prop := Rep c.K c.cl F v d
abbrev Mc.reps (c : Mc) (F : Hp) (vs : List V) (ds : List D) : Prop := Reps c.K c.cl F vs ds
/-- at a stands a list that is nobody else's -/
def Own (c : Mc) (F H : Hp) (a : Addr) (ds : List D) : Prop := F a = none ∧ ∃ vs, H a = some (.lst vs) ∧ c.reps F vs ds
structure Wd (c : Mc) (F H : Hp) (σ : L2.St) (ρ : En) (T : Tm) : Prop where
  len : σ.length = ρ.length
  sub : Same F H
  ext : Same c.F0 F
  new : ∀ p, c.F0 p = none → F p ≠ none → c.H0 p = none
  keep : ∀ a o, a ∉ c.B → c.H0 a = some o → H a = some o
  va : ∀ (i : Nat) (d : D), ρ[i]? = some (some (Sl.va d)) → ∃ v : V, σ[i]? = some (some v) ∧ c.rep F v d
  ow : ∀ (i : Nat) (ds : List D), ρ[i]? = some (some (Sl.ow ds)) → ∃ a : Addr, σ[i]? = some (some (V.ref a)) ∧ Own c F H a ds ∧ ((i, a) ∈ c.bi ∨ c.H0 a = none)
  tm : ∀ (a : Addr) (ds : List D), (a, ds) ∈ T → Own c F H a ds ∧ c.H0 a = none
  dis : ∀ (i j : Nat) (a : Addr) (ds es : List D), ρ[i]? = some (some (Sl.ow ds)) → ρ[j]? = some (some (Sl.ow es)) → σ[i]? = some (some (V.ref a)) → σ[j]? = some (some (V.ref a)) → i = j
  dit : ∀ (i : Nat) (ds : List D) (a : Addr) (es : List D), ρ[i]? = some (some (Sl.ow ds)) → σ[i]? = some (some (V.ref a)) → (a, es) ∉ T
  nod : (T.map (·.1)).Nodup
  bs : ∀ (i : Nat) (a : Addr), (i, a) ∈ c.bi → ∃ ds : List D, ρ[i]? = some (some (Sl.ow ds)) ∧ σ[i]? = some (some (V.ref a))
section
variable {c : Mc} {F F' H H' : Hp} {σ : L2.St} {ρ : En} {T : Tm}
theorem Own.rise {a : Addr} {ds : List D} (h : Own c F H a ds) (e : Same F F') (f : F' a = none) (g : H' a = H a) : Own c F' H' a ds := by
  obtain ⟨h1, vs, h2, h3⟩ := h
  exact ⟨f, vs, by rw [g]; exact h2, h3.same e⟩
theorem Own.get {a : Addr} {ds : List D} (h : Own c F H a ds) : H a ≠ none := by
  obtain ⟨h1, vs, h2, h3⟩ := h
  rw [h2]
  exact fun z => by cases z
/-- nothing that stood at the entry is gone -/
theorem Wd.old (w : Wd c F H σ ρ T) {p : Addr} (h : H p = none) : c.H0 p = none := by
  cases e : c.H0 p with
  | none => rfl
  | some o =>
    by_cases hb : p ∈ c.B
    · obtain ⟨⟨i, a⟩, hm, rfl⟩ := List.mem_map.mp hb
      obtain ⟨ds, h1, h2⟩ := w.bs i a hm
      obtain ⟨a', h3, h4, _⟩ := w.ow i ds h1
      rw [h2] at h3
      cases h3
      exact absurd h h4.get
    · rw [w.keep p o hb e] at h
      cases h
/-- a new thing that never changes -/
theorem Wd.lay (w : Wd c F H σ ρ T) {p : Addr} (o : HO) (hp : H p = none) : Wd c (upd F p o) (upd H p o) σ ρ T := by
  have fp : F p = none := w.sub.free hp
  have s : Same F (upd F p o) := same_upd fp
  have ne : ∀ {a : Addr} {ds : List D}, Own c F H a ds → a ≠ p := fun h z => by subst z; exact h.get hp
  have up : ∀ {a : Addr} {ds : List D}, Own c F H a ds → Own c (upd F p o) (upd H p o) a ds := fun h => h.rise s (by rw [upd_ne (ne h)]; exact h.1) (upd_ne (ne h))
  exact
    { len := w.len
      sub := fun b u e => by
        by_cases z : b = p
        · subst z; rw [upd_same] at e ⊢; exact e
        · rw [upd_ne z] at e ⊢; exact w.sub b u e
      ext := w.ext.trans s
      new := fun q h1 h2 => by
        by_cases z : q = p
        · subst z; exact w.old hp
        · rw [upd_ne z] at h2; exact w.new q h1 h2
      keep := fun a u h1 h2 => by
        have := w.keep a u h1 h2
        rw [upd_ne (ne_of_none this hp)]; exact this
      va := fun i d h => by
        obtain ⟨v, h1, h2⟩ := w.va i d h
        exact ⟨v, h1, h2.same s⟩
      ow := fun i ds h => by
        obtain ⟨a, h1, h2, h3⟩ := w.ow i ds h
        exact ⟨a, h1, up h2, h3⟩
      tm := fun a ds h => ⟨up (w.tm a ds h).1, (w.tm a ds h).2⟩
      dis := w.dis
      dit := w.dit
      nod := w.nod
      bs := w.bs }
/-- a new list that may be changed -/
theorem Wd.tmp (w : Wd c F H σ ρ T) {p : Addr} {vs : List V} {ds : List D} (hp : H p = none) (hs : c.reps F vs ds) : Wd c F (upd H p (.lst vs)) σ ρ ((p, ds) :: T) := by
  have fp : F p = none := w.sub.free hp
  have ne : ∀ {a : Addr} {ds : List D}, Own c F H a ds → a ≠ p := fun h z => by subst z; exact h.get hp
  have up : ∀ {a : Addr} {ds : List D}, Own c F H a ds → Own c F (upd H p (.lst vs)) a ds := fun h => h.rise (Same.refl _) h.1 (upd_ne (ne h))
  exact
    { len := w.len
      sub := fun b u e => by rw [upd_ne (ne_of_none (w.sub b u e) hp)]; exact w.sub b u e
      ext := w.ext
      new := w.new
      keep := fun a u h1 h2 => by
        have := w.keep a u h1 h2
        rw [upd_ne (ne_of_none this hp)]; exact this
      va := w.va
      ow := fun i ds h => by
        obtain ⟨a, h1, h2, h3⟩ := w.ow i ds h
        exact ⟨a, h1, up h2, h3⟩
      tm := fun a es h => by
        rcases List.mem_cons.mp h with h | h
        · cases h; exact ⟨⟨fp, vs, upd_same, hs⟩, w.old hp⟩
        · exact ⟨up (w.tm a es h).1, (w.tm a es h).2⟩
      dis := w.dis
      dit := fun i es a fs h1 h2 h3 => by
        rcases List.mem_cons.mp h3 with h | h
        · cases h
          obtain ⟨a', g1, g2, _⟩ := w.ow i es h1
          rw [h2] at g1
          cases g1
          exact ne g2 rfl
        · exact w.dit i es a fs h1 h2 h
      nod := by
        rw [List.map_cons, List.nodup_cons]
        refine ⟨fun hm => ?_, w.nod⟩
        obtain ⟨⟨a, es⟩, h1, h2⟩ := List.mem_map.mp hm
        exact ne (w.tm a es h1).1 h2
      bs := w.bs }
/-- it changes no more -/
theorem Wd.frz {a : Addr} {ds : List D} (w : Wd c F H σ ρ ((a, ds) :: T)) : ∃ F', Same F F' ∧ Wd c F' H σ ρ T ∧ c.rep F' (.ref a) (.lst ds) := by
  obtain ⟨⟨fa, vs, ha, hs⟩, h0⟩ := w.tm a ds List.mem_cons_self
  have s : Same F (upd F a (.lst vs)) := same_upd fa
  have hno := List.nodup_cons.mp w.nod
  have up : ∀ {b : Addr} {es : List D}, b ≠ a → Own c F H b es → Own c (upd F a (.lst vs)) H b es := fun n h => h.rise s (by rw [upd_ne n]; exact h.1) rfl
  refine ⟨_, s, ?_, .lst upd_same (hs.same s)⟩
  exact
    { len := w.len
      sub := fun b u e => by
        by_cases z : b = a
        · subst z; rw [upd_same] at e; cases e; exact ha
        · rw [upd_ne z] at e; exact w.sub b u e
      ext := w.ext.trans s
      new := fun q h1 h2 => by
        by_cases z : q = a
        · subst z; exact h0
        · rw [upd_ne z] at h2; exact w.new q h1 h2
      keep := w.keep
      va := fun i d h => by
        obtain ⟨v, h1, h2⟩ := w.va i d h
        exact ⟨v, h1, h2.same s⟩
      ow := fun i es h => by
        obtain ⟨b, h1, h2, h3⟩ := w.ow i es h
        exact ⟨b, h1, up (fun z => by subst z; exact w.dit i es b ds h h1 List.mem_cons_self) h2, h3⟩
      tm := fun b es h => ⟨up (fun z => by
        subst z
        exact hno.1 (List.mem_map.mpr ⟨(b, es), h, rfl⟩)) (w.tm b es (List.mem_cons_of_mem _ h)).1, (w.tm b es (List.mem_cons_of_mem _ h)).2⟩
      dis := w.dis
      dit := fun i es b fs h1 h2 h3 => w.dit i es b fs h1 h2 (List.mem_cons_of_mem _ h3)
      nod := hno.2
      bs := w.bs }
theorem Wd.drop {p : Addr × List D} (w : Wd c F H σ ρ (p :: T)) : Wd c F H σ ρ T :=
  { len := w.len, sub := w.sub, ext := w.ext, new := w.new, keep := w.keep, va := w.va, ow := w.ow, tm := fun b es h => w.tm b es (List.mem_cons_of_mem _ h), dis := w.dis
    dit := fun i es b fs h1 h2 h3 => w.dit i es b fs h1 h2 (List.mem_cons_of_mem _ h3), nod := (List.nodup_cons.mp w.nod).2, bs := w.bs }
theorem get_set {α : Type} {l : List (Option α)} {i j : Nat} {x : Option α} {y : α} (h : (l.set i x)[j]? = some (some y)) : (i = j ∧ x = some y) ∨ (i ≠ j ∧ l[j]? = some (some y)) := by
  by_cases e : i = j
  · subst e
    rw [List.getElem?_set_self'] at h
    cases q : l[i]? with
    | none => rw [q] at h; cases h
    | some z => rw [q] at h; exact .inl ⟨rfl, Option.some.inj h⟩
  · rw [List.getElem?_set_ne e] at h
    exact .inr ⟨e, h⟩
theorem set_at {α : Type} {l : List (Option α)} {i : Nat} {x : Option α} (h : i < l.length) : (l.set i x)[i]? = some x := by
  rw [List.getElem?_set_self h]
/-- a name holds what never changes -/
theorem Wd.set (w : Wd c F H σ ρ T) {i : Nat} {v : V} {d : D} (hi : ∀ a, (i, a) ∉ c.bi) (hr : c.rep F v d) : Wd c F H (σ.set i (some v)) (ρ.set i (some (.va d))) T :=
  { len := by rw [List.length_set, List.length_set]; exact w.len
    sub := w.sub, ext := w.ext, new := w.new, keep := w.keep
    va := fun j e h => by
      by_cases z : i < ρ.length
      · have gq := get_set h
        clear h
        rcases gq with ⟨rfl, h⟩ | ⟨n, h⟩
        · cases h
          exact ⟨v, set_at (by rw [w.len]; exact z), hr⟩
        · obtain ⟨u, h1, h2⟩ := w.va j e h
          exact ⟨u, by rw [List.getElem?_set_ne n]; exact h1, h2⟩
      · rw [List.set_eq_of_length_le (by omega)] at h
        obtain ⟨u, h1, h2⟩ := w.va j e h
        exact ⟨u, by rw [List.set_eq_of_length_le (by rw [w.len]; omega)]; exact h1, h2⟩
    ow := fun j es h => by
      have gq := get_set h
      clear h
      rcases gq with ⟨rfl, h⟩ | ⟨n, h⟩
      · cases h
      · obtain ⟨a, h1, h2⟩ := w.ow j es h
        exact ⟨a, by rw [List.getElem?_set_ne n]; exact h1, h2⟩
    tm := w.tm
    dis := fun j k a ds es h1 h2 h3 h4 => by
      have gq := get_set h1
      clear h1
      rcases gq with ⟨rfl, h⟩ | ⟨n, h⟩
      · cases h
      · have gq := get_set h2
        clear h2
        rcases gq with ⟨rfl, g⟩ | ⟨m, g⟩
        · cases g
        · rw [List.getElem?_set_ne n] at h3
          rw [List.getElem?_set_ne m] at h4
          exact w.dis j k a ds es h g h3 h4
    dit := fun j ds a es h1 h2 => by
      have gq := get_set h1
      clear h1
      rcases gq with ⟨rfl, h⟩ | ⟨n, h⟩
      · cases h
      · rw [List.getElem?_set_ne n] at h2
        exact w.dit j ds a es h h2
    nod := w.nod
    bs := fun j a h => by
      obtain ⟨ds, h1, h2⟩ := w.bs j a h
      have n : i ≠ j := fun z => hi a (by rw [z]; exact h)
      exact ⟨ds, by rw [List.getElem?_set_ne n]; exact h1, by rw [List.getElem?_set_ne n]; exact h2⟩ }
/-- a name is forgotten -/
theorem Wd.clr (w : Wd c F H σ ρ T) {i : Nat} (x : Option V) (hi : ∀ a, (i, a) ∉ c.bi) : Wd c F H (σ.set i x) (ρ.set i none) T :=
  { len := by rw [List.length_set, List.length_set]; exact w.len
    sub := w.sub, ext := w.ext, new := w.new, keep := w.keep
    va := fun j e h => by
      have gq := get_set h
      clear h
      rcases gq with ⟨rfl, h⟩ | ⟨n, h⟩
      · cases h
      · obtain ⟨u, h1, h2⟩ := w.va j e h
        exact ⟨u, by rw [List.getElem?_set_ne n]; exact h1, h2⟩
    ow := fun j es h => by
      have gq := get_set h
      clear h
      rcases gq with ⟨rfl, h⟩ | ⟨n, h⟩
      · cases h
      · obtain ⟨a, h1, h2⟩ := w.ow j es h
        exact ⟨a, by rw [List.getElem?_set_ne n]; exact h1, h2⟩
    tm := w.tm
    dis := fun j k a ds es h1 h2 h3 h4 => by
      have gq := get_set h1
      clear h1
      rcases gq with ⟨rfl, h⟩ | ⟨n, h⟩
      · cases h
      · have gq := get_set h2
        clear h2
        rcases gq with ⟨rfl, g⟩ | ⟨m, g⟩
        · cases g
        · rw [List.getElem?_set_ne n] at h3
          rw [List.getElem?_set_ne m] at h4
          exact w.dis j k a ds es h g h3 h4
    dit := fun j ds a es h1 h2 => by
      have gq := get_set h1
      clear h1
      rcases gq with ⟨rfl, h⟩ | ⟨n, h⟩
      · cases h
      · rw [List.getElem?_set_ne n] at h2
        exact w.dit j ds a es h h2
    nod := w.nod
    bs := fun j a h => by
      obtain ⟨ds, h1, h2⟩ := w.bs j a h
      have n : i ≠ j := fun z => hi a (by rw [z]; exact h)
      exact ⟨ds, by rw [List.getElem?_set_ne n]; exact h1, by rw [List.getElem?_set_ne n]; exact h2⟩ }
/-- a name takes a list that may be changed -/
theorem Wd.take {i : Nat} {a : Addr} {ds : List D} (w : Wd c F H σ ρ ((a, ds) :: T)) (hi : ∀ a, (i, a) ∉ c.bi) : Wd c F H (σ.set i (some (.ref a))) (ρ.set i (some (.ow ds))) T := by
  have hno := List.nodup_cons.mp w.nod
  have inl : ∀ {j : Nat} {s : Option Sl}, (ρ.set i (some (.ow ds)))[j]? = some s → i = j → i < σ.length := fun {j s} h e => by
    subst e
    rw [w.len]
    by_cases z : i < ρ.length
    · exact z
    · rw [List.set_eq_of_length_le (by omega), List.getElem?_eq_none (by omega)] at h
      cases h
  exact
  { len := by rw [List.length_set, List.length_set]; exact w.len
    sub := w.sub, ext := w.ext, new := w.new, keep := w.keep
    va := fun j e h => by
      have gq := get_set h
      clear h
      rcases gq with ⟨rfl, h⟩ | ⟨n, h⟩
      · cases h
      · obtain ⟨u, h1, h2⟩ := w.va j e h
        exact ⟨u, by rw [List.getElem?_set_ne n]; exact h1, h2⟩
    ow := fun j es h => by
      have hl := inl h
      have gq := get_set h
      clear h
      rcases gq with ⟨rfl, h⟩ | ⟨n, h⟩
      · cases h
        exact ⟨a, set_at (hl rfl), (w.tm a ds List.mem_cons_self).1, .inr (w.tm a ds List.mem_cons_self).2⟩
      · obtain ⟨b, h1, h2⟩ := w.ow j es h
        exact ⟨b, by rw [List.getElem?_set_ne n]; exact h1, h2⟩
    tm := fun b es h => w.tm b es (List.mem_cons_of_mem _ h)
    dis := fun j k b es fs h1 h2 h3 h4 => by
      have l1 := inl h1
      have l2 := inl h2
      have gq := get_set h1
      clear h1
      rcases gq with ⟨rfl, h⟩ | ⟨n, h⟩
      · have gq := get_set h2
        clear h2
        rcases gq with ⟨rfl, g⟩ | ⟨m, g⟩
        · rfl
        · rw [set_at (l1 rfl)] at h3
          rw [List.getElem?_set_ne m] at h4
          cases h3
          exact absurd List.mem_cons_self (w.dit k fs a ds g h4)
      · have gq := get_set h2
        clear h2
        rcases gq with ⟨rfl, g⟩ | ⟨m, g⟩
        · rw [set_at (l2 rfl)] at h4
          rw [List.getElem?_set_ne n] at h3
          cases h4
          exact absurd List.mem_cons_self (w.dit j es a ds h h3)
        · rw [List.getElem?_set_ne n] at h3
          rw [List.getElem?_set_ne m] at h4
          exact w.dis j k b es fs h g h3 h4
    dit := fun j es b fs h1 h2 h3 => by
      have l1 := inl h1
      have gq := get_set h1
      clear h1
      rcases gq with ⟨rfl, h⟩ | ⟨n, h⟩
      · rw [set_at (l1 rfl)] at h2
        cases h2
        exact hno.1 (List.mem_map.mpr ⟨(a, fs), h3, rfl⟩)
      · rw [List.getElem?_set_ne n] at h2
        exact w.dit j es b fs h h2 (List.mem_cons_of_mem _ h3)
    nod := hno.2
    bs := fun j b h => by
      obtain ⟨es, h1, h2⟩ := w.bs j b h
      have n : i ≠ j := fun z => hi b (by rw [z]; exact h)
      exact ⟨es, by rw [List.getElem?_set_ne n]; exact h1, by rw [List.getElem?_set_ne n]; exact h2⟩ }
/-- a name gives its list away -/
theorem Wd.give {i : Nat} {ds : List D} (w : Wd c F H σ ρ T) (h : ρ[i]? = some (some (.ow ds))) (hi : ∀ a, (i, a) ∉ c.bi) : ∃ a, σ[i]? = some (some (.ref a)) ∧ Wd c F H σ (ρ.set i none) ((a, ds) :: T) := by
  obtain ⟨a, h1, h2, h3⟩ := w.ow i ds h
  refine ⟨a, h1, ?_⟩
  have h0 : c.H0 a = none := h3.elim (fun z => absurd z (hi a)) id
  have hs : σ.set i (some (.ref a)) = σ := by
    refine List.ext_getElem? fun j => ?_
    by_cases e : i = j
    · subst e
      rw [List.getElem?_set_self', h1]
      rfl
    · rw [List.getElem?_set_ne e]
  have w2 := w.clr (i := i) (some (.ref a)) hi
  rw [hs] at w2
  exact
  { len := w2.len, sub := w2.sub, ext := w2.ext, new := w2.new, keep := w2.keep, va := w2.va, ow := w2.ow
    tm := fun b es g => by
      rcases List.mem_cons.mp g with g | g
      · cases g; exact ⟨h2, h0⟩
      · exact w2.tm b es g
    dis := w2.dis
    dit := fun j es b fs g1 g2 g3 => by
      rcases List.mem_cons.mp g3 with g | g
      · cases g
        have gq := get_set g1
        clear g1
        rcases gq with ⟨rfl, z⟩ | ⟨n, z⟩
        · cases z
        · exact n (w.dis i j a ds es h z h1 g2)
      · exact w2.dit j es b fs g1 g2 g
    nod := by
      rw [List.map_cons, List.nodup_cons]
      refine ⟨fun hm => ?_, w.nod⟩
      obtain ⟨⟨b, es⟩, g1, g2⟩ := List.mem_map.mp hm
      have g2' : b = a := g2
      rw [g2'] at g1
      exact w.dit i ds a es h h1 g1
    bs := w2.bs }
/-- a list that a name has is changed -/
theorem Wd.mut {i : Nat} {a : Addr} {ds es : List D} {vs : List V} (w : Wd c F H σ ρ T) (h : ρ[i]? = some (some (.ow ds))) (ha : σ[i]? = some (some (.ref a))) (hr : c.reps F vs es) : Wd c F (upd H a (.lst vs)) σ (ρ.set i (some (.ow es))) T := by
  obtain ⟨a', h1, h2, h3⟩ := w.ow i ds h
  rw [ha] at h1
  cases h1
  have hlen : i < ρ.length := (List.getElem?_eq_some_iff.mp h).1
  have ne : ∀ {j : Nat} {b : Addr} {fs : List D}, i ≠ j → ρ[j]? = some (some (.ow fs)) → σ[j]? = some (some (.ref b)) → b ≠ a := fun n g1 g2 z => by
    rw [z] at g2
    exact n (w.dis _ _ a ds _ h g1 ha g2)
  exact
  { len := by rw [List.length_set]; exact w.len
    sub := fun b u e => by
      rw [upd_ne (ne_of_none e h2.1)]
      exact w.sub b u e
    ext := w.ext, new := w.new
    keep := fun b u g1 g2 => by
      rw [upd_ne (fun z => by
        subst z
        rcases h3 with h3 | h3
        · exact g1 (List.mem_map.mpr ⟨_, h3, rfl⟩)
        · rw [h3] at g2; cases g2)]
      exact w.keep b u g1 g2
    va := fun j e g => by
      have gq := get_set g
      clear g
      rcases gq with ⟨rfl, g⟩ | ⟨n, g⟩
      · cases g
      · exact w.va j e g
    ow := fun j fs g => by
      have gq := get_set g
      clear g
      rcases gq with ⟨rfl, g⟩ | ⟨n, g⟩
      · cases g
        exact ⟨a, ha, ⟨h2.1, vs, upd_same, hr⟩, h3⟩
      · obtain ⟨b, g1, g2, g3⟩ := w.ow j fs g
        exact ⟨b, g1, g2.rise (Same.refl _) g2.1 (upd_ne (ne n g g1)), g3⟩
    tm := fun b fs g => ⟨(w.tm b fs g).1.rise (Same.refl _) (w.tm b fs g).1.1 (upd_ne fun z => by subst z; exact w.dit i ds b fs h ha g), (w.tm b fs g).2⟩
    dis := fun j k b fs gs g1 g2 g3 g4 => by
      have gq := get_set g1
      clear g1
      rcases gq with ⟨rfl, g⟩ | ⟨n, g⟩
      · have gq := get_set g2
        clear g2
        rcases gq with ⟨rfl, g'⟩ | ⟨m, g'⟩
        · rfl
        · exact w.dis i k b ds gs h g' g3 g4
      · have gq := get_set g2
        clear g2
        rcases gq with ⟨rfl, g'⟩ | ⟨m, g'⟩
        · exact w.dis j i b fs ds g h g3 g4
        · exact w.dis j k b fs gs g g' g3 g4
    dit := fun j fs b gs g1 g2 => by
      have gq := get_set g1
      clear g1
      rcases gq with ⟨rfl, g⟩ | ⟨n, g⟩
      · exact w.dit i ds b gs h g2
      · exact w.dit j fs b gs g g2
    nod := w.nod
    bs := fun j b g => by
      obtain ⟨fs, g1, g2⟩ := w.bs j b g
      by_cases e : i = j
      · subst e
        exact ⟨es, set_at hlen, g2⟩
      · exact ⟨fs, by rw [List.getElem?_set_ne e]; exact g1, g2⟩ }
/-- the list at the head of the temporaries is changed -/
theorem Wd.mutT {a : Addr} {ds es : List D} {vs : List V} (w : Wd c F H σ ρ ((a, ds) :: T)) (hr : c.reps F vs es) : Wd c F (upd H a (.lst vs)) σ ρ ((a, es) :: T) := by
  obtain ⟨h2, h0⟩ := w.tm a ds List.mem_cons_self
  have hno := List.nodup_cons.mp w.nod
  exact
  { len := w.len
    sub := fun b u e => by
      rw [upd_ne (ne_of_none e h2.1)]
      exact w.sub b u e
    ext := w.ext, new := w.new
    keep := fun b u g1 g2 => by
      rw [upd_ne (fun z => by
        subst z
        rw [h0] at g2; cases g2)]
      exact w.keep b u g1 g2
    va := w.va
    ow := fun j fs g => by
      obtain ⟨b, g1, g2, g3⟩ := w.ow j fs g
      exact ⟨b, g1, g2.rise (Same.refl _) g2.1 (upd_ne fun z => by subst z; exact w.dit j fs b ds g g1 List.mem_cons_self), g3⟩
    tm := fun b fs g => by
      have gm := List.mem_cons.mp g
      clear g
      rcases gm with g | g
      · cases g; exact ⟨⟨h2.1, vs, upd_same, hr⟩, h0⟩
      · have q := w.tm b fs (List.mem_cons_of_mem _ g)
        exact ⟨q.1.rise (Same.refl _) q.1.1 (upd_ne fun z => hno.1 (List.mem_map.mpr ⟨(b, fs), g, z⟩)), q.2⟩
    dis := w.dis
    dit := fun j fs b gs g1 g2 g3 => by
      rcases List.mem_cons.mp g3 with g | g
      · cases g; exact w.dit j fs a ds g1 g2 List.mem_cons_self
      · exact w.dit j fs b gs g1 g2 (List.mem_cons_of_mem _ g)
    nod := w.nod
    bs := w.bs }
end
end Mir

namespace Mir
open PySem PySem.Spec PyProof.Rows L2

/-! ### what a piece of code comes to -/
inductive Oc (α : Type) where
  | ok (a : α) (ρ : En) | ex (c f : Str) (d : D) (ρ : En) | no
abbrev M (α : Type) := En → Oc α
def bnd {α β : Type} (m : M α) (k : α → M β) : M β := fun ρ => match m ρ with
  | .ok a ρ' => k a ρ'
  | .ex c f d ρ' => .ex c f d ρ'
  | .no => .no
def ret {α : Type} (a : α) : M α := fun ρ => .ok a ρ
/-- a plain step that may have no answer -/
def opt {α : Type} (o : Option α) : M α := fun ρ => match o with
  | some a => .ok a ρ
  | none => .no
def Go (c : Mc) (F : Hp) (T : Tm) (σ : L2.St) {α : Type} (o : Oc α) (k : α → En → Hp → Hp → Prop) : Prop := match o with
  | .ok a ρ' => ∀ F' H', Same F F' → k a ρ' F' H'
  | .ex e f d ρ' => ∀ x w F' H', Same F F' → Wd c F' H' σ ρ' T → F' x = some (.xd [(f, w)]) → c.rep F' w d → c.W (.ref (c.cl e)) (some x) σ H'
  | .no => False
section
variable {c : Mc} {F F' H H' : Hp} {σ : L2.St} {ρ ρ' : En} {T : Tm} {α β : Type}
theorem Go.up {o : Oc α} {k : α → En → Hp → Hp → Prop} (h : Go c F T σ o k) (e : Same F F') : Go c F' T σ o k := by
  cases o with
  | ok a ρ' => exact fun F2 H2 s => h F2 H2 (e.trans s)
  | ex n f d ρ' => exact fun x w F2 H2 s => h x w F2 H2 (e.trans s)
  | no => exact h
theorem Go.imp {o : Oc α} {k k' : α → En → Hp → Hp → Prop} (h : Go c F T σ o k) (q : ∀ a ρ' F' H', Same F F' → k a ρ' F' H' → k' a ρ' F' H') : Go c F T σ o k' := by
  cases o with
  | ok a ρ' => exact fun F2 H2 s => q a ρ' F2 H2 s (h F2 H2 s)
  | ex n f d ρ' => exact h
  | no => exact h
theorem Go.split {m : M α} {k : α → M β} {q : β → En → Hp → Hp → Prop} (h : Go c F T σ (bnd m k ρ) q) : Go c F T σ (m ρ) (fun a ρ1 F1 _ => Go c F1 T σ (k a ρ1) q) := by
  unfold bnd at h
  cases e : m ρ with
  | ok a ρ' =>
    rw [e] at h
    exact fun F2 H2 s => h.up s
  | ex n f d ρ' =>
    rw [e] at h
    exact h
  | no =>
    rw [e] at h
    exact h
theorem Go.opt {o : Option α} {k : α → En → Hp → Hp → Prop} (h : Go c F T σ (opt o ρ) k) : ∃ a, o = some a ∧ ∀ F' H', Same F F' → k a ρ F' H' := by
  cases o with
  | none => exact h.elim
  | some a => exact ⟨a, rfl, h⟩
end
/-- the readings -/
abbrev kE (c : Mc) (T : Tm) (σ : L2.St) (Q : VK) : D → En → Hp → Hp → Prop := fun d ρ' F' H' => Wd c F' H' σ ρ' T → ∀ v, c.rep F' v d → Q v H'
abbrev kL (c : Mc) (T : Tm) (σ : L2.St) (Q : VK) : Sl → En → Hp → Hp → Prop := fun s ρ' F' H' => match s with
  | .va d => Wd c F' H' σ ρ' T → ∀ v, c.rep F' v d → Q v H'
  | .ow ds => ∀ a, Wd c F' H' σ ρ' ((a, ds) :: T) → Q (.ref a) H'
abbrev kT (c : Mc) (T : Tm) (σ : L2.St) (Q : Bool → Hp → Prop) : Bool → En → Hp → Hp → Prop := fun b ρ' F' H' => Wd c F' H' σ ρ' T → Q b H'
def tX (c : Mc) {β : Type} (kk : Tm → L2.St → VK → β → En → Hp → Hp → Prop) (m : M β) : TE := fun σ H Q => ∃ F ρ T, Wd c F H σ ρ T ∧ Go c F T σ (m ρ) (kk T σ Q)
abbrev tE (c : Mc) (m : M D) : TE := tX c (kE c) m
abbrev tL (c : Mc) (m : M Sl) : TE := tX c (kL c) m
def tT (c : Mc) (m : M Bool) : TT := fun σ H Q => ∃ F ρ T, Wd c F H σ ρ T ∧ Go c F T σ (m ρ) (kT c T σ Q)
theorem peI {X : Cx} {e : Expr} {t t' : TE} (h : PE X e t) (i : ∀ σ H Q, t' σ H Q → t σ H Q) : PE X e t' := ⟨fun pins s σ H Q I q => h.run pins s σ H Q I (i σ H Q q)⟩
theorem ptI {X : Cx} {e : Expr} {t t' : TT} (h : PT X e t) (i : ∀ σ H Q, t' σ H Q → t σ H Q) : PT X e t' := ⟨fun pins s σ H Q I q => h.run pins s σ H Q I (i σ H Q q)⟩
theorem pwI {X : Cx} {e : Expr} {t t' : TT} (h : PW X e t) (i : ∀ σ H Q, t' σ H Q → t σ H Q) : PW X e t' := ⟨fun wh pins s σ H Q I q => h.run wh pins s σ H Q I (i σ H Q q)⟩
theorem psI {X : Cx} {e : Stmt} {t t' : TS} (h : PS X e t) (i : ∀ E σ H, t' E σ H → t E σ H) : PS X e t' := ⟨fun pins s σ H D I q => h.run pins s σ H D I (i D σ H q)⟩
theorem pssI {X : Cx} {e : List Stmt} {t t' : TS} (h : PSs X e t) (i : ∀ E σ H, t' E σ H → t E σ H) : PSs X e t' := ⟨fun pins s σ H D I q => h.run pins s σ H D I (i D σ H q)⟩
section
variable {X : Cx} {c : Mc} {F F' H H' : Hp} {σ : L2.St} {ρ ρ' : En} {T : Tm} {α β : Type} {e a b : Expr} {es : List Expr} {pos p : Pos}

/-! ### from one reading to the other -/
def mVa (m : M D) : M Sl := bnd m fun d => ret (.va d)
def mFz (m : M Sl) : M D := bnd m fun s => ret (match s with | .va d => d | .ow ds => .lst ds)
theorem me_va {m : M D} (h : PE X e (tE c m)) : PE X e (tL c (mVa m)) := peI h fun σ H Q ⟨F, ρ, T, w, g⟩ => ⟨F, ρ, T, w, g.split.imp fun d ρ1 F1 H1 s k => k F1 H1 (Same.refl _)⟩
theorem me_fz {m : M Sl} (h : PE X e (tL c m)) : PE X e (tE c (mFz m)) := peI h fun σ H Q ⟨F, ρ, T, w, g⟩ => ⟨F, ρ, T, w, g.split.imp fun s ρ1 F1 H1 sm k => by
  cases s with
  | va d => exact k F1 H1 (Same.refl _)
  | ow ds =>
    intro a w1
    obtain ⟨F2, s2, w2, r2⟩ := w1.frz
    exact k F2 H1 s2 w2 _ r2⟩

/-! ### names and constants -/
/-- what a name has; a list of its own is from then on changed no more -/
def rdv (i : Nat) : M D := fun ρ => match ρ[i]? with
  | some (some (.va d)) => .ok d ρ
  | _ => .no
theorem me_var (i : Nat) {x : Str} (hN : X.N[i]? = some x := by rfl) (hv : Vis X.env.scope x := by first | exact Or.inl rfl | exact Or.inr (Or.inl rfl) | exact Or.inr (Or.inr rfl)) (hd : (x == ("__debug__" : Str)) = false := by decide)
    (hcd : (x == ("__classdict__" : Str)) = false := by decide) : PE X (.Name x pos) (tE c (rdv i)) := peI (pe_var hN hv hd hcd) fun σ H Q ⟨F, ρ, T, w, g⟩ => by
  unfold rdv at g
  cases h : ρ[i]? with
  | none => rw [h] at g; exact g.elim
  | some o =>
    rw [h] at g
    cases o with
    | none => exact g.elim
    | some s =>
      cases s with
      | ow ds => exact g.elim
      | va d =>
        obtain ⟨v, h1, h2⟩ := w.va i d h
        exact ⟨v, h1, g F H (Same.refl _) w v h2⟩
/-- the list that a name has is given away (the name has nothing then) -/
def giv (i : Nat) : M Sl := fun ρ => match ρ[i]? with
  | some (some (.va d)) => .ok (.va d) ρ
  | some (some (.ow ds)) => .ok (.ow ds) (ρ.set i none)
  | _ => .no
theorem me_giv (i : Nat) {x : Str} (hb : ∀ a, (i, a) ∉ c.bi) (hN : X.N[i]? = some x := by rfl) (hv : Vis X.env.scope x := by first | exact Or.inl rfl | exact Or.inr (Or.inl rfl) | exact Or.inr (Or.inr rfl)) (hd : (x == ("__debug__" : Str)) = false := by decide)
    (hcd : (x == ("__classdict__" : Str)) = false := by decide) : PE X (.Name x pos) (tL c (giv i)) := peI (pe_var hN hv hd hcd) fun σ H Q ⟨F, ρ, T, w, g⟩ => by
  unfold giv at g
  cases h : ρ[i]? with
  | none => rw [h] at g; exact g.elim
  | some o =>
    rw [h] at g
    cases o with
    | none => exact g.elim
    | some s =>
      cases s with
      | ow ds =>
        obtain ⟨a, h1, w1⟩ := w.give h hb
        exact ⟨.ref a, h1, g F H (Same.refl _) a w1⟩
      | va d =>
        obtain ⟨v, h1, h2⟩ := w.va i d h
        exact ⟨v, h1, g F H (Same.refl _) w v h2⟩
theorem me_c {d : D} {v : V} (h : PE X e (tC v)) (r : ∀ F, c.rep F v d) : PE X e (tE c (ret d)) := peI h fun σ H Q ⟨F, ρ, T, w, g⟩ => g F H (Same.refl _) w v (r F)
theorem me_int {i j} : PE X (.Constant (.int i) j pos) (tE c (ret (.int i))) := me_c pe_int fun _ => .int i
theorem me_bl {i j} : PE X (.Constant (.bool i) j pos) (tE c (ret (.bl i))) := me_c pe_bl fun _ => .bl i
theorem me_non {j} : PE X (.Constant .none j pos) (tE c (ret .non)) := me_c pe_non fun _ => .non
theorem me_str {i j} : PE X (.Constant (.str i) j pos) (tE c (ret (.str i))) := me_c pe_str fun _ => .str i
theorem me_gInt {x : Str} {i : Int} {t : Nat} (hg : Gl X x) (hm : X.mg x = some (.int i t)) (hd : (x == ("__debug__" : Str)) = false := by decide) : PE X (.Name x pos) (tE c (ret (.int i))) := me_c (pe_glob (v := .int i) hg hm ⟨_, rfl⟩ hd) fun _ => .int i
theorem me_gStr {x : Str} {z : Str} {t : Nat} (hg : Gl X x) (hm : X.mg x = some (.str z t)) (hd : (x == ("__debug__" : Str)) = false := by decide) : PE X (.Name x pos) (tE c (ret (.str z))) := me_c (pe_glob (v := .str z) hg hm ⟨_, rfl⟩ hd) fun _ => .str z

/-! ### what can be read now -/
/-- of a list only that it stands there now -/
def Now (c : Mc) (F H : Hp) (x : V) (d : D) : Prop := match d with
  | .lst ds => ∃ a vs, x = .ref a ∧ H a = some (.lst vs) ∧ c.reps F vs ds
  | d => c.rep F x d
theorem now_of {x : V} {d : D} (e : Same F H) (h : c.rep F x d) : Now c F H x d := by
  cases d with
  | lst ds =>
    cases h with
    | lst h hs => exact ⟨_, _, rfl, e _ _ h, hs⟩
  | _ => exact h
/-- a name's list is looked at, and stays the name's -/
def pk (i : Nat) : M D := fun ρ => match ρ[i]? with
  | some (some (.va d)) => .ok d ρ
  | some (some (.ow ds)) => .ok (.lst ds) ρ
  | _ => .no
theorem Wd.see (w : Wd c F H σ ρ T) {i : Nat} {v : V} (hv : σ[i]? = some (some v)) {q : D → En → Hp → Hp → Prop} (g : Go c F T σ (pk i ρ) q) : ∃ d, Now c F H v d ∧ ∀ F' H', Same F F' → q d ρ F' H' := by
  unfold pk at g
  cases h : ρ[i]? with
  | none => rw [h] at g; exact g.elim
  | some o =>
    rw [h] at g
    cases o with
    | none => exact g.elim
    | some s =>
      cases s with
      | ow ds =>
        obtain ⟨a, h1, ⟨_, vs, h2, h3⟩, _⟩ := w.ow i ds h
        rw [hv] at h1
        cases h1
        exact ⟨.lst ds, ⟨a, vs, rfl, h2, h3⟩, g⟩
      | va d =>
        obtain ⟨u, h1, h2⟩ := w.va i d h
        rw [hv] at h1
        cases h1
        exact ⟨d, now_of w.sub h2, g⟩
theorem Wd.has (w : Wd c F H σ ρ T) {i : Nat} {q : D → En → Hp → Hp → Prop} (g : Go c F T σ (pk i ρ) q) : ∃ v, σ[i]? = some (some v) := by
  unfold pk at g
  cases h : ρ[i]? with
  | none => rw [h] at g; exact g.elim
  | some o =>
    rw [h] at g
    cases o with
    | none => exact g.elim
    | some s =>
      cases s with
      | ow ds => obtain ⟨a, h1, _⟩ := w.ow i ds h; exact ⟨_, h1⟩
      | va d => obtain ⟨u, h1, h2⟩ := w.va i d h; exact ⟨_, h1⟩

/-! ### operations -/
variable {kk : Tm → L2.St → VK → β → En → Hp → Hp → Prop} {t : TE} {r : R2} {ma mb : M D} {f : D → D → Option β} {i j : Nat}
abbrev bin (f : D → D → Option β) (ma mb : M D) : M β := bnd ma fun d1 => bnd mb fun d2 => opt (f d1 d2)
/-- the left one a name whose list stays its own -/
abbrev binP (f : D → D → Option β) (i : Nat) (mb : M D) : M β := fun ρ => match ρ[i]? with
  | some (some _) => bnd mb (fun d2 => bnd (pk i) fun d1 => opt (f d1 d2)) ρ
  | _ => .no
abbrev binQ (f : D → D → Option β) (ma : M D) (j : Nat) : M β := bnd ma fun d1 => bnd (pk j) fun d2 => opt (f d1 d2)
abbrev binPQ (f : D → D → Option β) (i j : Nat) : M β := bnd (pk i) fun d1 => bnd (pk j) fun d2 => opt (f d1 d2)
/-- what an operation of two values asks -/
structure Op2 (c : Mc) (kk : Tm → L2.St → VK → β → En → Hp → Hp → Prop) (r : R2) (f : D → D → Option β) : Prop where
  run : ∀ {F H σ ρ T x y d1 d2 d} {Q : VK}, Wd c F H σ ρ T → Now c F H x d1 → Now c F H y d2 → f d1 d2 = some d → (∀ F' H', Same F F' → kk T σ Q d ρ F' H') → r x y H Q
structure Op1 (c : Mc) (kk : Tm → L2.St → VK → β → En → Hp → Hp → Prop) (r : V → Hp → VK → Prop) (f : D → Option β) : Prop where
  run : ∀ {F H σ ρ T x d1 d} {Q : VK}, Wd c F H σ ρ T → Now c F H x d1 → f d1 = some d → (∀ F' H', Same F F' → kk T σ Q d ρ F' H') → r x H Q
theorem g_bin (hr : Op2 c kk r f) (h : PE X e (tOp r (tE c ma) (tE c mb))) : PE X e (tX c kk (bin f ma mb)) := peI h fun σ H Q ⟨F, ρ, T, w, g⟩ => ⟨F, ρ, T, w, g.split.imp fun d1 ρ1 F1 H1 s1 g1 w1 x rx =>
  ⟨F1, ρ1, T, w1, g1.split.imp fun d2 ρ2 F2 H2 s2 g2 w2 y ry => by
    obtain ⟨d, hf, k⟩ := g2.opt
    exact hr.run w2 (now_of w2.sub (rx.same s2)) (now_of w2.sub ry) hf k⟩⟩
theorem g_binQ (hr : Op2 c kk r f) (h : PE X e (tOp r (tE c ma) (tVar j))) : PE X e (tX c kk (binQ f ma j)) := peI h fun σ H Q ⟨F, ρ, T, w, g⟩ => ⟨F, ρ, T, w, g.split.imp fun d1 ρ1 F1 H1 s1 g1 w1 x rx => by
    obtain ⟨y, hy⟩ := w1.has g1.split
    obtain ⟨d2, n2, g2⟩ := w1.see hy g1.split
    obtain ⟨d, hf, k⟩ := (g2 F1 H1 (Same.refl _)).opt
    exact ⟨y, hy, hr.run w1 (now_of w1.sub rx) n2 hf k⟩⟩
theorem g_binPQ (hr : Op2 c kk r f) (h : PE X e (tOp r (tVar i) (tVar j))) : PE X e (tX c kk (binPQ f i j)) := peI h fun σ H Q ⟨F, ρ, T, w, g⟩ => by
    obtain ⟨x, hx⟩ := w.has g.split
    obtain ⟨d1, n1, g1⟩ := w.see hx g.split
    have g1 := (g1 F H (Same.refl _)).split
    obtain ⟨y, hy⟩ := w.has g1
    obtain ⟨d2, n2, g2⟩ := w.see hy g1
    obtain ⟨d, hf, k⟩ := (g2 F H (Same.refl _)).opt
    exact ⟨x, hx, y, hy, hr.run w n1 n2 hf k⟩
theorem g_binP (hr : Op2 c kk r f) (h : PE X e (tOp r (tVar i) (tE c mb))) : PE X e (tX c kk (binP f i mb)) := peI h fun σ H Q ⟨F, ρ, T, w, g⟩ => by
    unfold binP at g
    cases q : ρ[i]? with
    | none => rw [q] at g; exact g.elim
    | some o =>
      rw [q] at g
      cases o with
      | none => exact g.elim
      | some s =>
        obtain ⟨x, hx⟩ : ∃ v, σ[i]? = some (some v) := by
          cases s with
          | ow ds => obtain ⟨a, h1, _⟩ := w.ow i ds q; exact ⟨_, h1⟩
          | va d => obtain ⟨u, h1, h2⟩ := w.va i d q; exact ⟨_, h1⟩
        have g : Go c F T σ (bnd mb (fun d2 => bnd (pk i) fun d1 => opt (f d1 d2)) ρ) (kk T σ Q) := g
        refine ⟨x, hx, F, ρ, T, w, g.split.imp fun d2 ρ2 F2 H2 s2 g2 w2 y ry => ?_⟩
        obtain ⟨d1, n1, g3⟩ := w2.see hx g2.split
        obtain ⟨d, hf, k⟩ := (g3 F2 H2 (Same.refl _)).opt
        exact hr.run w2 n1 (now_of w2.sub ry) hf k
variable {r1 : V → Hp → VK → Prop} {f1 : D → Option β}
abbrev un (f : D → Option β) (ma : M D) : M β := bnd ma fun d1 => opt (f d1)
theorem g_un (hr : Op1 c kk r1 f1) (h : PE X e (tUn r1 (tE c ma))) : PE X e (tX c kk (un f1 ma)) := peI h fun σ H Q ⟨F, ρ, T, w, g⟩ => ⟨F, ρ, T, w, g.split.imp fun d1 ρ1 F1 H1 s1 g1 w1 x rx => by
    obtain ⟨d, hf, k⟩ := g1.opt
    exact hr.run w1 (now_of w1.sub rx) hf k⟩
theorem g_unP (hr : Op1 c kk r1 f1) (h : PE X e (tUn r1 (tVar i))) : PE X e (tX c kk (un f1 (pk i))) := peI h fun σ H Q ⟨F, ρ, T, w, g⟩ => by
    obtain ⟨x, hx⟩ := w.has g.split
    obtain ⟨d1, n1, g1⟩ := w.see hx g.split
    obtain ⟨d, hf, k⟩ := (g1 F H (Same.refl _)).opt
    exact ⟨x, hx, hr.run w n1 hf k⟩
/-- two ints -/
def iI (C : Int → Int → Bool) (g : Int → Int → Int) : D → D → Option D
  | .int i, .int j => if C i j = true then some (.int (g i j)) else none
  | _, _ => none
def iB (g : Int → Int → Bool) : D → D → Option D
  | .int i, .int j => some (.bl (g i j))
  | _, _ => none
def cT : Int → Int → Bool := fun _ _ => true
theorem blt_ok {n m : Nat} (h : Nat.blt n m = true) : n < m := Nat.le_of_ble_eq_true h
theorem blt_of {n m : Nat} (h : n < m) : Nat.blt n m = true := Nat.ble_eq_true_of_le h
def lt64 (i : Int) : Bool := Nat.blt i.natAbs 18446744073709551616
theorem lt64_ok {i : Int} (h : lt64 i = true) : -(2 ^ 64) < i ∧ i < 2 ^ 64 := by
  have := blt_ok h
  omega
def cMul : Int → Int → Bool := fun i j => lt64 i || lt64 j
theorem cMul_ok {i j : Int} (h : cMul i j = true) : CMul i j := by
  rcases (Bool.or_eq_true _ _).mp h with h | h
  · exact .inl (lt64_ok h)
  · exact .inr (lt64_ok h)
def cDiv : Int → Int → Bool := fun _ j => decide (0 < j) && Nat.blt j.natAbs 1073741824
theorem cDiv_ok {i j : Int} (h : cDiv i j = true) : CDiv i j := by
  obtain ⟨h1, h2⟩ := (Bool.and_eq_true _ _).mp h
  have h1 := of_decide_eq_true h1
  have h2 := blt_ok h2
  exact ⟨h1, by omega⟩
def cMod : Int → Int → Bool := fun _ j => decide (0 < j)
def cPow : Int → Int → Bool := fun i j => decide (0 ≤ j) && (Nat.blt j.natAbs 1000000 && Nat.blt i.natAbs 18446744073709551616)
theorem cPow_ok {i j : Int} (h : cPow i j = true) : CPow i j := by
  obtain ⟨h1, h2⟩ := (Bool.and_eq_true _ _).mp h
  obtain ⟨h2, h3⟩ := (Bool.and_eq_true _ _).mp h2
  have h1 := of_decide_eq_true h1
  have h2 := blt_ok h2
  have h3 := blt_ok h3
  exact ⟨h1, by omega, by omega⟩
theorem rI_ok {C : Int → Int → Prop} {Cb : Int → Int → Bool} {g : Int → Int → Int} (hC : ∀ i j, Cb i j = true → C i j) : Op2 c (kE c) (rI C (fun i j => .int (g i j))) (iI Cb g) := by
  constructor
  intro F H σ ρ T x y d1 d2 d Q w n1 n2 h q
  unfold iI at h
  split at h
  · cases n1
    cases n2
    split at h
    · cases h
      exact ⟨_, _, rfl, rfl, hC _ _ ‹_›, q F H (Same.refl _) w _ (.int _)⟩
    · cases h
  · cases h
theorem rI0_ok {g : Int → Int → Int} : Op2 c (kE c) (rI0 (fun i j => .int (g i j))) (iI cT g) := by
  constructor
  intro F H σ ρ T x y d1 d2 d Q w n1 n2 h q
  unfold iI at h
  split at h
  · cases n1
    cases n2
    rw [if_pos (show cT _ _ = true from rfl)] at h
    cases h
    exact ⟨_, _, rfl, rfl, q F H (Same.refl _) w _ (.int _)⟩
  · cases h
theorem rB0_ok {g : Int → Int → Bool} : Op2 c (kE c) (rI0 (fun i j => .bl (g i j))) (iB g) := by
  constructor
  intro F H σ ρ T x y d1 d2 d Q w n1 n2 h q
  unfold iB at h
  split at h
  · cases n1
    cases n2
    cases h
    exact ⟨_, _, rfl, rfl, q F H (Same.refl _) w _ (.bl _)⟩
  · cases h
def dSub := iI cT (fun i j => i - j)
def dMulI := iI cMul (fun i j => i * j)
def dDiv := iI cDiv (fun i j => i / j)
def dMod := iI cMod (fun i j => i % j)
def dPow := iI cPow (fun i j => i ^ j.toNat)
def dLt := iB (fun i j => decide (i < j))
def dLe := iB (fun i j => decide (i ≤ j))
def dGt := iB (fun i j => decide (j < i))
def dGe := iB (fun i j => decide (j ≤ i))
variable {ta tb : TE}
theorem o_sub : Op2 c (kE c) (rI0 fun i j => .int (i - j)) dSub := rI0_ok
theorem o_mulI : Op2 c (kE c) (rI CMul fun i j => .int (i * j)) dMulI := rI_ok fun _ _ h => cMul_ok h
theorem o_div : Op2 c (kE c) (rI CDiv fun i j => .int (i / j)) dDiv := rI_ok fun _ _ h => cDiv_ok h
theorem o_mod : Op2 c (kE c) (rI (fun _ j => 0 < j) fun i j => .int (i % j)) dMod := rI_ok fun _ _ h => of_decide_eq_true h
theorem o_pow : Op2 c (kE c) (rI CPow fun i j => .int (i ^ j.toNat)) dPow := rI_ok fun _ _ h => cPow_ok h
theorem o_lt : Op2 c (kE c) (rI0 fun i j => .bl (decide (i < j))) dLt := rB0_ok
theorem o_le : Op2 c (kE c) (rI0 fun i j => .bl (decide (i ≤ j))) dLe := rB0_ok
theorem o_gt : Op2 c (kE c) (rI0 fun i j => .bl (decide (j < i))) dGt := rB0_ok
theorem o_ge : Op2 c (kE c) (rI0 fun i j => .bl (decide (j ≤ i))) dGe := rB0_ok
end
end Mir

namespace Mir
open PySem PySem.Spec PyProof.Rows L2
theorem lim {n : Nat} (h : n ≤ 100000) : n ≤ sizeLine := Nat.le_trans h (by decide)
theorem lims {n : Nat} (h : n ≤ 100000) : n < sizeLine := Nat.lt_of_le_of_lt h (by decide)
theorem orR {X : Cx} {f : Value → Value → Sem Value} {r r' : R2} (h : OpR X f r) (h' : OpR X f r') : OpR X f (fun x y H Q => r x y H Q ∨ r' x y H Q) := fun pins s σ H x y v u Q I rx ry q =>
  q.elim (h pins s σ H x y v u Q I rx ry) (h' pins s σ H x y v u Q I rx ry)
theorem orC {X : Cx} {f : Value} {r r' : List V → Hp → VK → Prop} (h : CallR X f r) (h' : CallR X f r') : CallR X f (fun x H Q => r x H Q ∨ r' x H Q) := fun pins s σ H xs us Q I rx q =>
  q.elim (h pins s σ H xs us Q I rx) (h' pins s σ H xs us Q I rx)
section
variable {X : Cx} {c : Mc} {K : PySem.W.Frag} {F F' H H' : Hp} {σ : L2.St} {ρ ρ' : En} {T : Tm} {α β : Type} {e a b : Expr} {es rest : List Expr} {pos p : Pos} {x : V} {d : D}
theorem now_tup {ds : List D} (n : Now c F H x (.tup ds)) : ∃ a vs, x = .ref a ∧ SqU c.K F a vs ∧ c.reps F vs ds := by
  cases n with
  | tup h hs => exact ⟨_, _, rfl, h, hs⟩
theorem now_lst {ds : List D} (n : Now c F H x (.lst ds)) : ∃ a vs, x = .ref a ∧ H a = some (.lst vs) ∧ c.reps F vs ds := n
theorem now_int {i : Int} (n : Now c F H x (.int i)) : x = .int i := by cases n; rfl
theorem now_str {i : Str} (n : Now c F H x (.str i)) : x = .str i := by cases n; rfl
theorem now_bl {i : Bool} (n : Now c F H x (.bl i)) : x = .bl i := by cases n; rfl
theorem now_scr {ns : List Int} (n : Now c F H x (.scr ns)) : ∃ a, x = .ref a ∧ SqL c.K F a (ns.map V.int) := by
  cases n with
  | scr h => exact ⟨_, rfl, h⟩
/-- new things -/
theorem new_tup {vs : List V} {ds : List D} {p : Addr} {Q : VK} (w : Wd c F H σ ρ T) (hp : H p = none) (hs : c.reps F vs ds) (q : ∀ F' H', Same F F' → kE c T σ Q (.tup ds) ρ F' H') : Q (.ref p) (upd H p (.tup vs)) :=
  have s := same_upd (o := .tup vs) (w.sub.free hp)
  q _ _ s (w.lay _ hp) _ (.tup (.inl upd_same) (hs.same s))
theorem new_lst {vs : List V} {ds : List D} {p : Addr} {Q : VK} (w : Wd c F H σ ρ T) (hp : H p = none) (hs : c.reps F vs ds) (q : ∀ F' H', Same F F' → kL c T σ Q (.ow ds) ρ F' H') : Q (.ref p) (upd H p (.lst vs)) :=
  q F _ (Same.refl _) p (w.tmp hp hs)

/-! ### + and * -/
def dAdd : D → D → Option Sl
  | .int i, .int j => some (.va (.int (i + j)))
  | .str i, .str j => if i.length + j.length ≤ 100000 then some (.va (.str (i ++ j))) else none
  | .lst i, .lst j => if i.length + j.length ≤ 100000 then some (.ow (i ++ j)) else none
  | .tup i, .tup j => if i.length + j.length ≤ 100000 then some (.va (.tup (i ++ j))) else none
  | _, _ => none
def rAddA (K : PySem.W.Frag) : R2 := fun x y H Q => rI0 (fun i j => .int (i + j)) x y H Q ∨ rCat x y H Q ∨ rCatA K x y H Q ∨ (∃ i j, x = .str i ∧ y = .str j ∧ i.length + j.length ≤ sizeLine ∧ Q (.str (i ++ j)) H)
theorem op_addA : OpR X (binaryOp .Add) (rAddA X.K) := orR op_add (orR op_cat (orR op_catA op_add_str))
theorem o_add (hK : c.K = K) : Op2 c (kL c) (rAddA K) dAdd := by
  constructor
  intro F H σ ρ T x y d1 d2 d Q w n1 n2 h q
  subst hK
  unfold dAdd at h
  split at h
  · cases now_int n1
    cases now_int n2
    cases h
    exact .inl ⟨_, _, rfl, rfl, q F H (Same.refl _) w _ (.int _)⟩
  · cases now_str n1
    cases now_str n2
    split at h
    · cases h
      exact .inr (.inr (.inr ⟨_, _, rfl, rfl, lim ‹_›, q F H (Same.refl _) w _ (.str _)⟩))
    · cases h
  · obtain ⟨a, vs, rfl, h1, h2⟩ := now_lst n1
    obtain ⟨b, us, rfl, h3, h4⟩ := now_lst n2
    split at h
    · cases h
      exact .inr (.inl ⟨a, b, vs, us, rfl, rfl, h1, h3, by rw [h2.len, h4.len]; exact lim ‹_›, fun p hp => new_lst w hp (h2.append h4) q⟩)
    · cases h
  · obtain ⟨a, vs, rfl, h1, h2⟩ := now_tup n1
    obtain ⟨b, us, rfl, h3, h4⟩ := now_tup n2
    split at h
    · cases h
      refine .inr (.inr (.inl ⟨a, b, vs, us, rfl, rfl, (h1.same w.sub).t, (h3.same w.sub).t, by rw [h2.len, h4.len]; exact lim ‹_›, fun z => ?_, fun _ z => ?_, fun _ _ p hp => new_tup w hp (h2.append h4) q⟩))
      · subst z
        cases h2
        exact q F H (Same.refl _) w _ (.tup h3 h4)
      · subst z
        cases h4
        rw [List.append_nil] at q
        exact q F H (Same.refl _) w _ (.tup h1 h2)
    · cases h
  · cases h
def dMul : D → D → Option Sl
  | .int i, .int j => if cMul i j = true then some (.va (.int (i * j))) else none
  | .lst i, .int j => if Nat.blt j.natAbs 1000000000 = true ∧ i.length * j.toNat ≤ 100000 then some (.ow ((List.replicate j.toNat i).flatten)) else none
  | _, _ => none
theorem Reps.flat {vs : List V} {ds : List D} (h : c.reps F vs ds) : ∀ n : Nat, c.reps F (List.replicate n vs).flatten (List.replicate n ds).flatten
  | 0 => .nil
  | n + 1 => by
    rw [List.replicate_succ, List.replicate_succ, List.flatten_cons, List.flatten_cons]
    exact h.append (Reps.flat h n)
def rMulA : R2 := fun x y H Q => rI CMul (fun i j => .int (i * j)) x y H Q ∨ rRep x y H Q
theorem op_mulA : OpR X (binaryOp .Mult) rMulA := orR op_mul op_rep
theorem o_mul : Op2 c (kL c) rMulA dMul := by
  constructor
  intro F H σ ρ T x y d1 d2 d Q w n1 n2 h q
  unfold dMul at h
  split at h
  · cases now_int n1
    cases now_int n2
    split at h
    · cases h
      exact .inl ⟨_, _, rfl, rfl, cMul_ok ‹_›, q F H (Same.refl _) w _ (.int _)⟩
    · cases h
  · obtain ⟨a, vs, rfl, h1, h2⟩ := now_lst n1
    cases now_int n2
    split at h
    · cases h
      obtain ⟨z1, z3⟩ := (‹_ ∧ _› : _ ∧ _)
      have z1 := blt_ok z1
      exact .inr ⟨a, _, vs, rfl, rfl, h1, by omega, by omega, by rw [h2.len]; exact lim z3, fun p hp => new_lst w hp (Reps.flat h2 _) q⟩
    · cases h
  · cases h
/-! ### == -/
mutual
def toP : D → Option PyData
  | .non => some .none
  | .bl b => some (.bool b)
  | .int i => some (.int i)
  | .str z => some (.str z)
  | .lst ds => (toPs ds).map .list
  | .tup ds => (toPs ds).map .tuple
  | _ => none
def toPs : List D → Option (List PyData)
  | [] => some []
  | d :: ds => match toP d, toPs ds with
    | some p, some ps => some (p :: ps)
    | _, _ => none
end
mutual
theorem dp_of (e : Same F H) : ∀ {v : V} {d : D}, c.rep F v d → ∀ {p : PyData}, toP d = some p → Dp c.K H v p
  | _, _, .non, p, h => by unfold toP at h; cases h; exact .non
  | _, _, .bl b, p, h => by unfold toP at h; cases h; exact .bl b
  | _, _, .int b, p, h => by unfold toP at h; cases h; exact .int b
  | _, _, .str b, p, h => by unfold toP at h; cases h; exact .str b
  | _, _, .raw v, p, h => by unfold toP at h; cases h
  | _, _, .scr g, p, h => by unfold toP at h; cases h
  | _, _, .ob _ _ _, p, h => by unfold toP at h; cases h
  | _, _, .exn _ _ _, p, h => by unfold toP at h; cases h
  | _, _, .cls _, p, h => by unfold toP at h; cases h
  | _, _, .lst (ds := ds) g gs, p, h => by
    unfold toP at h
    cases q : toPs ds with
    | none => rw [q] at h; cases h
    | some ps =>
      rw [q] at h
      cases h
      exact .lst (SqL.of (e _ _ g)) (dps_of e gs q)
  | _, _, .tup (ds := ds) g gs, p, h => by
    unfold toP at h
    cases q : toPs ds with
    | none => rw [q] at h; cases h
    | some ps =>
      rw [q] at h
      cases h
      exact .tup (g.same e).t (dps_of e gs q)
theorem dps_of (e : Same F H) : ∀ {vs : List V} {ds : List D}, c.reps F vs ds → ∀ {ps : List PyData}, toPs ds = some ps → DpAll c.K H vs ps
  | _, _, .nil, p, h => by unfold toPs at h; cases h; exact .nil
  | _, _, .cons (d := d) (ds := ds) g gs, p, h => by
    unfold toPs at h
    cases q : toP d with
    | none => rw [q] at h; cases h
    | some p1 =>
      cases q2 : toPs ds with
      | none => rw [q, q2] at h; cases h
      | some ps =>
        rw [q, q2] at h
        cases h
        exact .cons (dp_of e g q) (dps_of e gs q2)
end
theorem now_dp (w : Wd c F H σ ρ T) (n : Now c F H x d) {p : PyData} (h : toP d = some p) : Dp c.K H x p := by
  cases d with
  | lst ds =>
    obtain ⟨a, vs, rfl, h1, h2⟩ := now_lst n
    unfold toP at h
    cases q : toPs ds with
    | none => rw [q] at h; cases h
    | some ps =>
      rw [q] at h
      cases h
      exact .lst (SqL.of h1) (dps_of w.sub h2 q)
  | _ => exact dp_of w.sub n h
def eqD (d1 d2 : D) : Option Bool := match toP d1, toP d2 with
  | some p, some q => if SeqAt.shaped p = true ∧ SeqAt.shaped q = true then some (PyData.eqv p q) else none
  | _, _ => none
def dEq (d1 d2 : D) : Option D := (eqD d1 d2).map .bl
def dNe (d1 d2 : D) : Option D := (eqD d1 d2).map fun b => .bl (!b)
theorem eqD_some {d1 d2 : D} {k : Bool} (h : eqD d1 d2 = some k) : ∃ p q, toP d1 = some p ∧ toP d2 = some q ∧ SeqAt.shaped p = true ∧ SeqAt.shaped q = true ∧ k = PyData.eqv p q := by
  unfold eqD at h
  split at h
  · split at h
    · cases h
      exact ⟨_, _, ‹_›, ‹_›, (‹_ ∧ _› : _ ∧ _).1, (‹_ ∧ _› : _ ∧ _).2, rfl⟩
    · cases h
  · cases h
theorem o_eq (hK : c.K = K) : Op2 c (kE c) (rEqD K) dEq := by
  constructor
  intro F H σ ρ T x y d1 d2 d Q w n1 n2 h q
  subst hK
  unfold dEq at h
  cases e : eqD d1 d2 with
  | none => rw [e] at h; cases h
  | some k =>
    rw [e] at h
    cases h
    obtain ⟨p1, p2, h1, h2, h3, h4, rfl⟩ := eqD_some e
    exact ⟨p1, p2, now_dp w n1 h1, now_dp w n2 h2, h3, h4, q F H (Same.refl _) w _ (.bl _)⟩
theorem o_ne (hK : c.K = K) : Op2 c (kE c) (rNeD K) dNe := by
  constructor
  intro F H σ ρ T x y d1 d2 d Q w n1 n2 h q
  subst hK
  unfold dNe at h
  cases e : eqD d1 d2 with
  | none => rw [e] at h; cases h
  | some k =>
    rw [e] at h
    cases h
    obtain ⟨p1, p2, h1, h2, h3, h4, rfl⟩ := eqD_some e
    exact ⟨p1, p2, now_dp w n1 h1, now_dp w n2 h2, h3, h4, q F H (Same.refl _) w _ (.bl _)⟩
/-! ### is None -/
def isN : D → Option Bool
  | .non => some true
  | .raw _ => none
  | _ => some false
def dIsN (d1 d2 : D) : Option D := match d2 with
  | .non => (isN d1).map .bl
  | _ => none
def dNotN (d1 d2 : D) : Option D := match d2 with
  | .non => (isN d1).map fun b => .bl (!b)
  | _ => none
theorem isN_ok {k : Bool} (n : Now c F H x d) (h : isN d = some k) : decide (x = .non) = k := by
  cases d with
  | lst ds =>
    obtain ⟨a, vs, rfl, h1, h2⟩ := now_lst n
    cases h
    rfl
  | raw v => cases h
  | non => cases n; cases h; rfl
  | bl _ => cases n; cases h; rfl
  | int _ => cases n; cases h; rfl
  | str _ => cases n; cases h; rfl
  | scr _ => cases n; cases h; rfl
  | tup _ => cases n; cases h; rfl
  | ob _ _ _ => cases n; cases h; rfl
  | exn _ _ _ => cases n; cases h; rfl
  | cls _ => cases n; cases h; rfl
theorem o_isN : Op2 c (kE c) (fun x y H Q => y = .non ∧ Q (.bl (decide (x = .non))) H) dIsN := by
  constructor
  intro F H σ ρ T x y d1 d2 d Q w n1 n2 h q
  unfold dIsN at h
  split at h
  · cases n2
    cases e : isN d1 with
    | none => rw [e] at h; cases h
    | some k =>
      rw [e] at h
      cases h
      refine ⟨rfl, ?_⟩
      rw [isN_ok n1 e]
      exact q F H (Same.refl _) w _ (.bl _)
  · cases h
theorem o_notN : Op2 c (kE c) (fun x y H Q => y = .non ∧ Q (.bl (!decide (x = .non))) H) dNotN := by
  constructor
  intro F H σ ρ T x y d1 d2 d Q w n1 n2 h q
  unfold dNotN at h
  split at h
  · cases n2
    cases e : isN d1 with
    | none => rw [e] at h; cases h
    | some k =>
      rw [e] at h
      cases h
      refine ⟨rfl, ?_⟩
      rw [isN_ok n1 e]
      exact q F H (Same.refl _) w _ (.bl _)
  · cases h
/-! ### subscripts -/
def dIx : D → D → Option D
  | .lst ds, .int i => atI ds i
  | .tup ds, .int i => atI ds i
  | .scr ns, .int i => (atI ns i).map .int
  | .str z, .int i => if z.length ≤ 100000 then (atI z.cps.toList i).map fun k => .str ⟨#[k]⟩ else none
  | _, _ => none
theorem at_rep {vs : List V} {ds : List D} {i : Int} (h : c.reps F vs ds) (e : atI ds i = some d) : ∃ v, atI vs i = some v ∧ c.rep F v d := by
  unfold atI at e ⊢
  rw [h.len]
  cases q : ixN ds.length i with
  | none => rw [q] at e; cases e
  | some j =>
    rw [q] at e
    exact h.get e
theorem atI_map {α β : Type} {f : α → β} {l : List α} {i : Int} : atI (l.map f) i = (atI l i).map f := by
  unfold atI
  rw [List.length_map]
  cases ixN l.length i with
  | none => rfl
  | some j => exact List.getElem?_map
theorem o_ix (hK : c.K = K) : Op2 c (kE c) (rIx K) dIx := by
  constructor
  intro F H σ ρ T x y d1 d2 d Q w n1 n2 h q
  subst hK
  unfold dIx at h
  split at h
  · obtain ⟨a, vs, rfl, h1, h2⟩ := now_lst n1
    cases now_int n2
    obtain ⟨v, h3, h4⟩ := at_rep h2 h
    exact .inl ⟨a, vs, _, v, rfl, rfl, SqL.of h1, h3, q F H (Same.refl _) w _ h4⟩
  · obtain ⟨a, vs, rfl, h1, h2⟩ := now_tup n1
    cases now_int n2
    obtain ⟨v, h3, h4⟩ := at_rep h2 h
    exact .inr (.inl ⟨a, vs, _, v, rfl, rfl, (h1.same w.sub).t, h3, q F H (Same.refl _) w _ h4⟩)
  · rename_i ns i
    obtain ⟨a, rfl, h1⟩ := now_scr n1
    cases now_int n2
    cases e : atI ns i with
    | none => rw [e] at h; cases h
    | some z =>
      rw [e] at h
      cases h
      exact .inl ⟨a, _, _, .int z, rfl, rfl, w.sub.seq h1, by rw [atI_map, e]; rfl, q F H (Same.refl _) w _ (.int z)⟩
  · rename_i z i
    cases now_str n1
    cases now_int n2
    split at h
    · cases e : atI z.cps.toList i with
      | none => rw [e] at h; cases h
      | some k =>
        rw [e] at h
        cases h
        exact .inr (.inr ⟨z, i, k, rfl, rfl, lim ‹_›, e, q F H (Same.refl _) w _ (.str _)⟩)
    · cases h
  · cases h
/-! ### slices -/
abbrev kO (c : Mc) (T : Tm) (σ : L2.St) (Q : Option Int → Hp → Prop) : Option Int → En → Hp → Hp → Prop := fun o ρ' F' H' => Wd c F' H' σ ρ' T → Q o H'
def tO (c : Mc) (m : M (Option Int)) : TO := fun σ H Q => ∃ F ρ T, Wd c F H σ ρ T ∧ Go c F T σ (m ρ) (kO c T σ Q)
theorem poI {o : Option Expr} {t t' : TO} (h : PO X o t) (i : ∀ σ H Q, t' σ H Q → t σ H Q) : PO X o t' := by
  obtain ⟨h⟩ := h
  exact ⟨fun pins s σ H Q I q => h pins s σ H Q I (i σ H Q q)⟩
def asI : D → Option (Option Int)
  | .int i => some (some i)
  | _ => none
theorem mo_none : PO X none (tO c (ret none)) := poI po_none fun σ H Q ⟨F, ρ, T, w, g⟩ => g F H (Same.refl _) w
theorem mo_some {m : M D} (h : PE X e (tE c m)) : PO X (some e) (tO c (un asI m)) := poI (po_some h) fun σ H Q ⟨F, ρ, T, w, g⟩ => ⟨F, ρ, T, w, g.split.imp fun d ρ1 F1 H1 s1 g1 w1 v rv => by
  obtain ⟨o, ho, k⟩ := g1.opt
  cases d with
  | int i =>
    cases ho
    cases rv
    exact ⟨i, rfl, k F1 H1 (Same.refl _) w1⟩
  | _ => cases ho⟩
def cutD (xs : List D) (lo hi : Option Int) : List D := (xs.drop (HT.sIx xs.length 0 lo)).take (HT.sIx xs.length xs.length hi - HT.sIx xs.length 0 lo)
def cutZ (xs : List Nat) (lo hi : Option Int) : List Nat := (xs.drop (HT.sIx xs.length 0 lo)).take (HT.sIx xs.length xs.length hi - HT.sIx xs.length 0 lo)
theorem cut_rep {vs : List V} {ds : List D} (h : c.reps F vs ds) (lo hi : Option Int) : c.reps F (cutV vs lo hi) (cutD ds lo hi) := by
  unfold cutV cutD
  rw [h.len]
  exact (h.drop _).take _
def dSl (d : D) (lo hi : Option Int) : Option Sl := match d with
  | .lst ds => some (.ow (cutD ds lo hi))
  | .tup ds => some (.va (.tup (cutD ds lo hi)))
  | _ => none
def rSlB (K : PySem.W.Frag) : V → Option Int → Option Int → Hp → VK → Prop := fun x lo hi H Q => rSlL K x lo hi H Q ∨ rSlA K x lo hi H Q
theorem sl_both : SlR X (rSlB X.K) := fun pins s σ H x v vl vu lo hi sl Q I rx hs pl pu h => h.elim (sl_list pins s σ H x v vl vu lo hi sl Q I rx hs pl pu) (sl_tupA pins s σ H x v vl vu lo hi sl Q I rx hs pl pu)
theorem sl_ok (hK : c.K = K) {lo hi : Option Int} {Q : VK} {s : Sl} (w : Wd c F H σ ρ T) (n : Now c F H x d) (h : dSl d lo hi = some s) (q : ∀ F' H', Same F F' → kL c T σ Q s ρ F' H') : rSlB K x lo hi H Q := by
  subst hK
  unfold dSl at h
  split at h
  · obtain ⟨a, vs, rfl, h1, h2⟩ := now_lst n
    cases h
    exact .inl ⟨a, vs, rfl, SqL.of h1, fun p hp => new_lst w hp (cut_rep h2 lo hi) q⟩
  · obtain ⟨a, vs, rfl, h1, h2⟩ := now_tup n
    cases h
    refine .inr ⟨a, vs, rfl, (h1.same w.sub).t, fun hw => ?_, fun _ p hp => new_tup w hp (cut_rep h2 lo hi) q⟩
    refine q F H (Same.refl _) w _ ?_
    have : ∀ {α : Type} (l : List α), HT.sIx l.length 0 lo = 0 ∧ HT.sIx l.length l.length hi = l.length → (l.drop (HT.sIx l.length 0 lo)).take (HT.sIx l.length l.length hi - HT.sIx l.length 0 lo) = l := fun l hh => by
      rw [hh.1, hh.2, List.drop_zero, Nat.sub_zero, List.take_length]
    rw [show cutD _ lo hi = _ from this _ (by rw [← h2.len]; exact hw)]
    exact .tup h1 h2
  · cases h
variable {lo hi : Option Expr} {p2 : Pos} {ma mb : M D} {ml mh : M (Option Int)} {i j : Nat}
theorem g_sl (hK : c.K = X.K) (ha : PE X a (tE c ma)) (hl : PO X lo (tO c ml)) (hh : PO X hi (tO c mh)) : PE X (.Subscript a (.Slice lo hi none p2) pos) (tL c (bnd ma fun d => bnd ml fun l => bnd mh fun u => opt (dSl d l u))) :=
  peI (pe_slice sl_both ha hl hh) fun σ H Q ⟨F, ρ, T, w, g⟩ => ⟨F, ρ, T, w, g.split.imp fun d ρ1 F1 H1 s1 g1 w1 v rv => ⟨F1, ρ1, T, w1, g1.split.imp fun l ρ2 F2 H2 s2 g2 w2 => ⟨F2, ρ2, T, w2, g2.split.imp fun u ρ3 F3 H3 s3 g3 w3 => by
    obtain ⟨s, hs, k⟩ := g3.opt
    exact sl_ok hK w3 (now_of w3.sub (rv.same (s2.trans s3))) hs k⟩⟩⟩
def slP (i : Nat) (ml mh : M (Option Int)) : M Sl := bnd (pk i) fun _ => bnd ml fun l => bnd mh fun u => bnd (pk i) fun d => opt (dSl d l u)
theorem g_slP (hK : c.K = X.K) (ha : PE X a (tVar i)) (hl : PO X lo (tO c ml)) (hh : PO X hi (tO c mh)) : PE X (.Subscript a (.Slice lo hi none p2) pos) (tL c (slP i ml mh)) :=
  peI (pe_slice sl_both ha hl hh) fun σ H Q ⟨F, ρ, T, w, g⟩ => by
    obtain ⟨v, hv⟩ := w.has g.split
    obtain ⟨_, _, g0⟩ := w.see hv g.split
    have g0 := g0 F H (Same.refl _)
    exact ⟨v, hv, F, ρ, T, w, g0.split.imp fun l ρ2 F2 H2 s2 g2 w2 => ⟨F2, ρ2, T, w2, g2.split.imp fun u ρ3 F3 H3 s3 g3 w3 => by
      obtain ⟨d, n, g4⟩ := w3.see hv g3.split
      obtain ⟨s, hs, k⟩ := (g4 F3 H3 (Same.refl _)).opt
      exact sl_ok hK w3 n hs k⟩⟩

/-! ### tests, and, or, not, if -/
def truD : D → Option Bool
  | .non => some false
  | .bl b => some b
  | .int i => some (i != 0)
  | .str z => if z.length ≤ 100000 then some ((z.length : Int) != 0) else none
  | .lst ds => some (!ds.isEmpty)
  | .tup ds => some (!ds.isEmpty)
  | .scr ns => some (!ns.isEmpty)
  | _ => none
theorem tru_okD (hK : c.K = K) {k : Bool} (w : Wd c F H σ ρ T) (n : Now c F H x d) (h : truD d = some k) : TruV K x H k := by
  subst hK
  cases d with
  | non => cases n; cases h; rfl
  | bl b => cases n; cases h; rfl
  | int b => cases n; cases h; rfl
  | str z =>
    cases n
    change (if z.length ≤ 100000 then some ((z.length : Int) != 0) else none) = some k at h
    split at h
    · cases h; exact ⟨lim ‹_›, rfl⟩
    · cases h
  | raw v => cases h
  | scr ns =>
    obtain ⟨a, rfl, h1⟩ := now_scr n
    cases h
    exact .inl ⟨_, w.sub.seq h1, by rw [List.isEmpty_map]⟩
  | lst ds =>
    obtain ⟨a, vs, rfl, h1, h2⟩ := now_lst n
    cases h
    exact .inl ⟨_, SqL.of h1, by cases h2 <;> rfl⟩
  | tup ds =>
    obtain ⟨a, vs, rfl, h1, h2⟩ := now_tup n
    cases h
    exact .inr (.inl ⟨_, (h1.same w.sub).t, by cases h2 <;> rfl⟩)
  | ob _ _ _ => cases h
  | exn _ _ _ => cases h
  | cls _ => cases h
variable {m m' : M Bool}
theorem mt_tru (hK : c.K = X.K) (ha : PE X a (tE c ma)) (he : ∀ whole, isTrue a X.env whole = (do let v ← whole; standAt a.pos; holding [v] (truthy v)) := by intro _; rfl) : PT X a (tT c (un truD ma)) :=
  ptI (pt_truth ha he) fun σ H Q ⟨F, ρ, T, w, g⟩ => ⟨F, ρ, T, w, g.split.imp fun d ρ1 F1 H1 s1 g1 w1 v rv => by
    obtain ⟨k, hk, q⟩ := g1.opt
    exact ⟨k, tru_okD hK w1 (now_of w1.sub rv) hk, q F1 H1 (Same.refl _) w1⟩⟩
theorem mt_truP (hK : c.K = X.K) (ha : PE X a (tVar i)) (he : ∀ whole, isTrue a X.env whole = (do let v ← whole; standAt a.pos; holding [v] (truthy v)) := by intro _; rfl) : PT X a (tT c (un truD (pk i))) :=
  ptI (pt_truth ha he) fun σ H Q ⟨F, ρ, T, w, g⟩ => by
    obtain ⟨v, hv⟩ := w.has g.split
    obtain ⟨d, n, g1⟩ := w.see hv g.split
    obtain ⟨k, hk, q⟩ := (g1 F H (Same.refl _)).opt
    exact ⟨v, hv, k, tru_okD hK w n hk, q F H (Same.refl _) w⟩
def asB : D → Option Bool
  | .bl b => some b
  | _ => none
theorem rep_bl {v : V} {k : Bool} (h : asB d = some k) (r : c.rep F v d) : v = .bl k := by
  cases d with
  | bl b => cases h; cases r; rfl
  | _ => cases h
/-- a comparison as a test: its value is a truth -/
theorem mt_cmp {t : TE} {mv : M D} (h : PT X e (tTest t)) (i : ∀ σ H Q, tE c mv σ H Q → t σ H Q) : PT X e (tT c (un asB mv)) := ptI h fun σ H Q ⟨F, ρ, T, w, g⟩ => i σ H _ ⟨F, ρ, T, w, g.split.imp fun d ρ1 F1 H1 s1 g1 w1 v rv => by
  obtain ⟨k, hk, q⟩ := g1.opt
  exact ⟨k, rep_bl hk rv, q F1 H1 (Same.refl _) w1⟩⟩
def mAnd (m m' : M Bool) : M Bool := bnd m fun k => if k = true then m' else ret false
def mOr (m m' : M Bool) : M Bool := bnd m fun k => if k = true then ret true else m'
def mNot (m : M Bool) : M Bool := bnd m fun k => ret (!k)
theorem mw_one {op} (hop : op = BoolOp.And ∨ op = BoolOp.Or) (h : PT X a (tT c m)) : PW X (.BoolOp op [a] pos) (tT c m) := by
  rcases hop with rfl | rfl
  · exact pw_and1 h
  · exact pw_or1 h
theorem mw_and (h : PT X a (tT c m)) (h' : PW X (.BoolOp .And (b :: rest) pos) (tT c m')) : PW X (.BoolOp .And (a :: b :: rest) pos) (tT c (mAnd m m')) := pwI (pw_and h h') fun σ H Q ⟨F, ρ, T, w, g⟩ => ⟨F, ρ, T, w, g.split.imp fun k ρ1 F1 H1 s1 g1 w1 => by
  cases k with
  | true => exact iteT ⟨F1, ρ1, T, w1, g1⟩
  | false => exact iteF (g1 F1 H1 (Same.refl _) w1)⟩
theorem mw_or (h : PT X a (tT c m)) (h' : PW X (.BoolOp .Or (b :: rest) pos) (tT c m')) : PW X (.BoolOp .Or (a :: b :: rest) pos) (tT c (mOr m m')) := pwI (pw_or h h') fun σ H Q ⟨F, ρ, T, w, g⟩ => ⟨F, ρ, T, w, g.split.imp fun k ρ1 F1 H1 s1 g1 w1 => by
  cases k with
  | false => exact iteF ⟨F1, ρ1, T, w1, g1⟩
  | true => exact iteT (g1 F1 H1 (Same.refl _) w1)⟩
theorem mt_not (h : PT X a (tT c m)) : PT X (.UnaryOp .Not a pos) (tT c (mNot m)) := ptI (pt_not h) fun σ H Q ⟨F, ρ, T, w, g⟩ => ⟨F, ρ, T, w, g.split.imp fun k ρ1 F1 H1 s1 g1 w1 => g1 F1 H1 (Same.refl _) w1⟩
/-- as values -/
def vAnd (ma mb : M D) : M D := bnd ma fun d => bnd (opt (truD d)) fun k => if k = true then mb else ret d
def vOr (ma mb : M D) : M D := bnd ma fun d => bnd (opt (truD d)) fun k => if k = true then ret d else mb
def dNot (d : D) : Option D := (truD d).map fun k => .bl (!k)
theorem me_one {op} (h : PE X a (tE c ma)) : PE X (.BoolOp op [a] pos) (tE c ma) := pe_one h
theorem me_and (hK : c.K = X.K) (h : PE X a (tE c ma)) (h' : PE X (.BoolOp .And (b :: rest) pos) (tE c mb)) : PE X (.BoolOp .And (a :: b :: rest) pos) (tE c (vAnd ma mb)) := peI (pe_andT h h') fun σ H Q ⟨F, ρ, T, w, g⟩ => ⟨F, ρ, T, w, g.split.imp fun d ρ1 F1 H1 s1 g1 w1 v rv => by
  obtain ⟨k, hk, q⟩ := g1.split.opt
  have q := q F1 H1 (Same.refl _)
  refine ⟨k, tru_okD hK w1 (now_of w1.sub rv) hk, ?_⟩
  cases k with
  | true => exact iteT ⟨F1, ρ1, T, w1, q⟩
  | false => exact iteF (q F1 H1 (Same.refl _) w1 v rv)⟩
theorem me_or (hK : c.K = X.K) (h : PE X a (tE c ma)) (h' : PE X (.BoolOp .Or (b :: rest) pos) (tE c mb)) : PE X (.BoolOp .Or (a :: b :: rest) pos) (tE c (vOr ma mb)) := peI (pe_orT h h') fun σ H Q ⟨F, ρ, T, w, g⟩ => ⟨F, ρ, T, w, g.split.imp fun d ρ1 F1 H1 s1 g1 w1 v rv => by
  obtain ⟨k, hk, q⟩ := g1.split.opt
  have q := q F1 H1 (Same.refl _)
  refine ⟨k, tru_okD hK w1 (now_of w1.sub rv) hk, ?_⟩
  cases k with
  | false => exact iteF ⟨F1, ρ1, T, w1, q⟩
  | true => exact iteT (q F1 H1 (Same.refl _) w1 v rv)⟩
theorem me_not (hK : c.K = X.K) (h : PE X a (tE c ma)) : PE X (.UnaryOp .Not a pos) (tE c (un dNot ma)) := peI (pe_notT h) fun σ H Q ⟨F, ρ, T, w, g⟩ => ⟨F, ρ, T, w, g.split.imp fun d ρ1 F1 H1 s1 g1 w1 v rv => by
  obtain ⟨o, ho, q⟩ := g1.opt
  unfold dNot at ho
  cases e : truD d with
  | none => rw [e] at ho; cases ho
  | some k =>
    rw [e] at ho
    cases ho
    exact ⟨k, tru_okD hK w1 (now_of w1.sub rv) e, q F1 H1 (Same.refl _) w1 _ (.bl _)⟩⟩
def mIf (m : M Bool) (ma mb : M β) : M β := bnd m fun k => if k = true then ma else mb
theorem g_if {kk : Tm → L2.St → VK → β → En → Hp → Hp → Prop} {mx my : M β} {cc : Expr} (hc : PT X cc (tT c m)) (ha : PE X a (tX c kk mx)) (hb : PE X b (tX c kk my)) : PE X (.IfExp cc a b pos) (tX c kk (mIf m mx my)) := peI (pe_ifExp hc ha hb) fun σ H Q ⟨F, ρ, T, w, g⟩ => ⟨F, ρ, T, w, g.split.imp fun k ρ1 F1 H1 s1 g1 w1 => by
  cases k with
  | true => exact iteT ⟨F1, ρ1, T, w1, g1⟩
  | false => exact iteF ⟨F1, ρ1, T, w1, g1⟩⟩
end
end Mir

namespace Mir
open PySem PySem.Spec PyProof.Rows L2
section
variable {X : Cx} {c : Mc} {K : PySem.W.Frag} {F F' H H' : Hp} {σ : L2.St} {ρ ρ' : En} {T : Tm} {α β : Type} {e a b : Expr} {es rest : List Expr} {pos p : Pos} {x : V} {d : D} {i j : Nat}
/-! ### several values -/
abbrev kD (c : Mc) (T : Tm) (σ : L2.St) (Q : List V → Hp → Prop) : List D → En → Hp → Hp → Prop := fun ds ρ' F' H' => Wd c F' H' σ ρ' T → ∀ vs, c.reps F' vs ds → Q vs H'
def tD (c : Mc) (m : M (List D)) : TA := fun σ H Q => ∃ F ρ T, Wd c F H σ ρ T ∧ Go c F T σ (m ρ) (kD c T σ Q)
theorem paI {t t' : TA} (h : PA X es t) (i : ∀ σ H Q, t' σ H Q → t σ H Q) : PA X es t' := ⟨fun ps pins s σ H Q I q => h.run ps pins s σ H Q I (i σ H Q q)⟩
def mCons (m : M D) (ms : M (List D)) : M (List D) := bnd m fun d => bnd ms fun ds => ret (d :: ds)
theorem md_nil : PA X [] (tD c (ret [])) := paI pa_nil fun σ H Q ⟨F, ρ, T, w, g⟩ => g F H (Same.refl _) w [] .nil
theorem md_cons {m : M D} {ms : M (List D)} (h : PE X e (tE c m)) (hs : PA X es (tD c ms)) (hq : starEach (e :: es) X.env = (false, eval e X.env) :: starEach es X.env := by rfl) : PA X (e :: es) (tD c (mCons m ms)) :=
  paI (pa_cons h hs hq) fun σ H Q ⟨F, ρ, T, w, g⟩ => ⟨F, ρ, T, w, g.split.imp fun d ρ1 F1 H1 s1 g1 w1 v rv => ⟨F1, ρ1, T, w1, g1.split.imp fun ds ρ2 F2 H2 s2 g2 w2 vs rs =>
    g2 F2 H2 (Same.refl _) w2 (v :: vs) (.cons (rv.same s2) rs)⟩⟩
def dTup (ds : List D) : Option D := if ds.length ≤ 100000 then some (.tup ds) else none
def dLst (ds : List D) : Option Sl := if ds.length ≤ 100000 then some (.ow ds) else none
variable {ms : M (List D)}
theorem me_tup {x1} (h : PA X es (tD c ms)) : PE X (.Tuple es x1 pos) (tE c (bnd ms fun ds => opt (dTup ds))) := peI (pe_tup h) fun σ H Q ⟨F, ρ, T, w, g⟩ => ⟨F, ρ, T, w, g.split.imp fun ds ρ1 F1 H1 s1 g1 w1 vs rs => by
  obtain ⟨d, hd, k⟩ := g1.opt
  unfold dTup at hd
  split at hd
  · cases hd
    exact ⟨by rw [rs.len]; exact lim ‹_›, fun p hp => new_tup w1 hp rs k⟩
  · cases hd⟩
theorem ml_lst (h : PA X es (tD c ms)) : PE X (.List es pos) (tL c (bnd ms fun ds => opt (dLst ds))) := peI (pe_lst h) fun σ H Q ⟨F, ρ, T, w, g⟩ => ⟨F, ρ, T, w, g.split.imp fun ds ρ1 F1 H1 s1 g1 w1 vs rs => by
  obtain ⟨d, hd, k⟩ := g1.opt
  unfold dLst at hd
  split at hd
  · cases hd
    exact ⟨by rw [rs.len]; exact lim ‹_›, fun p hp => new_lst w1 hp rs k⟩
  · cases hd⟩

/-! ### built-ins -/
inductive Nows (c : Mc) (F H : Hp) : List V → List D → Prop
  | nil : Nows c F H [] []
  | cons {v : V} {d : D} {vs : List V} {ds : List D} (h : Now c F H v d) (hs : Nows c F H vs ds) : Nows c F H (v :: vs) (d :: ds)
theorem nows_of (e : Same F H) : ∀ {vs : List V} {ds : List D}, c.reps F vs ds → Nows c F H vs ds
  | _, _, .nil => .nil
  | _, _, .cons h hs => .cons (now_of e h) (nows_of e hs)
variable {kk : Tm → L2.St → VK → β → En → Hp → Hp → Prop} {r : List V → Hp → VK → Prop} {f : List D → Option β}
structure OpN (c : Mc) (kk : Tm → L2.St → VK → β → En → Hp → Hp → Prop) (r : List V → Hp → VK → Prop) (f : List D → Option β) : Prop where
  run : ∀ {F H σ ρ T vs ds d} {Q : VK}, Wd c F H σ ρ T → Nows c F H vs ds → f ds = some d → (∀ F' H', Same F F' → kk T σ Q d ρ F' H') → r vs H Q
theorem g_cb (hr : OpN c kk r f) (h : PE X e (tCB r (tD c ms))) : PE X e (tX c kk (bnd ms fun ds => opt (f ds))) := peI h fun σ H Q ⟨F, ρ, T, w, g⟩ => ⟨F, ρ, T, w, g.split.imp fun ds ρ1 F1 H1 s1 g1 w1 vs rs => by
  obtain ⟨d, hd, k⟩ := g1.opt
  exact hr.run w1 (nows_of w1.sub rs) hd k⟩
theorem g_cbP (hr : OpN c kk r f) (h : PE X e (tCB r (tCons (tVar i) tNil))) : PE X e (tX c kk (un (fun d => f [d]) (pk i))) := peI h fun σ H Q ⟨F, ρ, T, w, g⟩ => by
  obtain ⟨x, hx⟩ := w.has g.split
  obtain ⟨d1, n1, g1⟩ := w.see hx g.split
  obtain ⟨d, hf, k⟩ := (g1 F H (Same.refl _)).opt
  exact ⟨x, hx, hr.run w (.cons n1 .nil) hf k⟩
/-- one argument, two -/
def f1 (f : D → Option β) : List D → Option β
  | [d] => f d
  | _ => none
def f2 (f : D → D → Option β) : List D → Option β
  | [d, e] => f d e
  | _ => none
theorem opN1 {f : D → Option β} (h : ∀ {F H σ ρ T x d1 d} {Q : VK}, Wd c F H σ ρ T → Now c F H x d1 → f d1 = some d → (∀ F' H', Same F F' → kk T σ Q d ρ F' H') → r [x] H Q) : OpN c kk r (f1 f) := by
  constructor
  intro F H σ ρ T vs ds d Q w n hf k
  unfold f1 at hf
  split at hf
  · cases n with
    | cons n1 n2 => cases n2; exact h w n1 hf k
  · cases hf
theorem opN2 {f : D → D → Option β} (h : ∀ {F H σ ρ T x y d1 d2 d} {Q : VK}, Wd c F H σ ρ T → Now c F H x d1 → Now c F H y d2 → f d1 d2 = some d → (∀ F' H', Same F F' → kk T σ Q d ρ F' H') → r [x, y] H Q) : OpN c kk r (f2 f) := by
  constructor
  intro F H σ ρ T vs ds d Q w n hf k
  unfold f2 at hf
  split at hf
  · cases n with
    | cons n1 n2 =>
      cases n2 with
      | cons n2 n3 => cases n3; exact h w n1 n2 hf k
  · cases hf
def lenD : D → Option D
  | .lst ds => some (.int ds.length)
  | .tup ds => some (.int ds.length)
  | .scr ns => some (.int ns.length)
  | .str z => if z.length ≤ 100000 then some (.int z.length) else none
  | _ => none
theorem o_len (hK : c.K = K) : OpN c (kE c) (fun xs H Q => ∃ x n, xs = [x] ∧ LenV K x H n ∧ Q (.int n) H) (f1 lenD) := opN1 fun {F H σ ρ T x d1 d Q} w n h k => by
  subst hK
  unfold lenD at h
  split at h
  · obtain ⟨a, vs, rfl, h1, h2⟩ := now_lst n
    cases h
    exact ⟨_, _, rfl, .inl ⟨_, SqL.of h1, rfl⟩, k F H (Same.refl _) w _ (by rw [h2.len]; exact .int _)⟩
  · obtain ⟨a, vs, rfl, h1, h2⟩ := now_tup n
    cases h
    exact ⟨_, _, rfl, .inr ⟨_, (h1.same w.sub).t, rfl⟩, k F H (Same.refl _) w _ (by rw [h2.len]; exact .int _)⟩
  · obtain ⟨a, rfl, h1⟩ := now_scr n
    cases h
    exact ⟨_, _, rfl, .inl ⟨_, w.sub.seq h1, rfl⟩, k F H (Same.refl _) w _ (by rw [List.length_map]; exact .int _)⟩
  · cases now_str n
    split at h
    · cases h
      exact ⟨_, _, rfl, ⟨lim ‹_›, rfl⟩, k F H (Same.refl _) w _ (.int _)⟩
    · cases h
  · cases h
def absD : D → Option D
  | .int i => some (.int (if i < 0 then -i else i))
  | _ => none
theorem o_abs : OpN c (kE c) (fun xs H Q => ∃ i, xs = [.int i] ∧ Q (.int (if i < 0 then -i else i)) H) (f1 absD) := opN1 fun {F H σ ρ T x d1 d Q} w n h k => by
  unfold absD at h
  split at h
  · cases now_int n
    cases h
    exact ⟨_, rfl, k F H (Same.refl _) w _ (.int _)⟩
  · cases h
def intD : D → Option D
  | .int i => some (.int i)
  | .bl b => some (.int (if b then 1 else 0))
  | _ => none
theorem o_int : OpN c (kE c) (fun xs H Q => (∃ i, xs = [.int i] ∧ Q (.int i) H) ∨ ∃ k, xs = [.bl k] ∧ Q (.int (if k then 1 else 0)) H) (f1 intD) := opN1 fun {F H σ ρ T x d1 d Q} w n h k => by
  unfold intD at h
  split at h
  · cases now_int n
    cases h
    exact .inl ⟨_, rfl, k F H (Same.refl _) w _ (.int _)⟩
  · cases now_bl n
    cases h
    exact .inr ⟨_, rfl, k F H (Same.refl _) w _ (.int _)⟩
  · cases h
def maxD : D → D → Option D
  | .int i, .int j => some (.int (if j > i then j else i))
  | _, _ => none
def minD : D → D → Option D
  | .int i, .int j => some (.int (if j < i then j else i))
  | _, _ => none
theorem o_max : OpN c (kE c) (fun xs H Q => ∃ i j, xs = [.int i, .int j] ∧ Q (.int (if j > i then j else i)) H) (f2 maxD) := opN2 fun {F H σ ρ T x y d1 d2 d Q} w n1 n2 h k => by
  unfold maxD at h
  split at h
  · cases now_int n1
    cases now_int n2
    cases h
    exact ⟨_, _, rfl, k F H (Same.refl _) w _ (.int _)⟩
  · cases h
theorem o_min : OpN c (kE c) (fun xs H Q => ∃ i j, xs = [.int i, .int j] ∧ Q (.int (if j < i then j else i)) H) (f2 minD) := opN2 fun {F H σ ρ T x y d1 d2 d Q} w n1 n2 h k => by
  unfold minD at h
  split at h
  · cases now_int n1
    cases now_int n2
    cases h
    exact ⟨_, _, rfl, k F H (Same.refl _) w _ (.int _)⟩
  · cases h
def intsD : List D → Option (List Int)
  | [] => some []
  | .int i :: ds => (intsD ds).map (i :: ·)
  | _ => none
theorem ints_some : ∀ {ds : List D} {ns : List Int}, intsD ds = some ns → ds = ns.map D.int
  | [], ns, h => by cases h; rfl
  | d :: ds, ns, h => by
    cases d with
    | int i =>
      change (intsD ds).map (i :: ·) = some ns at h
      cases q : intsD ds with
      | none => rw [q] at h; cases h
      | some ms =>
        rw [q] at h
        cases h
        rw [ints_some q]
        rfl
    | _ => cases h
theorem ints_map (ns : List Int) : intsD (ns.map D.int) = some ns := by
  induction ns with
  | nil => rfl
  | cons n ns ih =>
    change (intsD (ns.map D.int)).map (n :: ·) = _
    rw [ih]
    rfl
def blsD : List D → Option (List Bool)
  | [] => some []
  | .bl i :: ds => (blsD ds).map (i :: ·)
  | _ => none
theorem bls_some : ∀ {ds : List D} {ns : List Bool}, blsD ds = some ns → ds = ns.map D.bl
  | [], ns, h => by cases h; rfl
  | d :: ds, ns, h => by
    cases d with
    | bl i =>
      change (blsD ds).map (i :: ·) = some ns at h
      cases q : blsD ds with
      | none => rw [q] at h; cases h
      | some ms =>
        rw [q] at h
        cases h
        rw [bls_some q]
        rfl
    | _ => cases h
theorem bls_map (ns : List Bool) : blsD (ns.map D.bl) = some ns := by
  induction ns with
  | nil => rfl
  | cons n ns ih =>
    change (blsD (ns.map D.bl)).map (n :: ·) = _
    rw [ih]
    rfl
def sumD : D → Option D
  | .lst ds => (intsD ds).map fun ns => .int ns.sum
  | _ => none
theorem o_sum (hK : c.K = K) : OpN c (kE c) (rSum K) (f1 sumD) := opN1 fun {F H σ ρ T x d1 d Q} w n h k => by
  subst hK
  unfold sumD at h
  split at h
  · rename_i ds
    obtain ⟨a, vs, rfl, h1, h2⟩ := now_lst n
    cases q : intsD ds with
    | none => rw [q] at h; cases h
    | some ns =>
      rw [q] at h
      cases h
      rw [ints_some q] at h2
      cases h2.toInts
      exact ⟨a, ns, rfl, SqL.of h1, k F H (Same.refl _) w _ (.int _)⟩
  · cases h
def allD : D → Option D
  | .lst ds => (blsD ds).map fun ns => .bl (ns.all id)
  | _ => none
def anyD : D → Option D
  | .lst ds => (blsD ds).map fun ns => .bl (ns.any id)
  | _ => none
theorem o_all (hK : c.K = K) : OpN c (kE c) (rAll K) (f1 allD) := opN1 fun {F H σ ρ T x d1 d Q} w n h k => by
  subst hK
  unfold allD at h
  split at h
  · rename_i ds
    obtain ⟨a, vs, rfl, h1, h2⟩ := now_lst n
    cases q : blsD ds with
    | none => rw [q] at h; cases h
    | some ns =>
      rw [q] at h
      cases h
      rw [bls_some q] at h2
      cases h2.toBls
      exact ⟨a, ns, rfl, SqL.of h1, k F H (Same.refl _) w _ (.bl _)⟩
  · cases h
theorem o_any (hK : c.K = K) : OpN c (kE c) (rAny K) (f1 anyD) := opN1 fun {F H σ ρ T x d1 d Q} w n h k => by
  subst hK
  unfold anyD at h
  split at h
  · rename_i ds
    obtain ⟨a, vs, rfl, h1, h2⟩ := now_lst n
    cases q : blsD ds with
    | none => rw [q] at h; cases h
    | some ns =>
      rw [q] at h
      cases h
      rw [bls_some q] at h2
      cases h2.toBls
      exact ⟨a, ns, rfl, SqL.of h1, k F H (Same.refl _) w _ (.bl _)⟩
  · cases h
def seqD : D → Option (List D)
  | .lst ds => some ds
  | .tup ds => some ds
  | .scr ns => some (ns.map .int)
  | _ => none
def listD (d : D) : Option Sl := (seqD d).map .ow
def tupleD (d : D) : Option D := (seqD d).map .tup
theorem o_list (hK : c.K = K) : OpN c (kL c) (fun xs H Q => ∃ p ys, xs = [.ref p] ∧ (SqL K H p ys ∨ SqT K H p ys) ∧ ∀ l, H l = none → Q (.ref l) (upd H l (.lst ys))) (f1 listD) := opN1 fun {F H σ ρ T x d1 d Q} w n h k => by
  subst hK
  unfold listD seqD at h
  split at h
  · obtain ⟨a, vs, rfl, h1, h2⟩ := now_lst n
    cases h
    exact ⟨a, vs, rfl, .inl (SqL.of h1), fun p hp => new_lst w hp h2 k⟩
  · obtain ⟨a, vs, rfl, h1, h2⟩ := now_tup n
    cases h
    exact ⟨a, vs, rfl, .inr ((h1.same w.sub).t), fun p hp => new_lst w hp h2 k⟩
  · obtain ⟨a, rfl, h1⟩ := now_scr n
    cases h
    exact ⟨a, _, rfl, .inl (w.sub.seq h1), fun p hp => new_lst w hp (Reps.ints _) k⟩
  · cases h
theorem o_tuple (hK : c.K = K) : OpN c (kE c) (fun xs H Q => ∃ p ys, xs = [.ref p] ∧ ((SqL K H p ys ∧ ∀ l, H l = none → Q (.ref l) (upd H l (.tup ys))) ∨ (SqT K H p ys ∧ Q (.ref p) H))) (f1 tupleD) := opN1 fun {F H σ ρ T x d1 d Q} w n h k => by
  subst hK
  unfold tupleD seqD at h
  split at h
  · obtain ⟨a, vs, rfl, h1, h2⟩ := now_lst n
    cases h
    exact ⟨a, vs, rfl, .inl ⟨SqL.of h1, fun p hp => new_tup w hp h2 k⟩⟩
  · obtain ⟨a, vs, rfl, h1, h2⟩ := now_tup n
    cases h
    exact ⟨a, vs, rfl, .inr ⟨(h1.same w.sub).t, k F H (Same.refl _) w _ (.tup h1 h2)⟩⟩
  · obtain ⟨a, rfl, h1⟩ := now_scr n
    cases h
    exact ⟨a, _, rfl, .inl ⟨w.sub.seq h1, fun p hp => new_tup w hp (Reps.ints _) k⟩⟩
  · cases h
/-! ### isinstance of built-in classes -/
def tyN : D → Option String
  | .non => some "NoneType"
  | .bl _ => some "bool"
  | .int _ => some "int"
  | .str _ => some "str"
  | .lst _ => some "list"
  | .tup _ => some "tuple"
  | _ => none
theorem ty_of (w : Wd c F H σ ρ T) (n : Now c F H x d) {s : String} (h : tyN d = some s) : TyX c.K H x (.type s) := by
  cases d with
  | non => cases n; cases h; exact .base .non
  | bl b => cases n; cases h; exact .base (.bl b)
  | int b => cases n; cases h; exact .base (.int b)
  | str b => cases n; cases h; exact .base (.str b)
  | lst ds =>
    obtain ⟨a, vs, rfl, h1, h2⟩ := now_lst n
    cases h
    exact .base (.lst h1)
  | tup ds =>
    obtain ⟨a, vs, rfl, h1, h2⟩ := now_tup n
    cases h
    rcases h1.same w.sub with h3 | ⟨o, its, k, h3, h4, _⟩
    · exact .base (.tup h3)
    · exact .kTuple h3 h4
  | raw v => cases h
  | scr _ => cases h
  | ob _ _ _ => cases h
  | exn _ _ _ => cases h
  | cls _ => cases h
def isi1 (d : D) : D → Option Bool
  | .raw (.ty t) => (tyN d).bind fun s => kitB s t
  | _ => none
def isiD (d e : D) : Option D := (isi1 d e).map .bl
theorem o_isi (hK : c.K = K) : OpN c (kE c) (rIsi K) (f2 isiD) := opN2 fun {F H σ ρ T x y d1 d2 d Q} w n1 n2 h k => by
  subst hK
  unfold isiD isi1 at h
  split at h
  · rename_i t
    cases n2
    cases q : tyN d1 with
    | none => rw [q] at h; cases h
    | some s =>
      rw [q] at h
      change (kitB s t).map D.bl = some d at h
      cases q2 : kitB s t with
      | none => rw [q2] at h; cases h
      | some z =>
        rw [q2] at h
        cases h
        exact ⟨x, .ty t, _, _, z, rfl, .ty t, ty_of w n1 q, kit_ty q2, k F H (Same.refl _) w _ (.bl _)⟩
  · cases h
/-- one of several -/
def clsN : List D → Option (List String)
  | [] => some []
  | .raw (.ty t) :: es => (clsN es).map (t :: ·)
  | _ => none
def anyK (s : String) : List String → Option Bool
  | [] => some false
  | t :: ts => match kitB s t with
    | some true => some true
    | some false => anyK s ts
    | none => none
def isiTD (d : D) : D → Option D
  | .tup es => (tyN d).bind fun s => (clsN es).bind fun ts => (anyK s ts).map .bl
  | _ => none
theorem clsN_ok : ∀ {vs : List V} {es : List D}, c.reps F vs es → ∀ {ts : List String}, clsN es = some ts → Paired ClsV vs (ts.map Value.type)
  | _, _, .nil, ts, h => by cases h; exact .nil
  | _, _, .cons (v := v) (d := e) (ds := es) r rs, ts, h => by
    cases e with
    | raw u =>
      cases u with
      | ty t =>
        change (clsN es).map (t :: ·) = some ts at h
        cases z : clsN es with
        | none => rw [z] at h; cases h
        | some ts' =>
          rw [z] at h
          cases h
          cases r
          exact .cons (.ty t) (clsN_ok rs z)
      | _ => cases h
    | _ => cases h
theorem anyK_ok {s : String} : ∀ {ts : List String} {z : Bool}, anyK s ts = some z → PySem.W.kitAny K (.type s) (ts.map Value.type) = some z
  | [], z, h => by cases h; rfl
  | t :: ts, z, h => by
    unfold anyK at h
    cases q : kitB s t with
    | none => rw [q] at h; cases h
    | some k =>
      rw [q] at h
      cases k with
      | true => cases h; exact kitAny_cons (kit_ty q) (fun z => by cases z) (fun _ => rfl)
      | false => exact kitAny_cons (kit_ty q) (fun _ => anyK_ok h) (fun z => by cases z)
def rIsiA (K : PySem.W.Frag) : List V → Hp → VK → Prop := fun xs H Q => rIsiT K xs H Q ∨ rIsiK K xs H Q
theorem call_isiA : CallR X (.builtin "isinstance") (rIsiA X.K) := orC call_isiT call_isiK
theorem o_isiT (hK : c.K = K) : OpN c (kE c) (rIsiA K) (f2 isiTD) := opN2 fun {F H σ ρ T x y d1 d2 d Q} w n1 n2 h k => by
  subst hK
  unfold isiTD at h
  split at h
  · rename_i es
    obtain ⟨a, vs, rfl, h1, h2⟩ := now_tup n2
    cases q : tyN d1 with
    | none => rw [q] at h; cases h
    | some s =>
      rw [q] at h
      change ((clsN es).bind fun ts => (anyK s ts).map D.bl) = some d at h
      cases q2 : clsN es with
      | none => rw [q2] at h; cases h
      | some ts =>
        rw [q2] at h
        change (anyK s ts).map D.bl = some d at h
        cases q3 : anyK s ts with
        | none => rw [q3] at h; cases h
        | some z =>
          rw [q3] at h
          cases h
          rcases h1.same w.sub with h3 | ⟨o, its, nn, h3, h4, h5, h6, h7⟩
          · exact .inl ⟨x, a, vs, _, _, z, rfl, h3, clsN_ok h2 q2, ty_of w n1 q, anyK_ok q3, k F H (Same.refl _) w _ (.bl _)⟩
          · have e1 := ClsV.all (clsN_ok h2 q2) h7
            obtain ⟨oc, od, dt, sl⟩ := o
            simp only at h4 h5
            subst h4 h5
            have h3' : c.K.lookup a = some ⟨.type "tuple", od, .seq (ts.map Value.type).toArray nn, sl⟩ := by
              rw [← e1]
              simpa using h3
            exact .inr ⟨x, a, od, ts.map Value.type, nn, sl, .type s, z, rfl, h3', ty_of w n1 q, anyK_ok q3, k F H (Same.refl _) w _ (.bl _)⟩
  · cases h
end
end Mir

namespace Mir
open PySem PySem.Spec PyProof.Rows L2
section
variable {X : Cx} {c : Mc} {K : PySem.W.Frag} {F F' H H' : Hp} {σ : L2.St} {ρ ρ' : En} {T : Tm} {α β : Type} {e a b tg : Expr} {es rest : List Expr} {pos p : Pos} {x : V} {d : D} {i j : Nat}
/-! ### what is walked -/
def WalkD (c : Mc) (F : Hp) (J : It) (ds : List D) : Prop := ∃ (G : Hp → Prop) (Y : Nat → Hp → V → Hp → Prop), Walk J ds.length G Y ∧ (∀ H, Same F H → G H) ∧
  ∀ i H x H', i < ds.length → Same F H → Y i H x H' → ∃ d, ds[i]? = some d ∧ ((H' = H ∧ c.rep F x d) ∨ ∃ p vs es, x = V.ref p ∧ H p = none ∧ H' = upd H p (.tup vs) ∧ d = .tup es ∧ c.reps F vs es)
abbrev kI (c : Mc) (T : Tm) (σ : L2.St) (R : It → Hp → Prop) : List D → En → Hp → Hp → Prop := fun ds ρ' F' H' => Wd c F' H' σ ρ' T → ∀ J, WalkD c F' J ds → R J H'
def tI (c : Mc) (m : M (List D)) : TI := fun σ H R => ∃ F ρ T, Wd c F H σ ρ T ∧ Go c F T σ (m ρ) (kI c T σ R)
theorem piI {t t' : TI} (h : PI X tg e t) (i : ∀ σ H R, t' σ H R → t σ H R) : PI X tg e t' := ⟨fun pins s σ H R I q => h.run pins s σ H R I (i σ H R q)⟩
variable {m : M D} {ms : M (List D)}
theorem walkL {a : Addr} {vs : List V} {ds : List D} (h : SqL c.K F a vs) (r : c.reps F vs ds) : WalkD c F (Itl c.K a) ds := ⟨_, _, by rw [← r.len]; exact walk_list (xs := vs), fun H e => e.seq h, fun i H x H' _ _ y => by
  obtain ⟨h1, h2⟩ := y
  obtain ⟨d, h3, h4⟩ := r.getV h2
  exact ⟨d, h3, .inl ⟨h1, h4⟩⟩⟩
theorem walkT {a : Addr} {vs : List V} {ds : List D} (h : SqU c.K F a vs) (r : c.reps F vs ds) : WalkD c F (Itt c.K a) ds := ⟨_, _, by rw [← r.len]; exact walk_tup (xs := vs), fun H e => (h.same e).t, fun i H x H' _ _ y => by
  obtain ⟨h1, h2⟩ := y
  obtain ⟨d, h3, h4⟩ := r.getV h2
  exact ⟨d, h3, .inl ⟨h1, h4⟩⟩⟩
/-- a list or a tuple -/
theorem mi_seq (hK : c.K = X.K) (h : PE X e (tE c m)) : PI X tg e (tI c (un seqD m)) := by
  refine ⟨fun pins s σ H R I q => ?_⟩
  obtain ⟨F, ρ, T, w, g⟩ := q
  have g' := g.split
  cases z : m ρ with
  | ex n f d ρ' =>
    refine (pi_list (tg := tg) h).run pins s σ H R I ⟨F, ρ, T, w, ?_⟩
    rw [z] at g' ⊢
    exact g'
  | no => rw [z] at g'; exact g'.elim
  | ok d ρ1 =>
    rw [z] at g'
    cases d with
    | lst ds =>
      refine (pi_list (tg := tg) h).run pins s σ H R I ⟨F, ρ, T, w, ?_⟩
      rw [z]
      intro F1 H1 s1 w1 v rv
      obtain ⟨l, hl, k⟩ := (g' F1 H1 s1).opt
      cases hl
      cases rv with
      | lst h1 hs =>
        rw [← hK]
        exact ⟨_, rfl, ⟨_, SqL.of (w1.sub _ _ h1)⟩, k F1 H1 (Same.refl _) w1 _ (walkL (SqL.of h1) hs)⟩
    | scr ns =>
      refine (pi_list (tg := tg) h).run pins s σ H R I ⟨F, ρ, T, w, ?_⟩
      rw [z]
      intro F1 H1 s1 w1 v rv
      obtain ⟨l, hl, k⟩ := (g' F1 H1 s1).opt
      cases hl
      cases rv with
      | scr h1 =>
        rw [← hK]
        exact ⟨_, rfl, ⟨_, w1.sub.seq h1⟩, k F1 H1 (Same.refl _) w1 _ (walkL h1 (Reps.ints _))⟩
    | tup ds =>
      refine (pi_tup (tg := tg) h).run pins s σ H R I ⟨F, ρ, T, w, ?_⟩
      rw [z]
      intro F1 H1 s1 w1 v rv
      obtain ⟨l, hl, k⟩ := (g' F1 H1 s1).opt
      cases hl
      cases rv with
      | tup h1 hs =>
        rw [← hK]
        exact ⟨_, rfl, ⟨_, (h1.same w1.sub).t⟩, k F1 H1 (Same.refl _) w1 _ (walkT h1 hs)⟩
    | non => obtain ⟨l, hl, k⟩ := (g' F H (Same.refl _)).opt; cases hl
    | bl _ => obtain ⟨l, hl, k⟩ := (g' F H (Same.refl _)).opt; cases hl
    | int _ => obtain ⟨l, hl, k⟩ := (g' F H (Same.refl _)).opt; cases hl
    | str _ => obtain ⟨l, hl, k⟩ := (g' F H (Same.refl _)).opt; cases hl
    | raw _ => obtain ⟨l, hl, k⟩ := (g' F H (Same.refl _)).opt; cases hl
    | ob _ _ _ => obtain ⟨l, hl, k⟩ := (g' F H (Same.refl _)).opt; cases hl
    | cls _ => obtain ⟨l, hl, k⟩ := (g' F H (Same.refl _)).opt; cases hl
    | exn _ _ _ => obtain ⟨l, hl, k⟩ := (g' F H (Same.refl _)).opt; cases hl
/-- lo, lo + 1, .. -/
def upto (lo : Int) (n : Nat) : List D := (List.range n).map fun (i : Nat) => .int (lo + (i : Int))
def uptoC (lo k : Int) (n : Nat) : List D := (List.range n).map fun (i : Nat) => .int (lo + (i : Int) * k)
theorem get_upto {f : Nat → D} {n i : Nat} (h : i < n) : ((List.range n).map f)[i]? = some (f i) := by
  rw [List.getElem?_map, List.getElem?_range h]
  rfl
theorem walkR {lo : Int} {n : Nat} : WalkD c F (Itr lo n) (upto lo n) := ⟨_, _, by unfold upto; rw [List.length_map, List.length_range]; exact walk_range, fun _ _ => trivial, fun i H x H' hi _ y => by
  obtain ⟨h1, h2⟩ := y
  unfold upto at hi
  rw [List.length_map, List.length_range] at hi
  exact ⟨.int (lo + i), get_upto hi, .inl ⟨h1, by rw [h2]; exact .int _⟩⟩⟩
theorem walkRC {lo k : Int} {n : Nat} : WalkD c F (Itc lo k n) (uptoC lo k n) := ⟨_, _, by unfold uptoC; rw [List.length_map, List.length_range]; exact walk_rangeC, fun _ _ => trivial, fun i H x H' hi _ y => by
  obtain ⟨h1, h2⟩ := y
  unfold uptoC at hi
  rw [List.length_map, List.length_range] at hi
  exact ⟨.int (lo + (i : Nat) * k), get_upto hi, .inl ⟨h1, by rw [h2]; exact .int _⟩⟩⟩
def in62 (i : Int) : Bool := Nat.blt i.natAbs 4611686018427387904
theorem in62_ok {i : Int} (h : in62 i = true) : -(2 ^ 62) ≤ i ∧ i < 2 ^ 62 := by
  have := blt_ok h
  omega
def rng1 : List D → Option (List D)
  | [.int j] => if in62 j = true then some (upto 0 j.toNat) else none
  | _ => none
def rng2 : List D → Option (List D)
  | [.int i, .int j] => if in62 i = true ∧ in62 j = true then some (upto i (j - i).toNat) else none
  | _ => none
theorem reps1 {vs : List V} {d : D} (h : c.reps F vs [d]) : ∃ v, vs = [v] ∧ c.rep F v d := by
  cases h with
  | cons h hs => cases hs; exact ⟨_, rfl, h⟩
theorem reps2 {vs : List V} {d e : D} (h : c.reps F vs [d, e]) : ∃ v u, vs = [v, u] ∧ c.rep F v d ∧ c.rep F u e := by
  cases h with
  | cons h hs => obtain ⟨u, rfl, h2⟩ := reps1 hs; exact ⟨_, _, rfl, h, h2⟩
theorem reps3 {vs : List V} {d e f : D} (h : c.reps F vs [d, e, f]) : ∃ v u w, vs = [v, u, w] ∧ c.rep F v d ∧ c.rep F u e ∧ c.rep F w f := by
  cases h with
  | cons h hs => obtain ⟨u, w, rfl, h2, h3⟩ := reps2 hs; exact ⟨_, _, _, rfl, h, h2, h3⟩
theorem mi_rng1 (hg : Gl X "range") (hm : X.mg "range" = none) (h : PA X [a] (tD c ms)) (hs : starEach [a] X.env = [(false, eval a X.env)] := by rfl) : PI X tg (.Call (.Name "range" p) [a] [] pos) (tI c (bnd ms fun ds => opt (rng1 ds))) :=
  piI (pi_range1 hg hm h hs) fun σ H R ⟨F, ρ, T, w, g⟩ => ⟨F, ρ, T, w, g.split.imp fun ds ρ1 F1 H1 s1 g1 w1 vs rs => by
    obtain ⟨l, hl, k⟩ := g1.opt
    unfold rng1 at hl
    split at hl
    · obtain ⟨v, rfl, r1⟩ := reps1 rs
      cases r1
      split at hl
      · cases hl
        have q := in62_ok ‹in62 _ = true›
        exact ⟨_, rfl, q.1, q.2, k F1 H1 (Same.refl _) w1 _ walkR⟩
      · cases hl
    · cases hl⟩
theorem mi_rng2 (hg : Gl X "range") (hm : X.mg "range" = none) (h : PA X [a, b] (tD c ms)) (hs : starEach [a, b] X.env = [(false, eval a X.env), (false, eval b X.env)] := by rfl) (hs2 : starEach [b] X.env = [(false, eval b X.env)] := by rfl) : PI X tg (.Call (.Name "range" p) [a, b] [] pos) (tI c (bnd ms fun ds => opt (rng2 ds))) :=
  piI (pi_range2 hg hm h hs hs2) fun σ H R ⟨F, ρ, T, w, g⟩ => ⟨F, ρ, T, w, g.split.imp fun ds ρ1 F1 H1 s1 g1 w1 vs rs => by
    obtain ⟨l, hl, k⟩ := g1.opt
    unfold rng2 at hl
    split at hl
    · obtain ⟨v, u, rfl, r1, r2⟩ := reps2 rs
      cases r1
      cases r2
      split at hl
      · cases hl
        obtain ⟨q1, q2⟩ := (‹_ ∧ _› : _ ∧ _)
        have q1 := in62_ok q1
        have q2 := in62_ok q2
        exact ⟨_, _, rfl, ⟨q1.1, q1.2, q2.1, q2.2⟩, k F1 H1 (Same.refl _) w1 _ walkR⟩
      · cases hl
    · cases hl⟩
theorem small_of {i j k : Int} (h0 : k ≠ 0) (h1 : k.natAbs < 1073741824) (h2 : i.natAbs < 1099511627776) (h3 : j.natAbs < 1099511627776) : Builtin.Range.small i j k = true := by
  have r1 := rangeSize_toNat i j k
  have r2 := rangeSize_toNat_le i j k
  unfold Builtin.Range.small
  simp only [Builtin.Range.rangeFitsLong, Bool.and_eq_true, Bool.or_eq_true, decide_eq_true_eq]
  refine ⟨⟨⟨⟨⟨by omega, by omega⟩, ⟨by omega, by omega⟩⟩, ⟨by omega, by omega⟩⟩, ⟨by omega, by omega⟩⟩, .inr ?_⟩
  split
  · rw [Bool.and_eq_true, decide_eq_true_eq, decide_eq_true_eq]
    exact ⟨by omega, by omega⟩
  · rw [Bool.and_eq_true, decide_eq_true_eq, decide_eq_true_eq]
    exact ⟨by omega, by omega⟩
theorem nz_ok {k : Int} (h : (!(k == 0)) = true) : k ≠ 0 := fun z => by
  subst z
  cases h
/-- any step but 0 -/
def rng3 : List D → Option (List D)
  | [.int i, .int j, .int k] => if (!(k == 0) && (Nat.blt k.natAbs 1073741824 && (Nat.blt i.natAbs 1099511627776 && Nat.blt j.natAbs 1099511627776))) = true then some (uptoC i k (Builtin.Range.rangeSize i j k).toNat) else none
  | _ => none
variable {cc : Expr}
theorem mi_rng3 (hg : Gl X "range") (hm : X.mg "range" = none) (h : PA X [a, b, cc] (tD c ms)) (hs : starEach [a, b, cc] X.env = (false, eval a X.env) :: starEach [b, cc] X.env := by rfl) (hpl : (backTo pos (starEach [b, cc] X.env)).any (·.1) = false := by rfl) :
    PI X tg (.Call (.Name "range" p) [a, b, cc] [] pos) (tI c (bnd ms fun ds => opt (rng3 ds))) :=
  piI (pi_range3 hg hm h hs hpl) fun σ H R ⟨F, ρ, T, w, g⟩ => ⟨F, ρ, T, w, g.split.imp fun ds ρ1 F1 H1 s1 g1 w1 vs rs => by
    obtain ⟨l, hl, k⟩ := g1.opt
    unfold rng3 at hl
    split at hl
    · obtain ⟨v, u, y, rfl, r1, r2, r3⟩ := reps3 rs
      cases r1
      cases r2
      cases r3
      split at hl
      · cases hl
        rename_i hh
        obtain ⟨q1, hh⟩ := (Bool.and_eq_true _ _).mp hh
        obtain ⟨q2, hh⟩ := (Bool.and_eq_true _ _).mp hh
        obtain ⟨q3, q4⟩ := (Bool.and_eq_true _ _).mp hh
        have q2 := blt_ok q2
        have q3 := blt_ok q3
        have q4 := blt_ok q4
        have q1 := nz_ok q1
        exact ⟨_, _, _, _, rfl, ⟨q1, q2, small_of q1 q2 q3 q4, (rangeSize_toNat _ _ _)⟩, k F1 H1 (Same.refl _) w1 _ walkRC⟩
      · cases hl
    · cases hl⟩
/-- pairs by their number -/
def enumF (k : Int) : List D → List D
  | [] => []
  | d :: ds => .tup [.int k, d] :: enumF (k + 1) ds
theorem enumF_get : ∀ {ds : List D} {k : Int} {i : Nat} {d : D}, ds[i]? = some d → (enumF k ds)[i]? = some (.tup [.int (k + i), d])
  | [], _, i, d, h => by cases i <;> cases h
  | e :: ds, k, 0, d, h => by
    cases h
    show some _ = some _
    rw [show k + ((0 : Nat) : Int) = k by omega]
  | e :: ds, k, i + 1, d, h => by
    have := enumF_get (k := k + 1) (i := i) (d := d) (ds := ds) h
    show (enumF (k + 1) ds)[i]? = _
    rw [this, show k + 1 + (i : Int) = k + ((i + 1 : Nat) : Int) by omega]
theorem enumF_len : ∀ (ds : List D) (k : Int), (enumF k ds).length = ds.length
  | [], _ => rfl
  | e :: ds, k => by unfold enumF; rw [List.length_cons, List.length_cons, enumF_len]
def enD : List D → Option (List D)
  | [.lst ds] => some (enumF 0 ds)
  | _ => none
theorem mi_enum {tpos : Pos} {elts : List Expr} {kk : Nat} (hK : c.K = X.K) (hg : Gl X "enumerate") (hm : X.mg "enumerate" = none) (h : PA X [e] (tD c ms)) (hs : starEach [e] X.env = [(false, eval e X.env)] := by rfl) :
    PI X (.Tuple elts kk tpos) (.Call (.Name "enumerate" p) [e] [] pos) (tI c (bnd ms fun ds => opt (enD ds))) :=
  piI (pi_enum hg hm h hs) fun σ H R ⟨F, ρ, T, w, g⟩ => ⟨F, ρ, T, w, g.split.imp fun ds ρ1 F1 H1 s1 g1 w1 vs rs => by
    obtain ⟨l, hl, k⟩ := g1.opt
    unfold enD at hl
    split at hl
    · rename_i ds
      obtain ⟨v, rfl, r1⟩ := reps1 rs
      cases hl
      cases r1 with
      | lst h1 hs =>
        rename_i a us
        rw [← hK]
        refine ⟨a, us, rfl, SqL.of (w1.sub _ _ h1), k F1 H1 (Same.refl _) w1 _ ⟨_, _, by rw [enumF_len, ← hs.len]; exact walk_enum (xs := us), fun H e => SqL.of (e _ _ h1), fun i H x H' hi _ y => ?_⟩⟩
        obtain ⟨p, y1, y2, q1, q2, q3, q4, q5⟩ := y
        cases q4
        obtain ⟨d, h3, h4⟩ := hs.getV q5
        exact ⟨_, enumF_get h3, .inr ⟨p, _, [.int (0 + (i : Int)), d], q1, q2, q3, rfl, .cons (by rw [Int.zero_add]; exact .int _) (.cons h4 .nil)⟩⟩
    · cases hl⟩
/-- two at once -/
def zipF : List D → List D → List D
  | d :: ds, e :: es => .tup [d, e] :: zipF ds es
  | _, _ => []
theorem zipF_len : ∀ (ds es : List D), (zipF ds es).length = min ds.length es.length
  | [], _ => by simp [zipF]
  | _ :: _, [] => by simp [zipF]
  | d :: ds, e :: es => by unfold zipF; rw [List.length_cons, List.length_cons, List.length_cons, zipF_len]; omega
theorem zipF_get : ∀ {ds es : List D} {i : Nat} {d e : D}, ds[i]? = some d → es[i]? = some e → (zipF ds es)[i]? = some (.tup [d, e])
  | [], _, i, d, e, h, _ => by cases i <;> cases h
  | _ :: _, [], i, d, e, _, h => by cases i <;> cases h
  | _ :: _, _ :: _, 0, d, e, h, g => by cases h; cases g; rfl
  | _ :: ds, _ :: es, i + 1, d, e, h, g => zipF_get (ds := ds) (es := es) (i := i) h g
def zpD : List D → Option (List D)
  | [.lst ds, .lst es] => some (zipF ds es)
  | [.tup ds, .tup es] => if ds.length = es.length then some (zipF ds es) else none
  | _ => none
theorem walk_zipT {a b : Addr} {xs ys : List V} (hl : xs.length = ys.length) : Walk (RZ.ItzT K a b) xs.length (fun H => SqT K H a xs ∧ SqT K H b ys) (YPair (fun i => xs[i]?) (fun i => ys[i]?)) := by
  refine ⟨fun i H hi q => ?_, fun H q => ?_, fun i H v H' hi q y => ?_⟩
  · exact ⟨xs, ys, xs[i], ys[i]'(by omega), q.1, q.2, by simp [hi], by simp [show i < ys.length by omega]⟩
  · exact ⟨xs, ys, q.1, q.2, by omega⟩
  · obtain ⟨T, x, z, h1, h2, h3, h4, h5⟩ := y
    exact ⟨T, x, z, h1, h2, h3, h4 xs q.1, h5 ys q.2⟩
theorem walkZ {a b : Addr} {xs ys : List V} {ds es : List D} (h1 : F a = some (.lst xs)) (h2 : F b = some (.lst ys)) (hs1 : c.reps F xs ds) (hs2 : c.reps F ys es) : WalkD c F (Itz c.K a b) (zipF ds es) :=
  ⟨fun H => SqL c.K H a xs ∧ SqL c.K H b ys, YPair (fun i => xs[i]?) (fun i => ys[i]?), by rw [zipF_len, ← hs1.len, ← hs2.len]; exact walk_zip rfl, fun H e => ⟨SqL.of (e _ _ h1), SqL.of (e _ _ h2)⟩, fun i H x H' hi _ y => by
    obtain ⟨p, y1, y2, q1, q2, q3, q4, q5⟩ := y
    obtain ⟨d, h3, h4⟩ := hs1.getV q4
    obtain ⟨d', h5, h6⟩ := hs2.getV q5
    exact ⟨_, zipF_get h3 h5, .inr ⟨p, _, [d, d'], q1, q2, q3, rfl, .cons h4 (.cons h6 .nil)⟩⟩⟩
theorem walkZT {a b : Addr} {xs ys : List V} {ds es : List D} (h1 : SqU c.K F a xs) (h2 : SqU c.K F b ys) (hs1 : c.reps F xs ds) (hs2 : c.reps F ys es) (hl : ds.length = es.length) : WalkD c F (RZ.ItzT c.K a b) (zipF ds es) := by
  have l : xs.length = ys.length := by rw [hs1.len, hs2.len]; exact hl
  have e : (zipF ds es).length = xs.length := by rw [zipF_len, hs1.len]; omega
  refine ⟨fun H => SqT c.K H a xs ∧ SqT c.K H b ys, YPair (fun i => xs[i]?) (fun i => ys[i]?), by rw [e]; exact walk_zipT l, fun H e => ⟨(h1.same e).t, (h2.same e).t⟩, fun i H x H' hi _ y => ?_⟩
  obtain ⟨p, y1, y2, q1, q2, q3, q4, q5⟩ := y
  obtain ⟨d, h3, h4⟩ := hs1.getV q4
  obtain ⟨d', h5, h6⟩ := hs2.getV q5
  exact ⟨_, zipF_get h3 h5, .inr ⟨p, _, [d, d'], q1, q2, q3, rfl, .cons h4 (.cons h6 .nil)⟩⟩
theorem mi_zip {e2 : Expr} {tpos : Pos} {elts : List Expr} {kk : Nat} (hK : c.K = X.K) (hg : Gl X "zip") (hm : X.mg "zip" = none) (h : PA X [e, e2] (tD c ms)) (hs : starEach [e, e2] X.env = (false, eval e X.env) :: starEach [e2] X.env := by rfl) (hpl : (backTo pos (starEach [e2] X.env)).any (·.1) = false := by rfl) :
    PI X (.Tuple elts kk tpos) (.Call (.Name "zip" p) [e, e2] [] pos) (tI c (bnd ms fun ds => opt (zpD ds))) :=
  piI (RZ.pi_zipA hg hm h hs hpl) fun σ H R ⟨F, ρ, T, w, g⟩ => ⟨F, ρ, T, w, g.split.imp fun ds ρ1 F1 H1 s1 g1 w1 vs rs => by
    obtain ⟨l, hl, k⟩ := g1.opt
    unfold zpD at hl
    split at hl
    · obtain ⟨v, u, rfl, r1, r2⟩ := reps2 rs
      cases hl
      cases r1 with
      | lst h1 hs1 =>
        cases r2 with
        | lst h2 hs2 =>
          rw [← hK]
          exact ⟨_, _, _, _, rfl, .inl ⟨SqL.of (w1.sub _ _ h1), SqL.of (w1.sub _ _ h2), k F1 H1 (Same.refl _) w1 _ (walkZ h1 h2 hs1 hs2)⟩⟩
    · obtain ⟨v, u, rfl, r1, r2⟩ := reps2 rs
      split at hl
      · cases hl
        cases r1 with
        | tup h1 hs1 =>
          cases r2 with
          | tup h2 hs2 =>
            rw [← hK]
            exact ⟨_, _, _, _, rfl, .inr ⟨(h1.same w1.sub).t, (h2.same w1.sub).t, k F1 H1 (Same.refl _) w1 _ (walkZT h1 h2 hs1 hs2 ‹_›)⟩⟩
      · cases hl
    · cases hl⟩

/-! ### targets -/
abbrev Tg := D → En → Option En
/-- ts: the places that may be stored to -/
def gM (c : Mc) (t : Tg) (ts : List Nat) : TG := fun v σ H Q => ∃ F ρ T d ρ', Wd c F H σ ρ T ∧ c.rep F v d ∧ t d ρ = some ρ' ∧ ∀ σ', σ'.length = σ.length → (∀ j, j ∉ ts → σ'[j]? = σ[j]?) → Wd c F H σ' ρ' T → Q σ' H
theorem pgI {t t' : TG} (h : PG X e t) (i : ∀ v σ H Q, t' v σ H Q → t v σ H Q) : PG X e t' := ⟨fun pins s σ H v u Q I r q => h.run pins s σ H v u Q I r (i v σ H Q q)⟩
def bN (i : Nat) : Tg := fun d ρ => some (ρ.set i (some (.va d)))
theorem mg_name {x : Str} (hb : ∀ a, (i, a) ∉ c.bi) (hN : X.N.Nodup) (hi : X.N[i]? = some x) (hx : Loc X.env.scope x) (hf : X.fn x = true ∨ X.env.scope.names.lookup x = some .local := by first | exact .inl rfl | exact .inr rfl | assumption) : PG X (.Name x pos) (gM c (bN i) [i]) :=
  pgI (pg_name hN hi hx hf) fun v σ H Q ⟨F, ρ, T, d, ρ', w, r, ht, q⟩ => by
    cases ht
    exact q _ (List.length_set ..) (fun j hj => List.getElem?_set_ne fun z => hj (by rw [z]; exact List.mem_singleton.mpr rfl)) (w.set hb r)
abbrev Tgs := List D → En → Option En
def gMs (c : Mc) (t : Tgs) (ts : List Nat) : TGs := fun vs σ H Q => ∃ F ρ T ds ρ', Wd c F H σ ρ T ∧ c.reps F vs ds ∧ t ds ρ = some ρ' ∧ ∀ σ', σ'.length = σ.length → (∀ j, j ∉ ts → σ'[j]? = σ[j]?) → Wd c F H σ' ρ' T → Q σ' H
theorem pgsI {t t' : TGs} (h : PGs X es t) (i : ∀ v σ H Q, t' v σ H Q → t v σ H Q) : PGs X es t' := ⟨fun pins s σ H v u Q I r q => h.run pins s σ H v u Q I r (i v σ H Q q)⟩
def bNil : Tgs := fun ds ρ => match ds with
  | [] => some ρ
  | _ => none
def bCons (t : Tg) (u : Tgs) : Tgs := fun ds ρ => match ds with
  | [] => none
  | d :: ds => (t d ρ).bind fun ρ1 => u ds ρ1
def bT (u : Tgs) : Tg := fun d ρ => match d with
  | .tup ds => u ds ρ
  | .lst ds => u ds ρ
  | _ => none
theorem mgs_nil : PGs X [] (gMs c bNil []) := pgsI pgs_nil fun vs σ H Q ⟨F, ρ, T, ds, ρ', w, r, ht, q⟩ => by
  cases r with
  | nil => cases ht; exact ⟨rfl, q σ rfl (fun _ _ => rfl) w⟩
  | cons _ _ => cases ht
variable {t : Tg} {u : Tgs} {ts us : List Nat}
theorem mgs_cons (h1 : PG X e (gM c t ts)) (h2 : PGs X es (gMs c u us)) (hs : (assignEach (e :: es) X.env).map (·.2) = assign e X.env :: (assignEach es X.env).map (·.2) := by rfl) : PGs X (e :: es) (gMs c (bCons t u) (ts ++ us)) :=
  pgsI (pgs_cons h1 h2 hs) fun vs σ H Q ⟨F, ρ, T, ds, ρ', w, r, ht, q⟩ => by
    cases r with
    | nil => cases ht
    | @cons v d vs ds r rs =>
      change ((t d ρ).bind fun ρ1 => u ds ρ1) = some ρ' at ht
      cases z : t d ρ with
      | none => rw [z] at ht; cases ht
      | some ρ1 =>
        rw [z] at ht
        exact ⟨v, vs, rfl, F, ρ, T, d, ρ1, w, r, z, fun σ1 l1 a1 w1 => ⟨F, ρ1, T, ds, ρ', w1, rs, ht, fun σ2 l2 a2 w2 => q σ2 (l2.trans l1) (fun j hj => by
          rw [List.mem_append, not_or] at hj
          exact (a2 j hj.2).trans (a1 j hj.1)) w2⟩⟩
/-- how many a tuple's target takes -/
def tgLen : Tgs → Nat → Prop := fun u n => ∀ ds ρ ρ', u ds ρ = some ρ' → ds.length = n
theorem tgLen_nil : tgLen bNil 0 := fun ds ρ ρ' h => by
  cases ds with
  | nil => rfl
  | cons _ _ => cases h
theorem tgLen_cons {n : Nat} (h : tgLen u n) : tgLen (bCons t u) (n + 1) := fun ds ρ ρ' hq => by
  cases ds with
  | nil => cases hq
  | cons d ds =>
    change ((t d ρ).bind fun ρ1 => u ds ρ1) = some ρ' at hq
    cases z : t d ρ with
    | none => rw [z] at hq; cases hq
    | some ρ1 =>
      rw [z] at hq
      rw [List.length_cons, h ds ρ1 ρ' hq]
theorem mg_tup {k n : Nat} (hK : c.K = X.K) (hc : X.calm = true) (h : PGs X es (gMs c u us)) (hl : tgLen u n) (hn : (assignEach es X.env).length = n := by rfl) (hst : (assignEach es X.env).findIdx? (·.1) = none := by rfl) : PG X (.Tuple es k pos) (gM c (bT u) us) := by
  refine ⟨fun pins s σ H v uv Q I rr ⟨F, ρ, T, d, ρ', w, r, ht, q⟩ => ?_⟩
  cases r with
  | @tup a vs ds h1 hs =>
    change u ds ρ = some ρ' at ht
    refine (pg_tup (k := k) (pos := pos) hc h hn hst).run pins s σ H _ uv Q I rr ?_
    rw [← hK]
    exact ⟨a, vs, rfl, (h1.same w.sub).t, by rw [hs.len]; exact hl _ _ _ ht, F, ρ, T, ds, ρ', w, hs, ht, q⟩
  | @lst a vs ds h1 hs =>
    change u ds ρ = some ρ' at ht
    refine (pg_lst (k := k) (pos := pos) hc h hn hst).run pins s σ H _ uv Q I rr ?_
    rw [← hK]
    exact ⟨a, vs, rfl, SqL.of (w.sub _ _ h1), by rw [hs.len]; exact hl _ _ _ ht, F, ρ, T, ds, ρ', w, hs, ht, q⟩
  | _ => cases ht
end
end Mir

namespace Mir
open PySem PySem.Spec PyProof.Rows L2
abbrev Mc.wish (c : Mc) (W : WX) : Mc := { c with W := W }
abbrev Mc.calm (c : Mc) : Mc := c.wish fun _ _ _ _ => False
section
variable {X : Cx} {c : Mc} {K : PySem.W.Frag} {F F' F0 H H' H0 : Hp} {σ : L2.St} {ρ ρ' : En} {T T' : Tm} {α β : Type} {e a b tg : Expr} {es rest : List Expr} {pos p : Pos} {x : V} {d : D} {i j : Nat} {W : WX}
theorem Wd.wish (w : Wd c F H σ ρ T) (W : WX) : Wd (c.wish W) F H σ ρ T := ⟨w.len, w.sub, w.ext, w.new, w.keep, w.va, w.ow, w.tm, w.dis, w.dit, w.nod, w.bs⟩
theorem Wd.unwish (w : Wd (c.wish W) F H σ ρ T) : Wd c F H σ ρ T := ⟨w.len, w.sub, w.ext, w.new, w.keep, w.va, w.ow, w.tm, w.dis, w.dit, w.nod, w.bs⟩
/-! ### comprehensions -/
def wipeE (ρ : En) : List Nat → En
  | [] => ρ
  | v :: vs => (wipeE ρ vs).set v none
def clearE (ρ : En) (vs : List Nat) : Bool := vs.all fun i => match ρ[i]? with
  | some (some (.ow _)) => false
  | _ => true
def back (ρ ρ' : En) : List Nat → En
  | [] => ρ'
  | v :: vs => (back ρ ρ' vs).set v (ρ.getD v none)
theorem Wd.wipe : ∀ (vs : List Nat), (∀ v ∈ vs, ∀ a, (v, a) ∉ c.bi) → Wd c F H σ ρ T → Wd c F H (L2.wipe σ vs) (wipeE ρ vs) T
  | [], _, w => w
  | v :: vs, hb, w => by
    unfold L2.wipe wipeE
    exact (Wd.wipe vs (fun u hu => hb u (List.mem_cons_of_mem _ hu)) w).clr none (hb v List.mem_cons_self)
theorem wipe_get {σ : L2.St} {j : Nat} : ∀ {vs : List Nat}, j ∉ vs → (L2.wipe σ vs)[j]? = σ[j]?
  | [], _ => rfl
  | v :: vs, h => by
    unfold L2.wipe
    rw [List.mem_cons, not_or] at h
    rw [List.getElem?_set_ne (Ne.symm h.1), wipe_get h.2]
theorem back_len {ρ ρ' : En} : ∀ {vs : List Nat}, (back ρ ρ' vs).length = ρ'.length
  | [] => rfl
  | v :: vs => by unfold back; rw [List.length_set, back_len]
theorem back_get {ρ ρ' : En} {j : Nat} : ∀ {vs : List Nat}, j ∉ vs → (back ρ ρ' vs)[j]? = ρ'[j]?
  | [], _ => rfl
  | v :: vs, h => by
    unfold back
    rw [List.mem_cons, not_or] at h
    rw [List.getElem?_set_ne (Ne.symm h.1), back_get h.2]
theorem back_in {ρ ρ' : En} {j : Nat} {s : Sl} : ∀ {vs : List Nat}, j ∈ vs → (back ρ ρ' vs)[j]? = some (some s) → ρ[j]? = some (some s)
  | v :: vs, h, e => by
    unfold back at e
    rcases get_set e with ⟨rfl, q⟩ | ⟨n, q⟩
    · rw [List.getD_eq_getElem?_getD] at q
      cases z : ρ[v]? with
      | none => rw [z] at q; cases q
      | some o => rw [z] at q; exact congrArg some q
    · rcases List.mem_cons.mp h with z | z
      · exact absurd z.symm n
      · exact back_in z q
theorem clear_in {vs : List Nat} (h : clearE ρ vs = true) (hj : j ∈ vs) {ds : List D} : ρ[j]? ≠ some (some (.ow ds)) := fun z => by
  have := List.all_eq_true.mp h j hj
  rw [z] at this
  cases this
theorem Wd.back {vs : List Nat} (w0 : Wd c F0 H0 σ ρ T) (w : Wd c F H (L2.wipe σ vs) ρ' T') (s : Same F0 F) (hf : clearE ρ vs = true) (hb : ∀ v ∈ vs, ∀ a, (v, a) ∉ c.bi) : Wd c F H σ (back ρ ρ' vs) T' :=
  have g : ∀ {j : Nat} {u : Sl}, (Mir.back ρ ρ' vs)[j]? = some (some u) → (j ∈ vs ∧ ρ[j]? = some (some u) ∧ ∃ d, u = .va d) ∨ (j ∉ vs ∧ ρ'[j]? = some (some u)) := fun {j u} h => by
    by_cases z : j ∈ vs
    · have q := back_in z h
      refine .inl ⟨z, q, ?_⟩
      cases u with
      | va d => exact ⟨d, rfl⟩
      | ow ds => exact absurd q (clear_in hf z)
    · rw [back_get z] at h
      exact .inr ⟨z, h⟩
  { len := by rw [back_len, ← w.len, wipe_length]
    sub := w.sub, ext := w.ext, new := w.new, keep := w.keep
    va := fun j d h => by
      rcases g h with ⟨z, q, _⟩ | ⟨z, q⟩
      · obtain ⟨v, h1, h2⟩ := w0.va j d q
        exact ⟨v, h1, h2.same s⟩
      · obtain ⟨v, h1, h2⟩ := w.va j d q
        rw [wipe_get z] at h1
        exact ⟨v, h1, h2⟩
    ow := fun j ds h => by
      rcases g h with ⟨z, q, d, hd⟩ | ⟨z, q⟩
      · cases hd
      · obtain ⟨v, h1, h2⟩ := w.ow j ds q
        rw [wipe_get z] at h1
        exact ⟨v, h1, h2⟩
    tm := w.tm
    dis := fun j k b ds es h1 h2 h3 h4 => by
      rcases g h1 with ⟨z, q, d, hd⟩ | ⟨z, q⟩
      · cases hd
      · rcases g h2 with ⟨z', q', d, hd⟩ | ⟨z', q'⟩
        · cases hd
        · exact w.dis j k b ds es q q' (by rw [wipe_get z]; exact h3) (by rw [wipe_get z']; exact h4)
    dit := fun j ds b es h1 h2 => by
      rcases g h1 with ⟨z, q, d, hd⟩ | ⟨z, q⟩
      · cases hd
      · exact w.dit j ds b es q (by rw [wipe_get z]; exact h2)
    nod := w.nod
    bs := fun j b h => by
      obtain ⟨ds, h1, h2⟩ := w.bs j b h
      have z : j ∉ vs := fun z => hb j z b h
      rw [wipe_get z] at h2
      exact ⟨ds, by rw [back_get z]; exact h1, h2⟩ }
theorem wipe_eq {σ σ' : L2.St} {vs : List Nat} (l : σ'.length = σ.length) (h : ∀ j, j ∉ vs → σ'[j]? = σ[j]?) : L2.wipe σ' vs = L2.wipe σ vs := by
  refine List.ext_getElem? fun j => ?_
  by_cases z : j ∈ vs
  · have q : ∀ {τ : L2.St} {us : List Nat}, j ∈ us → j < τ.length → (L2.wipe τ us)[j]? = some none := fun {τ us} => by
      induction us with
      | nil => intro h; cases h
      | cons v us ih =>
        intro hm hl
        unfold L2.wipe
        by_cases e : v = j
        · subst e
          rw [List.getElem?_set_self (by rw [wipe_length]; exact hl)]
        · rw [List.getElem?_set_ne e]
          rcases List.mem_cons.mp hm with y | y
          · exact absurd y.symm e
          · exact ih y hl
    by_cases hl : j < σ.length
    · rw [q z hl, q z (by rw [l]; exact hl)]
    · rw [List.getElem?_eq_none (by rw [wipe_length]; omega), List.getElem?_eq_none (by rw [wipe_length]; omega)]
  · rw [wipe_get z, wipe_get z, h j z]
def runLc (t : Tg) (tt : M Bool) (me : M D) (vs : List Nat) : List D → En → List D → Option (List D × En)
  | [], ρ, acc => some (acc, ρ)
  | d :: ds, ρ, acc => match t d ρ with
    | none => none
    | some ρ1 => match tt ρ1 with
      | .ok k ρ2 => if k = true then (match me ρ2 with
          | .ok y ρ3 => if acc.length < 100000 then runLc t tt me vs ds (wipeE ρ3 vs) (acc ++ [y]) else none
          | _ => none) else runLc t tt me vs ds (wipeE ρ2 vs) acc
      | _ => none
def mLc (mi : M (List D)) (t : Tg) (tt : M Bool) (me : M D) (vs : List Nat) : M Sl := bnd mi fun ds => fun ρ =>
  if clearE ρ vs = true then (match runLc t tt me vs ds (wipeE ρ vs) [] with
    | some (acc, ρ') => .ok (.ow acc) (back ρ ρ' vs)
    | none => .no) else .no
/-- what a walk gives, at a turn -/
theorem WalkD.turn {J : It} {ds : List D} {G : Hp → Prop} {Y : Nat → Hp → V → Hp → Prop} {F1 : Hp} {x : V} {H2 : Hp} (hY : ∀ i H x H', i < ds.length → Same F1 H → Y i H x H' → ∃ d, ds[i]? = some d ∧ ((H' = H ∧ c.rep F1 x d) ∨ ∃ p vs es, x = V.ref p ∧ H p = none ∧ H' = upd H p (.tup vs) ∧ d = .tup es ∧ c.reps F1 vs es))
    (hi : i < ds.length) (s : Same F1 F) (w : Wd c F H σ ρ T) (y : Y i H x H2) : ∃ d F3, ds[i]? = some d ∧ Same F F3 ∧ Wd c F3 H2 σ ρ T ∧ c.rep F3 x d := by
  obtain ⟨d, hd, h | ⟨p, vs, es, rfl, hp, rfl, rfl, hr⟩⟩ := hY i H x H2 hi (s.trans w.sub) y
  · obtain ⟨rfl, r⟩ := h
    exact ⟨d, F, hd, Same.refl _, w, r.same s⟩
  · have s2 := same_upd (o := .tup vs) (w.sub.free hp)
    exact ⟨_, _, hd, s2, w.lay _ hp, .tup (.inl upd_same) (hr.same (s.trans s2))⟩
theorem drop_cons {α : Type} {l : List α} {i : Nat} {d : α} (h : l[i]? = some d) : l.drop i = d :: l.drop (i + 1) := by
  obtain ⟨h1, h2⟩ := List.getElem?_eq_some_iff.mp h
  rw [List.drop_eq_getElem_cons h1, h2]
theorem lc_le {mi : M (List D)} {t : Tg} {ts vs : List Nat} {tt : M Bool} {me : M D} (hb : ∀ v ∈ vs, ∀ a, (v, a) ∉ c.bi) (hts : ∀ j ∈ ts, j ∈ vs) {σ : L2.St} {H : Hp} {Q : VK} (h : tL c (mLc mi t tt me vs) σ H Q) :
    tLc (tI c mi) (gM c.calm t ts) (tT c.calm tt) (tE c.calm me) vs σ H Q := by
  obtain ⟨F, ρ, T, w, g⟩ := h
  refine ⟨F, ρ, T, w, g.split.imp fun ds ρ1 F1 H1 s1 g1 w1 J hJ Dn hD => ?_⟩
  have g1 : Go c F1 T σ (if clearE ρ1 vs = true then (match runLc t tt me vs ds (wipeE ρ1 vs) [] with
    | some (acc, ρ') => Oc.ok (Sl.ow acc) (back ρ1 ρ' vs)
    | none => .no) else .no) (kL c T σ Q) := g1
  by_cases hcl : clearE ρ1 vs = true
  case neg => rw [if_neg hcl] at g1; exact g1.elim
  rw [if_pos hcl] at g1
  cases hrun : runLc t tt me vs ds (wipeE ρ1 vs) [] with
  | none => rw [hrun] at g1; exact g1.elim
  | some ar =>
    obtain ⟨acc, ρe⟩ := ar
    rw [hrun] at g1
    have g1 : ∀ F' H', Same F1 F' → ∀ a, Wd c F' H' σ (back ρ1 ρe vs) ((a, acc) :: T) → Q (.ref a) H' := g1
    obtain ⟨G, Y, wk, hG, hY⟩ := hJ
    refine lc_it wk (fun i H' => ∃ F2 ρ2 acc2, Same F1 F2 ∧ Wd c.calm F2 H' (L2.wipe σ vs) ρ2 ((Dn, acc2) :: T) ∧ runLc t tt me vs (ds.drop i) ρ2 acc2 = some (acc, ρe)) ?_ ?_ ?_ ?_
    · exact ⟨F1, wipeE ρ1 vs, [], Same.refl _, ((w1.wipe vs hb).wish _).tmp hD .nil, hrun⟩
    · rintro i H' hi ⟨F2, ρ2, acc2, s2, w2, _⟩
      exact hG H' (s2.trans w2.sub)
    · rintro i x H2 H2' hi ⟨F2, ρ2, acc2, s2, w2, run⟩ y
      obtain ⟨d, F3, hd, s3, w3, r3⟩ := WalkD.turn (c := c.calm) (J := J) (G := G) hY hi s2 w2 y
      rw [drop_cons hd] at run
      unfold runLc at run
      cases ht : t d ρ2 with
      | none => simp only [ht] at run; cases run
      | some ρ3 =>
        simp only [ht] at run
        refine ⟨F3, ρ2, _, d, ρ3, w3, r3, ht, fun σ2 l2 a2 w4 => ?_⟩
        have we : L2.wipe σ2 vs = L2.wipe σ vs := by
          rw [wipe_eq (σ := L2.wipe σ vs) (σ' := σ2) l2 fun j hj => a2 j fun z => hj (hts j z)]
          exact wipe_eq (wipe_length ..) fun j hj => wipe_get hj
        refine ⟨we, F3, ρ3, _, w4, ?_⟩
        cases hk : tt ρ3 with
        | ex _ _ _ _ => simp only [hk] at run; cases run
        | no => simp only [hk] at run; cases run
        | ok k ρ4 =>
          simp only [hk] at run
          intro F4 H4 s4 w5
          cases k with
          | false =>
            refine iteF ⟨F4, wipeE ρ4 vs, acc2, ((s2.trans s3).trans s4), ?_, by simpa using run⟩
            have := Wd.wipe (c := c.calm) vs hb w5
            rw [we] at this
            exact this
          | true =>
            refine iteT ⟨F4, ρ4, _, w5, ?_⟩
            have run : (match me ρ4 with
              | .ok y ρ3 => if acc2.length < 100000 then runLc t tt me vs (ds.drop (i + 1)) (wipeE ρ3 vs) (acc2 ++ [y]) else none
              | _ => none) = some (acc, ρe) := by simpa using run
            cases hm : me ρ4 with
            | ex _ _ _ _ => simp only [hm] at run; cases run
            | no => simp only [hm] at run; cases run
            | ok yd ρ5 =>
              simp only [hm] at run
              have run : (if acc2.length < 100000 then runLc t tt me vs (ds.drop (i + 1)) (wipeE ρ5 vs) (acc2 ++ [yd]) else none) = some (acc, ρe) := run
              by_cases hl : acc2.length < 100000
              case neg => rw [if_neg hl] at run; cases run
              rw [if_pos hl] at run
              intro F5 H5 s5 w6 v rv
              obtain ⟨⟨_, us, h1, h2⟩, _⟩ := w6.tm Dn acc2 List.mem_cons_self
              refine ⟨us, h1, by rw [h2.len]; exact lims (Nat.le_of_lt hl), F5, wipeE ρ5 vs, acc2 ++ [yd], ((s2.trans s3).trans s4).trans s5, ?_, run⟩
              have := Wd.wipe (c := c.calm) vs hb (w6.mutT (h2.append (.cons rv .nil)))
              rw [we] at this
              exact this
    · rintro H2 ⟨F2, ρ2, acc2, s2, w2, run⟩
      rw [List.drop_length] at run
      unfold runLc at run
      cases run
      exact g1 F2 H2 s2 Dn (w1.back w2.unwish s2 hcl hb)
variable {elt iter : Expr} {ifs : List Expr} {scope : Scope} {own : List (Str × Nat)} {mi : M (List D)} {t : Tg} {ts : List Nat} {tt : M Bool} {me : M D}
theorem ml_lc (hb : ∀ v ∈ own.map (·.2), ∀ a, (v, a) ∉ c.bi) (hts : ∀ j ∈ ts, j ∈ own.map (·.2)) (hc : X.calm = true) (hN : X.N.Nodup) (hi : PI X tg iter (tI c mi)) (ok : BlkOk X.N X.env.scope scope own)
    (hg : ∀ (s : Shared) (H : Hp) (C : Addr) (cl : List (Str × Addr)) (fp : List Addr), PG (X.blk s H scope (compEnvC scope cl C X.env) fp) tg (gM c.calm t ts)) (ht : ∀ (s : Shared) (H : Hp) (C : Addr) (cl : List (Str × Addr)) (fp : List Addr), PTs (X.blk s H scope (compEnvC scope cl C X.env) fp) ifs (tT c.calm tt))
    (he : ∀ (s : Shared) (H : Hp) (C : Addr) (cl : List (Str × Addr)) (fp : List Addr), PE (X.blk s H scope (compEnvC scope cl C X.env) fp) elt (tE c.calm me)) (hs : ∀ x, foldedSetIterable iter X.env x = pure x := by intro _; rfl) :
    PE X (.ListComp elt [⟨tg, iter, ifs, 0⟩] scope pos) (tL c (mLc mi t tt me (own.map (·.2)))) := peI (pe_lc hc hN hi ok hg ht he hs) fun σ H Q h => lc_le hb hts h
theorem mts_nil : PTs X [] (tT c (ret true)) := ⟨fun pins s σ H Q I ⟨F, ρ, T, w, g⟩ => pts_nil.run pins s σ H Q I (g F H (Same.refl _) w)⟩

/-! ### statements -/
inductive Fl where
  | nx (ρ : En) | rt (r : Sl) (ρ : En) | bk (ρ : En) | ct (ρ : En) | ex (c f : Str) (d : D) (ρ : En) | no
abbrev MS := En → Fl
def GoS (c : Mc) (F : Hp) (T : Tm) (o : Fl) (E : Ends) : Prop := match o with
  | .nx ρ' => ∀ σ' F' H', Same F F' → Wd c F' H' σ' ρ' T → E.nx σ' H'
  | .bk ρ' => ∀ σ' F' H', Same F F' → Wd c F' H' σ' ρ' T → E.bk σ' H'
  | .ct ρ' => ∀ σ' F' H', Same F F' → Wd c F' H' σ' ρ' T → E.ct σ' H'
  | .rt (.va d) ρ' => ∀ v σ' F' H', Same F F' → Wd c F' H' σ' ρ' T → c.rep F' v d → E.rt v H'
  | .rt (.ow ds) ρ' => ∀ a σ' F' H', Same F F' → Wd c F' H' σ' ρ' ((a, ds) :: T) → E.rt (.ref a) H'
  | .ex e f d ρ' => ∀ x w σ' F' H', Same F F' → Wd c F' H' σ' ρ' T → F' x = some (.xd [(f, w)]) → c.rep F' w d → c.W (.ref (c.cl e)) (some x) σ' H'
  | .no => False
def tS (c : Mc) (m : MS) : TS := fun E σ H => ∃ F ρ T, Wd c F H σ ρ T ∧ GoS c F T (m ρ) E
theorem GoS.up {o : Fl} {E : Ends} (h : GoS c F T o E) (e : Same F F') : GoS c F' T o E := by
  cases o with
  | rt r ρ' =>
    cases r with
    | va d => exact fun v σ' F2 H2 s => h v σ' F2 H2 (e.trans s)
    | ow ds => exact fun v σ' F2 H2 s => h v σ' F2 H2 (e.trans s)
  | ex _ _ _ _ => exact fun x w σ' F2 H2 s => h x w σ' F2 H2 (e.trans s)
  | no => exact h
  | _ => exact fun σ' F2 H2 s => h σ' F2 H2 (e.trans s)
/-- an expression's end, then a statement's -/
def thenS {α : Type} (m : M α) (k : α → MS) : MS := fun ρ => match m ρ with
  | .ok a ρ' => k a ρ'
  | .ex c f d ρ' => .ex c f d ρ'
  | .no => .no
theorem GoS.split {α : Type} {m : M α} {k : α → MS} {E : Ends} (h : GoS c F T (thenS m k ρ) E) : Go c F T σ (m ρ) (fun a ρ1 F1 _ => GoS c F1 T (k a ρ1) E) := by
  unfold thenS at h
  cases e : m ρ with
  | ok a ρ' =>
    rw [e] at h
    exact fun F2 H2 s => h.up s
  | ex n f d ρ' =>
    rw [e] at h
    exact fun x w F' H' s => h x w σ F' H' s
  | no =>
    rw [e] at h
    exact h
def sq (m1 m2 : MS) : MS := fun ρ => match m1 ρ with
  | .nx ρ' => m2 ρ'
  | o => o
variable {st : Stmt} {sts sts2 : List Stmt} {m1 m2 : MS}
theorem ms_nil : PSs X [] (tS c Fl.nx) := pssI pss_nil fun E σ H ⟨F, ρ, T, w, g⟩ => g σ F H (Same.refl _) w
theorem ms_one (h : PS X st (tS c m1)) : PSs X [st] (tS c m1) := pss_one h
theorem ms_cons (h1 : PS X st (tS c m1)) (h2 : PSs X sts (tS c m2)) : PSs X (st :: sts) (tS c (sq m1 m2)) := pssI (pss_cons h1 h2) fun E σ H ⟨F, ρ, T, w, g⟩ => ⟨F, ρ, T, w, by
  unfold sq at g
  cases z : m1 ρ with
  | nx ρ' =>
    rw [z] at g
    exact fun σ' F' H' s w' => ⟨F', ρ', T, w', g.up s⟩
  | rt r ρ' => rw [z] at g; cases r <;> exact g
  | bk ρ' => rw [z] at g; exact g
  | ct ρ' => rw [z] at g; exact g
  | ex _ _ _ _ => rw [z] at g; exact g
  | no => rw [z] at g; exact g⟩
theorem ms_pass : PS X (.Pass pos) (tS c Fl.nx) := psI ps_pass fun E σ H ⟨F, ρ, T, w, g⟩ => g σ F H (Same.refl _) w
theorem ms_break : PS X (.Break pos) (tS c Fl.bk) := psI ps_break fun E σ H ⟨F, ρ, T, w, g⟩ => g σ F H (Same.refl _) w
theorem ms_continue : PS X (.Continue pos) (tS c Fl.ct) := psI ps_continue fun E σ H ⟨F, ρ, T, w, g⟩ => g σ F H (Same.refl _) w
def ifS (m : M Bool) (m1 m2 : MS) : MS := thenS m fun k => if k = true then m1 else m2
variable {mb : M Bool} {ml : M Sl} {m : M D} {cc : Expr}
theorem ms_if (hc : PT X cc (tT c mb)) (h1 : PSs X sts (tS c m1)) (h2 : PSs X sts2 (tS c m2)) : PS X (.If cc sts sts2 pos) (tS c (ifS mb m1 m2)) := psI (ps_if hc h1 h2) fun E σ H ⟨F, ρ, T, w, g⟩ => ⟨F, ρ, T, w, g.split.imp fun k ρ1 F1 H1 s1 g1 w1 => by
  cases k with
  | true => exact iteT ⟨F1, ρ1, T, w1, g1⟩
  | false => exact iteF ⟨F1, ρ1, T, w1, g1⟩⟩
def retS (ml : M Sl) : MS := thenS ml fun s ρ => .rt s ρ
theorem ms_ret (h : PE X e (tL c ml)) : PS X (.Return (some e) pos) (tS c (retS ml)) := psI (ps_ret h) fun E σ H ⟨F, ρ, T, w, g⟩ => ⟨F, ρ, T, w, g.split.imp fun s ρ1 F1 H1 s1 g1 => by
  cases s with
  | va d => exact fun w1 v rv => g1 v σ F1 H1 (Same.refl _) w1 rv
  | ow ds => exact fun a w1 => g1 a σ F1 H1 (Same.refl _) w1⟩
theorem ms_retN : PS X (.Return none pos) (tS c fun ρ => .rt (.va .non) ρ) := psI ps_retN fun E σ H ⟨F, ρ, T, w, g⟩ => g .non σ F H (Same.refl _) w .non
def asgS (i : Nat) (ml : M Sl) : MS := thenS ml fun s ρ => .nx (ρ.set i (some s))
theorem asg_le {t : TE} (hb : ∀ a, (i, a) ∉ c.bi) (ht : ∀ σ H Q, tL c ml σ H Q → t σ H Q) {E : Ends} {σ : L2.St} {H : Hp} (h : tS c (asgS i ml) E σ H) : tAsg t (gName i) E σ H := by
  obtain ⟨F, ρ, T, w, g⟩ := h
  refine ht σ H _ ⟨F, ρ, T, w, g.split.imp fun s ρ1 F1 H1 s1 g1 => ?_⟩
  cases s with
  | va d => exact fun w1 v rv => g1 _ F1 H1 (Same.refl _) (w1.set hb rv)
  | ow ds => exact fun a w1 => g1 _ F1 H1 (Same.refl _) (w1.take hb)
theorem ms_set {x : Str} {pos' : Pos} (hb : ∀ a, (i, a) ∉ c.bi) (hN : X.N.Nodup) (hi : X.N[i]? = some x) (hx : Loc X.env.scope x) (he : PE X e (tL c ml)) (hs : swapsWith e (some (.Name x pos')) pos.line X.env = pure false := by rfl) (hf : X.fn x = true ∨ X.env.scope.names.lookup x = some .local := by first | exact .inl rfl | exact .inr rfl | assumption) :
    PS X (.Assign [.Name x pos'] e pos) (tS c (asgS i ml)) := psI (ps_set hN hi hx he hs hf) fun E σ H h => asg_le hb (fun _ _ _ q => q) h
theorem ms_setLc {y : Str} {py spos : Pos} (hbi : ∀ a, (i, a) ∉ c.bi) (hb : ∀ v ∈ own.map (·.2), ∀ a, (v, a) ∉ c.bi) (hts : ∀ j ∈ ts, j ∈ own.map (·.2)) (hc : X.calm = true) (hN : X.N.Nodup) (hy : X.N[i]? = some y) (hyl : X.env.scope.names.lookup y = some .local)
    (hsw : swapsWith (.ListComp elt [⟨tg, iter, ifs, 0⟩] scope pos) (some (.Name y py)) spos.line X.env = pure true) (hi : PI X tg iter (tI c mi)) (ok : BlkOk X.N X.env.scope scope own)
    (hg : ∀ (s : Shared) (H : Hp) (C : Addr) (cl : List (Str × Addr)) (fp : List Addr), PG (X.blk s H scope (compEnvC scope cl C X.env) fp) tg (gM c.calm t ts)) (ht : ∀ (s : Shared) (H : Hp) (C : Addr) (cl : List (Str × Addr)) (fp : List Addr), PTs (X.blk s H scope (compEnvC scope cl C X.env) fp) ifs (tT c.calm tt))
    (he : ∀ (s : Shared) (H : Hp) (C : Addr) (cl : List (Str × Addr)) (fp : List Addr), PE (X.blk s H scope (compEnvC scope cl C X.env) fp) elt (tE c.calm me)) (hs : ∀ x, foldedSetIterable iter X.env x = pure x := by intro _; rfl) :
    PS X (.Assign [.Name y py] (.ListComp elt [⟨tg, iter, ifs, 0⟩] scope pos) spos) (tS c (asgS i (mLc mi t tt me (own.map (·.2))))) := psI (ps_setLc hc hN hy hyl hsw hi ok hg ht he hs) fun E σ H h => asg_le hbi (fun _ _ _ q => lc_le hb hts q) h
/-- the parts of a tuple to names -/
def asgT (m : M D) (t : Tg) : MS := thenS m fun d ρ => match t d ρ with
  | some ρ' => .nx ρ'
  | none => .no
theorem ms_asg {tgx : Expr} (he : PE X e (tE c m)) (hg : PG X tgx (gM c t ts)) (hs : swapsWithSole [tgx] e pos.line X.env = pure false := by rfl) (hw : swappedStores [tgx] e X.env = pure none := by rfl)
    (h1 : (assignEach [tgx] X.env).map (·.2) = [assign tgx X.env] := by rfl) : PS X (.Assign [tgx] e pos) (tS c (asgT m t)) := psI (ps_asg he hg hs hw h1) fun E σ H ⟨F, ρ, T, w, g⟩ => ⟨F, ρ, T, w, g.split.imp fun d ρ1 F1 H1 s1 g1 w1 v rv => by
  have g1 : GoS c F1 T (match t d ρ1 with | some ρ' => Fl.nx ρ' | none => .no) E := g1
  cases z : t d ρ1 with
  | none => rw [z] at g1; exact g1.elim
  | some ρ2 =>
    rw [z] at g1
    exact ⟨F1, ρ1, T, d, ρ2, w1, rv, z, fun σ' _ _ w2 => g1 σ' F1 H1 (Same.refl _) w2⟩⟩
/-- an expression for what it does -/
def dropS (ml : M Sl) : MS := thenS ml fun _ ρ => .nx ρ
theorem ms_expr (h : PE X e (tL c ml)) (hs : swapsWith e none pos.line X.env = pure false := by rfl) : PS X (.Expr e pos) (tS c (dropS ml)) := psI (ps_expr h hs) fun E σ H ⟨F, ρ, T, w, g⟩ => ⟨F, ρ, T, w, g.split.imp fun s ρ1 F1 H1 s1 g1 => by
  cases s with
  | va d => exact fun w1 v rv => g1 σ F1 H1 (Same.refl _) w1
  | ow ds => exact fun a w1 => g1 σ F1 H1 (Same.refl _) w1.drop⟩
/-! ### for, while -/
def loopS (t : Tg) (m : MS) : List D → MS
  | [], ρ => .nx ρ
  | d :: ds, ρ => match t d ρ with
    | none => .no
    | some ρ1 => match m ρ1 with
      | .nx ρ2 => loopS t m ds ρ2
      | .ct ρ2 => loopS t m ds ρ2
      | .bk ρ2 => .nx ρ2
      | o => o
def forS (mi : M (List D)) (t : Tg) (m : MS) : MS := thenS mi fun ds => loopS t m ds
theorem ms_for (hp : PassesOwn (model X.prog X.w) X.A X.env X.xe) (hc : X.calm = true) (hi : PI X tg iter (tI c mi)) (hg : PG X tg (gM c t ts)) (hb : PSs X sts (tS c m1)) (hs : ∀ x, foldedSetIterable iter X.env x = pure x := by intro _; rfl) :
    PS X (.For tg iter sts [] pos) (tS c (forS mi t m1)) := psI (ps_for hp hc hi hg hb hs) fun E σ H ⟨F, ρ, T, w, g⟩ => ⟨F, ρ, T, w, g.split.imp fun ds ρ1 F1 H1 s1 g1 w1 J hJ => by
  obtain ⟨G, Y, wk, hG, hY⟩ := hJ
  refine for_it wk (fun i σ' H' => ∃ F2 ρ2, Same F1 F2 ∧ Wd c F2 H' σ' ρ2 T ∧ GoS c F2 T (loopS t m1 (ds.drop i) ρ2) E) ⟨F1, ρ1, Same.refl _, w1, g1⟩ ?_ ?_ ?_
  · rintro i σ' H' hi ⟨F2, ρ2, s2, w2, _⟩
    exact hG H' (s2.trans w2.sub)
  · rintro i x σ' H2 H2' hi ⟨F2, ρ2, s2, w2, g2⟩ y
    obtain ⟨d, F3, hd, s3, w3, r3⟩ := WalkD.turn (J := J) (G := G) hY hi s2 w2 y
    rw [drop_cons hd] at g2
    unfold loopS at g2
    cases ht : t d ρ2 with
    | none => simp only [ht] at g2; exact g2.elim
    | some ρ3 =>
      simp only [ht] at g2
      refine ⟨F3, ρ2, T, d, ρ3, w3, r3, ht, fun σ2 l2 a2 w4 => ⟨F3, ρ3, T, w4, ?_⟩⟩
      have g2 := g2.up s3
      cases hm : m1 ρ3 with
      | nx ρ4 => simp only [hm] at g2; exact fun σ4 F4 H4 s4 w5 => ⟨F4, ρ4, (s2.trans s3).trans s4, w5, g2.up s4⟩
      | ct ρ4 => simp only [hm] at g2; exact fun σ4 F4 H4 s4 w5 => ⟨F4, ρ4, (s2.trans s3).trans s4, w5, g2.up s4⟩
      | bk ρ4 => simp only [hm] at g2; exact g2
      | rt r ρ4 => simp only [hm] at g2; cases r <;> exact g2
      | ex _ _ _ _ => simp only [hm] at g2; exact g2
      | no => simp only [hm] at g2; exact g2
  · rintro σ' H' ⟨F2, ρ2, s2, w2, g2⟩
    rw [List.drop_length] at g2
    exact g2 σ' F2 H' (Same.refl _) w2⟩
/-- n turns at most -/
def whileS (mb : M Bool) (m : MS) : Nat → MS
  | 0, _ => .no
  | n + 1, ρ => match mb ρ with
    | .ok true ρ1 => (match m ρ1 with
      | .nx ρ2 => whileS mb m n ρ2
      | .ct ρ2 => whileS mb m n ρ2
      | .bk ρ2 => .nx ρ2
      | o => o)
    | .ok false ρ1 => .nx ρ1
    | .ex c f d ρ1 => .ex c f d ρ1
    | .no => .no
theorem ms_while (n : Nat) (hp : PassesOwn (model X.prog X.w) X.A X.env X.xe) (hc : PT X cc (tT c mb)) (hb : PSs X sts (tS c m1)) : PS X (.While cc sts [] pos) (tS c (whileS mb m1 n)) := psI (ps_while hp hc hb) fun E σ H ⟨F, ρ, T, w, g⟩ => by
  refine ⟨fun k σ' H' => ∃ F2 ρ2, Wd c F2 H' σ' ρ2 T ∧ GoS c F2 T (whileS mb m1 k ρ2) E, ⟨n, F, ρ, w, g⟩, ?_⟩
  rintro k σ' H' ⟨F2, ρ2, w2, g2⟩
  cases k with
  | zero => exact g2.elim
  | succ k =>
    refine ⟨F2, ρ2, T, w2, ?_⟩
    unfold whileS at g2
    cases hk : mb ρ2 with
    | no => rw [hk] at g2; exact g2
    | ex _ _ _ _ => rw [hk] at g2; exact fun x w F' H' s => g2 x w _ F' H' s
    | ok q ρ3 =>
      rw [hk] at g2
      intro F3 H3 s3 w3
      cases q with
      | false => exact iteF (g2 σ' F3 H3 s3 w3)
      | true =>
        refine iteT ⟨fun σ4 H4 => ∃ F4 ρ4, Wd c F4 H4 σ4 ρ4 T ∧ GoS c F4 T (whileS mb m1 k ρ4) E, fun σ4 H4 h => ⟨k, Nat.lt_succ_self _, h⟩, F3, ρ3, T, w3, ?_⟩
        have g2 := GoS.up (F' := F3) g2 s3
        cases hm : m1 ρ3 with
        | nx ρ4 => simp only [hm] at g2; exact fun σ4 F4 H4 s4 w5 => ⟨F4, ρ4, w5, g2.up s4⟩
        | ct ρ4 => simp only [hm] at g2; exact fun σ4 F4 H4 s4 w5 => ⟨F4, ρ4, w5, g2.up s4⟩
        | bk ρ4 => simp only [hm] at g2; exact g2
        | rt r ρ4 => simp only [hm] at g2; cases r <;> exact g2
        | ex _ _ _ _ => simp only [hm] at g2; exact g2
        | no => simp only [hm] at g2; exact g2
end
end Mir

namespace Mir
open PySem PySem.Spec PyProof.Rows L2
section
variable {X : Cx} {c : Mc} {K : PySem.W.Frag} {F F' F0 H H' H0 : Hp} {σ : L2.St} {ρ ρ' : En} {T T' : Tm} {α β : Type} {e a b tg : Expr} {es rest : List Expr} {pos p : Pos} {x : V} {d : D} {i j l : Nat} {W : WX}
/-! ### several values, some of them new lists -/
inductive Tks (c : Mc) (F : Hp) : List Sl → List V → Tm → Tm → Prop
  | nil {T : Tm} : Tks c F [] [] T T
  | va {v : V} {d : D} {ss : List Sl} {vs : List V} {T T' : Tm} (h : c.rep F v d) (t : Tks c F ss vs T T') : Tks c F (.va d :: ss) (v :: vs) T T'
  | ow {a : Addr} {ds : List D} {ss : List Sl} {vs : List V} {T T' : Tm} (t : Tks c F ss vs ((a, ds) :: T) T') : Tks c F (.ow ds :: ss) (.ref a :: vs) T T'
abbrev kLs (c : Mc) (T : Tm) (σ : L2.St) (Q : List V → Hp → Prop) : List Sl → En → Hp → Hp → Prop := fun ss ρ' F' H' => ∀ vs T', Tks c F' ss vs T T' → Wd c F' H' σ ρ' T' → Q vs H'
def tLs (c : Mc) (m : M (List Sl)) : TA := fun σ H Q => ∃ F ρ T, Wd c F H σ ρ T ∧ Go c F T σ (m ρ) (kLs c T σ Q)
theorem Go.tmp {o : Oc α} {k : α → En → Hp → Hp → Prop} {q : Addr × List D} (h : Go c F T σ o k) : Go c F (q :: T) σ o k := by
  cases o with
  | ok a ρ' => exact h
  | ex n f d ρ' => exact fun x w F2 H2 s w2 => h x w F2 H2 s w2.drop
  | no => exact h
variable {ms : M (List Sl)} {ml : M Sl} {md : M (List D)} {m : M D}
def lCons (m : M Sl) (ms : M (List Sl)) : M (List Sl) := bnd m fun s => bnd ms fun ss => ret (s :: ss)
theorem mls_nil : PA X [] (tLs c (ret [])) := paI pa_nil fun σ H Q ⟨F, ρ, T, w, g⟩ => g F H (Same.refl _) [] T .nil w
theorem mls_cons (h : PE X e (tL c ml)) (hs : PA X es (tLs c ms)) (hq : starEach (e :: es) X.env = (false, eval e X.env) :: starEach es X.env := by rfl) : PA X (e :: es) (tLs c (lCons ml ms)) :=
  paI (pa_cons h hs hq) fun σ H Q ⟨F, ρ, T, w, g⟩ => ⟨F, ρ, T, w, g.split.imp fun s ρ1 F1 H1 s1 g1 => by
    cases s with
    | va d => exact fun w1 v rv => ⟨F1, ρ1, T, w1, g1.split.imp fun ss ρ2 F2 H2 s2 g2 vs T' tk w2 => g2 F2 H2 (Same.refl _) (v :: vs) T' (.va (rv.same s2) tk) w2⟩
    | ow ds => exact fun a w1 => ⟨F1, ρ1, _, w1, g1.split.tmp.imp fun ss ρ2 F2 H2 s2 g2 vs T' tk w2 => g2 F2 H2 (Same.refl _) (.ref a :: vs) T' (.ow tk) w2⟩⟩
/-- stored from the last one on -/
def putV (σ : L2.St) : List Nat → List V → L2.St
  | i :: is, v :: vs => (putV σ is vs).set i (some v)
  | _, _ => σ
def putE (ρ : En) : List Nat → List Sl → En
  | i :: is, s :: ss => (putE ρ is ss).set i (some s)
  | _, _ => ρ
theorem Wd.put : ∀ {is : List Nat} {ss : List Sl} {vs : List V} {T T' : Tm}, Tks c F ss vs T T' → is.length = ss.length → (∀ i ∈ is, ∀ a, (i, a) ∉ c.bi) → Wd c F H σ ρ T' → Wd c F H (putV σ is vs) (putE ρ is ss) T
  | [], _, _, _, _, .nil, _, _, w => w
  | i :: is, _, _, _, _, .va r t, hl, hb, w => by
    unfold putV putE
    exact (Wd.put t (Nat.succ.inj hl) (fun k hk => hb k (List.mem_cons_of_mem _ hk)) w).set (hb i List.mem_cons_self) r
  | i :: is, _, _, _, _, .ow t, hl, hb, w => by
    unfold putV putE
    exact (Wd.put t (Nat.succ.inj hl) (fun k hk => hb k (List.mem_cons_of_mem _ hk)) w).take (hb i List.mem_cons_self)
  | [], _, _, _, _, .va _ _, hl, _, _ => by cases hl
  | [], _, _, _, _, .ow _, hl, _, _ => by cases hl
  | _ :: _, _, _, _, _, .nil, hl, _, _ => by cases hl
theorem Tks.len : ∀ {ss : List Sl} {vs : List V} {T T' : Tm}, Tks c F ss vs T T' → vs.length = ss.length
  | _, _, _, _, .nil => rfl
  | _, _, _, _, .va _ t => congrArg Nat.succ t.len
  | _, _, _, _, .ow t => congrArg Nat.succ t.len
def parS (is : List Nat) (ms : M (List Sl)) : MS := thenS ms fun ss ρ => if ss.length = is.length then .nx (putE ρ is ss) else .no
theorem ms_par {x y : Str} {px py pt : Pos} {kt k2 pt2} (hb : ∀ k ∈ [i, j], ∀ a, (k, a) ∉ c.bi) (hc : X.calm = true) (hN : X.N.Nodup) (hi : X.N[i]? = some x) (hj : X.N[j]? = some y) (hij : i ≠ j)
    (hx : X.env.scope.names.lookup x = some .local) (hy : X.env.scope.names.lookup y = some .local) (ha : PA X [a, b] (tLs c ms))
    (hw : swappedStores [.Tuple [.Name x px, .Name y py] kt pt] (.Tuple [a, b] k2 pt2) X.env = pure (some [x, y]))
    (hs : swapsWithSole [.Tuple [.Name x px, .Name y py] kt pt] (.Tuple [a, b] k2 pt2) pos.line X.env = pure false := by rfl) :
    PS X (.Assign [.Tuple [.Name x px, .Name y py] kt pt] (.Tuple [a, b] k2 pt2) pos) (tS c (parS [i, j] ms)) := psI (ps_par hc hN hi hj hij hx hy ha hw hs) fun E σ H ⟨F, ρ, T, w, g⟩ => ⟨F, ρ, T, w, g.split.imp fun ss ρ1 F1 H1 s1 g1 vs T' tk w1 => by
  have g1 : GoS c F1 T (if ss.length = [i, j].length then Fl.nx (putE ρ1 [i, j] ss) else .no) E := g1
  by_cases hl : ss.length = [i, j].length
  case neg => rw [if_neg hl] at g1; exact g1.elim
  rw [if_pos hl] at g1
  have w2 := w1.put (is := [i, j]) tk hl.symm hb
  have lv := tk.len.trans hl
  match vs, lv with
  | [v, u], _ =>
    refine ⟨v, u, rfl, ?_⟩
    have e : putV σ [i, j] [v, u] = (σ.set i (some v)).set j (some u) := List.set_comm _ _ (Ne.symm hij)
    rw [← e]
    exact g1 _ F1 H1 (Same.refl _) w2⟩
theorem ms_par3 {a3 : Expr} (hb : ∀ k ∈ [i, j, l], ∀ a, (k, a) ∉ c.bi) (hij : i ≠ j) (hil : i ≠ l) (hjl : j ≠ l) {tgx : Expr} {ex : Expr} (h : ∀ ta, PA X [a, b, a3] ta → PS X (.Assign [tgx] ex pos) (tPar3 i j l ta)) (ha : PA X [a, b, a3] (tLs c ms)) :
    PS X (.Assign [tgx] ex pos) (tS c (parS [i, j, l] ms)) := psI (h _ ha) fun E σ H ⟨F, ρ, T, w, g⟩ => ⟨F, ρ, T, w, g.split.imp fun ss ρ1 F1 H1 s1 g1 vs T' tk w1 => by
  have g1 : GoS c F1 T (if ss.length = [i, j, l].length then Fl.nx (putE ρ1 [i, j, l] ss) else .no) E := g1
  by_cases hl : ss.length = [i, j, l].length
  case neg => rw [if_neg hl] at g1; exact g1.elim
  rw [if_pos hl] at g1
  have w2 := w1.put (is := [i, j, l]) tk hl.symm hb
  have lv := tk.len.trans hl
  match vs, lv with
  | [v, u, y], _ =>
    refine ⟨v, u, y, rfl, ?_⟩
    have e : putV σ [i, j, l] [v, u, y] = ((σ.set i (some v)).set j (some u)).set l (some y) := by
      show ((σ.set l (some y)).set j (some u)).set i (some v) = _
      rw [List.set_comm _ _ (Ne.symm hjl), List.set_comm _ _ (Ne.symm hil), List.set_comm _ _ (Ne.symm hij)]
    rw [← e]
    exact g1 _ F1 H1 (Same.refl _) w2⟩

/-! ### lists that names have, changed -/
/-- the name has a list of its own, then the rest -/
def hasO (i : Nat) (m : MS) : MS := fun ρ => match ρ[i]? with
  | some (some (.ow _)) => m ρ
  | _ => .no
theorem GoS.hasO {m : MS} {E : Ends} (w : Wd c F H σ ρ T) (g : GoS c F T (hasO i m ρ) E) : ∃ a vs, σ[i]? = some (some (.ref a)) ∧ H a = some (.lst vs) ∧ GoS c F T (m ρ) E := by
  unfold Mir.hasO at g
  cases h : ρ[i]? with
  | none => rw [h] at g; exact g.elim
  | some o =>
    rw [h] at g
    cases o with
    | none => exact g.elim
    | some s =>
      cases s with
      | va d => exact g.elim
      | ow ds =>
        obtain ⟨a, h1, ⟨_, vs, h2, _⟩, _⟩ := w.ow i ds h
        exact ⟨a, vs, h1, h2, g⟩
/-- the list that the name has becomes another one -/
def updO (i : Nat) (f : List D → Option (List D)) : MS := fun ρ => match ρ[i]? with
  | some (some (.ow ds)) => (match f ds with
    | some es => .nx (ρ.set i (some (.ow es)))
    | none => .no)
  | _ => .no
theorem GoS.updO {f : List D → Option (List D)} {E : Ends} {a : Addr} (w : Wd c F H σ ρ T) (ha : σ[i]? = some (some (.ref a))) (g : GoS c F T (updO i f ρ) E) : ∃ ds es vs, H a = some (.lst vs) ∧ c.reps F vs ds ∧ f ds = some es ∧ ∀ us, c.reps F us es → E.nx σ (upd H a (.lst us)) := by
  unfold Mir.updO at g
  cases h : ρ[i]? with
  | none => rw [h] at g; exact g.elim
  | some o =>
    rw [h] at g
    cases o with
    | none => exact g.elim
    | some s =>
      cases s with
      | va d => exact g.elim
      | ow ds =>
        obtain ⟨a', h1, ⟨_, vs, h2, h3⟩, _⟩ := w.ow i ds h
        rw [ha] at h1
        cases h1
        cases q : f ds with
        | none => simp only [q] at g; exact g.elim
        | some es =>
          simp only [q] at g
          exact ⟨ds, es, vs, h2, h3, q, fun us r => g σ F _ (Same.refl _) (w.mut h ha r)⟩
theorem tyL {a : Addr} {vs : List V} (h : H a = some (.lst vs)) : tyV K "list" (.ref a) H := Or.inl ⟨rfl, _, SqL.of h⟩
def appS (i : Nat) (m : M D) : MS := hasO i (thenS m fun d => updO i fun ds => if ds.length < 100000 then some (ds ++ [d]) else none)
theorem app_le {E : Ends} (h : tS c (appS i m) E σ H) : tDrop (tBM K "list" rAppend (tVar i) (tCons (tE c m) tNil)) E σ H := by
  obtain ⟨F, ρ, T, w, g⟩ := h
  obtain ⟨a, vs, h1, h2, g⟩ := GoS.hasO w g
  refine ⟨.ref a, h1, tyL h2, F, ρ, T, w, g.split.imp fun d ρ1 F1 H1 s1 g1 w1 v rv => ?_⟩
  obtain ⟨ds, es, us, q1, q2, q3, q4⟩ := GoS.updO w1 h1 g1
  by_cases hl : ds.length < 100000
  · rw [if_pos hl] at q3
    cases q3
    exact ⟨a, us, v, rfl, rfl, q1, by rw [q2.len]; exact lims (Nat.le_of_lt hl), q4 _ (q2.append (.cons rv .nil))⟩
  · rw [if_neg hl] at q3
    cases q3
def extS (i : Nat) (m : M D) : MS := hasO i (thenS m fun d => updO i fun ds => match d with
  | .lst es => if ds.length + es.length ≤ 100000 then some (ds ++ es) else none
  | _ => none)
theorem ext_le {E : Ends} (h : tS c (extS i m) E σ H) : tDrop (tBM K "list" rExtend (tVar i) (tCons (tE c m) tNil)) E σ H := by
  obtain ⟨F, ρ, T, w, g⟩ := h
  obtain ⟨a, vs, h1, h2, g⟩ := GoS.hasO w g
  refine ⟨.ref a, h1, tyL h2, F, ρ, T, w, g.split.imp fun d ρ1 F1 H1 s1 g1 w1 v rv => ?_⟩
  obtain ⟨ds, es, us, q1, q2, q3, q4⟩ := GoS.updO w1 h1 g1
  cases d with
  | lst fs =>
    change (if ds.length + fs.length ≤ 100000 then some (ds ++ fs) else none) = some es at q3
    by_cases hl : ds.length + fs.length ≤ 100000
    · rw [if_pos hl] at q3
      cases q3
      cases rv with
      | @lst b zs _ hb hz =>
        exact ⟨a, b, us, zs, rfl, rfl, q1, w1.sub _ _ hb, by rw [q2.len, hz.len]; exact lim hl, q4 _ (q2.append hz)⟩
    · rw [if_neg hl] at q3
      cases q3
  | _ => cases q3
def revS (i : Nat) : MS := updO i fun ds => some ds.reverse
def clrS (i : Nat) : MS := updO i fun _ => some []
theorem rev_le {E : Ends} (h : tS c (hasO i (revS i)) E σ H) : tDrop (tBM0 K "list" rReverse (tVar i)) E σ H := by
  obtain ⟨F, ρ, T, w, g⟩ := h
  obtain ⟨a, vs, h1, h2, g⟩ := GoS.hasO w g
  obtain ⟨ds, es, us, q1, q2, q3, q4⟩ := GoS.updO w h1 g
  cases q3
  exact ⟨.ref a, h1, tyL h2, a, us, rfl, rfl, q1, q4 _ q2.reverse⟩
theorem clr_le {E : Ends} (h : tS c (hasO i (clrS i)) E σ H) : tDrop (tBM0 K "list" rClear (tVar i)) E σ H := by
  obtain ⟨F, ρ, T, w, g⟩ := h
  obtain ⟨a, vs, h1, h2, g⟩ := GoS.hasO w g
  obtain ⟨ds, es, us, q1, q2, q3, q4⟩ := GoS.updO w h1 g
  cases q3
  exact ⟨.ref a, h1, tyL h2, a, us, rfl, rfl, q1, q4 _ .nil⟩
/-- x[k] = e -/
def setS (i : Nat) (mi m : M D) : MS := thenS m fun d => hasO i (thenS mi fun k => updO i fun ds => match k with
  | .int n => (ixN ds.length n).map fun j => ds.set j d
  | _ => none)
theorem set_le {mi : M D} {E : Ends} (h : tS c (setS i mi m) E σ H) : tAsg (tE c m) (gSub (tVar i) (tE c mi) rSetL) E σ H := by
  obtain ⟨F, ρ, T, w, g⟩ := h
  refine ⟨F, ρ, T, w, g.split.imp fun d ρ1 F1 H1 s1 g1 w1 v rv => ?_⟩
  obtain ⟨a, vs, h1, h2, g1⟩ := GoS.hasO w1 g1
  refine ⟨.ref a, h1, F1, ρ1, T, w1, g1.split.imp fun k ρ2 F2 H2 s2 g2 w2 y ry => ?_⟩
  obtain ⟨ds, es, us, q1, q2, q3, q4⟩ := GoS.updO w2 h1 g2
  cases k with
  | int n =>
    change (ixN ds.length n).map (fun j => ds.set j d) = some es at q3
    cases z : ixN ds.length n with
    | none => rw [z] at q3; cases q3
    | some j =>
      rw [z] at q3
      cases q3
      cases ry
      exact ⟨a, us, n, j, rfl, rfl, q1, by rw [q2.len]; exact z, q4 _ (q2.set (rv.same s2) j)⟩
  | _ => cases q3
/-- x op= e of numbers -/
def augS (i : Nat) (f : D → D → Option D) (m : M D) : MS := fun ρ => match ρ[i]? with
  | some (some (.va d1)) => thenS m (fun d2 ρ1 => match f d1 d2 with
    | some d => .nx (ρ1.set i (some (.va d)))
    | none => .no) ρ
  | _ => .no
theorem aug_le {r : R2} {f : D → D → Option D} (hb : ∀ a, (i, a) ∉ c.bi) (hr : Op2 c (kE c) r f) {E : Ends} (h : tS c (augS i f m) E σ H) : tAug i (tE c m) r E σ H := by
  obtain ⟨F, ρ, T, w, g⟩ := h
  unfold augS at g
  cases q : ρ[i]? with
  | none => rw [q] at g; exact g.elim
  | some o =>
    rw [q] at g
    cases o with
    | none => exact g.elim
    | some s =>
      cases s with
      | ow ds => exact g.elim
      | va d1 =>
        obtain ⟨v, h1, h2⟩ := w.va i d1 q
        have g : GoS c F T (thenS m (fun d2 ρ1 => match f d1 d2 with | some d => Fl.nx (ρ1.set i (some (.va d))) | none => .no) ρ) E := g
        refine ⟨v, h1, F, ρ, T, w, g.split.imp fun d2 ρ1 F1 H1 s1 g1 w1 y ry => ?_⟩
        cases z : f d1 d2 with
        | none => simp only [z] at g1; exact g1.elim
        | some d =>
          simp only [z] at g1
          exact hr.run w1 (now_of w1.sub (h2.same s1)) (now_of w1.sub ry) z fun F2 H2 s2 w2 u ru => g1 _ F2 H2 s2 (w2.set hb ru)
end
end Mir

namespace Mir
open PySem PySem.Spec PyProof.Rows L2
/-! ### what a def promises -/
inductive Ou where
  | ok (r : Sl) (b : List D) | ex (c f : Str) (d : D) (b : List D) | no
structure Pst (K : PySem.W.Frag) (cl : Str → Addr) (F H : Hp) (bo : Option Addr) (F' H' : Hp) (b : List D) : Prop where
  up : Same F F'
  sub : Same F' H'
  new : ∀ p, F p = none → F' p ≠ none → H p = none
  keep : ∀ a o, bo ≠ some a → H a = some o → H' a = some o
  own : ∀ a, bo = some a → F' a = none ∧ ∃ vs, H' a = some (.lst vs) ∧ Reps K cl F' vs b
structure Argm (K : PySem.W.Frag) (cl : Str → Addr) (F H : Hp) (om : Option Nat) (bo : Option Addr) (vs : List V) (as : List Sl) : Prop where
  len : vs.length = as.length
  va : ∀ (j : Nat) (d : D), as[j]? = some (Sl.va d) → ∃ v : V, vs[j]? = some v ∧ Rep K cl F v d
  ow : ∀ (j : Nat) (ds : List D), as[j]? = some (Sl.ow ds) → om = some j ∧ ∃ a : Addr, bo = some a ∧ vs[j]? = some (V.ref a) ∧ F a = none ∧ ∃ us, H a = some (.lst us) ∧ Reps K cl F us ds
  omf : ∀ (j : Nat), om = some j → ∃ ds : List D, as[j]? = some (Sl.ow ds)
  no : om = none → bo = none
def spM (K : PySem.W.Frag) (cl : Str → Addr) (n : Nat) (om : Option Nat) (m : List Sl → Ou) : Sp := fun vs H Q E => vs.length = n ∧ ∃ F bo as, Same F H ∧ Argm K cl F H om bo vs as ∧ (match m as with
  | .ok (.va d) b => ∀ v F' H', Pst K cl F H bo F' H' b → Rep K cl F' v d → Q v H'
  | .ok (.ow ds) b => ∀ a F' H', Pst K cl F H bo F' H' b → H a = none → F' a = none → (∃ vs, H' a = some (.lst vs) ∧ Reps K cl F' vs ds) → Q (.ref a) H'
  | .ex e f d b => ∀ x w F' H', Pst K cl F H bo F' H' b → F' x = some (.xd [(f, w)]) → Rep K cl F' w d → E (.ref (cl e)) (some x) H'
  | .no => False)
def ownAt (om : Option Nat) (ρ : En) : List D := match om with
  | none => []
  | some j => match ρ[j]? with
    | some (some (.ow ds)) => ds
    | _ => []
def fin (om : Option Nat) : Fl → Ou
  | .nx ρ => .ok (.va .non) (ownAt om ρ)
  | .rt r ρ => .ok r (ownAt om ρ)
  | .ex c f d ρ => .ex c f d (ownAt om ρ)
  | _ => .no
def runDef (k : Nat) (om : Option Nat) (m : MS) (as : List Sl) : Ou := fin om (m (as.map some ++ List.replicate (k - as.length) none))
section
variable {P : Program} {w : World} {K : PySem.W.Frag} {mg : Str → Option Value} {base : Heap} {cl : Str → Addr} {F H F' H' : Hp} {om : Option Nat} {bo : Option Addr} {vs : List V} {as : List Sl} {W : WX}
def biOf (om : Option Nat) (bo : Option Addr) : List (Nat × Addr) := match om, bo with
  | some j, some a => [(j, a)]
  | _, _ => []
theorem biOf_mem {i : Nat} {a : Addr} (h : (i, a) ∈ biOf om bo) : om = some i ∧ bo = some a := by
  unfold biOf at h
  split at h
  · rw [List.mem_singleton] at h
    cases h
    exact ⟨rfl, rfl⟩
  · cases h
theorem some_get {α : Type} {l : List α} {k i : Nat} {x : α} (h : (l.map some ++ List.replicate k none)[i]? = some (some x)) : l[i]? = some x := by
  by_cases z : i < l.length
  · rw [List.getElem?_append_left (by rw [List.length_map]; exact z), List.getElem?_map] at h
    cases q : l[i]? with
    | none => rw [q] at h; cases h
    | some y => rw [q] at h; cases h; rfl
  · rw [List.getElem?_append_right (by rw [List.length_map]; omega)] at h
    have := List.mem_replicate.mp (List.mem_of_getElem? h)
    cases this.2
theorem get_some {α : Type} {l : List α} {k i : Nat} {x : α} (h : l[i]? = some x) : (l.map some ++ List.replicate k none)[i]? = some (some x) := by
  have z : i < l.length := (List.getElem?_eq_some_iff.mp h).1
  rw [List.getElem?_append_left (by rw [List.length_map]; exact z), List.getElem?_map, h]
  rfl
theorem Argm.start (A : Argm K cl F H om bo vs as) (s : Same F H) {n : Nat} : Wd ⟨K, cl, F, H, biOf om bo, W⟩ F H (vs.map some ++ List.replicate (n - vs.length) none) (as.map some ++ List.replicate (n - as.length) none) [] :=
  { len := by simp only [List.length_append, List.length_map, List.length_replicate, A.len]
    sub := s
    ext := Same.refl _
    new := fun p h1 h2 => absurd h1 h2
    keep := fun a o _ h => h
    va := fun i d h => by
      obtain ⟨v, h1, h2⟩ := A.va i d (some_get h)
      exact ⟨v, get_some h1, h2⟩
    ow := fun i ds h => by
      obtain ⟨h1, a, h2, h3, h4⟩ := A.ow i ds (some_get h)
      refine ⟨a, get_some h3, h4, .inl ?_⟩
      rw [h1, h2]
      exact List.mem_singleton.mpr rfl
    tm := fun a ds h => by cases h
    dis := fun i j a ds es h1 h2 _ _ => by
      obtain ⟨q1, _⟩ := A.ow i ds (some_get h1)
      obtain ⟨q2, _⟩ := A.ow j es (some_get h2)
      rw [q1] at q2
      cases q2
      rfl
    dit := fun i ds a es _ _ h => by cases h
    nod := List.nodup_nil
    bs := fun i a h => by
      obtain ⟨h1, h2⟩ := biOf_mem h
      obtain ⟨ds, h3⟩ := A.omf i h1
      obtain ⟨_, a', h4, h5, _⟩ := A.ow i ds h3
      rw [h2] at h4
      cases h4
      exact ⟨ds, get_some h3, get_some h5⟩ }
theorem Wd.pst {σ : L2.St} {ρ : En} {T : Tm} (A : Argm K cl F H om bo vs as) (w : Wd ⟨K, cl, F, H, biOf om bo, W⟩ F' H' σ ρ T) : Pst K cl F H bo F' H' (ownAt om ρ) where
  up := w.ext
  sub := w.sub
  new := w.new
  keep := fun a o h1 h2 => w.keep a o (fun z => by
    obtain ⟨⟨i, a'⟩, h3, h4⟩ := List.mem_map.mp z
    exact h1 (by rw [← h4]; exact (biOf_mem h3).2)) h2
  own := fun a h => by
    cases om with
    | none => rw [A.no rfl] at h; cases h
    | some j =>
      obtain ⟨ds, h1, h2⟩ := w.bs j a (by rw [h]; exact List.mem_singleton.mpr rfl)
      obtain ⟨a', h3, h4, _⟩ := w.ow j ds h1
      rw [h2] at h3
      cases h3
      unfold ownAt
      simp only [h1]
      exact h4
/-- THE RULE for a def -/
theorem ok_def {x qual : Str} {st : Stmt} {f : Addr} {fd : FuncData} {N ps : List Str} {k kN n : Nat} {m : MS} (Fn : Fun K x qual st f fd) (S : FnScope N ps (defScope st))
    (hb : ∀ (cdv : Value) (A : Around) (outer : List Env) (s : Shared) (H : Hp) (E : XK) (c : Mc), Room k (A.deeper (envOfC qual (defScope st) s.heap.objs.size f cdv)) → c.K = K → c.cl = cl → (∀ i a, (i, a) ∈ c.bi → om = some i) → c.W = (fun cls d _ H => E cls d H) →
      PSs (cxOf (L2.CX P w) P w K mg base N qual (defScope st) f cdv A outer s H E) (defBody st) (tS c m)) (hl : N.length = kN := by rfl) (hq : ps.length = n := by rfl) :
    FnOk P w K mg base (L2.CX P w) (k + 1) f fd ps (spM K cl n om (runDef kN om m)) := by
  subst hl hq
  refine Fn.okX S (fun vs H Q E h => h.1) (fun cdv A outer s H vs Q E hr h => ?_)
  obtain ⟨hn, F, bo, as, sm, ar, g⟩ := h
  refine ⟨_, hb cdv A outer s H E ⟨K, cl, F, H, biOf om bo, fun cls d _ H => E cls d H⟩ hr rfl rfl (fun i a h => (biOf_mem h).1) rfl, F, _, [], ar.start sm, ?_⟩
  unfold runDef at g
  cases z : m (as.map some ++ List.replicate (N.length - as.length) none) with
  | nx ρ' =>
    rw [z] at g
    exact fun σ' F' H' _ w' => g .non F' H' (w'.pst ar) .non
  | rt r ρ' =>
    rw [z] at g
    cases r with
    | va d => exact fun v σ' F' H' _ w' rv => g v F' H' (w'.pst ar) rv
    | ow ds =>
      intro a σ' F' H' _ w'
      obtain ⟨⟨h1, us, h2, h3⟩, h4⟩ := w'.tm a ds List.mem_cons_self
      exact g a F' H' (w'.pst ar) h4 h1 ⟨us, h2, h3⟩
  | ex e f d ρ' =>
    rw [z] at g
    exact fun x w σ' F' H' _ w' hx rw' => g x w F' H' (w'.pst ar) hx rw'
  | bk ρ' => rw [z] at g; exact g.elim
  | ct ρ' => rw [z] at g; exact g.elim
  | no => rw [z] at g; exact g.elim
end

/-! ### calls -/
inductive Md where
  | v | o (i : Nat) | b (i : Nat)
  deriving DecidableEq
inductive ArOk (c : Mc) (F : Hp) (σ : L2.St) : List V → List Md → List D → Prop
  | nil : ArOk c F σ [] [] []
  | v {v : V} {d : D} {vs : List V} {md : List Md} {ds : List D} (h : c.rep F v d) (t : ArOk c F σ vs md ds) : ArOk c F σ (v :: vs) (.v :: md) (d :: ds)
  | o {v : V} {i : Nat} {vs : List V} {md : List Md} {ds : List D} (h : σ[i]? = some (some v)) (t : ArOk c F σ vs md ds) : ArOk c F σ (v :: vs) (.o i :: md) ds
  | b {v : V} {i : Nat} {vs : List V} {md : List Md} {ds : List D} (h : σ[i]? = some (some v)) (t : ArOk c F σ vs md ds) : ArOk c F σ (v :: vs) (.b i :: md) ds
section
variable {X : Cx} {c : Mc} {K : PySem.W.Frag} {F F' F0 H H' H0 : Hp} {σ : L2.St} {ρ ρ' : En} {T T' : Tm} {α β : Type} {e a b tg : Expr} {es rest : List Expr} {pos p : Pos} {x : V} {d : D} {i j l : Nat} {W : WX}
theorem ArOk.same (s : Same F F') : ∀ {vs : List V} {md : List Md} {ds : List D}, ArOk c F σ vs md ds → ArOk c F' σ vs md ds
  | _, _, _, .nil => .nil
  | _, _, _, .v h t => .v (h.same s) (t.same s)
  | _, _, _, .o h t => .o h (t.same s)
  | _, _, _, .b h t => .b h (t.same s)
abbrev kA (c : Mc) (T : Tm) (σ : L2.St) (md : List Md) (Q : List V → Hp → Prop) : List D → En → Hp → Hp → Prop := fun ds ρ' F' H' => Wd c F' H' σ ρ' T → ∀ vs, ArOk c F' σ vs md ds → Q vs H'
def tA (c : Mc) (md : List Md) (m : M (List D)) : TA := fun σ H Q => ∃ F ρ T, Wd c F H σ ρ T ∧ Go c F T σ (m ρ) (kA c T σ md Q)
variable {md md2 : List Md} {m : M D} {ms ms2 : M (List D)}
def hasM {α : Type} (i : Nat) (m : M α) : M α := fun ρ => match ρ[i]? with
  | some (some _) => m ρ
  | _ => .no
theorem Wd.hasM {m : M α} {k : α → En → Hp → Hp → Prop} (w : Wd c F H σ ρ T) (g : Go c F T σ (hasM i m ρ) k) : ∃ v, σ[i]? = some (some v) ∧ Go c F T σ (m ρ) k := by
  unfold Mir.hasM at g
  cases h : ρ[i]? with
  | none => rw [h] at g; exact g.elim
  | some o =>
    rw [h] at g
    cases o with
    | none => exact g.elim
    | some s =>
      cases s with
      | ow ds => obtain ⟨a, h1, _⟩ := w.ow i ds h; exact ⟨_, h1, g⟩
      | va d => obtain ⟨u, h1, h2⟩ := w.va i d h; exact ⟨_, h1, g⟩
theorem ma_nil : PA X [] (tA c [] (ret [])) := paI pa_nil fun σ H Q ⟨F, ρ, T, w, g⟩ => g F H (Same.refl _) w [] .nil
theorem ma_v (h : PE X e (tE c m)) (hs : PA X es (tA c md ms)) (hq : starEach (e :: es) X.env = (false, eval e X.env) :: starEach es X.env := by rfl) : PA X (e :: es) (tA c (.v :: md) (mCons m ms)) :=
  paI (pa_cons h hs hq) fun σ H Q ⟨F, ρ, T, w, g⟩ => ⟨F, ρ, T, w, g.split.imp fun d ρ1 F1 H1 s1 g1 w1 v rv => ⟨F1, ρ1, T, w1, g1.split.imp fun ds ρ2 F2 H2 s2 g2 w2 vs rs =>
    g2 F2 H2 (Same.refl _) w2 (v :: vs) (.v (rv.same s2) rs)⟩⟩
theorem ma_o (h : PE X e (tVar i)) (hs : PA X es (tA c md ms)) (hq : starEach (e :: es) X.env = (false, eval e X.env) :: starEach es X.env := by rfl) : PA X (e :: es) (tA c (.o i :: md) (hasM i ms)) :=
  paI (pa_cons h hs hq) fun σ H Q ⟨F, ρ, T, w, g⟩ => by
    obtain ⟨v, hv, g⟩ := w.hasM g
    exact ⟨v, hv, F, ρ, T, w, g.imp fun ds ρ2 F2 H2 s2 g2 w2 vs rs => g2 w2 (v :: vs) (.o hv rs)⟩
theorem ma_b (h : PE X e (tVar i)) (hs : PA X es (tA c md ms)) (hq : starEach (e :: es) X.env = (false, eval e X.env) :: starEach es X.env := by rfl) : PA X (e :: es) (tA c (.b i :: md) (hasM i ms)) :=
  paI (pa_cons h hs hq) fun σ H Q ⟨F, ρ, T, w, g⟩ => by
    obtain ⟨v, hv, g⟩ := w.hasM g
    exact ⟨v, hv, F, ρ, T, w, g.imp fun ds ρ2 F2 H2 s2 g2 w2 vs rs => g2 w2 (v :: vs) (.b hv rs)⟩
/-- the callee's arguments -/
def sls (ρ : En) : List Md → List D → Option (List Sl)
  | [], [] => some []
  | .v :: md, d :: ds => (sls ρ md ds).map (.va d :: ·)
  | .o i :: md, ds => match ρ[i]? with
    | some (some (.ow es)) => (sls ρ md ds).map (.ow es :: ·)
    | _ => none
  | .b i :: md, ds => match ρ[i]? with
    | some (some (.ow es)) => (sls ρ md ds).map (.va (.lst es) :: ·)
    | some (some (.va d)) => (sls ρ md ds).map (.va d :: ·)
    | _ => none
  | _, _ => none
def SOk (c : Mc) (F : Hp) (σ : L2.St) (ρ : En) (v : V) : Md → Sl → Prop
  | .v, .va d => c.rep F v d
  | .o i, .ow ds => σ[i]? = some (some v) ∧ ρ[i]? = some (some (.ow ds))
  | .b i, .va d => σ[i]? = some (some v) ∧ ((∃ ds, d = .lst ds ∧ ρ[i]? = some (some (.ow ds))) ∨ ρ[i]? = some (some (.va d)))
  | _, _ => False
theorem sls_get : ∀ {vs : List V} {md : List Md} {ds : List D}, ArOk c F σ vs md ds → ∀ {ss : List Sl}, sls ρ md ds = some ss → vs.length = ss.length ∧ md.length = ss.length ∧ ∀ (j : Nat) (s : Sl), ss[j]? = some s → ∃ v m, vs[j]? = some v ∧ md[j]? = some m ∧ SOk c F σ ρ v m s
  | _, _, _, .nil, ss, h => by cases h; exact ⟨rfl, rfl, fun j s h => by cases j <;> cases h⟩
  | _, _, _, .v (md := md) (ds := ds) r t, ss, h => by
    unfold sls at h
    cases q : sls ρ md ds with
    | none => rw [q] at h; cases h
    | some ss' =>
      rw [q] at h
      cases h
      obtain ⟨l1, l2, g⟩ := sls_get t q
      refine ⟨congrArg Nat.succ l1, congrArg Nat.succ l2, fun j s e => ?_⟩
      cases j with
      | zero => cases e; exact ⟨_, _, rfl, rfl, r⟩
      | succ j => exact g j s e
  | _, _, _, .o (i := i) (md := md) (ds := ds) r t, ss, h => by
    unfold sls at h
    split at h
    · rename_i es he
      cases q : sls ρ md ds with
      | none => rw [q] at h; cases h
      | some ss' =>
        rw [q] at h
        cases h
        obtain ⟨l1, l2, g⟩ := sls_get t q
        refine ⟨congrArg Nat.succ l1, congrArg Nat.succ l2, fun j s e => ?_⟩
        cases j with
        | zero => cases e; exact ⟨_, _, rfl, rfl, r, he⟩
        | succ j => exact g j s e
    · cases h
  | _, _, _, .b (i := i) (md := md) (ds := ds) r t, ss, h => by
    unfold sls at h
    split at h
    · rename_i es he
      cases q : sls ρ md ds with
      | none => rw [q] at h; cases h
      | some ss' =>
        rw [q] at h
        cases h
        obtain ⟨l1, l2, g⟩ := sls_get t q
        refine ⟨congrArg Nat.succ l1, congrArg Nat.succ l2, fun j s e => ?_⟩
        cases j with
        | zero => cases e; exact ⟨_, _, rfl, rfl, r, .inl ⟨_, rfl, he⟩⟩
        | succ j => exact g j s e
    · rename_i d he
      cases q : sls ρ md ds with
      | none => rw [q] at h; cases h
      | some ss' =>
        rw [q] at h
        cases h
        obtain ⟨l1, l2, g⟩ := sls_get t q
        refine ⟨congrArg Nat.succ l1, congrArg Nat.succ l2, fun j s e => ?_⟩
        cases j with
        | zero => cases e; exact ⟨_, _, rfl, rfl, r, .inr he⟩
        | succ j => exact g j s e
    · cases h
/-- where the own list stands among the arguments -/
def oPos (k : Nat) : List Md → List Nat
  | [] => []
  | .o _ :: md => k :: oPos (k + 1) md
  | _ :: md => oPos (k + 1) md
theorem oPos_mem : ∀ {md : List Md} {k j i : Nat}, md[j]? = some (.o i) → k + j ∈ oPos k md
  | [], _, j, _, h => by cases j <;> cases h
  | m :: md, k, 0, i, h => by cases h; exact List.mem_cons_self
  | m :: md, k, j + 1, i, h => by
    have := oPos_mem (k := k + 1) (md := md) (j := j) (i := i) h
    rw [show k + 1 + j = k + (j + 1) by omega] at this
    cases m with
    | o _ => exact List.mem_cons_of_mem _ this
    | v => exact this
    | b _ => exact this
theorem oPos_get : ∀ {md : List Md} {k n : Nat}, n ∈ oPos k md → ∃ j i, n = k + j ∧ md[j]? = some (.o i)
  | [], _, _, h => by cases h
  | m :: md, k, n, h => by
    have go : n ∈ oPos (k + 1) md → ∃ j i, n = k + j ∧ (m :: md)[j]? = some (.o i) := fun h => by
      obtain ⟨j, i, e, q⟩ := oPos_get h
      exact ⟨j + 1, i, by omega, q⟩
    cases m with
    | o i =>
      rcases List.mem_cons.mp h with h | h
      · exact ⟨0, i, h, rfl⟩
      · exact go h
    | v => exact go h
    | b _ => exact go h
mutual
/-- nothing in it that could be changed -/
def lf : D → Bool
  | .lst _ => false
  | .scr _ => false
  | .tup ds => lfs ds
  | .ob _ _ ds => lfs ds
  | .exn _ _ d => lf d
  | _ => true
def lfs : List D → Bool
  | [] => true
  | d :: ds => lf d && lfs ds
end
mutual
theorem rep_lf (hF : ∀ a o, F a = some o → (∀ vs, o ≠ .lst vs) → F' a = some o) : ∀ {v : V} {d : D}, c.rep F v d → lf d = true → c.rep F' v d
  | _, _, .non, _ => .non
  | _, _, .bl b, _ => .bl b
  | _, _, .int b, _ => .int b
  | _, _, .str b, _ => .str b
  | _, _, .raw b, _ => .raw b
  | _, _, .scr g, h => by cases h
  | _, _, .lst _ _, h => by cases h
  | _, _, .tup g gs, h => .tup (g.elim (fun z => .inl (hF _ _ z (fun _ q => by cases q))) .inr) (reps_lf hF gs h)
  | _, _, .ob g hl gs, h => .ob (hF _ _ g (fun _ q => by cases q)) hl (reps_lf hF gs h)
  | _, _, .cls b, _ => .cls b
  | _, _, .exn g gx gw, h => .exn (hF _ _ g (fun _ q => by cases q)) (hF _ _ gx (fun _ q => by cases q)) (rep_lf hF gw h)
theorem reps_lf (hF : ∀ a o, F a = some o → (∀ vs, o ≠ .lst vs) → F' a = some o) : ∀ {vs : List V} {ds : List D}, c.reps F vs ds → lfs ds = true → c.reps F' vs ds
  | _, _, .nil, _ => .nil
  | _, _, .cons g gs, h => by
    unfold lfs at h
    rw [Bool.and_eq_true] at h
    exact .cons (rep_lf hF g h.1) (reps_lf hF gs h.2)
end
end
end Mir

namespace Mir
open PySem PySem.Spec PyProof.Rows L2
section
variable {X : Cx} {c : Mc} {K : PySem.W.Frag} {F F' F0 H H' H0 : Hp} {σ : L2.St} {ρ ρ' : En} {T T' : Tm} {α β : Type} {e a b tg : Expr} {es rest : List Expr} {pos p : Pos} {x : V} {d : D} {i j l : Nat} {W : WX}
/-- what is lent -/
def lent (F H : Hp) (Bs : List Addr) : Hp := fun a => if a ∈ Bs then H a else F a
def took (F : Hp) (Bs : List Addr) : Hp := fun a => if a ∈ Bs then none else F a
theorem took_nil : took F [] = F := rfl
theorem took_hF {Bs : List Addr} (up : Same (lent F H Bs) F') (hBl : ∀ a ∈ Bs, ∃ vs, H a = some (.lst vs)) : ∀ a o, F' a = some o → (∀ vs, o ≠ .lst vs) → took F' Bs a = some o := fun a o h n => by
  unfold took
  rw [if_neg]
  · exact h
  · intro z
    obtain ⟨vs, q⟩ := hBl a z
    have := up a _ (by unfold lent; rw [if_pos z]; exact q)
    rw [h] at this
    cases this
    exact n vs rfl
theorem took_reps {Bs : List Addr} {bb : List D} {vs : List V} (up : Same (lent F H Bs) F') (hBl : ∀ a ∈ Bs, ∃ vs, H a = some (.lst vs)) (hlb : Bs = [] ∨ lfs bb = true) (r : Reps c.K c.cl F' vs bb) : c.reps (took F' Bs) vs bb := by
  rcases hlb with rfl | h
  · exact r
  · exact reps_lf (took_hF up hBl) r h
theorem took_rep {Bs : List Addr} {d : D} {v : V} (up : Same (lent F H Bs) F') (hBl : ∀ a ∈ Bs, ∃ vs, H a = some (.lst vs)) (hlb : Bs = [] ∨ lf d = true) (r : Rep c.K c.cl F' v d) : c.rep (took F' Bs) v d := by
  rcases hlb with rfl | h
  · exact r
  · exact rep_lf (took_hF up hBl) r h
theorem Wd.aft {Bs : List Addr} {bo : Option Addr} {bb : List D} (w : Wd c F H σ ρ T) (p : Pst c.K c.cl (lent F H Bs) H bo F' H' bb) (hB : ∀ a ∈ Bs, F a = none) (hl : ρ'.length = ρ.length)
    (h1 : ∀ (k : Nat) (d : D), ρ'[k]? = some (some (.va d)) → ρ[k]? = some (some (.va d)))
    (h2 : ∀ (k : Nat) (ds : List D), ρ'[k]? = some (some (.ow ds)) → ∃ ds0, ρ[k]? = some (some (.ow ds0)) ∧ ∀ a, σ[k]? = some (some (V.ref a)) → (bo = some a ∧ ds = bb) ∨ (bo ≠ some a ∧ ds = ds0))
    (h3 : ∀ (k : Nat) (ds0 : List D), ρ[k]? = some (some (.ow ds0)) → ∃ ds, ρ'[k]? = some (some (.ow ds)))
    (h4 : ∀ a, bo = some a → (∃ (k : Nat) (ds0 : List D), ρ[k]? = some (some (.ow ds0)) ∧ σ[k]? = some (some (V.ref a))) ∨ (c.H0 a = none ∧ ∀ ds, (a, ds) ∉ T)) (hbB : ∀ a ∈ Bs, bo ≠ some a) (hBl : ∀ a ∈ Bs, ∃ vs, H a = some (.lst vs)) (hlb : Bs = [] ∨ lfs bb = true) : Same F (took F' Bs) ∧ Wd c (took F' Bs) H' σ ρ' T := by
  have sFG : Same F (lent F H Bs) := fun a o h => by
    unfold lent
    rw [if_neg (fun z => by rw [hB a z] at h; cases h)]
    exact h
  have sF : Same F (took F' Bs) := fun a o h => by
    unfold took
    rw [if_neg (fun z => by rw [hB a z] at h; cases h)]
    exact p.up a o (sFG a o h)
  have free : ∀ {a : Addr} {ds : List D}, Own c F H a ds → took F' Bs a = none := fun {a ds} h => by
    unfold took
    by_cases z : a ∈ Bs
    · rw [if_pos z]
    · rw [if_neg z]
      cases q : F' a with
      | none => rfl
      | some o =>
        exact absurd (p.new a (by unfold lent; rw [if_neg z]; exact h.1) (by rw [q]; exact fun y => by cases y)) h.get
  have keepO : ∀ {a : Addr} {ds : List D}, Own c F H a ds → bo ≠ some a → Own c (took F' Bs) H' a ds := fun {a ds} h n => by
    have f := free h
    obtain ⟨q1, vs, q2, q3⟩ := h
    exact ⟨f, vs, p.keep a _ n q2, q3.same sF⟩
  refine ⟨sF, ?_⟩
  exact
  { len := w.len.trans hl.symm
    sub := fun a o h => by
      unfold took at h
      by_cases z : a ∈ Bs
      · rw [if_pos z] at h; cases h
      · rw [if_neg z] at h; exact p.sub a o h
    ext := w.ext.trans sF
    new := fun q g1 g2 => by
      by_cases z : F q = none
      · have zb : q ∉ Bs := fun y => g2 (by unfold took; rw [if_pos y])
        exact w.old (p.new q (by unfold lent; rw [if_neg zb]; exact z) (by unfold took at g2; rw [if_neg zb] at g2; exact g2))
      · exact w.new q g1 z
    keep := fun a o g1 g2 => p.keep a o (fun z => by
      rcases h4 a z with ⟨k, ds0, q1, q2⟩ | ⟨q, _⟩
      case inr => rw [q] at g2; cases g2
      obtain ⟨a', q3, _, q4⟩ := w.ow k ds0 q1
      rw [q2] at q3
      cases q3
      rcases q4 with q4 | q4
      · exact g1 (List.mem_map.mpr ⟨_, q4, rfl⟩)
      · rw [q4] at g2; cases g2) (w.keep a o g1 g2)
    va := fun k d h => by
      obtain ⟨v, q1, q2⟩ := w.va k d (h1 k d h)
      exact ⟨v, q1, q2.same sF⟩
    ow := fun k ds h => by
      obtain ⟨ds0, q1, q2⟩ := h2 k ds h
      obtain ⟨a, q3, q4, q5⟩ := w.ow k ds0 q1
      rcases q2 a q3 with ⟨r1, rfl⟩ | ⟨r1, rfl⟩
      · obtain ⟨r2, vs, r3, r4⟩ := p.own a r1
        refine ⟨a, q3, ⟨free q4, vs, r3, ?_⟩, q5⟩
        exact took_reps p.up hBl hlb r4
      · exact ⟨a, q3, keepO q4 r1, q5⟩
    tm := fun a ds h => ⟨keepO (w.tm a ds h).1 (fun z => by
      rcases h4 a z with ⟨k, ds0, q1, q2⟩ | ⟨_, q⟩
      · exact w.dit k ds0 a ds q1 q2 h
      · exact q ds h), (w.tm a ds h).2⟩
    dis := fun k l a ds es g1 g2 g3 g4 => by
      obtain ⟨ds0, q1, _⟩ := h2 k ds g1
      obtain ⟨es0, q2, _⟩ := h2 l es g2
      exact w.dis k l a ds0 es0 q1 q2 g3 g4
    dit := fun k ds a es g1 g2 => by
      obtain ⟨ds0, q1, _⟩ := h2 k ds g1
      exact w.dit k ds0 a es q1 g2
    nod := w.nod
    bs := fun k a h => by
      obtain ⟨ds0, q1, q2⟩ := w.bs k a h
      obtain ⟨ds, q3⟩ := h3 k ds0 q1
      exact ⟨ds, q3, q2⟩ }
/-! ### a call -/
def hasB (md : List Md) : Bool := md.any fun | .b _ => true | _ => false
def lfR : Sl → Bool
  | .va d => lf d
  | .ow ds => lfs ds
def outE (om : Option Nat) (md : List Md) (bb : List D) (ρ : En) : En := match om with
  | none => ρ
  | some j => match md[j]? with
    | some (.o i) => ρ.set i (some (.ow bb))
    | _ => ρ
def callM (f : List Sl → Ou) (om : Option Nat) (md : List Md) (ds : List D) : M Sl := fun ρ => match sls ρ md ds with
  | none => .no
  | some ss => match f ss with
    | .ok r bb => if hasB md = false ∨ (lfR r = true ∧ lfs bb = true) then .ok r (outE om md bb ρ) else .no
    | .ex e g d bb => if hasB md = false ∨ (lf d = true ∧ lfs bb = true) then .ex e g d (outE om md bb ρ) else .no
    | .no => .no
def disj (md : List Md) : Bool := md.all fun
  | .b i => !md.contains (.o i)
  | _ => true
variable {f : List Sl → Ou} {om : Option Nat} {md : List Md} {ds : List D} {vs : List V} {Q : VK} {n : Nat}
theorem sp_of (hpos : oPos 0 md = om.toList) (hdis : disj md = true) (hn : md.length = n) (w : Wd c F H σ ρ T) (ha : ArOk c F σ vs md ds) (g : Go c F T σ (callM f om md ds ρ) (kL c T σ Q)) :
    spM c.K c.cl n om f vs H Q (fun cls x H' => c.W cls x σ H') := by
  unfold callM at g
  cases hss : sls ρ md ds with
  | none => rw [hss] at g; exact g.elim
  | some ss =>
    rw [hss] at g
    obtain ⟨l1, l2, hget⟩ := sls_get ha hss
    -- the lent ones
    obtain ⟨Bs, hB1, hB2⟩ : ∃ Bs : List Addr, (∀ a ∈ Bs, ∃ (i : Nat) (es : List D), Md.b i ∈ md ∧ ρ[i]? = some (some (.ow es)) ∧ σ[i]? = some (some (V.ref a))) ∧ ∀ (i : Nat) (es : List D) (a : Addr), Md.b i ∈ md → ρ[i]? = some (some (.ow es)) → σ[i]? = some (some (V.ref a)) → a ∈ Bs := by
      refine ⟨md.filterMap fun
        | .b i => match σ[i]?, ρ[i]? with
          | some (some (.ref a)), some (some (.ow _)) => some a
          | _, _ => none
        | _ => none, fun a h => ?_, fun i es a h1 h2 h3 => List.mem_filterMap.mpr ⟨.b i, h1, by simp only [h2, h3]⟩⟩
      obtain ⟨m, hm, q⟩ := List.mem_filterMap.mp h
      cases m with
      | v => cases q
      | o i => cases q
      | b i =>
        simp only at q
        split at q
        · rename_i a' es h1 h2
          cases q
          exact ⟨i, es, hm, h2, h1⟩
        · cases q
    have hBF : ∀ a ∈ Bs, F a = none := fun a h => by
      obtain ⟨i, es, _, h1, h2⟩ := hB1 a h
      obtain ⟨a', h3, h4, _⟩ := w.ow i es h1
      rw [h2] at h3
      cases h3
      exact h4.1
    have hBl : ∀ a ∈ Bs, ∃ us, H a = some (.lst us) := fun a h => by
      obtain ⟨i, es, _, h1, h2⟩ := hB1 a h
      obtain ⟨a', h3, ⟨_, us, h4, _⟩, _⟩ := w.ow i es h1
      rw [h2] at h3
      cases h3
      exact ⟨us, h4⟩
    have hBn : hasB md = false → Bs = [] := fun h => by
      cases Bs with
      | nil => rfl
      | cons a Bs =>
        obtain ⟨i, es, h1, _⟩ := hB1 a List.mem_cons_self
        have : hasB md = true := List.any_eq_true.mpr ⟨.b i, h1, rfl⟩
        rw [h] at this
        cases this
    have sFG : Same F (lent F H Bs) := fun a o h => by
      unfold lent
      rw [if_neg (fun z => by rw [hBF a z] at h; cases h)]
      exact h
    have sGH : Same (lent F H Bs) H := fun a o h => by
      unfold lent at h
      by_cases z : a ∈ Bs
      · rw [if_pos z] at h; exact h
      · rw [if_neg z] at h; exact w.sub a o h
    -- the own one
    obtain ⟨bo, hbo1, hbo2⟩ : ∃ bo : Option Addr, (om = none → bo = none) ∧ ∀ j, om = some j → ∃ (i : Nat) (a : Addr) (es : List D), md[j]? = some (.o i) ∧ σ[i]? = some (some (V.ref a)) ∧ ρ[i]? = some (some (.ow es)) ∧ ss[j]? = some (.ow es) ∧ bo = some a := by
      cases om with
      | none => exact ⟨none, fun _ => rfl, fun j h => by cases h⟩
      | some j =>
        have hj : j ∈ oPos 0 md := by rw [hpos]; exact List.mem_singleton.mpr rfl
        obtain ⟨j', i, e1, e2⟩ := oPos_get hj
        rw [Nat.zero_add] at e1
        subst e1
        have hjl : j < ss.length := by rw [← l2]; exact (List.getElem?_eq_some_iff.mp e2).1
        obtain ⟨v, m, g1, g2, g3⟩ := hget j ss[j] (List.getElem?_eq_getElem hjl)
        rw [e2] at g2
        cases g2
        cases hs : ss[j] with
        | va d => rw [hs] at g3; exact g3.elim
        | ow es =>
          rw [hs] at g3
          obtain ⟨a, h3, _⟩ := w.ow i es g3.2
          refine ⟨some a, (fun h => by cases h), fun j' h => ?_⟩
          cases h
          exact ⟨i, a, es, e2, h3, g3.2, by rw [List.getElem?_eq_getElem hjl, hs], rfl⟩
    have hoj : ∀ (j i : Nat), md[j]? = some (.o i) → om = some j := fun j i h => by
      have := oPos_mem (k := 0) h
      rw [hpos, Nat.zero_add] at this
      cases om with
      | none => cases this
      | some j' => rw [List.mem_singleton.mp this]
    have hbB : ∀ a ∈ Bs, bo ≠ some a := fun a h z => by
      obtain ⟨i, es, h1, h2, h3⟩ := hB1 a h
      cases om with
      | none => rw [hbo1 rfl] at z; cases z
      | some j =>
        obtain ⟨i', a', es', q1, q2, q3, _, q5⟩ := hbo2 j rfl
        rw [q5] at z
        cases z
        have := w.dis i i' a es es' h2 q3 h3 q2
        subst this
        have hd := List.all_eq_true.mp hdis (.b i) h1
        have hm : md.contains (.o i) = true := by
          rw [List.contains_iff_mem]
          exact List.mem_of_getElem? q1
        simp only [hm] at hd
        cases hd
    refine ⟨by omega, lent F H Bs, bo, ss, sGH, ⟨l1, fun j d h => ?_, fun j es h => ?_, fun j h => ?_, hbo1⟩, ?_⟩
    · obtain ⟨v, m, g1, g2, g3⟩ := hget j _ h
      refine ⟨v, g1, ?_⟩
      cases m with
      | v => exact Rep.same sFG g3
      | o i => exact g3.elim
      | b i =>
        obtain ⟨q1, ⟨es, rfl, q2⟩ | q2⟩ := g3
        · obtain ⟨a, q3, ⟨_, us, q4, q5⟩, _⟩ := w.ow i es q2
          rw [q1] at q3
          cases q3
          have hm : a ∈ Bs := hB2 i es a (List.mem_of_getElem? g2) q2 q1
          exact .lst (by unfold lent; rw [if_pos hm]; exact q4) (q5.same sFG)
        · obtain ⟨u, q3, q4⟩ := w.va i d q2
          rw [q1] at q3
          cases q3
          exact q4.same sFG
    · obtain ⟨v, m, g1, g2, g3⟩ := hget j _ h
      cases m with
      | v => exact g3.elim
      | b i => exact g3.elim
      | o i =>
        have hom := hoj j i g2
        obtain ⟨i', a, es', q1, q2, q3, q4, q5⟩ := hbo2 j hom
        rw [g2] at q1
        cases q1
        rw [g3.2] at q3
        cases q3
        obtain ⟨a', q6, ⟨q7, us, q8, q9⟩, _⟩ := w.ow i es g3.2
        rw [q2] at q6
        cases q6
        refine ⟨hom, a, q5, by rw [g1]; exact g3.1.symm.trans q2 |> fun z => by cases z; rfl, ?_, us, q8, q9.same sFG⟩
        unfold lent
        rw [if_neg (fun z => hbB a z q5)]
        exact q7
    · obtain ⟨i, a, es, _, _, _, q4, _⟩ := hbo2 j h
      exact ⟨es, q4⟩
    -- behind it
    have fin : ∀ {bb : List D} {F' H' : Hp}, (hasB md = false ∨ lfs bb = true) → Pst c.K c.cl (lent F H Bs) H bo F' H' bb → Same F (took F' Bs) ∧ Wd c (took F' Bs) H' σ (outE om md bb ρ) T := fun {bb F' H'} hbb p => by
      refine w.aft p hBF ?_ ?_ ?_ ?_ ?_ hbB hBl (hbb.imp hBn id)
      · unfold outE
        split
        · rfl
        · split
          · rw [List.length_set]
          · rfl
      · intro k d h
        unfold outE at h
        split at h
        · exact h
        · split at h
          · rcases get_set h with ⟨_, q⟩ | ⟨_, q⟩
            · cases q
            · exact q
          · exact h
      · intro k es h
        unfold outE at h
        split at h
        · refine ⟨es, h, fun a _ => .inr ⟨?_, rfl⟩⟩
          rw [hbo1 rfl]
          exact fun z => by cases z
        · rename_i j
          obtain ⟨i, a, es0, q1, q2, q3, q4, q5⟩ := hbo2 j rfl
          simp only [q1] at h
          rcases get_set h with ⟨rfl, q⟩ | ⟨nn, q⟩
          · cases q
            refine ⟨es0, q3, fun a' z => .inl ⟨?_, rfl⟩⟩
            rw [q2] at z
            cases z
            exact q5
          · refine ⟨es, q, fun a' z => .inr ⟨fun y => ?_, rfl⟩⟩
            rw [q5] at y
            cases y
            exact nn (w.dis i k a es0 es q3 q q2 z)
      · intro k es0 h
        unfold outE
        split
        · exact ⟨es0, h⟩
        · split
          · rename_i i _
            by_cases z : i = k
            · subst z
              exact ⟨bb, set_at (List.getElem?_eq_some_iff.mp h).1⟩
            · exact ⟨es0, by rw [List.getElem?_set_ne z]; exact h⟩
          · exact ⟨es0, h⟩
      · intro a h
        cases om with
        | none => rw [hbo1 rfl] at h; cases h
        | some j =>
          obtain ⟨i, a', es0, q1, q2, q3, q4, q5⟩ := hbo2 j rfl
          rw [q5] at h
          cases h
          exact .inl ⟨i, es0, q3, q2⟩
    cases hf : f ss with
    | no => simp only [hf] at g; exact g.elim
    | ok r bb =>
      simp only [hf] at g
      by_cases hc : hasB md = false ∨ (lfR r = true ∧ lfs bb = true)
      case neg => rw [if_neg hc] at g; exact g.elim
      rw [if_pos hc] at g
      cases r with
      | va d =>
        intro v F' H' p rv
        obtain ⟨s2, w2⟩ := fin (hc.imp id (·.2)) p
        exact g _ H' s2 w2 v (took_rep p.up hBl (hc.imp hBn (·.1)) rv)
      | ow es =>
        intro a F' H' p h1 h2 ⟨us, h3, h4⟩
        obtain ⟨s2, w2⟩ := fin (hc.imp id (·.2)) p
        have f2 : took F' Bs a = none := by
          unfold took
          by_cases z : a ∈ Bs
          · rw [if_pos z]
          · rw [if_neg z]; exact h2
        have own : Own c (took F' Bs) H' a es := ⟨f2, us, h3, took_reps p.up hBl (hc.imp hBn (·.1)) h4⟩
        refine g _ H' s2 a ?_
        exact
          { len := w2.len, sub := w2.sub, ext := w2.ext, new := w2.new, keep := w2.keep, va := w2.va, ow := w2.ow
            tm := fun b fs h => by
              rcases List.mem_cons.mp h with h | h
              · cases h; exact ⟨own, w.old h1⟩
              · exact w2.tm b fs h
            dis := w2.dis
            dit := fun k fs b gs g1 g2 g3 => by
              rcases List.mem_cons.mp g3 with h | h
              · cases h
                have : ∃ fs0, ρ[k]? = some (some (.ow fs0)) := by
                  unfold outE at g1
                  split at g1
                  · exact ⟨fs, g1⟩
                  · split at g1
                    · rename_i j _ i hi
                      rcases get_set g1 with ⟨rfl, q⟩ | ⟨_, q⟩
                      · have hom := hoj _ _ hi
                        obtain ⟨i', a', es0, q1, q2, q3, _⟩ := hbo2 _ hom
                        rw [hi] at q1
                        cases q1
                        exact ⟨es0, q3⟩
                      · exact ⟨fs, q⟩
                    · exact ⟨fs, g1⟩
                obtain ⟨fs0, hk⟩ := this
                obtain ⟨a', z1, z2, _⟩ := w.ow k fs0 hk
                rw [g2] at z1
                cases z1
                exact z2.get h1
              · exact w2.dit k fs b gs g1 g2 h
            nod := by
              rw [List.map_cons, List.nodup_cons]
              refine ⟨fun hm => ?_, w2.nod⟩
              obtain ⟨⟨b, fs⟩, z1, z2⟩ := List.mem_map.mp hm
              have z2' : b = a := z2
              subst z2'
              exact (w.tm b fs z1).1.get h1
            bs := w2.bs }
    | ex e2 g2 d2 bb =>
      simp only [hf] at g
      by_cases hc : hasB md = false ∨ (lf d2 = true ∧ lfs bb = true)
      case neg => rw [if_neg hc] at g; exact g.elim
      rw [if_pos hc] at g
      intro x' w' F' H' p hx rw'
      obtain ⟨s2, w2⟩ := fin (hc.imp id (·.2)) p
      exact g x' w' _ H' s2 w2 (took_hF p.up hBl _ _ hx (fun _ q => by cases q)) (took_rep p.up hBl (hc.imp hBn (·.1)) rw')
end
end Mir

namespace Mir
open PySem PySem.Spec PyProof.Rows L2
/-- a def of the text, as it is called by place -/
structure Cm (P : Program) (w : World) (K : PySem.W.Frag) (mg : Str → Option Value) (base : Heap) (cl : Str → Addr) (k : Nat) (x : Str) (ps : List Str) (om : Option Nat) (f : List Sl → Ou) : Prop where
  ex : ∃ fa fd, FnOk P w K mg base (L2.CX P w) k fa fd ps (spM K cl ps.length om f) ∧ mg x = some (.ref fa) ∧ PySem.W.keepIn K (.ref fa) = true ∧ Binds K fd ps []
/-- the same by n places and names -/
structure CmK (P : Program) (w : World) (K : PySem.W.Frag) (mg : Str → Option Value) (base : Heap) (cl : Str → Addr) (k : Nat) (x : Str) (ps : List Str) (om : Option Nat) (n : Nat) (ks : List Str) (gV : List V → List V → List V) (f : List Sl → Ou) : Prop where
  ex : ∃ fa fd g, FnOk P w K mg base (L2.CX P w) k fa fd ps (spM K cl ps.length om f) ∧ mg x = some (.ref fa) ∧ PySem.W.keepIn K (.ref fa) = true ∧ KBn K fd ps n ks g gV
section
variable {X : Cx} {c : Mc} {cl : Str → Addr} {σ : L2.St} {e : Expr} {es : List Expr} {kws : List Keyword} {pos p : Pos} {j k n : Nat} {x : Str} {ps ks : List Str} {om : Option Nat} {f : List Sl → Ou} {md md1 md2 : List Md} {ms ms2 : M (List D)}
theorem ml_call (C : Cm X.prog X.w X.K X.mg X.base cl k x ps om f) (hK : c.K = X.K) (hcl : c.cl = cl) (tk : Takes X c.W) (hr : Room j X.A) (hk : k ≤ j) (hg : Gl X x) (ha : PA X (e :: es) (tA c md ms)) (hpos : oPos 0 md = om.toList := by rfl) (hdis : disj md = true := by rfl) (hn : md.length = ps.length := by rfl)
    (hdb : (x == ("__debug__" : Str)) = false := by decide) (he : starEach (e :: es) X.env = (false, eval e X.env) :: starEach es X.env := by rfl) (hpl : (backTo pos (starEach es X.env)).any (·.1) = false := by rfl) :
    PE X (.Call (.Name x p) (e :: es) [] pos) (tL c (bnd ms fun ds => callM f om md ds)) := by
  obtain ⟨fa, fd, F, hm, hkp, hb⟩ := C.ex
  subst hcl
  rw [← hK] at F
  have F' : FnOk X.prog X.w X.K X.mg X.base (L2.CX X.prog X.w) k fa fd ps (spM c.K c.cl ps.length om f) := by
    rw [hK] at F ⊢
    exact F
  exact peI (pe_callS F' (hr.mono hk) hg hm hkp hb (fun σ => passAt tk σ) ha hdb he hpl) fun σ H Q ⟨F, ρ, T, w, g⟩ => ⟨F, ρ, T, w, g.split.imp fun ds ρ1 F1 H1 s1 g1 w1 vs hv => sp_of hpos hdis hn w1 hv g1⟩
/-- f(e) of a new list that f may change -/
def callT (f : List Sl → Ou) (ml : M Sl) : M Sl := bnd ml fun s ρ => match s with
  | .ow es => (match f [.ow es] with
    | .ok r _ => .ok r ρ
    | .ex n g d _ => .ex n g d ρ
    | .no => .no)
  | .va _ => .no
theorem ml_callT {q : Str} {ml : M Sl} (C : Cm X.prog X.w X.K X.mg X.base cl k x [q] (some 0) f) (hK : c.K = X.K) (hcl : c.cl = cl) (tk : Takes X c.W) (hr : Room j X.A) (hk : k ≤ j) (hg : Gl X x) (ha : PE X e (tL c ml))
    (hdb : (x == ("__debug__" : Str)) = false := by decide) (he : starEach [e] X.env = [(false, eval e X.env)] := by rfl) (hpl : (backTo pos (starEach [] X.env)).any (·.1) = false := by rfl) :
    PE X (.Call (.Name x p) [e] [] pos) (tL c (callT f ml)) := by
  obtain ⟨fa, fd, F, hm, hkp, hb⟩ := C.ex
  subst hcl
  rw [← hK] at F
  have F' : FnOk X.prog X.w X.K X.mg X.base (L2.CX X.prog X.w) k fa fd [q] (spM c.K c.cl 1 (some 0) f) := by
    rw [hK] at F ⊢
    exact F
  refine peI (pe_callS F' (hr.mono hk) hg hm hkp hb (fun σ => passAt tk σ) (pa_cons ha pa_nil he) hdb he hpl) fun σ H Q ⟨F, ρ, T, w, g⟩ => ⟨F, ρ, T, w, g.split.imp fun s ρ1 F1 H1 s1 g1 => ?_⟩
  cases s with
  | va d => exact g1.elim
  | ow es =>
    intro a w1
    obtain ⟨⟨z1, us, z2, z3⟩, z4⟩ := w1.tm a es List.mem_cons_self
    have hno := List.nodup_cons.mp w1.nod
    have fin : ∀ {F' H' : Hp} {bb : List D}, Pst c.K c.cl F1 H1 (some a) F' H' bb → Same F1 F' ∧ Wd c F' H' σ ρ1 T := fun {F' H' bb} p => by
      have := Wd.aft (Bs := []) (bo := some a) (ρ' := ρ1) w1.drop p (fun _ h => by cases h) rfl (fun _ _ h => h) (fun k ds h => ⟨ds, h, fun a' h' => .inr ⟨fun z => by
        cases z
        exact w1.dit k ds a es h h' List.mem_cons_self, rfl⟩⟩) (fun k ds h => ⟨ds, h⟩) (fun a' h => .inr (by
        cases h
        exact ⟨z4, fun ds hm => hno.1 (List.mem_map.mpr ⟨(a, ds), hm, rfl⟩)⟩)) (fun _ h => by cases h) (fun _ h => by cases h) (.inl rfl)
      exact this
    refine ⟨rfl, F1, some a, [.ow es], w1.sub, ⟨rfl, fun j d h => ?_, fun j ds h => ?_, fun j h => ?_, (fun h => by cases h)⟩, ?_⟩
    · cases j with
      | zero => cases h
      | succ j => cases h
    · cases j with
      | zero => cases h; exact ⟨rfl, a, rfl, rfl, z1, us, z2, z3⟩
      | succ j => cases h
    · cases h; exact ⟨es, rfl⟩
    have g1 : Go c F1 T σ (match f [.ow es] with
      | .ok r _ => Oc.ok r ρ1
      | .ex n g d _ => .ex n g d ρ1
      | .no => .no) (kL c T σ Q) := g1
    cases hf : f [.ow es] with
    | no => rw [hf] at g1; exact g1.elim
    | ok r bb =>
      rw [hf] at g1
      cases r with
      | va d =>
        intro v F' H' p rv
        obtain ⟨s2, w2⟩ := fin p
        exact g1 F' H' s2 w2 v rv
      | ow fs =>
        intro a2 F' H' p h1 h2 ⟨vs, h3, h4⟩
        obtain ⟨s2, w2⟩ := fin p
        refine g1 F' H' s2 a2 ?_
        exact
          { len := w2.len, sub := w2.sub, ext := w2.ext, new := w2.new, keep := w2.keep, va := w2.va, ow := w2.ow
            tm := fun b gs h => by
              rcases List.mem_cons.mp h with h | h
              · cases h; exact ⟨⟨h2, vs, h3, h4⟩, w1.old h1⟩
              · exact w2.tm b gs h
            dis := w2.dis
            dit := fun k gs b hs g1 g2 g3 => by
              rcases List.mem_cons.mp g3 with h | h
              · cases h
                obtain ⟨a', y1, y2, _⟩ := w1.ow k gs g1
                rw [g2] at y1
                cases y1
                exact y2.get h1
              · exact w2.dit k gs b hs g1 g2 h
            nod := by
              rw [List.map_cons, List.nodup_cons]
              refine ⟨fun hm => ?_, w2.nod⟩
              obtain ⟨⟨b, gs⟩, y1, y2⟩ := List.mem_map.mp hm
              have y2' : b = a2 := y2
              subst y2'
              exact (w1.tm b gs (List.mem_cons_of_mem _ y1)).1.get h1
            bs := w2.bs }
    | ex n2 g2 d2 bb =>
      rw [hf] at g1
      intro x' w' F' H' p hx rw'
      obtain ⟨s2, w2⟩ := fin p
      exact g1 x' w' F' H' s2 w2 hx rw'
theorem run_fnNS {CX : CXT} {sp : Sp} {E : XK} {fa : Addr} {fd : FuncData} {g : List Value → List Value → List Value} {gV : List V → List V → List V} {pins : List (Addr × Obj)} {H : Hp} {s : Shared} {Q : VK} {us ws : List Value} {vs zs : List V} (F : FnOk X.prog X.w X.K X.mg X.base CX k fa fd ps sp) (hr : Room k X.A) (hb : KBn X.K fd ps n ks g gV) (hx : PassesAt CX X σ E)
    (I : Inv X pins σ H s) (r : Vals vs us) (rz : Vals zs ws) (l1 : vs.length = n) (l2 : zs.length = ks.length) (h : sp (gV vs zs) H Q E) : wpAny (model X.prog X.w) X.A (call (.ref fa) us (ks.zip ws)) (EP X pins σ Q) X.xe s := by
  have r2 := hb.rel r rz
  refine wpAny_call (codeAny_mono (F.run X.A X.stack s H ⟨us, ks.zip ws⟩ (g us ws) (gV vs zs) Q E hr I.env0 (hb.to s us ws I.kIn (r.length.symm.trans l1) (rz.length.symm.trans l2)) r2 h) fun r s' hq => ?_)
  cases r with
  | error e => exact hx pins H s e s' I hq
  | ok fl =>
    cases fl with
    | ret u => exact I.after hq
    | next => exact False.elim hq
    | brk => exact False.elim hq
    | cont => exact False.elim hq
/-! ### keywords -/
theorem pkI {t t' : TA} (h : PK X kws t) (i : ∀ σ H Q, t' σ H Q → t σ H Q) : PK X kws t' := by
  obtain ⟨h⟩ := h
  exact ⟨fun pos pins s σ H Q I q => h pos pins s σ H Q I (i σ H Q q)⟩
variable {nm : Option Str} {kpos : Pos} {m : M D} {i : Nat}
theorem mk_nil : PK X [] (tA c [] (ret [])) := pkI pk_nil fun σ H Q ⟨F, ρ, T, w, g⟩ => g F H (Same.refl _) w [] .nil
theorem mk_v (h : PE X e (tE c m)) (hs : PK X kws (tA c md ms)) : PK X (⟨nm, e, kpos⟩ :: kws) (tA c (.v :: md) (mCons m ms)) :=
  pkI (pk_cons h hs) fun σ H Q ⟨F, ρ, T, w, g⟩ => ⟨F, ρ, T, w, g.split.imp fun d ρ1 F1 H1 s1 g1 w1 v rv => ⟨F1, ρ1, T, w1, g1.split.imp fun ds ρ2 F2 H2 s2 g2 w2 vs rs =>
    g2 F2 H2 (Same.refl _) w2 (v :: vs) (.v (rv.same s2) rs)⟩⟩
theorem mk_o (h : PE X e (tVar i)) (hs : PK X kws (tA c md ms)) : PK X (⟨nm, e, kpos⟩ :: kws) (tA c (.o i :: md) (hasM i ms)) :=
  pkI (pk_cons h hs) fun σ H Q ⟨F, ρ, T, w, g⟩ => by
    obtain ⟨v, hv, g⟩ := w.hasM g
    exact ⟨v, hv, F, ρ, T, w, g.imp fun ds ρ2 F2 H2 s2 g2 w2 vs rs => g2 w2 (v :: vs) (.o hv rs)⟩
theorem mk_b (h : PE X e (tVar i)) (hs : PK X kws (tA c md ms)) : PK X (⟨nm, e, kpos⟩ :: kws) (tA c (.b i :: md) (hasM i ms)) :=
  pkI (pk_cons h hs) fun σ H Q ⟨F, ρ, T, w, g⟩ => by
    obtain ⟨v, hv, g⟩ := w.hasM g
    exact ⟨v, hv, F, ρ, T, w, g.imp fun ds ρ2 F2 H2 s2 g2 w2 vs rs => g2 w2 (v :: vs) (.b hv rs)⟩
theorem ArOk.len {F : Hp} : ∀ {vs : List V} {md : List Md} {ds : List D}, ArOk c F σ vs md ds → vs.length = md.length
  | _, _, _, .nil => rfl
  | _, _, _, .v h t => congrArg Nat.succ t.len
  | _, _, _, .o h t => congrArg Nat.succ t.len
  | _, _, _, .b h t => congrArg Nat.succ t.len
variable {gV : List V → List V → List V} {gD : List D → List D → List D}
/-- how the arguments come to the parameters -/
def Ord (c : Mc) (md1 md2 md : List Md) (gV : List V → List V → List V) (gD : List D → List D → List D) : Prop :=
  ∀ (F : Hp) (σ : L2.St) (vs : List V) (ds : List D) (zs : List V) (fs : List D), ArOk c F σ vs md1 ds → ArOk c F σ zs md2 fs → ArOk c F σ (gV vs zs) md (gD ds fs)
theorem ml_callK (md : List Md) (gD : List D → List D → List D) (C : CmK X.prog X.w X.K X.mg X.base cl k x ps om n ks gV f) (ord : Ord c md1 md2 md gV gD) (hK : c.K = X.K) (hcl : c.cl = cl) (tk : Takes X c.W) (hr : Room j X.A) (hk : k ≤ j) (hg : Gl X x) (ha : PA X (e :: es) (tA c md1 ms)) (hkw : PK X kws (tA c md2 ms2))
    (hpos : oPos 0 md = om.toList := by rfl) (hdis : disj md = true := by rfl) (hn : md.length = ps.length := by rfl) (h1 : md1.length = n := by rfl) (h2 : md2.length = ks.length := by rfl)
    (hall : (backToKw pos (keywordEach kws X.env)).all (·.1.isSome) = true := by rfl) (hks : (backToKw pos (keywordEach kws X.env)).filterMap (·.1) = ks := by rfl)
    (hdb : (x == ("__debug__" : Str)) = false := by decide) (he : starEach (e :: es) X.env = (false, eval e X.env) :: starEach es X.env := by rfl)
    (hpl : ((backTo pos (starEach (e :: es) X.env)).any (·.1) || (backToKw pos (keywordEach kws X.env)).any (·.1.isNone)) = false := by rfl) :
    PE X (.Call (.Name x p) (e :: es) kws pos) (tL c (bnd ms fun ds => bnd ms2 fun fs => callM f om md (gD ds fs))) := by
  obtain ⟨fa, fd, gg, F, hm, hkp, hb⟩ := C.ex
  subst hcl
  rw [← hK] at F
  have F' : FnOk X.prog X.w X.K X.mg X.base (L2.CX X.prog X.w) k fa fd ps (spM c.K c.cl ps.length om f) := by
    rw [hK] at F ⊢
    exact F
  refine ⟨fun pins s σ H Q I ⟨F, ρ, T, w, g⟩ => ?_⟩
  have h : tA c md1 ms σ H (fun vs H1 => tA c md2 ms2 σ H1 (fun zs H2 => vs.length = n ∧ zs.length = ks.length ∧ spM c.K c.cl ps.length om f (gV vs zs) H2 Q (fun cls x H' => c.W cls x σ H'))) := ⟨F, ρ, T, w, g.split.imp fun ds ρ1 F1 H1 s1 g1 w1 vs hv => ⟨F1, ρ1, T, w1, g1.split.imp fun fs ρ2 F2 H2 s2 g2 w2 zs hz =>
    ⟨hv.len.trans h1, hz.len.trans h2, sp_of hpos hdis hn w2 (ord F2 σ vs ds zs fs (hv.same s2) hz) g2⟩⟩⟩
  refine wpAny_Call_Name_kw (ld_glob I hg hm ?_ hdb)
  refine PySem.W.callWith_KW (h₀ := X.base) I.ok.mod.kin hkp hall (thn (ha.run pos pins s σ H _ I h) fun us s1 ⟨vs, H1, I1, r, q⟩ => ?_) hpl he
  refine thn (hkw.run pos pins s1 σ H1 _ I1 q) fun ws s2 ⟨zs, H2, I2, rz, l1, l2, q2⟩ => ⟨I2.kIn, ?_⟩
  rw [hks]
  exact run_fnNS F' (hr.mono hk) hb (passAt tk σ) I2 r rz l1 l2 q2
theorem ml_callK0 (md : List Md) (gD : List D → List D → List D) (C : CmK X.prog X.w X.K X.mg X.base cl k x ps om 0 ks gV f) (ord : Ord c [] md2 md gV gD) (hK : c.K = X.K) (hcl : c.cl = cl) (tk : Takes X c.W) (hr : Room j X.A) (hk : k ≤ j) (hg : Gl X x) (hkw : PK X kws (tA c md2 ms2))
    (hpos : oPos 0 md = om.toList := by rfl) (hdis : disj md = true := by rfl) (hn : md.length = ps.length := by rfl) (h2 : md2.length = ks.length := by rfl)
    (hall : (backToKw pos (keywordEach kws X.env)).all (·.1.isSome) = true := by rfl) (hks : (backToKw pos (keywordEach kws X.env)).filterMap (·.1) = ks := by rfl)
    (hdb : (x == ("__debug__" : Str)) = false := by decide)
    (hpl : ((backTo pos (starEach [] X.env)).any (·.1) || (backToKw pos (keywordEach kws X.env)).any (·.1.isNone)) = false := by rfl) :
    PE X (.Call (.Name x p) [] kws pos) (tL c (bnd ms2 fun fs => callM f om md (gD [] fs))) := by
  obtain ⟨fa, fd, gg, F, hm, hkp, hb⟩ := C.ex
  subst hcl
  rw [← hK] at F
  have F' : FnOk X.prog X.w X.K X.mg X.base (L2.CX X.prog X.w) k fa fd ps (spM c.K c.cl ps.length om f) := by
    rw [hK] at F ⊢
    exact F
  refine ⟨fun pins s σ H Q I ⟨F, ρ, T, w, g⟩ => ?_⟩
  have h : tA c md2 ms2 σ H (fun zs H2 => zs.length = ks.length ∧ spM c.K c.cl ps.length om f (gV [] zs) H2 Q (fun cls x H' => c.W cls x σ H')) := ⟨F, ρ, T, w, g.split.imp fun fs ρ2 F2 H2 s2 g2 w2 zs hz =>
    ⟨hz.len.trans h2, sp_of hpos hdis hn w2 (ord F2 σ [] [] zs fs .nil hz) g2⟩⟩
  refine wpAny_Call_Name_kw (ld_glob I hg hm ?_ hdb)
  refine PySem.W.callWith_KW0 (h₀ := X.base) I.ok.mod.kin hkp hall ?_ hpl
  refine thn (hkw.run pos pins s σ H _ I h) fun ws s2 ⟨zs, H2, I2, rz, l2, q2⟩ => ⟨I2.kIn, ?_⟩
  rw [hks]
  exact run_fnNS (us := []) (vs := []) F' (hr.mono hk) hb (passAt tk σ) I2 .nil rz rfl l2 q2
theorem ms_never {st : Stmt} : PS X st (tS c fun _ => .no) := psI ps_never fun _ _ _ ⟨_, _, _, _, g⟩ => g.elim
end
/-! ### the end -/
def spLaw (K : PySem.W.Frag) : Sp := fun vs H Q _ => ∃ (a : Addr) (ns : List Int), vs = [.ref a] ∧ SqL K H a (ns.map V.int) ∧ ns.length ≤ 63 ∧ ∀ H', Q (.bl true) H'
theorem law_of {P : Program} {w : World} {K : PySem.W.Frag} {mg : Str → Option Value} {base : Heap} {cl : Str → Addr} {k : Nat} {fa : Addr} {fd : FuncData} {x : Str} {f : List Sl → Ou} (F : FnOk P w K mg base (L2.CX P w) k fa fd [x] (spM K cl 1 none f))
    (h : ∀ ns : List Int, ns.length ≤ 63 → ∃ b, f [.va (.scr ns)] = .ok (.va (.bl true)) b) : FnOk P w K mg base (L2.CX P w) k fa fd [x] (spLaw K) := F.imp fun vs H Q E ⟨a, ns, e, hS, hl, q⟩ => by
  subst e
  obtain ⟨b, hb⟩ := h ns hl
  refine ⟨rfl, H, none, [.va (.scr ns)], Same.refl _, ⟨rfl, fun j d hj => ?_, fun j ds hj => ?_, (fun j hj => by cases hj), fun _ => rfl⟩, ?_⟩
  · cases j with
    | zero => cases hj; exact ⟨_, rfl, .scr hS⟩
    | succ j => cases hj
  · cases j with
    | zero => cases hj
    | succ j => cases hj
  · rw [hb]
    intro v F' H' _ rv
    cases rv
    exact q H'
theorem cx_false {P : Program} {w : World} {l : List Env} {H : Hp} {s : Shared} {e : Value} {s' : Shared} (h : L2.CX P w l H s (fun _ _ _ => False) e s') : False := by
  obtain ⟨_, _, _, _, _, _, _, _, _, _, _, _, z⟩ := h
  exact z
end Mir

namespace Mir
open PySem PySem.Spec PyProof.Rows L2
abbrev cb {β : Type} (f : List D → Option β) (ms : M (List D)) : M β := bnd ms fun ds => opt (f ds)
abbrev callA (f : List Sl → Ou) (om : Option Nat) (md : List Md) (ms : M (List D)) : M Sl := bnd ms fun ds => callM f om md ds
abbrev callB (f : List Sl → Ou) (om : Option Nat) (md : List Md) (gD : List D → List D → List D) (ms ms2 : M (List D)) : M Sl := bnd ms fun ds => bnd ms2 fun fs => callM f om md (gD ds fs)
abbrev callC (f : List Sl → Ou) (om : Option Nat) (md : List Md) (gD : List D → List D → List D) (ms2 : M (List D)) : M Sl := bnd ms2 fun fs => callM f om md (gD [] fs)
abbrev slE (ma : M D) (ml mh : M (Option Int)) : M Sl := bnd ma fun d => bnd ml fun l => bnd mh fun u => opt (dSl d l u)
section
variable {X : Cx} {c : Mc} {K : PySem.W.Frag} {F F' F0 H H' H0 : Hp} {σ : L2.St} {ρ ρ' : En} {T T' : Tm} {α β : Type} {e a b tg : Expr} {es rest : List Expr} {pos p : Pos} {x : V} {d : D} {i j l : Nat} {W : WX} {om : Option Nat}
theorem nb (hbi : ∀ i a, (i, a) ∈ c.bi → om = some i) (h : om ≠ some i) : ∀ a, (i, a) ∉ c.bi := fun a z => h (hbi i a z)
theorem nbs {vs : List Nat} (hbi : ∀ i a, (i, a) ∈ c.bi → om = some i) (h : ∀ v ∈ vs, om ≠ some v) : ∀ v ∈ vs, ∀ a, (v, a) ∉ c.bi := fun v hv a z => h v hv (hbi v a z)
theorem hKc {K : PySem.W.Frag} (h : c.K = K) : c.calm.K = K := h
theorem hclc {cl : Str → Addr} (h : c.cl = cl) : c.calm.cl = cl := h
theorem takes_c {E : XK} (hW : c.W = fun cls d _ H => E cls d H) (h : Takes X (fun cls d _ H => E cls d H)) : Takes X c.W := by
  rw [hW]
  exact h
/-! ### comparisons as tests -/
variable {r : R2} {f : D → D → Option D} {ma mb : M D}
theorem asB_end {mv : M D} {Q : Bool → Hp → Prop} (g : Go c F T σ (un asB mv ρ) (kT c T σ Q)) : Go c F T σ (mv ρ) (kE c T σ fun x H' => ∃ k, x = .bl k ∧ Q k H') := g.split.imp fun d ρ1 F1 H1 s1 g1 w1 v rv => by
  obtain ⟨k, hk, q⟩ := g1.opt
  exact ⟨k, rep_bl hk rv, q F1 H1 (Same.refl _) w1⟩
theorem t_bin (hr : Op2 c (kE c) r f) (h : PT X e (tTest (tOp r (tE c ma) (tE c mb)))) : PT X e (tT c (un asB (bin f ma mb))) := ptI h fun σ H Q ⟨F, ρ, T, w, g⟩ => ⟨F, ρ, T, w, (asB_end g).split.imp fun d1 ρ1 F1 H1 s1 g1 w1 x rx =>
  ⟨F1, ρ1, T, w1, g1.split.imp fun d2 ρ2 F2 H2 s2 g2 w2 y ry => by
    obtain ⟨d, hf, k⟩ := g2.opt
    exact hr.run w2 (now_of w2.sub (rx.same s2)) (now_of w2.sub ry) hf k⟩⟩
theorem t_binQ (hr : Op2 c (kE c) r f) (h : PT X e (tTest (tOp r (tE c ma) (tVar j)))) : PT X e (tT c (un asB (binQ f ma j))) := ptI h fun σ H Q ⟨F, ρ, T, w, g⟩ => ⟨F, ρ, T, w, (asB_end g).split.imp fun d1 ρ1 F1 H1 s1 g1 w1 x rx => by
    obtain ⟨y, hy⟩ := w1.has g1.split
    obtain ⟨d2, n2, g2⟩ := w1.see hy g1.split
    obtain ⟨d, hf, k⟩ := (g2 F1 H1 (Same.refl _)).opt
    exact ⟨y, hy, hr.run w1 (now_of w1.sub rx) n2 hf k⟩⟩
theorem t_binPQ (hr : Op2 c (kE c) r f) (h : PT X e (tTest (tOp r (tVar i) (tVar j)))) : PT X e (tT c (un asB (binPQ f i j))) := ptI h fun σ H Q ⟨F, ρ, T, w, g⟩ => by
    have g := asB_end g
    obtain ⟨x, hx⟩ := w.has g.split
    obtain ⟨d1, n1, g1⟩ := w.see hx g.split
    have g1 := (g1 F H (Same.refl _)).split
    obtain ⟨y, hy⟩ := w.has g1
    obtain ⟨d2, n2, g2⟩ := w.see hy g1
    obtain ⟨d, hf, k⟩ := (g2 F H (Same.refl _)).opt
    exact ⟨x, hx, y, hy, hr.run w n1 n2 hf k⟩
theorem t_binP (hr : Op2 c (kE c) r f) (h : PT X e (tTest (tOp r (tVar i) (tE c mb)))) : PT X e (tT c (un asB (binP f i mb))) := ptI h fun σ H Q ⟨F, ρ, T, w, g⟩ => by
    have g := asB_end g
    have g : Go c F T σ (hasM i (bnd mb (fun d2 => bnd (pk i) fun d1 => opt (f d1 d2))) ρ) _ := g
    obtain ⟨x, hx, g⟩ := w.hasM g
    refine ⟨x, hx, F, ρ, T, w, g.split.imp fun d2 ρ2 F2 H2 s2 g2 w2 y ry => ?_⟩
    obtain ⟨d1, n1, g3⟩ := w2.see hx g2.split
    obtain ⟨d, hf, k⟩ := (g3 F2 H2 (Same.refl _)).opt
    exact hr.run w2 n1 (now_of w2.sub ry) hf k
/-! ### a < b < c -/
def chn (f f' : D → D → Option D) (ma mb mc : M D) : M D := bnd ma fun d1 => bnd mb fun d2 => bnd (opt ((f d1 d2).bind asB)) fun k => if k = true then bnd mc fun d3 => opt (f' d2 d3) else ret (.bl false)
variable {r' : R2} {f' : D → D → Option D} {mc : M D} {cc : Expr}
theorem chn_le (hr : Op2 c (kE c) r f) (hr' : Op2 c (kE c) r' f') {Q : VK} (h : tE c (chn f f' ma mb mc) σ H Q) : tChain r r' (tE c ma) (tE c mb) (tE c mc) σ H Q := by
  obtain ⟨F, ρ, T, w, g⟩ := h
  refine ⟨F, ρ, T, w, g.split.imp fun d1 ρ1 F1 H1 s1 g1 w1 x rx => ⟨F1, ρ1, T, w1, g1.split.imp fun d2 ρ2 F2 H2 s2 g2 w2 y ry => ?_⟩⟩
  obtain ⟨k, hk, q⟩ := g2.split.opt
  cases hf : f d1 d2 with
  | none => rw [hf] at hk; cases hk
  | some d =>
    rw [hf] at hk
    have hk : asB d = some k := hk
    refine hr.run w2 (now_of w2.sub (rx.same s2)) (now_of w2.sub ry) hf fun F3 H3 s3 w3 v rv => ?_
    refine ⟨k, rep_bl hk rv, ?_⟩
    have q := q F3 H3 s3
    cases k with
    | true =>
      refine iteT ⟨F3, ρ2, T, w3, (Go.split q).imp fun d3 ρ4 F4 H4 s4 g4 w4 z rz => ?_⟩
      obtain ⟨dd, hf', k'⟩ := g4.opt
      exact hr'.run w4 (now_of w4.sub (ry.same (s3.trans s4))) (now_of w4.sub rz) hf' k'
    | false => exact iteF (q F3 H3 (Same.refl _) w3 _ (.bl _))
theorem me_chn (hr : Op2 c (kE c) r f) (hr' : Op2 c (kE c) r' f') (h : PE X e (tChain r r' (tE c ma) (tE c mb) (tE c mc))) : PE X e (tE c (chn f f' ma mb mc)) := peI h fun σ H Q q => chn_le hr hr' q
theorem t_chn (hr : Op2 c (kE c) r f) (hr' : Op2 c (kE c) r' f') (h : PT X e (tTest (tChain r r' (tE c ma) (tE c mb) (tE c mc)))) : PT X e (tT c (un asB (chn f f' ma mb mc))) := ptI h fun σ H Q ⟨F, ρ, T, w, g⟩ => chn_le hr hr' ⟨F, ρ, T, w, asB_end g⟩
/-! ### - a -/
def dNeg : D → Option D
  | .int i => some (.int (-i))
  | _ => none
theorem o_neg : Op1 c (kE c) (rU fun i => .int (-i)) dNeg := by
  constructor
  intro F H σ ρ T x d1 d Q w n h q
  unfold dNeg at h
  split at h
  · cases now_int n
    cases h
    exact ⟨_, rfl, q F H (Same.refl _) w _ (.int _)⟩
  · cases h
/-! ### in -/
def flatD : D → Bool
  | .non => true
  | .bl _ => true
  | .int _ => true
  | .str _ => true
  | _ => false
def eqF : D → D → Bool
  | .non, .non => true
  | .bl a, .bl b => a == b
  | .bl a, .int b => (if a then 1 else 0) == b
  | .int a, .bl b => a == (if b then 1 else 0)
  | .int a, .int b => a == b
  | .str a, .str b => a == b
  | _, _ => false
def inD (neg : Bool) (x y : D) : Option D := match (match y with | .lst ds => some ds | .tup ds => some ds | _ => none) with
  | some ds => if flatD x = true ∧ ds.all flatD = true then some (.bl (if neg then !(ds.any fun y => eqF y x) else ds.any fun y => eqF y x)) else none
  | none => none
theorem flat_rep {v : V} (h : flatD d = true) (r : c.rep F v d) : flatV v = true ∧ ∀ {u : V} {e : D}, flatD e = true → c.rep F u e → eqV u v = eqF e d := by
  cases d with
  | non => cases r; exact ⟨rfl, fun {u e} he re => by cases e <;> first | (cases he; done) | (cases re; rfl)⟩
  | bl b => cases r; exact ⟨rfl, fun {u e} he re => by cases e <;> first | (cases he; done) | (cases re; rfl)⟩
  | int b => cases r; exact ⟨rfl, fun {u e} he re => by cases e <;> first | (cases he; done) | (cases re; rfl)⟩
  | str b => cases r; exact ⟨rfl, fun {u e} he re => by cases e <;> first | (cases he; done) | (cases re; rfl)⟩
  | _ => cases h
theorem in_reps {v : V} (h : flatD d = true) (r : c.rep F v d) : ∀ {vs : List V} {ds : List D}, c.reps F vs ds → ds.all flatD = true → vs.all flatV = true ∧ inV v vs = ds.any fun y => eqF y d
  | _, _, .nil, _ => ⟨rfl, rfl⟩
  | _, _, .cons (v := u) (d := e) (vs := vs) (ds := ds) g gs, hh => by
    rw [List.all_cons, Bool.and_eq_true] at hh
    obtain ⟨q1, q2⟩ := in_reps h r gs hh.2
    refine ⟨by rw [List.all_cons, (flat_rep hh.1 g).1, q1]; rfl, ?_⟩
    unfold inV at q2 ⊢
    rw [List.any_cons, List.any_cons, q2, (flat_rep h r).2 hh.1 g]
theorem now_flat (h : flatD d = true) (n : Now c F H x d) : c.rep F x d := by
  cases d with
  | lst _ => cases h
  | _ => exact n
theorem o_in {neg : Bool} (hK : c.K = K) : Op2 c (kE c) (rIn K neg) (inD neg) := by
  constructor
  intro F H σ ρ T x y d1 d2 d Q w n1 n2 h q
  subst hK
  unfold inD at h
  cases d2 with
  | lst ds =>
    change (if flatD d1 = true ∧ ds.all flatD = true then _ else none) = some d at h
    split at h
    · rename_i hc
      cases h
      obtain ⟨a, vs, rfl, h1, h2⟩ := now_lst n2
      have r1 := now_flat hc.1 n1
      obtain ⟨q1, q2⟩ := in_reps hc.1 r1 h2 hc.2
      refine ⟨a, vs, rfl, .inl (SqL.of h1), (flat_rep hc.1 r1).1, q1, ?_⟩
      rw [q2]
      exact q F H (Same.refl _) w _ (.bl _)
    · cases h
  | tup ds =>
    change (if flatD d1 = true ∧ ds.all flatD = true then _ else none) = some d at h
    split at h
    · rename_i hc
      cases h
      obtain ⟨a, vs, rfl, h1, h2⟩ := now_tup n2
      have r1 := now_flat hc.1 n1
      obtain ⟨q1, q2⟩ := in_reps hc.1 r1 h2 hc.2
      refine ⟨a, vs, rfl, .inr (h1.same w.sub).t, (flat_rep hc.1 r1).1, q1, ?_⟩
      rw [q2]
      exact q F H (Same.refl _) w _ (.bl _)
    · cases h
  | _ => cases h
/-! ### statements over lists of names -/
variable {m mi : M D} {st : Stmt}
theorem ms_app (h : PS X st (tDrop (tBM X.K "list" rAppend (tVar i) (tCons (tE c m) tNil)))) : PS X st (tS c (appS i m)) := psI h fun _ _ _ q => app_le q
theorem ms_ext (h : PS X st (tDrop (tBM X.K "list" rExtend (tVar i) (tCons (tE c m) tNil)))) : PS X st (tS c (extS i m)) := psI h fun _ _ _ q => ext_le q
theorem ms_rev (h : PS X st (tDrop (tBM0 X.K "list" rReverse (tVar i)))) : PS X st (tS c (hasO i (revS i))) := psI h fun _ _ _ q => rev_le q
theorem ms_clr (h : PS X st (tDrop (tBM0 X.K "list" rClear (tVar i)))) : PS X st (tS c (hasO i (clrS i))) := psI h fun _ _ _ q => clr_le q
theorem ms_sub (h : PS X st (tAsg (tE c m) (gSub (tVar i) (tE c mi) rSetL))) : PS X st (tS c (setS i mi m)) := psI h fun _ _ _ q => set_le q
theorem ms_aug (hb : ∀ a, (i, a) ∉ c.bi) (hr : Op2 c (kE c) r f) (h : PS X st (tAug i (tE c m) r)) : PS X st (tS c (augS i f m)) := psI h fun _ _ _ q => aug_le hb hr q
def dAddI := iI cT (fun i j => i + j)
theorem o_addI : Op2 c (kE c) (rI0 fun i j => .int (i + j)) dAddI := rI0_ok
end
end Mir

namespace Mir
open PySem PySem.Spec PyProof.Rows L2
/-! ### enumerate(list, start=k) -/
def Itek (K : PySem.W.Frag) (a : Addr) (k0 : Int) : It where
  go := fun i H => ∃ (xs : List V) (x : V), SqL K H a xs ∧ xs[i]? = some x
  yld := fun i H v H' => ∃ T x, v = .ref T ∧ H T = none ∧ H' = upd H T (.tup [.int (k0 + (i : Nat)), x]) ∧ ∀ xs, SqL K H a xs → xs[i]? = some x
  stop := fun i H => ∃ xs : List V, SqL K H a xs ∧ xs.length = i
theorem enum_apart {h : Heap} {e it a : Addr} {k : Int} {old : Value} {items : Array Value} (he : IsEnum h e it k old) (hl : h.IsList a items) : e ≠ a := fun z => by
  subst z
  obtain ⟨o, h1, h2, _⟩ := hl
  have h3 : h.get? e = some _ := he
  rw [h1] at h3
  cases h3
  exact absurd (show Value.type "enumerate" = .type "list" from h2) (by decide)
theorem iter_apart {h : Heap} {it a : Addr} {i : Nat} {items : Array Value} (he : h.IsListIter it a i) (hl : h.IsList a items) : a ≠ it := fun z => by
  subst z
  obtain ⟨o, h1, h2, _⟩ := hl
  obtain ⟨o', h3, h4, _⟩ := he
  rw [h1] at h3
  cases h3
  rw [h2] at h4
  exact absurd h4 (by decide)
theorem turn_enumK {P : Program} {w : World} {K : PySem.W.Frag} {elts : List Expr} {kk : Nat} {tp : Pos} (a e it : Addr) (k0 : Int) :
    Turn P w K (.Tuple elts kk tp) (Itek K a k0) [e, it] e (fun n h => (∃ old, IsEnum h e it (k0 + (n : Int)) old) ∧ h.IsListIter it a n ∧ e ≠ it) where
  mem := by simp
  obj := fun n h st b hb => by
    obtain ⟨⟨old, h1⟩, ⟨o, h2, h3, h4⟩, _⟩ := st
    have hb' : b = e ∨ b = it := by simpa using hb
    rcases hb' with rfl | rfl
    · exact ⟨_, h1, fun v q => nomatch q⟩
    · exact ⟨o, h2, fun v q => by rw [h4] at q; cases q⟩
  keep := fun n h h' st k => by
    obtain ⟨⟨old, h1⟩, h2, h3⟩ := st
    exact ⟨⟨old, k e (by simp) _ h1⟩, h2.at fun o q => k it (by simp) o q, h3⟩
  item := by
    intro X hP hw hK hc n pins s σ H E I hf st hg
    subst hP hw hK
    obtain ⟨⟨old, h1⟩, h2, h3⟩ := st
    obtain ⟨xs, x, hq, hx⟩ := hg
    obtain ⟨its, rv, pl, hz⟩ := I.list hq
    obtain ⟨u, hu, ru⟩ := rv.get hx
    have hL := pl.isList
    have hn : n < its.toArray.size := by
      rw [List.size_toArray]
      exact (List.getElem?_eq_some_iff.mp hu).1
    have el : e < s.heap.objs.size := Heap.lt_size h1
    have il : it < s.heap.objs.size := by
      obtain ⟨_, q, _⟩ := h2
      exact Heap.lt_size q
    have Dw := Draws.list (prog := X.prog) (w := X.w) (A := X.A.in1) (I.ok.hd hc) it a (iter_apart h2 hL) its.toArray
    refine wpAny_pyNext_enum_itemC Dw h1 ⟨h2, hL⟩ hn h3 (by
      intro z
      rcases List.mem_cons.mp z with z | z
      · exact h3 z
      · exact enum_apart h1 hL (List.mem_singleton.mp z)) fun y h' tk hy ho st2 hT hsz hkp => ?_
    have hyu : y = u := by
      have q : its.toArray[n]? = some u := by simpa using hu
      rw [hy] at q
      exact Option.some.inj q
    subst hyu
    refine ⟨_, rfl, wpAny_letOwnedTupleGo_enum (s := { s with heap := h', toks := tk + 1 }) ho fun h'' he' sb => ?_⟩
    have hT2 := (sb.2 _ (Nat.ne_of_gt el)).trans hT
    have new : ObjOk X.prog X.w (upd H s.heap.objs.size (.tup [.int (k0 + (n : Nat)), x])) h'' s.heap.objs.size (.tup [.int (k0 + (n : Nat)), x]) :=
      ⟨by show 2 ≤ sizeLine; decide, [.int (k0 + (n : Int)) tk, y], .cons ⟨_, rfl⟩ (.cons ru .nil), ⟨_, hT2, rfl, _, rfl⟩⟩
    have I1 : Inv X pins σ (upd H s.heap.objs.size (.tup [.int (k0 + (n : Nat)), x])) { s with heap := h'', toks := tk + 1 } := by
      refine I.turnedNew (ch := [e, it]) (fun b ob hb q => ?_) hf (Nat.le_refl _) new
      have n1 : b ≠ e := fun z => hb (by simp [z])
      have n2 : b ≠ it := fun z => hb (by simp [z])
      exact (sb.2 b n1).trans (hkp b ob n1 n2 q)
    refine ⟨.ref s.heap.objs.size, _, I1, rfl, ⟨_, x, rfl, I.hok.fresh (Nat.le_refl _), rfl, fun ys hy => by rw [I.list_inj hy hq]; exact hx⟩, ⟨⟨y, ?_⟩, st2.1.at fun o q => (sb.2 it (Ne.symm h3)).trans q, h3⟩, fun b hb => ?_⟩
    · rw [show k0 + ((n + 1 : Nat) : Int) = k0 + (n : Int) + 1 by omega]
      exact he'
    · have hb' : b = e ∨ b = it := by simpa using hb
      have lt : b < s.heap.objs.size := by
        rcases hb' with rfl | rfl
        · exact el
        · exact il
      rw [upd_ne (Nat.ne_of_lt lt)]
      exact (hf b hb).1
  done := by
    intro X hP hw hK hc n pins s σ H E I hf st hg
    subst hP hw hK
    obtain ⟨⟨old, h1⟩, h2, h3⟩ := st
    obtain ⟨xs, hq, hx⟩ := hg
    obtain ⟨its, rv, pl, hz⟩ := I.list hq
    obtain ⟨f0, f1, f2, f3, f4, f5⟩ := hf it (by simp)
    have hl := rv.length
    have hL := pl.isList
    have Dw := Draws.list (prog := X.prog) (w := X.w) (A := X.A.in1) (I.ok.hd hc) it a (iter_apart h2 hL) its.toArray
    have hn : n = its.toArray.size := by
      rw [List.size_toArray]
      omega
    subst hn
    refine wpAny_pyNext_enum_endD Dw h1 ⟨h2, hL⟩ fun h' eb => ?_
    exact ⟨rfl, I.turned (t' := s.toks) (fun b o hb q => eb b o hb q) f0 f1 f3 f4 f5⟩
  self := fun A n s Q E st h => by
    obtain ⟨⟨_, h1⟩, _⟩ := st
    exact wpAny_pyIter_enum h1 h
theorem walk_enumK {K : PySem.W.Frag} {a : Addr} {xs : List V} {k0 : Int} : Walk (Itek K a k0) xs.length (fun H => SqL K H a xs) (YPair (fun i => some (.int (k0 + (i : Nat)))) (fun i => xs[i]?)) := by
  refine ⟨fun i H hi q => ⟨xs, xs[i], q, by simp [hi]⟩, fun H q => ⟨xs, q, rfl⟩, fun i H v H' hi q y => ?_⟩
  obtain ⟨T, x, h1, h2, h3, h4⟩ := y
  exact ⟨T, .int (k0 + (i : Nat)), x, h1, h2, h3, rfl, h4 xs q⟩
section
variable {X : Cx} {c : Mc} {e e2 : Expr} {p pos tpos kpos : Pos} {elts : List Expr} {kk : Nat} {ms : M (List D)} {mk : M D}
theorem cw_type_kw {M : Model} {A : Around} {E : Value → Shared → Prop} {s : Shared} {cpos : Pos} {T : String} {args : List (Bool × Sem Value)} {kws : List (Option Str × Sem Value)} {Q : Value → Shared → Prop} (h1 : args.any (·.1) = false) (h2 : kws.any (·.1.isNone) = false)
    (h : wpAny M A (evalArgs (.type T) true args kws) (fun a s1 => wpAny M A (call (.type T) a.pos a.kw) Q E s1) E s) : wpAny M A (callWith cpos (.type T) [] args kws) Q E s := by
  unfold callWith
  refine wpAny_bind (wpAny_holding (wpAny_mono h (fun a s1 g => ?_) fun _ _ z => z))
  refine wpAny_bind (wpAny_standAt ?_)
  simp only [h1, h2, Bool.or_false]
  refine wpAny_bind (wpAny_pure (wpAny_bind (wpAny_mono g (fun r s2 hr => ?_) fun _ _ z => z)))
  exact wpAny_bind (wpAny_holding (wpAny_point (wpAny_pure hr)))
/-- numbered from k on -/
def enK (ms : M (List D)) (mk : M D) : M (List D) := bnd ms fun ds => bnd mk fun k => opt (match ds, k with
  | [.lst es], .int n => if -(2 ^ 63) ≤ n ∧ n < 2 ^ 63 then some (enumF n es) else none
  | _, _ => none)
theorem mi_enumK (hK : c.K = X.K) (hg : Gl X "enumerate") (hm : X.mg "enumerate" = none) (h : PA X [e] (tD c ms)) (hk : PE X e2 (tE c mk))
    (he : backTo pos (starEach [e] X.env) = (false, eval e X.env) :: backTo pos (starEach [] X.env) := by rfl) (hpl : (backTo pos (starEach [e] X.env)).any (·.1) = false := by rfl)
    (hall : (backToKw pos (keywordEach [⟨some "start", e2, kpos⟩] X.env)).all (·.1.isSome) = true := by rfl) (hno : (backToKw pos (keywordEach [⟨some "start", e2, kpos⟩] X.env)).any (·.1.isNone) = false := by rfl)
    (hks : (backToKw pos (keywordEach [⟨some "start", e2, kpos⟩] X.env)).filterMap (·.1) = [Str.ofString "start"] := by rfl) :
    PI X (.Tuple elts kk tpos) (.Call (.Name "enumerate" p) [e] [⟨some "start", e2, kpos⟩] pos) (tI c (enK ms mk)) := by
  refine ⟨fun pins s σ H R I ⟨F, ρ, T, w, g⟩ => ?_⟩
  have kw : PK X [⟨some "start", e2, kpos⟩] (tCons (tE c mk) tNil) := pk_cons hk pk_nil
  have rd : tD c ms σ H (fun vs H1 => tCons (tE c mk) tNil σ H1 (fun zs H2 => ∃ (b : Addr) (us : List V) (n : Int), vs = [V.ref b] ∧ zs = [V.int n] ∧ -(2 ^ 63) ≤ n ∧ n < 2 ^ 63 ∧ SqL X.K H2 b us ∧ R (Itek X.K b n) H2)) := by
    refine ⟨F, ρ, T, w, g.split.imp fun ds ρ1 F1 H1 s1 g1 w1 vs rs => ⟨F1, ρ1, T, w1, g1.split.imp fun d ρ2 F2 H2 s2 g2 w2 v rv => ?_⟩⟩
    obtain ⟨l, hl, k⟩ := g2.opt
    split at hl
    · rename_i es n
      obtain ⟨v0, rfl, r1⟩ := reps1 rs
      split at hl
      · rename_i hb
        cases hl
        cases rv
        cases r1 with
        | @lst b us _ h1 h2 =>
          have h3 := s2 _ _ h1
          have h4 : c.reps F2 us es := h2.same s2
          refine ⟨b, us, n, rfl, rfl, hb.1, hb.2, SqL.of (w2.sub _ _ h3), ?_⟩
          rw [← hK]
          refine k F2 H2 (Same.refl _) w2 _ ⟨fun H => SqL c.K H b us, YPair (fun i => some (.int (n + (i : Nat)))) (fun i => us[i]?), by rw [enumF_len, ← h4.len]; exact walk_enumK, fun H e => SqL.of (e _ _ h3), fun i H x H' hi _ y => ?_⟩
          obtain ⟨q0, y1, y2, q1, q2, q3, q4, q5⟩ := y
          cases q4
          obtain ⟨d, z1, z2⟩ := h4.getV q5
          exact ⟨_, enumF_get z1, .inr ⟨q0, _, [.int (n + (i : Int)), d], q1, q2, q3, rfl, .cons (.int _) (.cons z2 .nil)⟩⟩
      · cases hl
    · cases hl
  refine thn (α := Value) ?_ (fun v s1 z => z)
  refine wpAny_Call_Name_kw (ld_blt I hg hm boot_enumerate ?_)
  refine cw_type_kw hpl hno ?_
  rw [he]
  refine evalArgs_kwB hall ?_
  rw [← he]
  refine thn (h.run pos pins s σ H _ I rd) fun us1 s1 ⟨vs, H1, I1, r1, q1⟩ => thn (kw.run pos pins s1 σ H1 _ I1 q1) fun ws s2 ⟨zs, H2, I2, r2, q2⟩ => ?_
  obtain ⟨b, us, n, rfl, rfl, n1, n2, hS, q⟩ := q2
  rw [hks]
  cases r1 with
  | cons ra rb =>
    cases rb
    cases ra
    cases r2 with
    | cons rc rd =>
      cases rd
      obtain ⟨t, rfl⟩ := rc
      obtain ⟨its, rv, pl, hz⟩ := I2.list hS
      refine enum_begins_start (PySem.begins_list b its.toArray) pl.isList n1 n2 fun h' z1 z2 z3 z4 => wpAny_pyIter_enum z1 ?_
      have I3 : Inv X pins σ H2 { s2 with heap := h' } := I2.kept (t' := s2.toks) z4
      refine ⟨s2.heap.objs.size + 1, [s2.heap.objs.size + 1, s2.heap.objs.size], _, _, H2, rfl, I3, turn_enumK b (s2.heap.objs.size + 1) s2.heap.objs.size n, ⟨⟨.none, ?_⟩, ⟨_, z2, rfl, rfl⟩, Nat.succ_ne_self _⟩, fun a ha => ?_, q⟩
      · rw [show n + ((0 : Nat) : Int) = n by omega]
        exact z1
      · have ha' : a = s2.heap.objs.size + 1 ∨ a = s2.heap.objs.size := by simpa using ha
        have le : s2.heap.objs.size ≤ a := by
          rcases ha' with z | z
          · rw [z]; exact Nat.le_succ _
          · rw [z]; exact Nat.le_refl _
        exact I2.fpOk le (I2.hok.fresh le)
end
end Mir

namespace Mir
open PySem PySem.Spec PyProof.Rows L2

/-! ### raise C(e), C's __init__ writing a message and keeping one field -/
/-- the fields whose message may be written -/
def fitD : D → Bool
  | .int i => decide (0 ≤ i) && decide (i ≤ 1000000)
  | .str z => decide (z.length ≤ 100)
  | _ => false
def fitV : V → Prop
  | .int i => 0 ≤ i ∧ i ≤ 1000000
  | .str z => z.length ≤ 100
  | _ => False
def spXI (B : Addr) (f : Str) : Sp := fun vs H Q _ => ∃ (a : Addr) (v : V), vs = [.ref a, v] ∧ fitV v ∧ H a = some (exo a B none) ∧ ∀ dx, H dx = none → dx ≠ a → Q .non (upd (upd H dx (exd dx [(f, v)])) a (exo a B (some dx)))
structure RaC (P : Program) (w : World) (K : PySem.W.Frag) (mg : Str → Option Value) (base : Heap) (cl : Str → Addr) (x f : Str) : Prop where
  ex : ∃ fB fdB, OexC K (cl x) ∧ PySem.W.findIn K (.ref (cl x)) "__init__" = some (some (.ref fB)) ∧ PySem.W.typeIn K (.ref fB) = some (.type "function") ∧ FnOk P w K mg base CX0 1 fB fdB ["self", f] (spXI (cl x) f) ∧ mg x = some (.ref (cl x)) ∧ Binds K fdB ["self", f] []
def raiseS (x f : Str) (me : M D) : MS := thenS me fun d ρ => if fitD d = true then .ex x f d ρ else .no
section
variable {X : Cx} {c : Mc} {cl : Str → Addr} {e : Expr} {p pos pos' : Pos} {x f : Str} {me : M D} {j : Nat}
theorem fit_of {F : Hp} {v : V} {d : D} (h : fitD d = true) (r : c.rep F v d) : fitV v := by
  cases d with
  | int i =>
    cases r
    simp only [fitD, Bool.and_eq_true, decide_eq_true_eq] at h
    exact h
  | str z =>
    cases r
    simp only [fitD, decide_eq_true_eq] at h
    exact h
  | _ => cases h
theorem ms_raise (C : RaC X.prog X.w X.K X.mg X.base cl x f) (hcl : c.cl = cl) (tk : Takes X c.W) (hc : X.calm = true) (hr : Room j X.A) (hk : 2 ≤ j) (hg : Gl X x) (he : PE X e (tE c me)) (hdb : (x == ("__debug__" : Str)) = false := by decide)
    (hs : starEach [e] X.env = (false, eval e X.env) :: starEach [] X.env := by rfl) :
    PS X (.Raise (some (.Call (.Name x p) [e] [] pos)) none pos') (tS c (raiseS x f me)) := by
  obtain ⟨fB, fdB, OB, iB, tB, FB, hm, bB⟩ := C.ex
  subst hcl
  refine psI (ps_raise hc tk (pmk_oex OB iB tB FB (hr.mono hk) bB .nil pass0 hg hm (pa_cons he pa_nil (hs := hs)) hdb hs)) fun E σ H ⟨F, ρ, T, w, g⟩ => ?_
  refine ⟨F, ρ, T, w, g.split.imp fun d ρ1 F1 H1 s1 g1 w1 v rv => ?_⟩
  by_cases hf : fitD d = true
  · rw [if_pos hf] at g1
    refine ⟨by show 1 ≤ 1000; decide, fun a ha => ⟨a, v, rfl, fit_of hf rv, upd_same, fun dx hdx hne => ⟨rfl, dx, [(f, v)], upd_same, ?_, ?_, ?_⟩⟩⟩
    · rw [upd_ne hne, upd_same]
    · rw [upd_ne hne] at hdx; exact hdx
    · have h1 : H1 dx = none := by rw [upd_ne hne] at hdx; exact hdx
      have e1 : upd (del (upd (upd (upd H1 a (exo a (c.cl x) none)) dx (exd dx [(f, v)])) a (exo a (c.cl x) (some dx))) a) dx (.xd [(f, v)]) = upd H1 dx (.xd [(f, v)]) := by
        funext b
        by_cases z : b = dx
        · subst z; rw [upd_same, upd_same]
        · rw [upd_ne z, upd_ne z]
          by_cases y : b = a
          · subst y; rw [del_same, ha]
          · rw [del_ne y, upd_ne y, upd_ne z, upd_ne y]
      rw [e1]
      exact g1 dx v σ _ _ (same_upd (w1.sub.free h1)) (w1.lay _ h1) upd_same (rv.same (same_upd (w1.sub.free h1)))
  · rw [if_neg hf] at g1
    exact g1.elim
end
end Mir

namespace Mir
open PySem PySem.Spec PyProof.Rows L2

/-! ### try: .. except C as n: y = n -/
def tryS (m : MS) (cn : Str) (ie iy : Nat) : MS := fun ρ => match m ρ with
  | .ex e f d ρ' => if e = cn ∧ ie < ρ'.length then .nx ((ρ'.set iy (some (.va (.exn e f d)))).set ie none) else .no
  | o => o
section
variable {X : Cx} {c : Mc} {cl : Str → Addr} {x n y : Str} {cv : Value} {ie iy : Nat} {body : List Stmt} {np pos pos' p1 p2 p3 : Pos} {m : MS}
theorem set3 {α : Type} {l : List α} {i j : Nat} {a b z : α} (h : i ≠ j) : ((l.set i a).set j b).set i z = (l.set j b).set i z := by
  rw [List.set_comm a b h, List.set_set]
theorem ms_try (hcl : c.cl = cl) (hs : X.stack = X.env :: X.outer) (hf : X.env.frame = some X.env.locals) (hex : X.ex = []) (hN : X.N.Nodup) (hi : X.N[ie]? = some n) (hln : X.env.kindOf n = some .local) (hc : Names X x cv) (tk : Takes X c.W) (hK : c.K = X.K) (hm : PySem.W.exmOne X.K (.ref (cl x)) cv = some true)
    (hbe : ∀ a, (ie, a) ∉ c.bi) (hby : ∀ a, (iy, a) ∉ c.bi) (hne : ie ≠ iy)
    (hb : ∀ (W : WX) (pn : List (Addr × Obj)) (xe : Value → Shared → Prop), Takes (X.tr pn xe) W → PassesOwn (model X.prog X.w) X.A X.env xe → PSs (X.tr pn xe) body (tS (c.wish W) m))
    (hsu : ∀ (a : Addr) (oe : Obj) (pn : List (Addr × Obj)), PSs (X.suite a ((a, oe) :: pn)) [.Assign [.Name y p1] (.Name n p2) p3] (fun E σ H => ∃ v : V, σ[ie]? = some (some v) ∧ E.nx (σ.set iy (some v)) H)) :
    PS X (.Try body [.ExceptHandler (some (.Name x np)) (some n) [.Assign [.Name y p1] (.Name n p2) p3] pos'] [] [] pos) (tS c (tryS m x ie iy)) := by
  subst hcl
  refine psI (My.ps_try_keep (tb := fun W => tS (c.wish W) m) (ts := fun _ _ _ E σ H => ∃ v : V, σ[ie]? = some (some v) ∧ E.nx (σ.set iy (some v)) H) hs hf hex hN hi hln hc tk hb (fun a oe cls d pn _ _ => hsu a oe pn)) fun E σ H ⟨F, ρ, T, w, g⟩ => ?_
  refine ⟨F, ρ, T, w.wish _, ?_⟩
  unfold tryS at g
  cases z : m ρ with
  | nx ρ1 => rw [z] at g; exact fun σ' F' H' s w' => g σ' F' H' s w'.unwish
  | bk ρ1 => rw [z] at g; exact fun σ' F' H' s w' => g σ' F' H' s w'.unwish
  | ct ρ1 => rw [z] at g; exact fun σ' F' H' s w' => g σ' F' H' s w'.unwish
  | no => rw [z] at g; exact g.elim
  | rt r ρ1 =>
    rw [z] at g
    cases r with
    | va d => exact fun v σ' F' H' s w' r => g v σ' F' H' s w'.unwish r
    | ow ds => exact fun a σ' F' H' s w' => g a σ' F' H' s w'.unwish
  | ex e f d ρ1 =>
    rw [z] at g
    by_cases he : e = x ∧ ie < ρ1.length
    · simp only [if_pos he] at g
      obtain ⟨rfl, hlt⟩ := he
      intro x' w' σ' F' H' s wd hx rw'
      refine ⟨true, hm, fun _ a ha => ?_, fun q => by cases q⟩
      have wd := wd.unwish
      have fa : F' a = none := wd.sub.free ha
      have s1 : Same F' (upd F' a (My.exK a (.ref (c.cl e)) (some x'))) := same_upd fa
      have w1 := (((wd.lay (My.exK a (.ref (c.cl e)) (some x')) ha).set (i := ie) (v := .ref a) (d := .raw (.ref a)) hbe (.raw _)).set (i := iy) (v := .ref a) (d := .exn e f d) hby (.exn upd_same (s1 _ _ hx) (rw'.same s1))).clr (i := ie) none hbe
      rw [set3 (l := ρ1) hne] at w1
      exact ⟨.ref a, by rw [List.getElem?_set_self (by rw [wd.len]; exact hlt)], g _ _ _ (s.trans s1) w1⟩
    · simp only [if_neg he] at g
      exact g.elim
end
end Mir

namespace Mir
open PySem PySem.Spec PyProof.Rows L2

/-! ### a kept exception: its field, its class -/
def dXf (cn n : Str) : D → Option D
  | .exn c f d => if c = cn ∧ f = n then some d else none
  | _ => none
section
variable {X : Cx} {c : Mc} {K : PySem.W.Frag} {cl : Str → Addr} {e : Expr} {pos : Pos} {x n cn : Str} {me : M D}
theorem me_cls {x : Str} (hcl : c.cl = cl) (hg : Gl X x) (hm : X.mg x = some (.ref (cl x))) (hd : (x == ("__debug__" : Str)) = false := by decide) : PE X (.Name x pos) (tE c (ret (.cls x))) := me_c (pe_glob (v := .ref (c.cl x)) hg (hcl ▸ hm) rfl hd) fun _ => .cls x
theorem me_xk (hcl : c.cl = cl) (XB : XfC X.K (cl cn)) (hno : PySem.W.findIn X.K (.ref (cl cn)) n = some none) (he : PE X e (tE c me)) (hb : attributeBase e n X.env (eval e X.env) = eval e X.env := by rfl) :
    PE X (.Attribute e n pos) (tE c (un (dXf cn n) me)) := peI (My.pe_xk (C := c.cl cn) (hcl ▸ XB) (hcl ▸ hno) he hb) fun σ H Q ⟨F, ρ, T, w, g⟩ => ⟨F, ρ, T, w, g.split.imp fun d ρ1 F1 H1 s1 g1 w1 v rv => by
  obtain ⟨d', e', k⟩ := g1.opt
  cases d with
  | exn c0 f0 d0 =>
    by_cases q : c0 = cn ∧ f0 = n
    · replace e' : (if c0 = cn ∧ f0 = n then some d0 else none) = some d' := e'
      rw [if_pos q] at e'
      obtain ⟨rfl, rfl⟩ := q
      cases e'
      cases rv with
      | exn h hx hw => exact ⟨_, _, _, _, rfl, w1.sub _ _ h, w1.sub _ _ hx, by rw [List.lookup_cons_self], k F1 H1 (Same.refl _) w1 _ hw⟩
    · replace e' : (if c0 = cn ∧ f0 = n then some d0 else none) = some d' := e'
      rw [if_neg q] at e'
      cases e'
  | _ => cases e'⟩
def isC : D → Bool
  | .cls _ => true
  | .raw _ => true
  | _ => false
theorem now_c {F H : Hp} {v : V} {d : D} (h : isC d = true) (n : Now c F H v d) : c.rep F v d := by
  cases d with
  | lst _ => cases h
  | _ => exact n
/-- what is known of classes: is an exception of the class c one of e? -/
def XtOk (K : PySem.W.Frag) (cl : Str → Addr) (tb : Str → D → Option Bool) : Prop := ∀ c e b, tb c e = some b → My.ExI K (cl c) ∧ ∀ F v, Rep K cl F v e → ∃ u, ClsV v u ∧ PySem.W.kitOne K (.ref (cl c)) u = some b
def isxD (tb : Str → D → Option Bool) (d e : D) : Option D := match d with
  | .exn c _ _ => if isC e = true then (tb c e).map .bl else none
  | _ => none
def anyX (tb : Str → D → Option Bool) (c : Str) : List D → Option Bool
  | [] => some false
  | e :: es => (tb c e).bind fun b => (anyX tb c es).map (b || ·)
def isxTD (tb : Str → D → Option Bool) (d e : D) : Option D := match d, e with
  | .exn c _ _, .tup (e1 :: es) => (anyX tb c (e1 :: es)).map .bl
  | _, _ => none
theorem now_exn {F H : Hp} {v : V} {c0 f0 : Str} {d0 : D} (n : Now c F H v (.exn c0 f0 d0)) : ∃ p x w, v = .ref p ∧ F p = some (My.exK p (.ref (c.cl c0)) (some x)) ∧ F x = some (.xd [(f0, w)]) := by
  cases n with
  | exn h hx hw => exact ⟨_, _, _, rfl, h, hx⟩
theorem o_isx {tb : Str → D → Option Bool} (ht : XtOk K cl tb) (hK : c.K = K) (hcl : c.cl = cl) : OpN c (kE c) (My.rIsX K) (f2 (isxD tb)) := opN2 fun {F H σ ρ T x y d1 d2 d Q} w n1 n2 h k => by
  subst hK hcl
  unfold isxD at h
  split at h
  · rename_i c0 f0 d0
    obtain ⟨p, x', w', rfl, h1, h2⟩ := now_exn n1
    split at h
    · rename_i hc
      cases q : tb c0 d2 with
      | none => rw [q] at h; cases h
      | some b =>
        rw [q] at h
        cases h
        obtain ⟨i1, i2⟩ := ht _ _ _ q
        obtain ⟨u, hu, hk⟩ := i2 F y (now_c hc n2)
        exact ⟨p, _, _, _, y, u, b, rfl, w.sub _ _ h1, w.sub _ _ h2, i1, hu, hk, k F H (Same.refl _) w _ (.bl _)⟩
    · cases h
  · cases h
/-- of several classes, the tuple being read -/
def rIsXU (K : PySem.W.Frag) : List V → Hp → VK → Prop := fun xs H Q => ∃ (a D dd tp : Addr) (fs : List (Str × V)) (cs : List V) (us : List Value) (b : Bool), xs = [.ref a, .ref tp] ∧ H a = some (My.exK a (.ref D) (some dd)) ∧ H dd = some (.xd fs) ∧ My.ExI K D ∧ SqU K H tp cs ∧ Paired ClsV cs us ∧ PySem.W.kitAny K (.ref D) us = some b ∧ Q (.bl b) H
theorem call_isXU : CallR X (.builtin "isinstance") (rIsXU X.K) := by
  intro pins s σ H xs us Q I r h
  obtain ⟨a, D, dd, tp, fs, cs, ws, b, rfl, ea, ed, C, hT, k, e, q⟩ := h
  rcases hT with hT | ⟨o, its, m, h1, h2, h3, h4, h5⟩
  · exact My.call_isXT pins s σ H _ us Q I r ⟨a, D, dd, tp, fs, cs, ws, b, rfl, ea, ed, C, hT, k, e, q⟩
  · obtain ⟨u1, u2, rfl, r1, r2⟩ := vals2 r
    cases (show u1 = Value.ref a from r1)
    cases (show u2 = Value.ref tp from r2)
    obtain ⟨oe, od, J⟩ := My.kept_at I ea ed
    have e3 := ClsV.all k h5
    subst e3
    obtain ⟨oc, odt, dt, sl⟩ := o
    simp only at h2 h3
    subst h2 h3
    exact PySem.W.kia_tup (PySem.W.kitx_exc C.ic C.xf.ga C.xf.gg C.xf.exC C.ha C.hn C.ht C.hm) I.kIn J (I.kIn _ _ h1) e (fun z => nomatch z) fun tk => ⟨.bl b, H, I.tok tk, rfl, q⟩
theorem anyX_ok {tb : Str → D → Option Bool} (ht : XtOk c.K c.cl tb) {F : Hp} {c0 : Str} : ∀ {vs : List V} {es : List D}, c.reps F vs es → ∀ {b : Bool}, anyX tb c0 es = some b → ∃ us, Paired ClsV vs us ∧ PySem.W.kitAny c.K (.ref (c.cl c0)) us = some b
  | _, _, .nil, b, h => by cases h; exact ⟨[], .nil, rfl⟩
  | _, _, .cons (v := v) (d := e1) (ds := es) r rs, b, h => by
    unfold anyX at h
    cases q : tb c0 e1 with
    | none => rw [q] at h; cases h
    | some b1 =>
      rw [q] at h
      change (anyX tb c0 es).map (b1 || ·) = some b at h
      cases q2 : anyX tb c0 es with
      | none => rw [q2] at h; cases h
      | some b2 =>
        rw [q2] at h
        cases h
        obtain ⟨u, hu, hk⟩ := (ht _ _ _ q).2 F v r
        obtain ⟨us, hus, hks⟩ := anyX_ok ht rs q2
        refine ⟨u :: us, .cons hu hus, ?_⟩
        unfold PySem.W.kitAny
        rw [hk]
        cases b1 with
        | true => rfl
        | false => exact hks.trans (by cases b2 <;> rfl)
theorem o_isxT {tb : Str → D → Option Bool} (ht : XtOk K cl tb) (hK : c.K = K) (hcl : c.cl = cl) : OpN c (kE c) (rIsXU K) (f2 (isxTD tb)) := opN2 fun {F H σ ρ T x y d1 d2 d Q} w n1 n2 h k => by
  subst hK hcl
  unfold isxTD at h
  split at h
  · rename_i c0 f0 d0 e1 es
    obtain ⟨p, x', w', rfl, h1, h2⟩ := now_exn n1
    obtain ⟨a, vs, rfl, h3, h4⟩ := now_tup n2
    cases q : anyX tb c0 (e1 :: es) with
    | none => rw [q] at h; cases h
    | some b =>
      rw [q] at h
      cases h
      obtain ⟨us, hus, hks⟩ := anyX_ok ht h4 q
      have i1 : My.ExI c.K (c.cl c0) := by
        unfold anyX at q
        cases q1 : tb c0 e1 with
        | none => rw [q1] at q; cases q
        | some b1 => exact (ht _ _ _ q1).1
      exact ⟨p, _, _, a, _, vs, us, b, rfl, w.sub _ _ h1, w.sub _ _ h2, i1, h3.same w.sub, hus, hks, k F H (Same.refl _) w _ (.bl _)⟩
  · cases h
end
end Mir

namespace Mir
open PySem PySem.Spec PyProof.Rows L2

/-! ### sorted(numbers) -/
def leB (a b : Int) : Bool := decide (a ≤ b)
def sortL (ns : List Int) : List Int := ns.mergeSort leB
def sortD : D → Option Sl
  | .lst ds => (intsD ds).bind fun ns => if ns.length < 64 then some (.ow ((sortL ns).map .int)) else none
  | _ => none
theorem sortL_pw (ns : List Int) : (sortL ns).Pairwise (· ≤ ·) := (List.pairwise_mergeSort (le := leB) (fun a b c h1 h2 => by simp only [leB, decide_eq_true_eq] at *; omega) (fun a b => by simp only [leB, Bool.or_eq_true, decide_eq_true_eq]; omega) ns).imp fun h => by simpa [leB] using h
theorem sortL_eq {ns ms : List Int} (h1 : ms.Perm ns) (h2 : ms.Pairwise (· ≤ ·)) : ms = sortL ns := List.Perm.eq_of_pairwise (fun a b _ _ h1 h2 => by omega) h2 (sortL_pw ns) (h1.trans (List.mergeSort_perm ns leB).symm)
section
variable {c : Mc} {K : PySem.W.Frag}
theorem o_sorted (hK : c.K = K) : OpN c (kL c) (rSorted K) (f1 sortD) := opN1 fun {F H σ ρ T x d1 d Q} w n h k => by
  subst hK
  unfold sortD at h
  split at h
  · rename_i ds
    obtain ⟨a, vs, rfl, h1, h2⟩ := now_lst n
    cases q : intsD ds with
    | none => rw [q] at h; cases h
    | some ns =>
      rw [q] at h
      change (if ns.length < 64 then some (Sl.ow ((sortL ns).map .int)) else none) = some d at h
      by_cases hl : ns.length < 64
      · rw [if_pos hl] at h
        cases h
        rw [ints_some q] at h2
        cases h2.toInts
        refine ⟨a, ns, rfl, SqL.of h1, hl, fun ms p h3 h4 hp => ?_⟩
        rw [sortL_eq h3 h4]
        exact new_lst w hp (Reps.ints _) k
      · rw [if_neg hl] at h
        cases h
  · cases h
end
end Mir

namespace Mir
open PySem PySem.Spec PyProof.Rows L2
/-! ### an expression that only looks at all lists, and comes to a thing with no list in it -/
abbrev Mc.lend (c : Mc) (H : Hp) : Mc := ⟨c.K, c.cl, H, H, [], fun _ _ _ _ => False⟩
def frz1 : Sl → Sl
  | .ow ds => .va (.lst ds)
  | s => s
def frzE (ρ : En) : En := ρ.map (Option.map frz1)
def scD : D → Bool
  | .non => true
  | .bl _ => true
  | .int _ => true
  | .str _ => true
  | _ => false
theorem sc_rep {K : PySem.W.Frag} {cl : Str → Addr} {F F' : Hp} {v : V} {d : D} (h : scD d = true) (r : Rep K cl F v d) : Rep K cl F' v d := by
  cases r <;> first | exact .non | exact .bl _ | exact .int _ | exact .str _ | cases h
def lendM (m : M D) : M D := fun ρ => match m (frzE ρ) with
  | .ok d _ => if scD d = true then .ok d ρ else .no
  | _ => .no
theorem frz_get {ρ : En} {i : Nat} {s : Sl} (h : (frzE ρ)[i]? = some (some s)) : ∃ u, ρ[i]? = some (some u) ∧ s = frz1 u := by
  unfold frzE at h
  rw [List.getElem?_map] at h
  cases e : ρ[i]? with
  | none => rw [e] at h; cases h
  | some o =>
    rw [e] at h
    cases o with
    | none => cases h
    | some u => cases h; exact ⟨u, rfl, rfl⟩
theorem frz_va {u : Sl} {ds : List D} : frz1 u ≠ .ow ds := by
  cases u <;> intro h <;> cases h
section
variable {X : Cx} {c : Mc} {F F' H H' H1 : Hp} {σ : L2.St} {ρ ρ' : En} {T : Tm} {e : Expr}
theorem Wd.lend (w : Wd c F H σ ρ T) : Wd (c.lend H) H H σ (frzE ρ) [] :=
  { len := by rw [w.len]; unfold frzE; rw [List.length_map]
    sub := Same.refl _
    ext := Same.refl _
    new := fun p h1 h2 => absurd h1 h2
    keep := fun a o _ h => h
    va := fun i d h => by
      obtain ⟨u, h1, h2⟩ := frz_get h
      cases u with
      | va d' =>
        cases h2
        obtain ⟨v, g1, g2⟩ := w.va i _ h1
        exact ⟨v, g1, Rep.same w.sub g2⟩
      | ow ds =>
        cases h2
        obtain ⟨a, g1, ⟨_, vs, g2, g3⟩, _⟩ := w.ow i ds h1
        exact ⟨_, g1, .lst g2 (Reps.same w.sub g3)⟩
    ow := fun i ds h => by
      obtain ⟨u, h1, h2⟩ := frz_get h
      exact absurd h2.symm frz_va
    tm := fun a ds h => by cases h
    dis := fun i j a ds es h1 h2 _ _ => by
      obtain ⟨u, h1, h2⟩ := frz_get h1
      exact absurd h2.symm frz_va
    dit := fun i ds a es h _ _ => by
      obtain ⟨u, h1, h2⟩ := frz_get h
      exact absurd h2.symm frz_va
    nod := List.nodup_nil
    bs := fun i a h => by cases h }
theorem Wd.unlend (w : Wd c F H σ ρ T) (e : Same H H1) : Wd c F H1 σ ρ T :=
  have up : ∀ {a : Addr} {ds : List D}, Own c F H a ds → Own c F H1 a ds := fun ⟨h1, vs, h2, h3⟩ => ⟨h1, vs, e _ _ h2, h3⟩
  { len := w.len, sub := w.sub.trans e, ext := w.ext, new := w.new
    keep := fun a o h1 h2 => e _ _ (w.keep a o h1 h2)
    va := w.va
    ow := fun i ds h => by
      obtain ⟨a, h1, h2, h3⟩ := w.ow i ds h
      exact ⟨a, h1, up h2, h3⟩
    tm := fun a ds h => ⟨up (w.tm a ds h).1, (w.tm a ds h).2⟩
    dis := w.dis, dit := w.dit, nod := w.nod, bs := w.bs }
theorem me_lend {m : M D} (h : ∀ H, PE X e (tE (c.lend H) m)) : PE X e (tE c (lendM m)) := ⟨fun pins s σ H Q I ⟨F, ρ, T, w, g⟩ => by
  refine (h H).run pins s σ H Q I ⟨H, frzE ρ, [], w.lend, ?_⟩
  unfold lendM at g
  cases z : m (frzE ρ) with
  | no => rw [z] at g; exact g.elim
  | ex _ _ _ _ => rw [z] at g; exact g.elim
  | ok d ρ1 =>
    rw [z] at g
    by_cases hd : scD d = true
    · simp only [if_pos hd] at g
      intro F1 H1 s1 w1 v rv
      have e1 : Same H H1 := fun a o ha => w1.keep a o (fun z => by cases z) ha
      exact g F H1 (Same.refl _) (w.unlend e1) v (sc_rep hd rv)
    · simp only [if_neg hd] at g
      exact g.elim⟩
/-- a name's list is changed no more from now on -/
def rdf (i : Nat) : M D := fun ρ => match ρ[i]? with
  | some (some (.va d)) => .ok d ρ
  | some (some (.ow ds)) => .ok (.lst ds) (ρ.set i (some (.va (.lst ds))))
  | _ => .no
theorem set_self' {α : Type} {l : List α} {i : Nat} {x : α} (h : l[i]? = some x) : l.set i x = l := by
  obtain ⟨h1, rfl⟩ := List.getElem?_eq_some_iff.mp h
  exact List.set_getElem_self h1
theorem me_frz (i : Nat) {x : Str} {pos : Pos} (hb : ∀ a, (i, a) ∉ c.bi) (hN : X.N[i]? = some x := by rfl) (hv : Vis X.env.scope x := by first | exact Or.inl rfl | exact Or.inr (Or.inl rfl) | exact Or.inr (Or.inr rfl)) (hd : (x == ("__debug__" : Str)) = false := by decide)
    (hcd : (x == ("__classdict__" : Str)) = false := by decide) : PE X (.Name x pos) (tE c (rdf i)) := peI (pe_var hN hv hd hcd) fun σ H Q ⟨F, ρ, T, w, g⟩ => by
  unfold rdf at g
  cases h : ρ[i]? with
  | none => rw [h] at g; exact g.elim
  | some o =>
    rw [h] at g
    cases o with
    | none => exact g.elim
    | some s =>
      cases s with
      | ow ds =>
        obtain ⟨a, h1, w1⟩ := w.give h hb
        obtain ⟨F2, s2, w2, r2⟩ := w1.frz
        have w3 := w2.set (i := i) (v := .ref a) (d := .lst ds) hb r2
        rw [List.set_set, set_self' h1] at w3
        exact ⟨.ref a, h1, g F2 H s2 w3 _ r2⟩
      | va d =>
        obtain ⟨v, h1, h2⟩ := w.va i d h
        exact ⟨v, h1, g F H (Same.refl _) w v h2⟩
theorem hKl {K : PySem.W.Frag} (h : c.K = K) : (c.lend H).K = K := h
theorem hcll {cl : Str → Addr} (h : c.cl = cl) : (c.lend H).cl = cl := h
theorem hbl {om : Option Nat} : ∀ i a, (i, a) ∈ (c.lend H).bi → om = some i := fun _ _ h => by cases h
end
end Mir

namespace Mir
open PySem PySem.Spec PyProof.Rows L2
/-! ### a comprehension's list that is changed no more -/
theorem fz_le {c : Mc} {m : M Sl} {σ : L2.St} {H : Hp} {Q : VK} (h : tL c (mVa (mFz m)) σ H Q) : tL c m σ H Q := by
  obtain ⟨F, ρ, T, w, g⟩ := h
  refine ⟨F, ρ, T, w, g.split.split.imp fun s ρ1 F1 H1 s1 k => ?_⟩
  have k := k F1 H1 (Same.refl _)
  cases s with
  | va d => exact k F1 H1 (Same.refl _)
  | ow ds =>
    intro a w1
    obtain ⟨F2, s2, w2, r2⟩ := w1.frz
    exact k F2 H1 s2 w2 _ r2
theorem ms_setLcF {X : Cx} {c : Mc} {i : Nat} {tg elt iter : Expr} {ifs : List Expr} {scope : Scope} {own : List (Str × Nat)} {mi : M (List D)} {t : Tg} {ts : List Nat} {tt : M Bool} {me : M D} {y : Str} {py spos pos : Pos} (hbi : ∀ a, (i, a) ∉ c.bi) (hb : ∀ v ∈ own.map (·.2), ∀ a, (v, a) ∉ c.bi) (hts : ∀ j ∈ ts, j ∈ own.map (·.2)) (hc : X.calm = true) (hN : X.N.Nodup) (hy : X.N[i]? = some y) (hyl : X.env.scope.names.lookup y = some .local)
    (hsw : swapsWith (.ListComp elt [⟨tg, iter, ifs, 0⟩] scope pos) (some (.Name y py)) spos.line X.env = pure true) (hi : PI X tg iter (tI c mi)) (ok : BlkOk X.N X.env.scope scope own)
    (hg : ∀ (s : Shared) (H : Hp) (C : Addr) (cl : List (Str × Addr)) (fp : List Addr), PG (X.blk s H scope (compEnvC scope cl C X.env) fp) tg (gM c.calm t ts)) (ht : ∀ (s : Shared) (H : Hp) (C : Addr) (cl : List (Str × Addr)) (fp : List Addr), PTs (X.blk s H scope (compEnvC scope cl C X.env) fp) ifs (tT c.calm tt))
    (he : ∀ (s : Shared) (H : Hp) (C : Addr) (cl : List (Str × Addr)) (fp : List Addr), PE (X.blk s H scope (compEnvC scope cl C X.env) fp) elt (tE c.calm me)) (hs : ∀ x, foldedSetIterable iter X.env x = pure x := by intro _; rfl) :
    PS X (.Assign [.Name y py] (.ListComp elt [⟨tg, iter, ifs, 0⟩] scope pos) spos) (tS c (asgS i (mVa (mFz (mLc mi t tt me (own.map (·.2))))))) := psI (ps_setLc hc hN hy hyl hsw hi ok hg ht he hs) fun E σ H h => asg_le hbi (fun _ _ _ q => lc_le hb hts (fz_le q)) h
/-! ### what mirrors come to -/
theorem lt64_of {i : Int} (h1 : -18446744073709551616 < i) (h2 : i < 18446744073709551616) : lt64 i = true := blt_of (by omega)
theorem cMul_r {i j : Int} (h1 : -18446744073709551616 < j) (h2 : j < 18446744073709551616) : cMul i j = true := by
  unfold cMul
  rw [lt64_of h1 h2, Bool.or_true]
theorem cMul_l {i j : Int} (h1 : -18446744073709551616 < i) (h2 : i < 18446744073709551616) : cMul i j = true := by
  unfold cMul
  rw [lt64_of h1 h2, Bool.true_or]
@[simp] theorem cDiv_eq {i j : Int} (h1 : 0 < j) (h2 : j < 1073741824) : cDiv i j = true := by
  unfold cDiv
  rw [decide_eq_true h1, blt_of (by omega)]
  rfl
@[simp] theorem cMod_eq {i j : Int} (h1 : 0 < j) : cMod i j = true := decide_eq_true h1
@[simp] theorem cPow_eq {i j : Int} (h1 : 0 ≤ j) (h2 : j < 1000000) (h3 : i.natAbs < 18446744073709551616) : cPow i j = true := by
  unfold cPow
  rw [decide_eq_true h1, blt_of (by omega), blt_of h3]
  rfl
theorem in62_of {i : Int} (h1 : -4611686018427387904 < i) (h2 : i < 4611686018427387904) : in62 i = true := blt_of (by omega)
theorem rng1_nat {m : Nat} (h : m ≤ 1000000) : rng1 [.int (m : Int)] = some (upto 0 m) := by
  have g : in62 (m : Int) = true := in62_of (by omega) (by omega)
  show (if in62 (m : Int) = true then some (upto 0 (m : Int).toNat) else none) = _
  rw [if_pos g, Int.toNat_natCast]
theorem upto_get {lo : Int} {n i : Nat} {d : D} (h : (upto lo n)[i]? = some d) : i < n ∧ d = .int (lo + (i : Int)) := by
  have h1 : i < n := by
    have := (List.getElem?_eq_some_iff.mp h).1
    simpa [upto] using this
  have h2 := get_upto (f := fun (i : Nat) => D.int (lo + (i : Int))) h1
  unfold upto at h
  rw [h] at h2
  exact ⟨h1, Option.some.inj h2⟩
theorem upto_len {lo : Int} {n : Nat} : (upto lo n).length = n := by simp [upto]
theorem uptoC_get {lo k : Int} {n i : Nat} {d : D} (h : (uptoC lo k n)[i]? = some d) : i < n ∧ d = .int (lo + (i : Int) * k) := by
  have h1 : i < n := by
    have := (List.getElem?_eq_some_iff.mp h).1
    simpa [uptoC] using this
  have h2 := get_upto (f := fun (i : Nat) => D.int (lo + (i : Int) * k)) h1
  unfold uptoC at h
  rw [h] at h2
  exact ⟨h1, Option.some.inj h2⟩
theorem uptoC_len {lo k : Int} {n : Nat} : (uptoC lo k n).length = n := by simp [uptoC]
theorem rng3_nat {n c : Nat} (hn : n ≤ 1000000) (hc : 0 < c) (hc2 : c ≤ 1000000) : rng3 [.int 0, .int (n : Int), .int (c : Int)] = some (uptoC 0 c ((n + c - 1) / c)) := by
  have e : Builtin.Range.rangeSize 0 n c = (((n + c - 1) / c : Nat) : Int) := by
    rw [rangeSize_pos (by omega) (by omega), show ((n : Int) + c - 1) = ((n + c - 1 : Nat) : Int) by omega]
    rfl
  show (if (!((c : Int) == 0) && (Nat.blt (c : Int).natAbs 1073741824 && (Nat.blt (0 : Int).natAbs 1099511627776 && Nat.blt (n : Int).natAbs 1099511627776))) = true then some (uptoC 0 c (Builtin.Range.rangeSize 0 n c).toNat) else none) = _
  rw [e, blt_of (show (c : Int).natAbs < 1073741824 by omega), blt_of (show (n : Int).natAbs < 1099511627776 by omega), show ((c : Int) == 0) = false from by simpa using (by omega : ¬ c = 0), Int.toNat_natCast]
  rfl
theorem atI_cast {α : Type} {l : List α} {i : Nat} : atI l (i : Int) = l[i]? := by
  unfold atI ixN
  rw [if_pos (by omega)]
  by_cases h : (i : Int) < l.length
  · rw [if_pos h]
    simp
  · rw [if_neg h, List.getElem?_eq_none (by omega)]
    rfl
theorem cut_nat {ds : List D} {a b : Nat} : cutD ds (some (a : Int)) (some (b : Int)) = (ds.drop a).take (b - a) := by
  unfold cutD
  rw [HT.sIx_nat, HT.sIx_nat]
  by_cases h : a ≤ ds.length
  · rw [Nat.min_eq_left h]
    by_cases h2 : b ≤ ds.length
    · rw [Nat.min_eq_left h2]
    · rw [Nat.min_eq_right (by omega), List.take_of_length_le (by rw [List.length_drop]; omega), List.take_of_length_le (by rw [List.length_drop]; omega)]
  · rw [List.drop_of_length_le (by omega), List.drop_of_length_le (by omega), List.take_nil, List.take_nil]
theorem cut_to {ds : List D} {n : Nat} (h : n ≤ ds.length) : cutD ds none (some (-(n : Int))) = if n = 0 then [] else ds.take (ds.length - n) := by
  unfold cutD
  by_cases z : n = 0
  · subst z
    rw [if_pos rfl]
    simp [HT.sIx]
  · rw [if_neg z]
    have e : HT.sIx ds.length ds.length (some (-(n : Int))) = ds.length - n := by
      show (if -(n : Int) < 0 then (-(n : Int) + (ds.length : Int)).toNat else _) = _
      rw [if_pos (by omega)]
      omega
    rw [e]
    simp [HT.sIx]
theorem cut_from {ds : List D} {n : Nat} (h : n ≤ ds.length) (z : n ≠ 0) : cutD ds (some (-(n : Int))) none = ds.drop (ds.length - n) := by
  unfold cutD
  have e : HT.sIx ds.length 0 (some (-(n : Int))) = ds.length - n := by
    show (if -(n : Int) < 0 then (-(n : Int) + (ds.length : Int)).toNat else _) = _
    rw [if_pos (by omega)]
    omega
  rw [e]
  show (ds.drop (ds.length - n)).take (ds.length - (ds.length - n)) = _
  rw [List.take_of_length_le (by rw [List.length_drop]; omega)]
/-! ### isinstance of built-in classes -/
@[simp] theorem kB_NoneType_bool : kitB "NoneType" "bool" = some false := by decide +kernel
@[simp] theorem kB_NoneType_int : kitB "NoneType" "int" = some false := by decide +kernel
@[simp] theorem kB_NoneType_str : kitB "NoneType" "str" = some false := by decide +kernel
@[simp] theorem kB_NoneType_list : kitB "NoneType" "list" = some false := by decide +kernel
@[simp] theorem kB_NoneType_tuple : kitB "NoneType" "tuple" = some false := by decide +kernel
@[simp] theorem kB_bool_bool : kitB "bool" "bool" = some true := by decide +kernel
@[simp] theorem kB_bool_int : kitB "bool" "int" = some true := by decide +kernel
@[simp] theorem kB_bool_str : kitB "bool" "str" = some false := by decide +kernel
@[simp] theorem kB_bool_list : kitB "bool" "list" = some false := by decide +kernel
@[simp] theorem kB_bool_tuple : kitB "bool" "tuple" = some false := by decide +kernel
@[simp] theorem kB_int_bool : kitB "int" "bool" = some false := by decide +kernel
@[simp] theorem kB_int_int : kitB "int" "int" = some true := by decide +kernel
@[simp] theorem kB_int_str : kitB "int" "str" = some false := by decide +kernel
@[simp] theorem kB_int_list : kitB "int" "list" = some false := by decide +kernel
@[simp] theorem kB_int_tuple : kitB "int" "tuple" = some false := by decide +kernel
@[simp] theorem kB_str_bool : kitB "str" "bool" = some false := by decide +kernel
@[simp] theorem kB_str_int : kitB "str" "int" = some false := by decide +kernel
@[simp] theorem kB_str_str : kitB "str" "str" = some true := by decide +kernel
@[simp] theorem kB_str_list : kitB "str" "list" = some false := by decide +kernel
@[simp] theorem kB_str_tuple : kitB "str" "tuple" = some false := by decide +kernel
@[simp] theorem kB_list_bool : kitB "list" "bool" = some false := by decide +kernel
@[simp] theorem kB_list_int : kitB "list" "int" = some false := by decide +kernel
@[simp] theorem kB_list_str : kitB "list" "str" = some false := by decide +kernel
@[simp] theorem kB_list_list : kitB "list" "list" = some true := by decide +kernel
@[simp] theorem kB_list_tuple : kitB "list" "tuple" = some false := by decide +kernel
@[simp] theorem kB_tuple_bool : kitB "tuple" "bool" = some false := by decide +kernel
@[simp] theorem kB_tuple_int : kitB "tuple" "int" = some false := by decide +kernel
@[simp] theorem kB_tuple_str : kitB "tuple" "str" = some false := by decide +kernel
@[simp] theorem kB_tuple_list : kitB "tuple" "list" = some false := by decide +kernel
@[simp] theorem kB_tuple_tuple : kitB "tuple" "tuple" = some true := by decide +kernel
/-! ### lists of numbers are alike just where they are the same -/
theorem toPs_ints : ∀ ns : List Int, toPs (ns.map D.int) = some (ns.map PyData.int)
  | [] => rfl
  | n :: ns => by
    show (match some (PyData.int n), toPs (ns.map D.int) with | some p, some ps => some (p :: ps) | _, _ => none) = _
    rw [toPs_ints ns]
    rfl
theorem toP_ints (ns : List Int) : toP (.lst (ns.map .int)) = some (.list (ns.map .int)) := by
  show (toPs (ns.map D.int)).map PyData.list = _
  rw [toPs_ints]
  rfl
theorem eqvAll_ints : ∀ ns ms : List Int, PyData.eqvAll (ns.map .int) (ms.map .int) = decide (ns = ms)
  | [], [] => by simp [PyData.eqvAll]
  | [], _ :: _ => by simp [PyData.eqvAll]
  | _ :: _, [] => by simp [PyData.eqvAll]
  | n :: ns, m :: ms => by
    rw [List.map_cons, List.map_cons, PyData.eqvAll, eqvAll_ints ns ms]
    by_cases h : n = m <;> by_cases h2 : ns = ms <;> simp [h, h2, PyData.eqv]
theorem eqD_ints (ns ms : List Int) : eqD (.lst (ns.map .int)) (.lst (ms.map .int)) = some (decide (ns = ms)) := by
  unfold eqD
  rw [toP_ints, toP_ints]
  show (if _ then _ else _) = _
  rw [if_pos ⟨PySem.W.shaped_ints ns, PySem.W.shaped_ints ms⟩]
  show some (PyData.eqv (.list (ns.map .int)) (.list (ms.map .int))) = _
  rw [PyData.eqv, eqvAll_ints]
@[simp] theorem eqD_int (i j : Int) : eqD (.int i) (.int j) = some (decide (i = j)) := by
  show (if SeqAt.shaped (.int i) = true ∧ SeqAt.shaped (.int j) = true then some (PyData.eqv (.int i) (.int j)) else none) = _
  rw [if_pos ⟨rfl, rfl⟩, PyData.eqv]
  by_cases h : i = j <;> simp [h]
@[simp] theorem eqD_bl (i j : Bool) : eqD (.bl i) (.bl j) = some (decide (i = j)) := by
  cases i <;> cases j <;> rfl
theorem runLc_map {t : Tg} {tt : M Bool} {me : M D} {vs : List Nat} {g : D → D} {ρ : En} : ∀ {ds : List D} {acc : List D}, (∀ d ∈ ds, ∃ ρ1 ρ2 ρ3, t d ρ = some ρ1 ∧ tt ρ1 = .ok true ρ2 ∧ me ρ2 = .ok (g d) ρ3 ∧ wipeE ρ3 vs = ρ) → acc.length + ds.length ≤ 100000 →
    runLc t tt me vs ds ρ acc = some (acc ++ ds.map g, ρ)
  | [], acc, _, _ => by unfold runLc; rw [List.map_nil, List.append_nil]
  | d :: ds, acc, h, hl => by
    obtain ⟨ρ1, ρ2, ρ3, h1, h2, h3, h4⟩ := h d List.mem_cons_self
    rw [List.length_cons] at hl
    unfold runLc
    simp only [h1, h2, h3, if_true]
    rw [if_pos (by omega), h4, runLc_map (fun e he => h e (List.mem_cons_of_mem _ he)) (by rw [List.length_append, List.length_singleton]; omega), List.map_cons, List.append_assoc]
    rfl
/-- with a test -/
theorem runLc_filter {t : Tg} {tt : M Bool} {me : M D} {vs : List Nat} {g : D → D} {p : D → Bool} {ρ : En} : ∀ {ds : List D} {acc : List D}, (∀ d ∈ ds, ∃ ρ1 ρ2, t d ρ = some ρ1 ∧ tt ρ1 = .ok (p d) ρ2 ∧ (p d = false → wipeE ρ2 vs = ρ) ∧ (p d = true → ∃ ρ3, me ρ2 = .ok (g d) ρ3 ∧ wipeE ρ3 vs = ρ)) → acc.length + ds.length ≤ 100000 →
    runLc t tt me vs ds ρ acc = some (acc ++ (ds.filter p).map g, ρ)
  | [], acc, _, _ => by unfold runLc; rw [List.filter_nil, List.map_nil, List.append_nil]
  | d :: ds, acc, h, hl => by
    obtain ⟨ρ1, ρ2, h1, h2, h3, h4⟩ := h d List.mem_cons_self
    rw [List.length_cons] at hl
    unfold runLc
    simp only [h1, h2]
    cases hp : p d with
    | true =>
      obtain ⟨ρ3, h5, h6⟩ := h4 hp
      simp only [h5, if_true]
      rw [if_pos (by omega), h6, runLc_filter (fun e he => h e (List.mem_cons_of_mem _ he)) (by rw [List.length_append, List.length_singleton]; omega), List.filter_cons_of_pos hp, List.map_cons, List.append_assoc]
      rfl
    | false =>
      rw [if_neg (by decide), h3 hp, runLc_filter (fun e he => h e (List.mem_cons_of_mem _ he)) (by omega), List.filter_cons_of_neg (by rw [hp]; decide)]
theorem loop_ix {t : Tg} {m : MS} {ds : List D} {ρ : En} (I : Nat → En → Prop) (h0 : I 0 ρ) (hs : ∀ (i : Nat) (d : D) (ρ : En), ds[i]? = some d → I i ρ → ∃ ρ1 ρ2, t d ρ = some ρ1 ∧ (m ρ1 = .nx ρ2 ∨ m ρ1 = .ct ρ2) ∧ I (i + 1) ρ2) : ∃ ρ', loopS t m ds ρ = .nx ρ' ∧ I ds.length ρ' := by
  have go : ∀ (n i : Nat) (ρ : En), i + n = ds.length → I i ρ → ∃ ρ', loopS t m (ds.drop i) ρ = .nx ρ' ∧ I ds.length ρ' := by
    intro n
    induction n with
    | zero =>
      intro i ρ hi hI
      have e : i = ds.length := by omega
      subst e
      rw [List.drop_length]
      exact ⟨ρ, rfl, hI⟩
    | succ n ih =>
      intro i ρ hi hI
      have hlt : i < ds.length := by omega
      obtain ⟨ρ1, ρ2, h1, h2, h3⟩ := hs i ds[i] ρ (List.getElem?_eq_getElem hlt) hI
      rw [drop_cons (List.getElem?_eq_getElem hlt)]
      obtain ⟨ρ', q1, q2⟩ := ih (i + 1) ρ2 (by omega) h3
      refine ⟨ρ', ?_, q2⟩
      unfold loopS
      simp only [h1]
      rcases h2 with h2 | h2
      · simp only [h2]; exact q1
      · simp only [h2]; exact q1
  exact go ds.length 0 ρ (by omega) h0
end Mir

namespace Mir
open PySem PySem.Spec PyProof.Rows L2
theorem cut_hi {ds : List D} {b : Nat} : cutD ds none (some (b : Int)) = ds.take b := by
  unfold cutD
  rw [HT.sIx_none, HT.sIx_nat, Nat.sub_zero, List.drop_zero]
  by_cases h : b ≤ ds.length
  · rw [Nat.min_eq_left h]
  · rw [Nat.min_eq_right (by omega), List.take_of_length_le (Nat.le_refl _), List.take_of_length_le (by omega)]
theorem cut_lo {ds : List D} {a : Nat} : cutD ds (some (a : Int)) none = ds.drop a := by
  unfold cutD
  rw [HT.sIx_none, HT.sIx_nat]
  by_cases h : a ≤ ds.length
  · rw [Nat.min_eq_left h, List.take_of_length_le (by rw [List.length_drop]; omega)]
  · rw [Nat.min_eq_right (by omega), List.drop_length, List.drop_of_length_le (by omega), List.take_nil]
theorem cut_lo1 {ds : List D} {a : Nat} : cutD ds (some ((a : Int) + 1)) none = ds.drop (a + 1) := by
  have := cut_lo (ds := ds) (a := a + 1)
  rwa [show ((a + 1 : Nat) : Int) = (a : Int) + 1 by omega] at this
theorem atI_neg {α : Type} {l : List α} {k : Nat} (h0 : 0 < k) (h : k ≤ l.length) : atI l (-(k : Int)) = l[l.length - k]? := by
  unfold atI ixN
  rw [if_neg (by omega), if_pos (by omega)]
  show l[(-(k : Int) + l.length).toNat]? = _
  rw [show (-(k : Int) + l.length).toNat = l.length - k by omega]
theorem set_cut {α : Type} {ds : List α} {p : Nat} {x : α} (h : p < ds.length) : ds.take p ++ x :: ds.drop (p + 1) = ds.set p x := by
  rw [List.set_eq_take_append_cons_drop, if_pos h]
/-- data without objects, at most n deep -/
inductive Pl : Nat → D → Prop
  | non (n : Nat) : Pl (n + 1) .non
  | bl (n : Nat) (b : Bool) : Pl (n + 1) (.bl b)
  | int (n : Nat) (i : Int) : Pl (n + 1) (.int i)
  | str (n : Nat) (z : Str) (h : SeqAt.shaped (.str z) = true) : Pl (n + 1) (.str z)
  | lst {n : Nat} {ds : List D} (h : ∀ d ∈ ds, Pl n d) (hl : ds.length ≤ 90000) : Pl (n + 1) (.lst ds)
  | tup {n : Nat} {ds : List D} (h : ∀ d ∈ ds, Pl n d) (hl : ds.length ≤ 90000) : Pl (n + 1) (.tup ds)
theorem Pl.up : ∀ (n : Nat) {d : D}, Pl n d → Pl (n + 1) d
  | _, _, .non _ => .non _
  | _, _, .bl _ _ => .bl _ _
  | _, _, .int _ _ => .int _ _
  | _, _, .str _ _ h => .str _ _ h
  | n + 1, _, .lst h hl => .lst (fun d hd => Pl.up n (h d hd)) hl
  | n + 1, _, .tup h hl => .tup (fun d hd => Pl.up n (h d hd)) hl
theorem Pl.ints {n : Nat} {ns : List Int} : ∀ d ∈ ns.map D.int, Pl (n + 1) d := fun d h => by
  obtain ⟨i, _, rfl⟩ := List.mem_map.mp h
  exact .int n i
theorem zip_self : ∀ ds : List D, zipF ds ds = ds.map fun d => .tup [d, d]
  | [] => rfl
  | d :: ds => by unfold zipF; rw [zip_self ds]; rfl
theorem zip_true : ∀ ds : List D, (zipF ds ds).map (fun _ => D.bl true) = (List.replicate ds.length true).map .bl
  | [] => rfl
  | d :: ds => by
    unfold zipF
    rw [List.map_cons, zip_true ds]
    rfl
@[simp] theorem eqD_non : eqD .non .non = some true := rfl
theorem eqD_str {z : Str} (h : SeqAt.shaped (.str z) = true) : eqD (.str z) (.str z) = some true := by
  show (if SeqAt.shaped (.str z) = true ∧ SeqAt.shaped (.str z) = true then some (PyData.eqv (.str z) (.str z)) else none) = _
  rw [if_pos ⟨h, h⟩, PyData.eqv]
  simp
/-! ### == of plain data -/
def pD : D → PyData
  | .non => .none
  | .bl b => .bool b
  | .int i => .int i
  | .str z => .str z
  | .lst ds => .list (ds.map pD)
  | .tup ds => .tuple (ds.map pD)
  | _ => .none
theorem pD_lst (ds : List D) : pD (.lst ds) = .list (ds.map pD) := by rw [pD]
theorem pD_tup (ds : List D) : pD (.tup ds) = .tuple (ds.map pD) := by rw [pD]
theorem pD_int (i : Int) : pD (.int i) = .int i := by rw [pD]
theorem toPs_pl {ds : List D} (h : ∀ d ∈ ds, toP d = some (pD d)) : toPs ds = some (ds.map pD) := by
  induction ds with
  | nil => rfl
  | cons d ds ih =>
    show (match toP d, toPs ds with | some p, some ps => some (p :: ps) | _, _ => none) = _
    rw [h d List.mem_cons_self, ih (fun e he => h e (List.mem_cons_of_mem _ he))]
    rfl
theorem lays {ps : List PyData} (h : ∀ p ∈ ps, p.canLay0 = true) : PyData.canLayAll0 ps = true := by
  induction ps with
  | nil => rfl
  | cons p ps ih =>
    rw [PyData.canLayAll0, h p List.mem_cons_self, ih (fun e he => h e (List.mem_cons_of_mem _ he))]
    rfl
theorem deps {ps : List PyData} {n : Nat} (h : ∀ p ∈ ps, p.depth ≤ n) : PyData.depthAll ps ≤ n := by
  induction ps with
  | nil => exact Nat.zero_le _
  | cons p ps ih =>
    rw [PyData.depthAll]
    exact Nat.max_le.mpr ⟨h p List.mem_cons_self, ih (fun e he => h e (List.mem_cons_of_mem _ he))⟩
theorem pl_toP : ∀ (n : Nat) {d : D}, Pl n d → toP d = some (pD d) ∧ (pD d).canLay0 = true ∧ (pD d).depth ≤ n
  | _, _, .non _ => ⟨by simp [pD, toP], by simp [pD, PyData.canLay0], by simp [pD, PyData.depth]⟩
  | _, _, .bl _ _ => ⟨by simp [pD, toP], by simp [pD, PyData.canLay0], by simp [pD, PyData.depth]⟩
  | _, _, .int _ _ => ⟨by simp [pD, toP], by simp [pD, PyData.canLay0], by simp [pD, PyData.depth]⟩
  | _, _, .str _ z h => ⟨by simp [pD, toP], by rw [pD]; exact SeqAt.canLay_of_shaped h, by simp [pD, PyData.depth]⟩
  | n + 1, _, .lst (ds := ds) h hl => by
    have a : ∀ d ∈ ds, toP d = some (pD d) := fun d hd => (pl_toP n (h d hd)).1
    refine ⟨by rw [toP, toPs_pl a, pD]; rfl, ?_, ?_⟩
    · rw [pD, PyData.canLay0]
      exact lays fun p hp => by obtain ⟨d, hd, rfl⟩ := List.mem_map.mp hp; exact (pl_toP n (h d hd)).2.1
    · rw [pD, PyData.depth]
      exact Nat.succ_le_succ (deps fun p hp => by obtain ⟨d, hd, rfl⟩ := List.mem_map.mp hp; exact (pl_toP n (h d hd)).2.2)
  | n + 1, _, .tup (ds := ds) h hl => by
    have a : ∀ d ∈ ds, toP d = some (pD d) := fun d hd => (pl_toP n (h d hd)).1
    refine ⟨by rw [toP, toPs_pl a, pD]; rfl, ?_, ?_⟩
    · rw [pD, PyData.canLay0]
      exact lays fun p hp => by obtain ⟨d, hd, rfl⟩ := List.mem_map.mp hp; exact (pl_toP n (h d hd)).2.1
    · rw [pD, PyData.depth]
      exact Nat.succ_le_succ (deps fun p hp => by obtain ⟨d, hd, rfl⟩ := List.mem_map.mp hp; exact (pl_toP n (h d hd)).2.2)
theorem pl_shaped {n : Nat} {d : D} (h : Pl n d) (hn : n ≤ 64) : SeqAt.shaped (pD d) = true := by
  obtain ⟨_, h1, h2⟩ := pl_toP n h
  unfold SeqAt.shaped
  rw [h1, decide_eq_true (Nat.le_trans h2 hn)]
  rfl
theorem eqD_pl {n m : Nat} {d e : D} (h : Pl n d) (g : Pl m e) (hn : n ≤ 64) (hm : m ≤ 64) : eqD d e = some ((pD d).eqv (pD e)) := by
  unfold eqD
  rw [(pl_toP n h).1, (pl_toP m g).1]
  show (if _ then _ else _) = _
  rw [if_pos ⟨pl_shaped h hn, pl_shaped g hm⟩]
/-- a list beside [] -/
theorem eqD_nil {n : Nat} {ds : List D} (h : Pl n (.lst ds)) (hn : n ≤ 64) : eqD (.lst ds) (.lst []) = some ds.isEmpty := by
  rw [eqD_pl h (Pl.lst (n := 0) (ds := []) (fun d hd => by cases hd) (by decide)) hn (by decide), pD_lst, pD_lst, PyData.eqv]
  cases ds with
  | nil => rfl
  | cons d ds => rfl
/-! ### loops that may end early; comprehensions by places -/
def isEnd : Fl → Prop
  | .rt _ _ => True
  | .ex _ _ _ _ => True
  | _ => False
theorem loop_to {t : Tg} {m : MS} {ds : List D} {ρ : En} (I : Nat → En → Prop) (g : Nat → Bool) (E : Nat → Fl → Prop) (h0 : I 0 ρ)
    (hs : ∀ (i : Nat) (d : D) (ρ : En), ds[i]? = some d → I i ρ → ∃ ρ1, t d ρ = some ρ1 ∧ (g i = true → ∃ ρ2, (m ρ1 = .nx ρ2 ∨ m ρ1 = .ct ρ2) ∧ I (i + 1) ρ2) ∧ (g i = false → isEnd (m ρ1) ∧ E i (m ρ1))) :
    ((∀ i, i < ds.length → g i = true) → ∃ ρ', loopS t m ds ρ = .nx ρ' ∧ I ds.length ρ') ∧ (∀ k, k < ds.length → (∀ i, i < k → g i = true) → g k = false → E k (loopS t m ds ρ)) := by
  have go : ∀ (n i : Nat) (ρ : En), i + n = ds.length → I i ρ → ((∀ j, i ≤ j → j < ds.length → g j = true) → ∃ ρ', loopS t m (ds.drop i) ρ = .nx ρ' ∧ I ds.length ρ') ∧ (∀ k, i ≤ k → k < ds.length → (∀ j, i ≤ j → j < k → g j = true) → g k = false → E k (loopS t m (ds.drop i) ρ)) := by
    intro n
    induction n with
    | zero =>
      intro i ρ hi hI
      have e : i = ds.length := by omega
      subst e
      rw [List.drop_length]
      exact ⟨fun _ => ⟨ρ, rfl, hI⟩, fun k h1 h2 => absurd h2 (by omega)⟩
    | succ n ih =>
      intro i ρ hi hI
      have hlt : i < ds.length := by omega
      obtain ⟨ρ1, h1, h2, h3⟩ := hs i ds[i] ρ (List.getElem?_eq_getElem hlt) hI
      rw [drop_cons (List.getElem?_eq_getElem hlt)]
      cases hg : g i with
      | true =>
        obtain ⟨ρ2, h4, h5⟩ := h2 hg
        obtain ⟨q1, q2⟩ := ih (i + 1) ρ2 (by omega) h5
        have e : loopS t m (ds[i] :: ds.drop (i + 1)) ρ = loopS t m (ds.drop (i + 1)) ρ2 := by
          rw [loopS]
          simp only [h1]
          rcases h4 with h4 | h4 <;> simp only [h4]
        rw [e]
        exact ⟨fun a => q1 fun j b c => a j (by omega) c, fun k b c d f => by
          have : k ≠ i := fun z => by rw [z, hg] at f; cases f
          exact q2 k (by omega) c (fun j x y => d j (by omega) y) f⟩
      | false =>
        obtain ⟨h4, h5⟩ := h3 hg
        have e : loopS t m (ds[i] :: ds.drop (i + 1)) ρ = m ρ1 := by
          rw [loopS]
          simp only [h1]
          cases z : m ρ1 <;> rw [z] at h4 <;> first | rfl | exact h4.elim
        rw [e]
        refine ⟨fun a => ?_, fun k b c d f => ?_⟩
        · have := a i (Nat.le_refl _) hlt
          rw [hg] at this
          cases this
        · have : k = i := by
            apply Classical.byContradiction
            intro z
            have := d i (Nat.le_refl _) (by omega)
            rw [hg] at this
            cases this
          rw [this]
          exact h5
  obtain ⟨h1, h2⟩ := go ds.length 0 ρ (by omega) h0
  exact ⟨fun a => h1 fun j _ b => a j b, fun k a b c => h2 k (Nat.zero_le _) a (fun j _ d => b j d) c⟩
/-- the first one that is not so -/
theorem first_bad (g : Nat → Bool) (n : Nat) : (∀ i, i < n → g i = true) ∨ ∃ k, k < n ∧ (∀ i, i < k → g i = true) ∧ g k = false := by
  induction n with
  | zero => exact .inl fun i h => absurd h (Nat.not_lt_zero _)
  | succ n ih =>
    rcases ih with h | ⟨k, h1, h2, h3⟩
    · cases hg : g n with
      | true =>
        refine .inl fun i hi => ?_
        by_cases z : i = n
        · rw [z, hg]
        · exact h i (by omega)
      | false => exact .inr ⟨n, by omega, h, hg⟩
    · exact .inr ⟨k, by omega, h2, h3⟩
theorem runLc_ix {t : Tg} {tt : M Bool} {me : M D} {vs : List Nat} {ρ : En} (P : Nat → Bool) (G : Nat → D) {ds : List D} (h : ∀ (i : Nat) (d : D), ds[i]? = some d → ∃ ρ1 ρ2, t d ρ = some ρ1 ∧ tt ρ1 = .ok (P i) ρ2 ∧ (P i = false → wipeE ρ2 vs = ρ) ∧ (P i = true → ∃ ρ3, me ρ2 = .ok (G i) ρ3 ∧ wipeE ρ3 vs = ρ)) (hl : ds.length ≤ 100000) :
    runLc t tt me vs ds ρ [] = some ((List.range ds.length).filterMap (fun i => if P i = true then some (G i) else none), ρ) := by
  have go : ∀ (n i : Nat) (acc : List D), i + n = ds.length → acc.length ≤ i → runLc t tt me vs (ds.drop i) ρ acc = some (acc ++ ((List.range' i n).filterMap (fun i => if P i = true then some (G i) else none)), ρ) := by
    intro n
    induction n with
    | zero =>
      intro i acc hi _
      have e : i = ds.length := by omega
      subst e
      rw [List.drop_length, runLc]
      simp
    | succ n ih =>
      intro i acc hi ha
      have hlt : i < ds.length := by omega
      obtain ⟨ρ1, ρ2, h1, h2, h3, h4⟩ := h i ds[i] (List.getElem?_eq_getElem hlt)
      rw [drop_cons (List.getElem?_eq_getElem hlt), runLc]
      simp only [h1, h2]
      cases hp : P i with
      | true =>
        obtain ⟨ρ3, h5, h6⟩ := h4 hp
        simp only [h5, if_true]
        rw [if_pos (by omega), h6, ih (i + 1) (acc ++ [G i]) (by omega) (by rw [List.length_append, List.length_singleton]; omega), List.range'_succ, List.filterMap_cons]
        simp [hp]
      | false =>
        rw [if_neg (by decide), h3 hp, ih (i + 1) acc (by omega) (by omega), List.range'_succ, List.filterMap_cons]
        simp [hp]
  have := go ds.length 0 [] (by omega) (Nat.le_refl _)
  rw [List.drop_zero, List.nil_append] at this
  rw [this, List.range_eq_range']
theorem runLc_ixm {t : Tg} {me : M D} {vs : List Nat} {ρ : En} (G : Nat → D) {ds : List D} (h : ∀ (i : Nat) (d : D), ds[i]? = some d → ∃ ρ1 ρ3, t d ρ = some ρ1 ∧ me ρ1 = .ok (G i) ρ3 ∧ wipeE ρ3 vs = ρ) (hl : ds.length ≤ 100000) :
    runLc t (ret true) me vs ds ρ [] = some ((List.range ds.length).map G, ρ) := by
  rw [runLc_ix (fun _ => true) G (fun i d hd => by
    obtain ⟨ρ1, ρ3, h1, h2, h3⟩ := h i d hd
    exact ⟨ρ1, ρ1, h1, rfl, (fun z => by cases z), fun _ => ⟨ρ3, h2, h3⟩⟩) hl]
  simp
end Mir

namespace Mir
open PySem PySem.Spec PyProof.Rows L2
/-! ### objects that never change: their fields -/
def FlOk (K : PySem.W.Frag) (cl : Str → Addr) (tb : Str → Str → Bool) : Prop := ∀ cn fn, tb cn fn = true → Cls K (cl cn) ∧ NoAttr K (cl cn) fn
def dFld (tb : Str → Str → Bool) (fn : Str) : D → Option D
  | .ob cn ns ds => if tb cn fn = true then (ns.zip ds).lookup fn else none
  | _ => none
theorem zip_look {K : PySem.W.Frag} {cl : Str → Addr} {F : Hp} {fn : Str} : ∀ {ns : List Str} {vs : List V} {ds : List D} {d : D}, Reps K cl F vs ds → (ns.zip ds).lookup fn = some d → ∃ v, (ns.zip vs).lookup fn = some v ∧ Rep K cl F v d
  | [], _, _, _, _, h => by simp at h
  | _ :: _, _, _, _, .nil, h => by simp at h
  | n :: ns, v :: vs, d0 :: ds, d, .cons r rs, h => by
    rw [List.zip_cons_cons, List.lookup_cons] at h
    rw [List.zip_cons_cons, List.lookup_cons]
    cases hb : fn == n with
    | true => rw [hb] at h; cases h; exact ⟨v, rfl, r⟩
    | false => rw [hb] at h; exact zip_look rs h
theorem zip_no {fn : Str} : ∀ {ns : List Str} {vs : List V}, ns.contains fn = false → (ns.zip vs).lookup fn = none
  | [], _, _ => by simp
  | _ :: _, [], _ => by simp
  | n :: ns, v :: vs, h => by
    rw [List.contains_cons, Bool.or_eq_false_iff] at h
    rw [List.zip_cons_cons, List.lookup_cons, h.1]
    exact zip_no h.2
section
variable {X : Cx} {c : Mc} {cl : Str → Addr} {K : PySem.W.Frag} {e o : Expr} {es : List Expr} {kws : List Keyword} {pos p apos : Pos} {m mo : M D} {ms ms2 : M (List D)} {fn cn : Str} {j k n : Nat} {md md1 md2 : List Md} {ps ks : List Str} {f : List Sl → Ou}
theorem me_fld {tb : Str → Str → Bool} (ht : FlOk X.K cl tb) (hcl : c.cl = cl) (h : PE X e (tE c m)) (hb : attributeBase e fn X.env (eval e X.env) = eval e X.env := by rfl) : PE X (.Attribute e fn pos) (tE c (un (dFld tb fn) m)) := by
  subst hcl
  refine peI (pe_fld h hb) fun σ H Q ⟨F, ρ, T, w, g⟩ => ⟨F, ρ, T, w, g.split.imp fun d ρ1 F1 H1 s1 g1 w1 x rx => ?_⟩
  obtain ⟨e1, he, q⟩ := g1.opt
  cases d with
  | ob c0 ns ds =>
    have he : (if tb c0 fn = true then (ns.zip ds).lookup fn else none) = some e1 := he
    by_cases z : tb c0 fn = true
    · rw [if_pos z] at he
      cases rx with
      | ob hp hl hs =>
        obtain ⟨v, hv, rv⟩ := zip_look hs he
        exact ⟨_, _, _, _, v, rfl, w1.sub _ _ hp, (ht _ _ z).1, (ht _ _ z).2, hv, q F1 H1 (Same.refl _) w1 v rv⟩
    · rw [if_neg z] at he
      cases he
  | _ => cases he
/-! ### their methods -/
structure Mm (P : Program) (w : World) (K : PySem.W.Frag) (mg : Str → Option Value) (base : Heap) (cl : Str → Addr) (k : Nat) (cn fn : Str) (ps : List Str) (f : List Sl → Ou) : Prop where
  ex : ∃ fa fd, FnOk P w K mg base (L2.CX P w) k fa fd ps (spM K cl ps.length none f) ∧ Cls K (cl cn) ∧ Meth K (cl cn) fn fa ∧ Binds K fd ps []
def isOb (cn fn : Str) : D → Bool
  | .ob c0 ns _ => decide (c0 = cn) && !ns.contains fn
  | _ => false
def mthA (f : List Sl → Ou) (cn fn : Str) (md : List Md) (mo : M D) (ms : M (List D)) : M Sl := bnd mo fun d => if isOb cn fn d = true then bnd ms fun ds => callM f none (.v :: md) (d :: ds) else fun _ => .no
theorem ob_in {F H : Hp} {x : V} {d : D} (h : isOb cn fn d = true) (r : c.rep F x d) (s : Same F H) : ∃ a dx fs, x = .ref a ∧ H a = some (.ins (c.cl cn) dx fs) ∧ fs.lookup fn = none := by
  cases d with
  | ob c0 ns ds =>
    simp only [isOb, Bool.and_eq_true, decide_eq_true_eq, Bool.not_eq_true'] at h
    obtain ⟨rfl, h2⟩ := h
    cases r with
    | ob hp hl hs => exact ⟨_, _, _, rfl, s _ _ hp, zip_no h2⟩
  | _ => cases h
theorem ml_meth {pl : Sem Bool} (C : Mm X.prog X.w X.K X.mg X.base cl k cn fn ps f) (hK : c.K = X.K) (hcl : c.cl = cl) (tk : Takes X c.W) (hr : Room j X.A) (hk : k ≤ j) (ho : PE X o (tE c mo)) (ha : PA X (e :: es) (tA c md ms)) (hpos : oPos 0 (.v :: md) = [] := by rfl) (hdis : disj (.v :: md) = true := by rfl) (hn : (Md.v :: md).length = ps.length := by rfl)
    (hst : starEach (e :: es) X.env = (false, eval e X.env) :: starEach es X.env := by rfl) (hpl : (backTo pos (starEach es X.env)).any (·.1) = false := by rfl)
    (ht : eval (.Call (.Attribute o fn apos) (e :: es) [] pos) X.env = (do
      let v0 ← eval o X.env
      standAt apos.atName
      let (g0, first) ← holding [v0] (getMethod v0 fn pl)
      callWith pos g0 first (backTo pos (starEach (e :: es) X.env)) (backToKw pos (keywordEach [] X.env))) := by rfl) :
    PE X (.Call (.Attribute o fn apos) (e :: es) [] pos) (tL c (mthA f cn fn md mo ms)) := by
  obtain ⟨fa, fd, F0, hC, hM, hb⟩ := C.ex
  subst hcl
  rw [← hK] at F0
  have F' : FnOk X.prog X.w X.K X.mg X.base (L2.CX X.prog X.w) k fa fd ps (spM c.K c.cl ps.length none f) := by
    rw [hK] at F0 ⊢
    exact F0
  refine ⟨fun pins s σ H Q I ⟨F, ρ, T, w, g⟩ => ?_⟩
  have h : tE c mo σ H (fun x H1 => ∃ a dx fs, x = .ref a ∧ H1 a = some (.ins (c.cl cn) dx fs) ∧ fs.lookup fn = none ∧ tA c md ms σ H1 (fun vs H2 => spM c.K c.cl ps.length none f (x :: vs) H2 Q (fun cls x H' => c.W cls x σ H'))) := ⟨F, ρ, T, w, g.split.imp fun d ρ1 F1 H1 s1 g1 w1 x rx => by
    by_cases z : isOb cn fn d = true
    · rw [if_pos z] at g1
      obtain ⟨a, dx, fs, e1, e2, e3⟩ := ob_in (c := c) z rx w1.sub
      exact ⟨a, dx, fs, e1, e2, e3, F1, ρ1, T, w1, g1.split.imp fun ds ρ2 F2 H2 s2 g2 w2 vs hv => sp_of hpos hdis hn w2 (.v (rx.same s2) hv) g2⟩
    · rw [if_neg z] at g1
      exact g1.elim⟩
  refine PySem.W.methodCall_KW (pl := pl) (thn (ho.run pins s σ H _ I h) fun u s1 ⟨x, H1, I1, rx, a, dx, fs, ex, ea, l, q⟩ => ?_) ht
  subst ex
  cases (show u = Value.ref a from rx)
  refine getmeth_ok I1 ea hC hM l ?_
  refine PySem.W.callWith_K (h₀ := X.base) (first := [.ref a]) I.ok.mod.kin hM.kp (thn (ha.run pos pins s1 σ H1 _ I1 q) fun us s2 ⟨vs, H2, I2, r, q2⟩ => ⟨I2.kIn, ?_⟩) hst hpl
  exact run_fnS (E := fun σ cls x H' => c.W cls x σ H') (vs := V.ref a :: vs) (us := Value.ref a :: us) F' (hr.mono hk) hb (passAt tk σ) I2 (.cons rfl r) q2
/-- o.m() -/
def mth0 (f : List Sl → Ou) (cn fn : Str) (mo : M D) : M Sl := bnd mo fun d => if isOb cn fn d = true then callM f none [.v] [d] else fun _ => .no
theorem ml_meth0 {pl : Sem Bool} (C : Mm X.prog X.w X.K X.mg X.base cl k cn fn ps f) (hK : c.K = X.K) (hcl : c.cl = cl) (tk : Takes X c.W) (hr : Room j X.A) (hk : k ≤ j) (ho : PE X o (tE c mo)) (hn : 1 = ps.length := by rfl)
    (ht : eval (.Call (.Attribute o fn apos) [] [] pos) X.env = (do
      let v0 ← eval o X.env
      standAt apos.atName
      let (g0, first) ← holding [v0] (getMethod v0 fn pl)
      callWith pos g0 first (backTo pos (starEach [] X.env)) (backToKw pos (keywordEach [] X.env))) := by rfl) :
    PE X (.Call (.Attribute o fn apos) [] [] pos) (tL c (mth0 f cn fn mo)) := by
  obtain ⟨fa, fd, F0, hC, hM, hb⟩ := C.ex
  subst hcl
  rw [← hK] at F0
  have F' : FnOk X.prog X.w X.K X.mg X.base (L2.CX X.prog X.w) k fa fd ps (spM c.K c.cl ps.length none f) := by
    rw [hK] at F0 ⊢
    exact F0
  refine ⟨fun pins s σ H Q I ⟨F, ρ, T, w, g⟩ => ?_⟩
  have h : tE c mo σ H (fun x H1 => ∃ a dx fs, x = .ref a ∧ H1 a = some (.ins (c.cl cn) dx fs) ∧ fs.lookup fn = none ∧ spM c.K c.cl ps.length none f [x] H1 Q (fun cls x H' => c.W cls x σ H')) := ⟨F, ρ, T, w, g.split.imp fun d ρ1 F1 H1 s1 g1 w1 x rx => by
    by_cases z : isOb cn fn d = true
    · rw [if_pos z] at g1
      obtain ⟨a, dx, fs, e1, e2, e3⟩ := ob_in (c := c) z rx w1.sub
      exact ⟨a, dx, fs, e1, e2, e3, sp_of (md := [.v]) rfl rfl hn w1 (.v rx .nil) g1⟩
    · rw [if_neg z] at g1
      exact g1.elim⟩
  refine PySem.W.methodCall_KW (pl := pl) (thn (ho.run pins s σ H _ I h) fun u s1 ⟨x, H1, I1, rx, a, dx, fs, ex, ea, l, q⟩ => ?_) ht
  subst ex
  cases (show u = Value.ref a from rx)
  refine getmeth_ok I1 ea hC hM l ?_
  exact PySem.W.callWith_K0 (first := [.ref a]) I1.kIn hM.kp (run_fnS (E := fun σ cls x H' => c.W cls x σ H') (vs := [V.ref a]) (us := [Value.ref a]) F' (hr.mono hk) hb (passAt tk σ) I1 (.cons rfl .nil) q)
/-! ### making them -/
/-- behind a run of __init__: what was new, what stays -/
structure Pmk (F H : Hp) (p : Addr) (F' H' : Hp) : Prop where
  up : Same F F'
  sub : Same F' H'
  new : ∀ q, F q = none → F' q ≠ none → H q = none
  keep : ∀ a o, a ≠ p → H a = some o → H' a = some o
  me : F' p = none
def spMk (K : PySem.W.Frag) (cl : Str → Addr) (cn : Str) (n : Nat) (f : List Sl → Ou) : Sp := fun vs H Q E => vs.length = n + 1 ∧ ∃ (p dx : Addr) (us : List V) (F : Hp) (ds : List D), vs = .ref p :: us ∧ H p = some (.ins (cl cn) dx []) ∧ F p = none ∧ Same F H ∧ Reps K cl F us ds ∧ (match f (ds.map .va) with
  | .ok (.va (.ob c1 ns es)) _ => c1 = cn ∧ ∀ F' H' ws, Pmk F H p F' H' → H' p = some (.ins (cl cn) dx (ns.zip ws)) → ns.length = ws.length → Reps K cl F' ws es → Q .non H'
  | .ex en g d _ => ∀ x w F' H', Pmk F H p F' H' → F' x = some (.xd [(g, w)]) → Rep K cl F' w d → E (.ref (cl en)) (some x) H'
  | _ => False)
structure Mkm (P : Program) (w : World) (K : PySem.W.Frag) (mg : Str → Option Value) (base : Heap) (cl : Str → Addr) (k : Nat) (cn : Str) (n : Nat) (ks : List Str) (gV : List V → List V → List V) (q : Nat) (f : List Sl → Ou) : Prop where
  ex : ∃ fa fd ps g, Mk K (cl cn) fa ∧ FnOk P w K mg base (L2.CX P w) k fa fd ps (spMk K cl cn q f) ∧ mg cn = some (.ref (cl cn)) ∧ KBn K fd ps (n + 1) ks g gV
theorem made_at {q : Nat} {fa C : Addr} {fd : FuncData} {sp : Sp} {W : WX} {pins : List (Addr × Obj)} {σ : L2.St} {H : Hp} {s : Shared} {Q : VK} {us ws : List Value} {vs zs : List V} {g : List Value → List Value → List Value} {gV : List V → List V → List V} (M : Mk X.K C fa) (F0 : FnOk X.prog X.w X.K X.mg X.base (L2.CX X.prog X.w) k fa fd ps sp) (hr : Room (k + 1) X.A) (hb : KBn X.K fd ps (n + 1) ks g gV) (tk : Takes X W)
    (I : Inv X pins σ H s) (r : Vals vs us) (rz : Vals zs ws) (l1 : vs.length = n) (l2 : zs.length = ks.length)
    (h : ∀ p dx, H p = none → H dx = none → dx ≠ p → sp (gV (.ref p :: vs) zs) (upd (upd H dx (.own p)) p (.ins C dx [])) (fun v H2 => v = .non ∧ Q (.ref p) H2) (fun cls x H' => W cls x σ H')) :
    wpAny (model X.prog X.w) X.A (call (.ref C) us (ks.zip ws)) (EP X pins σ Q) X.xe s := by
  have start := h (s.heap.objs.size + 1) s.heap.objs.size (I.hok.fresh (Nat.le_succ _)) (I.hok.fresh (Nat.le_refl _)) (fun z => absurd z (Nat.ne_of_lt (Nat.lt_succ_self _)))
  have J := Inv.made (C := C) I
  have r0 : Vals (V.ref (s.heap.objs.size + 1) :: vs) (Value.ref (s.heap.objs.size + 1) :: us) := .cons rfl r
  have n0 : (Value.ref (s.heap.objs.size + 1) :: us).length = n + 1 := by rw [List.length_cons, ← r.length, l1]
  have run := F0.run _ X.stack _ _ ⟨Value.ref (s.heap.objs.size + 1) :: us, ks.zip ws⟩ (g (Value.ref (s.heap.objs.size + 1) :: us) ws) _ _ (fun cls x H' => W cls x σ H') (hr.make C us (ks.zip ws)) (J.env0.make C us (ks.zip ws)) (hb.to _ (Value.ref (s.heap.objs.size + 1) :: us) ws J.kIn n0 (rz.length.symm.trans l2)) (hb.rel r0 rz) start
  refine wpAny_call (make_map (f := fa) I.kIn M.makes M.init (beq_iff_eq.mp M.fn) (codeAny_mono run fun out s' hq => ?_))
  rcases out with er | fl
  · exact passAt tk σ pins _ _ er s' J hq
  · cases fl with
    | ret u =>
      obtain ⟨v, H', I3, rv, ev, q3⟩ := J.after hq
      cases ev
      exact ⟨rv, V.ref (s.heap.objs.size + 1), H', I3, rfl, q3⟩
    | next => exact hq.elim
    | brk => exact hq.elim
    | cont => exact hq.elim
/-- the mirror of C(..): all arguments in the order of the parameters -/
def mkA (f : List Sl → Ou) (cn : Str) (ds : List D) : M Sl := fun ρ => match f (ds.map .va) with
  | .ok (.va (.ob c1 ns es)) _ => if c1 = cn then .ok (.va (.ob c1 ns es)) ρ else .no
  | .ex e g d _ => .ex e g d ρ
  | _ => .no
abbrev mkP (f : List Sl → Ou) (cn : Str) (n m : Nat) (gD : List D → List D → List D) (ms ms2 : M (List D)) : M Sl := bnd ms fun ds => bnd ms2 fun fs => if ds.length = n ∧ fs.length = m then mkA f cn (gD ds fs) else fun _ => .no
abbrev mkK (f : List Sl → Ou) (cn : Str) (m : Nat) (gD : List D → List D → List D) (ms2 : M (List D)) : M Sl := bnd ms2 fun fs => if fs.length = m then mkA f cn (gD [] fs) else fun _ => .no
theorem mk_go {q : Nat} {F H : Hp} {σ : L2.St} {ρ : En} {T : Tm} {Q : VK} {us : List V} {ds : List D} {x dx : Addr} (w : Wd c F H σ ρ T) (hu : us.length = q) (hs : c.reps F us ds) (h1 : H x = none) (h2 : H dx = none) (h3 : dx ≠ x) (g : Go c F T σ (mkA f cn ds ρ) (kL c T σ Q)) :
    spMk c.K c.cl cn q f (.ref x :: us) (upd (upd H dx (.own x)) x (.ins (c.cl cn) dx [])) (fun v H2 => v = .non ∧ Q (.ref x) H2) (fun cls x H' => c.W cls x σ H') := by
  have fx : F x = none := w.sub.free h1
  have fd : F dx = none := w.sub.free h2
  have sm : Same F (upd (upd H dx (.own x)) x (.ins (c.cl cn) dx [])) := fun a o ha => by
    rw [upd_ne (ne_of_none ha fx), upd_ne (ne_of_none ha fd)]
    exact w.sub a o ha
  refine ⟨by rw [List.length_cons, hu], x, dx, us, F, ds, rfl, upd_same, fx, sm, hs, ?_⟩
  have hk : ∀ {F' H' : Hp}, Pmk F (upd (upd H dx (.own x)) x (.ins (c.cl cn) dx [])) x F' H' → Same H H' ∧ (∀ b, F b = none → F' b ≠ none → H b = none) := fun {F' H'} P => by
    constructor
    · intro a o ha
      have na : a ≠ x := fun z => by rw [z, h1] at ha; cases ha
      have nd : a ≠ dx := fun z => by rw [z, h2] at ha; cases ha
      exact P.keep a o na (by rw [upd_ne na, upd_ne nd]; exact ha)
    · intro b hb hb'
      by_cases z : b = x
      · rw [z]; exact h1
      · by_cases y : b = dx
        · rw [y]; exact h2
        · have := P.new b hb hb'
          rw [upd_ne z, upd_ne y] at this
          exact this
  have hw : ∀ {F' H' : Hp}, Pmk F (upd (upd H dx (.own x)) x (.ins (c.cl cn) dx [])) x F' H' → Wd c F' H' σ ρ T := fun {F' H'} P => by
    obtain ⟨k1, k2⟩ := hk P
    have up : ∀ {a : Addr} {es : List D}, Own c F H a es → Own c F' H' a es := fun {a es} ⟨o1, vs, o2, o3⟩ => by
      refine ⟨?_, vs, k1 _ _ o2, o3.same P.up⟩
      cases z : F' a with
      | none => rfl
      | some o =>
        have := k2 a o1 (by rw [z]; exact fun y => by cases y)
        rw [this] at o2
        cases o2
    exact
      { len := w.len, sub := P.sub, ext := w.ext.trans P.up
        new := fun b b1 b2 => by
          by_cases z : F b = none
          · exact w.old (k2 b z b2)
          · exact w.new b b1 z
        keep := fun a o a1 a2 => k1 _ _ (w.keep a o a1 a2)
        va := fun i d h => by
          obtain ⟨v, v1, v2⟩ := w.va i d h
          exact ⟨v, v1, v2.same P.up⟩
        ow := fun i es h => by
          obtain ⟨a, a1, a2, a3⟩ := w.ow i es h
          exact ⟨a, a1, up a2, a3⟩
        tm := fun a es h => ⟨up (w.tm a es h).1, (w.tm a es h).2⟩
        dis := w.dis, dit := w.dit, nod := w.nod, bs := w.bs }
  unfold mkA at g
  split at g
  · rename_i c1 ns es b hf
    by_cases z : c1 = cn
    · rw [if_pos z] at g
      subst z
      refine ⟨rfl, fun F' H' ws P hp hl hw' => ⟨rfl, ?_⟩⟩
      have s2 : Same F' (upd F' x (.ins (c.cl c1) dx (ns.zip ws))) := same_upd P.me
      have W := hw P
      have hx : H' x = some (.ins (c.cl c1) dx (ns.zip ws)) := hp
      have ne : ∀ {a : Addr} {es : List D}, Own c F' H' a es → a ≠ x := fun {a es} ⟨_, vs, o2, _⟩ y => by
        rw [y, hx] at o2
        cases o2
      have up : ∀ {a : Addr} {es : List D}, Own c F' H' a es → Own c (upd F' x (.ins (c.cl c1) dx (ns.zip ws))) H' a es := fun h => h.rise s2 (by rw [upd_ne (ne h)]; exact h.1) rfl
      have W2 : Wd c (upd F' x (.ins (c.cl c1) dx (ns.zip ws))) H' σ ρ T :=
        { len := W.len
          sub := fun b u e => by
            by_cases y : b = x
            · subst y; rw [upd_same] at e; cases e; exact hx
            · rw [upd_ne y] at e; exact W.sub b u e
          ext := W.ext.trans s2
          new := fun b b1 b2 => by
            by_cases y : b = x
            · rw [y]; exact w.old h1
            · rw [upd_ne y] at b2; exact W.new b b1 b2
          keep := W.keep
          va := fun i d h => by
            obtain ⟨v, v1, v2⟩ := W.va i d h
            exact ⟨v, v1, v2.same s2⟩
          ow := fun i es h => by
            obtain ⟨a, a1, a2, a3⟩ := W.ow i es h
            exact ⟨a, a1, up a2, a3⟩
          tm := fun a es h => ⟨up (W.tm a es h).1, (W.tm a es h).2⟩
          dis := W.dis, dit := W.dit, nod := W.nod, bs := W.bs }
      exact g _ H' (P.up.trans s2) W2 _ (.ob upd_same hl (hw'.same s2))
    · rw [if_neg z] at g
      exact g.elim
  · rename_i en gg d b hf
    intro x' w' F' H' P hx rw'
    exact g x' w' F' H' P.up (hw P) hx rw'
  · exact g.elim
theorem ArOk.reps {F : Hp} {σ : L2.St} : ∀ {vs : List V} {md : List Md} {ds : List D}, ArOk c F σ vs md ds → (∀ x ∈ md, x = Md.v) → c.reps F vs ds
  | _, _, _, .nil, _ => .nil
  | _, _, _, .v h t, hm => .cons h (ArOk.reps t fun x hx => hm x (List.mem_cons_of_mem _ hx))
  | _, _, _, .o h t, hm => by have := hm _ List.mem_cons_self; cases this
  | _, _, _, .b h t, hm => by have := hm _ List.mem_cons_self; cases this
variable {gV : List V → List V → List V} {gD : List D → List D → List D} {q : Nat}
/-- how the arguments come to the parameters behind self -/
def OrdM (c : Mc) (q : Nat) (n m : Nat) (gV : List V → List V → List V) (gD : List D → List D → List D) : Prop :=
  ∀ (F : Hp) (a : Addr) (vs : List V) (ds : List D) (zs : List V) (fs : List D), vs.length = n → zs.length = m → c.reps F vs ds → c.reps F zs fs → ∃ us, gV (.ref a :: vs) zs = .ref a :: us ∧ us.length = q ∧ c.reps F us (gD ds fs)
theorem ml_mk (gD : List D → List D → List D) (C : Mkm X.prog X.w X.K X.mg X.base cl k cn n ks gV q f) {m' : Nat} (ord : OrdM c q n m' gV gD) (hK : c.K = X.K) (hcl : c.cl = cl) (tk : Takes X c.W) (hr : Room j X.A) (hk : k + 1 ≤ j) (hg : Gl X cn) (ha : PA X (e :: es) (tD c ms)) (hkw : PK X kws (tD c ms2)) (hl : ks.length = m' := by rfl)
    (hall : (backToKw pos (keywordEach kws X.env)).all (·.1.isSome) = true := by rfl) (hks : (backToKw pos (keywordEach kws X.env)).filterMap (·.1) = ks := by rfl)
    (hdb : (cn == ("__debug__" : Str)) = false := by decide) (he : starEach (e :: es) X.env = (false, eval e X.env) :: starEach es X.env := by rfl)
    (hpl : ((backTo pos (starEach (e :: es) X.env)).any (·.1) || (backToKw pos (keywordEach kws X.env)).any (·.1.isNone)) = false := by rfl) :
    PE X (.Call (.Name cn p) (e :: es) kws pos) (tL c (mkP f cn n m' gD ms ms2)) := by
  subst hl
  obtain ⟨fa, fd, ps, gg, M0, F0, hm, hb⟩ := C.ex
  subst hcl
  rw [← hK] at F0
  have F' : FnOk X.prog X.w X.K X.mg X.base (L2.CX X.prog X.w) k fa fd ps (spMk c.K c.cl cn q f) := by
    rw [hK] at F0 ⊢
    exact F0
  refine ⟨fun pins s σ H Q I ⟨F, ρ, T, w, g⟩ => ?_⟩
  have h : tD c ms σ H (fun vs H1 => tD c ms2 σ H1 (fun zs H2 => vs.length = n ∧ zs.length = ks.length ∧ ∀ p0 dx, H2 p0 = none → H2 dx = none → dx ≠ p0 → spMk c.K c.cl cn q f (gV (.ref p0 :: vs) zs) (upd (upd H2 dx (.own p0)) p0 (.ins (c.cl cn) dx [])) (fun v H3 => v = .non ∧ Q (.ref p0) H3) (fun cls x H' => c.W cls x σ H'))) := ⟨F, ρ, T, w, g.split.imp fun ds ρ1 F1 H1 s1 g1 w1 vs hv => ⟨F1, ρ1, T, w1, g1.split.imp fun fs ρ2 F2 H2 s2 g2 w2 zs hz => by
    by_cases z : ds.length = n ∧ fs.length = ks.length
    · rw [if_pos z] at g2
      have l1 : vs.length = n := hv.len.trans z.1
      have l2 : zs.length = ks.length := hz.len.trans z.2
      refine ⟨l1, l2, fun p0 dx a1 a2 a3 => ?_⟩
      obtain ⟨us, u1, u2, u3⟩ := ord F2 p0 vs ds zs fs l1 l2 (hv.same s2) hz
      rw [u1]
      exact mk_go w2 u2 u3 a1 a2 a3 g2
    · rw [if_neg z] at g2
      exact g2.elim⟩⟩
  refine wpAny_Call_Name_kw (ld_glob I hg hm ?_ hdb)
  refine PySem.W.callWith_KW (h₀ := X.base) I.ok.mod.kin M0.kp hall (thn (ha.run pos pins s σ H _ I h) fun us s1 ⟨vs, H1, I1, r, q⟩ => ?_) hpl he
  refine thn (hkw.run pos pins s1 σ H1 _ I1 q) fun ws s2 ⟨zs, H2, I2, rz, l1, l2, q2⟩ => ⟨I2.kIn, ?_⟩
  rw [hks]
  exact made_at (q := 0) M0 F' (hr.mono hk) hb tk I2 r rz l1 l2 q2
/-- C(k = v, ..) -/
theorem ml_mk0 (gD : List D → List D → List D) (C : Mkm X.prog X.w X.K X.mg X.base cl k cn 0 ks gV q f) {m' : Nat} (ord : OrdM c q 0 m' gV gD) (hK : c.K = X.K) (hcl : c.cl = cl) (tk : Takes X c.W) (hr : Room j X.A) (hk : k + 1 ≤ j) (hg : Gl X cn) (hkw : PK X kws (tD c ms2)) (hl : ks.length = m' := by rfl)
    (hall : (backToKw pos (keywordEach kws X.env)).all (·.1.isSome) = true := by rfl) (hks : (backToKw pos (keywordEach kws X.env)).filterMap (·.1) = ks := by rfl)
    (hdb : (cn == ("__debug__" : Str)) = false := by decide)
    (hpl : ((backTo pos (starEach [] X.env)).any (·.1) || (backToKw pos (keywordEach kws X.env)).any (·.1.isNone)) = false := by rfl) :
    PE X (.Call (.Name cn p) [] kws pos) (tL c (mkK f cn m' gD ms2)) := by
  subst hl
  obtain ⟨fa, fd, ps, gg, M0, F0, hm, hb⟩ := C.ex
  subst hcl
  rw [← hK] at F0
  have F' : FnOk X.prog X.w X.K X.mg X.base (L2.CX X.prog X.w) k fa fd ps (spMk c.K c.cl cn q f) := by
    rw [hK] at F0 ⊢
    exact F0
  refine ⟨fun pins s σ H Q I ⟨F, ρ, T, w, g⟩ => ?_⟩
  have h : tD c ms2 σ H (fun zs H2 => zs.length = ks.length ∧ ∀ p0 dx, H2 p0 = none → H2 dx = none → dx ≠ p0 → spMk c.K c.cl cn q f (gV [.ref p0] zs) (upd (upd H2 dx (.own p0)) p0 (.ins (c.cl cn) dx [])) (fun v H3 => v = .non ∧ Q (.ref p0) H3) (fun cls x H' => c.W cls x σ H')) := ⟨F, ρ, T, w, g.split.imp fun fs ρ2 F2 H2 s2 g2 w2 zs hz => by
    by_cases z : fs.length = ks.length
    · rw [if_pos z] at g2
      have l2 : zs.length = ks.length := hz.len.trans z
      refine ⟨l2, fun p0 dx a1 a2 a3 => ?_⟩
      obtain ⟨us, u1, u2, u3⟩ := ord F2 p0 [] [] zs fs rfl l2 .nil hz
      rw [u1]
      exact mk_go w2 u2 u3 a1 a2 a3 g2
    · rw [if_neg z] at g2
      exact g2.elim⟩
  refine wpAny_Call_Name_kw (ld_glob I hg hm ?_ hdb)
  refine PySem.W.callWith_KW0 (h₀ := X.base) I.ok.mod.kin M0.kp hall ?_ hpl
  refine thn (hkw.run pos pins s σ H _ I h) fun ws s2 ⟨zs, H2, I2, rz, l2, q2⟩ => ⟨I2.kIn, ?_⟩
  rw [hks]
  exact made_at (q := 0) (us := []) (vs := []) M0 F' (hr.mono hk) hb tk I2 .nil rz rfl l2 q2
/-- C() -/
theorem ml_mkN (gD : List D → List D → List D) (C : Mkm X.prog X.w X.K X.mg X.base cl k cn 0 [] gV q f) (ord : OrdM c q 0 0 gV gD) (hK : c.K = X.K) (hcl : c.cl = cl) (tk : Takes X c.W) (hr : Room j X.A) (hk : k + 1 ≤ j) (hg : Gl X cn) (hdb : (cn == ("__debug__" : Str)) = false := by decide) :
    PE X (.Call (.Name cn p) [] [] pos) (tL c (mkA f cn (gD [] []))) := by
  obtain ⟨fa, fd, ps, gg, M0, F0, hm, hb⟩ := C.ex
  subst hcl
  rw [← hK] at F0
  have F' : FnOk X.prog X.w X.K X.mg X.base (L2.CX X.prog X.w) k fa fd ps (spMk c.K c.cl cn q f) := by
    rw [hK] at F0 ⊢
    exact F0
  refine ⟨fun pins s σ H Q I ⟨F, ρ, T, w, g⟩ => ?_⟩
  refine wpAny_Call_Name_kw (ld_glob I hg hm ?_ hdb)
  refine PySem.W.callWith_K0 I.kIn M0.kp ?_
  exact made_at (q := 0) (us := []) (vs := []) (ws := []) (zs := []) M0 F' (hr.mono hk) hb tk I .nil .nil rfl rfl (fun p0 dx a1 a2 a3 => by
    obtain ⟨us, u1, u2, u3⟩ := ord F p0 [] [] [] [] rfl rfl .nil .nil
    rw [u1]
    exact mk_go w u2 u3 a1 a2 a3 g)
end
end Mir

namespace Mir
open PySem PySem.Spec PyProof.Rows L2
section
variable {X : Cx} {c : Mc} {cl : Str → Addr} {e : Expr} {kws : List Keyword} {m : M D} {ms : M (List D)} {nm : Option Str} {kpos : Pos}
theorem kd_nil : PK X [] (tD c (ret [])) := pkI pk_nil fun σ H Q ⟨F, ρ, T, w, g⟩ => g F H (Same.refl _) w [] .nil
theorem kd_cons (h : PE X e (tE c m)) (hs : PK X kws (tD c ms)) : PK X (⟨nm, e, kpos⟩ :: kws) (tD c (mCons m ms)) :=
  pkI (pk_cons h hs) fun σ H Q ⟨F, ρ, T, w, g⟩ => ⟨F, ρ, T, w, g.split.imp fun d ρ1 F1 H1 s1 g1 w1 v rv => ⟨F1, ρ1, T, w1, g1.split.imp fun ds ρ2 F2 H2 s2 g2 w2 vs rs =>
    g2 F2 H2 (Same.refl _) w2 (v :: vs) (.cons (rv.same s2) rs)⟩⟩
/-! ### try: .. except C: .. -/
def tryO (m : MS) (cn : Str) (m2 : MS) : MS := fun ρ => match m ρ with
  | .ex e _ _ ρ' => if e = cn then m2 ρ' else .no
  | o => o
variable {x : Str} {cv : Value} {body suite : List Stmt} {b₀ : Stmt} {np pos pos' : Pos} {mb m2 : MS}
theorem ms_tryO (hcl : c.cl = cl) (hs : X.stack = X.env :: X.outer) (hf : X.env.frame = some X.env.locals) (hc : Names X x cv) (tk : Takes X c.W) (hm : PySem.W.exmOne X.K (.ref (cl x)) cv = some true)
    (hb : ∀ (W : WX) (pn : List (Addr × Obj)) (xe : Value → Shared → Prop), Takes (X.tr pn xe) W → PassesOwn (model X.prog X.w) X.A X.env xe → PSs (X.tr pn xe) body (tS (c.wish W) mb))
    (hsu : ∀ (a : Addr) (oe : Obj) (pn : List (Addr × Obj)), PSs (X.suite a ((a, oe) :: pn)) (b₀ :: suite) (tS c m2)) :
    PS X (.Try body [.ExceptHandler (some (.Name x np)) none (b₀ :: suite) pos'] [] [] pos) (tS c (tryO mb x m2)) := by
  subst hcl
  refine psI (ps_try_only (tb := fun W => tS (c.wish W) mb) (ts := fun _ _ _ => tS c m2) hs hf hc tk hb (fun a oe cls d pn _ _ => hsu a oe pn)) fun E σ H ⟨F, ρ, T, w, g⟩ => ?_
  refine ⟨F, ρ, T, w.wish _, ?_⟩
  unfold tryO at g
  cases z : mb ρ with
  | nx ρ1 => rw [z] at g; exact fun σ' F' H' s w' => g σ' F' H' s w'.unwish
  | bk ρ1 => rw [z] at g; exact fun σ' F' H' s w' => g σ' F' H' s w'.unwish
  | ct ρ1 => rw [z] at g; exact fun σ' F' H' s w' => g σ' F' H' s w'.unwish
  | no => rw [z] at g; exact g.elim
  | rt r ρ1 =>
    rw [z] at g
    cases r with
    | va d => exact fun v σ' F' H' s w' r => g v σ' F' H' s w'.unwish r
    | ow ds => exact fun a σ' F' H' s w' => g a σ' F' H' s w'.unwish
  | ex e f d ρ1 =>
    rw [z] at g
    by_cases he : e = x
    · simp only [if_pos he] at g
      subst he
      intro x' w' σ' F' H' s wd hx rw'
      exact ⟨true, hm, fun _ a ha => ⟨F', ρ1, T, wd.unwish, g.up s⟩, fun q => by cases q⟩
    · simp only [if_neg he] at g
      exact g.elim
/-! ### isinstance of objects -/
structure PlJ (K : PySem.W.Frag) (C : Addr) : Prop where
  cl : Cls K C
  ha : PySem.W.findIn K (.ref C) "__class__" = some (some (.builtin "object.__class__"))
  hn : PySem.W.specialIn K (.builtin "object.__class__") "__get__" = some (some (.builtin "getset_descriptor.__get__"))
  ht : PySem.W.takesIn K (.builtin "object.__class__") = some true
  hm : PySem.W.mroIn K C (.type "object") = some true
def IoOk (K : PySem.W.Frag) (cl : Str → Addr) (io : Str → D → Option Bool) : Prop := ∀ cn e b, io cn e = some b → PlJ K (cl cn) ∧ ∀ F v, Rep K cl F v e → ∃ u, ClsV v u ∧ PySem.W.kitOne K (.ref (cl cn)) u = some b
def isiOD (io : Str → D → Option Bool) (d e : D) : Option D := match d with
  | .ob cn _ _ => (io cn e).map .bl
  | d => isiD d e
theorem o_isO {K : PySem.W.Frag} {io : Str → D → Option Bool} (hio : IoOk K cl io) (hK : c.K = K) (hcl : c.cl = cl) : OpN c (kE c) (rIsi K) (f2 (isiOD io)) := opN2 fun {F H σ ρ T x y d1 d2 d Q} w n1 n2 h k => by
  subst hK hcl
  have plain : isiD d1 d2 = some d → rIsi c.K [x, y] H Q := fun h => (o_isi (c := c) rfl).run w (.cons n1 (.cons n2 .nil)) h k
  cases d1 with
  | ob cn ns ds =>
    have h : (io cn d2).map D.bl = some d := h
    cases q : io cn d2 with
    | none => rw [q] at h; cases h
    | some b =>
      rw [q] at h
      cases h
      obtain ⟨J, hu⟩ := hio cn d2 b q
      have n2' : ∃ F, Rep c.K c.cl F y d2 := by
        cases d2 with
        | lst es => 
          obtain ⟨a, vs, rfl, h1, h2⟩ := n2
          exact ⟨upd F a (.lst vs), .lst upd_same (Reps.same (fun b' u' e' => by
            by_cases z : b' = a
            · subst z
              have := w.sub _ _ e'
              rw [h1] at this
              cases this
              rw [upd_same]
            · rw [upd_ne z]; exact e') h2)⟩
        | _ => exact ⟨F, n2⟩
      obtain ⟨F2, r2⟩ := n2'
      obtain ⟨u, hc, hk⟩ := hu F2 y r2
      cases n1 with
      | ob hp hl hs => exact ⟨_, y, _, u, b, rfl, hc, .base (.ins (w.sub _ _ hp) J.cl J.ha J.hn J.ht J.hm), hk, k F H (Same.refl _) w _ (.bl _)⟩
  | _ => exact plain h
end
end Mir

namespace Mir
open PySem PySem.Spec PyProof.Rows L2
/-! ### enumerate(v), v told by what iter(v) is -/
theorem enum_new1 {v : Value} {ob : Obj} {Hs : Heap → Prop} (B : Begins v ob Hs) :
    Meets (Builtin.«enumerate.__new__» ⟨[.type "enumerate", v], []⟩) (fun _ R s => Hs s.heap ∧
      R (.ok (.ret (.ref (s.heap.push ob).objs.size))) { s with heap := (s.heap.push ob).push { cls := .type "enumerate", data := .fields #[.none, .bool false, .ref s.heap.objs.size, rawInt 0, .none, .none] } }) :=
  .of_wp fun P w A R s h => by
    obtain ⟨hp, gl, dd, tk, os⟩ := s
    obtain ⟨h1, h⟩ := h
    have sub := sub_enumerate
    have go : ∀ {A' : Around} {E : Value → Shared → Prop} {Q : Value → Shared → Prop}, Q (.ref hp.objs.size) ⟨hp.push ob, gl, dd, tk, os⟩ → wpAny (model P w) A' (pyIter v) Q E ⟨hp, gl, dd, tk, os⟩ := fun q => B.iter P w _ _ ⟨hp, gl, dd, tk, os⟩ _ h1 q
    wp_walk using go
    refine wpAny_stack_any fun st => wpAny_pure ?_
    split
    · rename_i c0 _ _ _ _ _
      cases (c0 == Value.type "enumerate") <;> (wp_walk using go; exact ⟨_, rfl, h⟩)
    · wp_walk using go
      exact ⟨_, rfl, h⟩
theorem enum_call1 {P : Program} {w : World} {A : Around} {E : Value → Shared → Prop} {s : Shared} {v : Value} {ob : Obj} {Hs : Heap → Prop} {Q : Value → Shared → Prop} (B : Begins v ob Hs) (h1 : Hs s.heap)
    (h : ∀ h', IsEnum h' (s.heap.objs.size + 1) s.heap.objs.size 0 .none → h'.get? s.heap.objs.size = some ob → (∀ b o, s.heap.get? b = some o → h'.get? b = some o) → Q (.ref (s.heap.objs.size + 1)) { s with heap := h' }) :
    wpAny (model P w) A (call (.type "enumerate") [v]) Q E s := by
  refine callType_new F.called_enumerate (by decide) (F.typeCall_enumerate_1 _) (F.newCall_enumerate_1 _) (fun obj => F.args_object_init_2 obj _) F.entry_enumerate_new (enum_new1 B) ⟨h1, ?_⟩
  have sz : (s.heap.push ob).objs.size = s.heap.objs.size + 1 := Heap.size_push ..
  show _ ∧ _
  rw [sz]
  have he : IsEnum ((s.heap.push ob).push { cls := .type "enumerate", data := .fields #[.none, .bool false, .ref s.heap.objs.size, rawInt 0, .none, .none] }) (s.heap.objs.size + 1) s.heap.objs.size 0 .none := by
    have z := Heap.get?_push_size (s.heap.push ob) (o := { cls := .type "enumerate", data := .fields #[.none, .bool false, .ref s.heap.objs.size, rawInt 0, .none, .none] }) rfl
    rw [sz] at z
    exact z
  exact ⟨⟨_, he, rfl⟩, h _ he (Heap.get?_push_of_some _ (Heap.get?_push_size _ B.free)) fun b o z => Heap.get?_push_of_some _ (Heap.get?_push_of_some _ z)⟩
def IteT (K : PySem.W.Frag) (a : Addr) : It where
  go := fun i H => ∃ (xs : List V) (x : V), SqT K H a xs ∧ xs[i]? = some x
  yld := fun i H v H' => ∃ T x, v = .ref T ∧ H T = none ∧ H' = upd H T (.tup [.int (0 + (i : Int)), x]) ∧ ∀ xs, SqT K H a xs → xs[i]? = some x
  stop := fun i H => ∃ xs : List V, SqT K H a xs ∧ xs.length = i
theorem enum_apartT {h : Heap} {e it a : Addr} {k : Int} {old : Value} {items : Array Value} (he : IsEnum h e it k old) (hl : h.IsTuple a items) : e ≠ a := fun z => by
  subst z
  obtain ⟨o, h1, h2, _⟩ := hl
  have h3 : h.get? e = some _ := he
  rw [h1] at h3
  cases h3
  exact absurd (show Value.type "enumerate" = .type "tuple" from h2) (by decide)
theorem iter_apartT {h : Heap} {it a : Addr} {i : Nat} {items : Array Value} (he : h.IsTupleIter it a i) (hl : h.IsTuple a items) : a ≠ it := fun z => by
  subst z
  obtain ⟨o, h1, h2, _⟩ := hl
  obtain ⟨o', h3, h4, _⟩ := he
  rw [h1] at h3
  cases h3
  rw [h2] at h4
  exact absurd h4 (by decide)
theorem turn_enumT {P : Program} {w : World} {K : PySem.W.Frag} {elts : List Expr} {kk : Nat} {tp : Pos} (a e it : Addr) :
    Turn P w K (.Tuple elts kk tp) (IteT K a) [e, it] e (fun n h => (∃ old, IsEnum h e it (0 + (n : Int)) old) ∧ h.IsTupleIter it a n ∧ e ≠ it) where
  mem := by simp
  obj := fun n h st b hb => by
    obtain ⟨⟨old, h1⟩, ⟨o, h2, h3, h4⟩, _⟩ := st
    have hb' : b = e ∨ b = it := by simpa using hb
    rcases hb' with rfl | rfl
    · exact ⟨_, h1, fun v q => nomatch q⟩
    · exact ⟨o, h2, fun v q => by rw [h4] at q; cases q⟩
  keep := fun n h h' st k => by
    obtain ⟨⟨old, h1⟩, ⟨o, q1, q2⟩, h3⟩ := st
    exact ⟨⟨old, k e (by simp) _ h1⟩, ⟨o, k it (by simp) o q1, q2⟩, h3⟩
  item := by
    intro X hP hw hK hc n pins s σ H E I hf st hg
    subst hP hw hK
    obtain ⟨⟨old, h1⟩, h2, h3⟩ := st
    obtain ⟨xs, x, hq, hx⟩ := hg
    obtain ⟨its, rv, pl, hz⟩ := I.tuple hq
    obtain ⟨u, hu, ru⟩ := rv.get hx
    have hL : s.heap.IsTuple a its.toArray := pl
    have hn : n < its.toArray.size := by
      rw [List.size_toArray]
      exact (List.getElem?_eq_some_iff.mp hu).1
    have el : e < s.heap.objs.size := Heap.lt_size h1
    have il : it < s.heap.objs.size := by
      obtain ⟨_, q, _⟩ := h2
      exact Heap.lt_size q
    have Dw := Draws.tuple (prog := X.prog) (w := X.w) (A := X.A.in1) (I.ok.hd hc) it a (iter_apartT h2 hL) its.toArray
    refine wpAny_pyNext_enum_itemC Dw h1 ⟨h2, hL⟩ hn h3 (by
      intro z
      rcases List.mem_cons.mp z with z | z
      · exact h3 z
      · exact enum_apartT h1 hL (List.mem_singleton.mp z)) fun y h' tk hy ho st2 hT hsz hkp => ?_
    have hyu : y = u := by
      have q : its.toArray[n]? = some u := by simpa using hu
      rw [hy] at q
      exact Option.some.inj q
    subst hyu
    refine ⟨_, rfl, wpAny_letOwnedTupleGo_enum (s := { s with heap := h', toks := tk + 1 }) ho fun h'' he' sb => ?_⟩
    have hT2 := (sb.2 _ (Nat.ne_of_gt el)).trans hT
    have new : ObjOk X.prog X.w (upd H s.heap.objs.size (.tup [.int (0 + (n : Int)), x])) h'' s.heap.objs.size (.tup [.int (0 + (n : Int)), x]) :=
      ⟨by show 2 ≤ sizeLine; decide, [.int (0 + (n : Int)) tk, y], .cons ⟨_, rfl⟩ (.cons ru .nil), ⟨_, hT2, rfl, _, rfl⟩⟩
    have I1 : Inv X pins σ (upd H s.heap.objs.size (.tup [.int (0 + (n : Int)), x])) { s with heap := h'', toks := tk + 1 } := by
      refine I.turnedNew (ch := [e, it]) (fun b ob hb q => ?_) hf (Nat.le_refl _) new
      have n1 : b ≠ e := fun z => hb (by simp [z])
      have n2 : b ≠ it := fun z => hb (by simp [z])
      exact (sb.2 b n1).trans (hkp b ob n1 n2 q)
    refine ⟨.ref s.heap.objs.size, _, I1, rfl, ⟨_, x, rfl, I.hok.fresh (Nat.le_refl _), rfl, fun ys hy => by rw [I.tuple_inj hy hq]; exact hx⟩, ⟨⟨y, ?_⟩, ?_, h3⟩, fun b hb => ?_⟩
    · rw [show (0 : Int) + ((n + 1 : Nat) : Int) = 0 + (n : Int) + 1 by omega]
      exact he'
    · obtain ⟨o, q1, q2⟩ := st2.1
      exact ⟨o, (sb.2 it (Ne.symm h3)).trans q1, q2⟩
    · have hb' : b = e ∨ b = it := by simpa using hb
      have lt : b < s.heap.objs.size := by
        rcases hb' with rfl | rfl
        · exact el
        · exact il
      rw [upd_ne (Nat.ne_of_lt lt)]
      exact (hf b hb).1
  done := by
    intro X hP hw hK hc n pins s σ H E I hf st hg
    subst hP hw hK
    obtain ⟨⟨old, h1⟩, h2, h3⟩ := st
    obtain ⟨xs, hq, hx⟩ := hg
    obtain ⟨its, rv, pl, hz⟩ := I.tuple hq
    obtain ⟨f0, f1, f2, f3, f4, f5⟩ := hf it (by simp)
    have hl := rv.length
    have hL : s.heap.IsTuple a its.toArray := pl
    have Dw := Draws.tuple (prog := X.prog) (w := X.w) (A := X.A.in1) (I.ok.hd hc) it a (iter_apartT h2 hL) its.toArray
    have hn : n = its.toArray.size := by
      rw [List.size_toArray]
      omega
    subst hn
    refine wpAny_pyNext_enum_endD Dw h1 ⟨h2, hL⟩ fun h' eb => ?_
    exact ⟨rfl, I.turned (t' := s.toks) (fun b o hb q => eb b o hb q) f0 f1 f3 f4 f5⟩
  self := fun A n s Q E st h => by
    obtain ⟨⟨_, h1⟩, _⟩ := st
    exact wpAny_pyIter_enum h1 h
theorem walk_enumT {K : PySem.W.Frag} {a : Addr} {xs : List V} : Walk (IteT K a) xs.length (fun H => SqT K H a xs) (YPair (fun i => some (.int (0 + (i : Int)))) (fun i => xs[i]?)) := by
  refine ⟨fun i H hi q => ⟨xs, xs[i], q, by simp [hi]⟩, fun H q => ⟨xs, q, rfl⟩, fun i H v H' hi q y => ?_⟩
  obtain ⟨T, x, h1, h2, h3, h4⟩ := y
  exact ⟨T, .int (0 + (i : Int)), x, h1, h2, h3, rfl, h4 xs q⟩
section
variable {X : Cx} {c : Mc} {e : Expr} {p pos tpos : Pos} {elts : List Expr} {kk : Nat} {ms : M (List D)} {m : M D}
/-- enumerate of a list or of a tuple -/
def enD2 : List D → Option (List D)
  | [.lst ds] => some (enumF 0 ds)
  | [.tup ds] => some (enumF 0 ds)
  | _ => none
theorem pi_enumT {ta : TA} (hg : Gl X "enumerate") (hm : X.mg "enumerate" = none) (ha : PA X [e] ta) (hs : starEach [e] X.env = [(false, eval e X.env)] := by rfl) :
    PI X (.Tuple elts kk tpos) (.Call (.Name "enumerate" p) [e] [] pos) (fun σ H R => ta σ H fun vs H1 => ∃ (a : Addr) (xs : List V), vs = [.ref a] ∧ SqT X.K H1 a xs ∧ R (IteT X.K a) H1) := by
  refine ⟨fun pins s σ H R I h => ?_⟩
  refine Call_ (ld_blt I hg hm boot_enumerate (PyProof.Rows.callWith_type1 (thn (ha.run pos pins s σ H _ I h) fun us s1 ⟨vs, H1, I1, r1, q1⟩ => ?_) hs rfl))
  obtain ⟨b, xs, rfl, hS, q⟩ := q1
  cases r1 with
  | cons ra rb =>
    cases rb
    cases ra
    obtain ⟨its, rv, pl, hz⟩ := I1.tuple hS
    refine enum_call1 (PySem.begins_tuple b its.toArray) pl fun h' z1 z2 z4 => wpAny_pyIter_enum z1 ?_
    have I3 : Inv X pins σ H1 { s1 with heap := h' } := I1.kept (t' := s1.toks) z4
    refine ⟨s1.heap.objs.size + 1, [s1.heap.objs.size + 1, s1.heap.objs.size], _, _, H1, rfl, I3, turn_enumT b (s1.heap.objs.size + 1) s1.heap.objs.size, ⟨⟨.none, z1⟩, ⟨_, z2, rfl, rfl⟩, Nat.succ_ne_self _⟩, fun a ha => ?_, q⟩
    have le : s1.heap.objs.size ≤ a := by
      have ha' : a = s1.heap.objs.size + 1 ∨ a = s1.heap.objs.size := by simpa using ha
      rcases ha' with z | z
      · rw [z]; exact Nat.le_succ _
      · rw [z]; exact Nat.le_refl _
    exact I1.fpOk le (I1.hok.fresh le)
theorem mi_enum2 (hK : c.K = X.K) (hg : Gl X "enumerate") (hm : X.mg "enumerate" = none) (h : PA X [e] (tD c ms)) (hs : starEach [e] X.env = [(false, eval e X.env)] := by rfl) :
    PI X (.Tuple elts kk tpos) (.Call (.Name "enumerate" p) [e] [] pos) (tI c (bnd ms fun ds => opt (enD2 ds))) := by
  refine ⟨fun pins s σ H R I q => ?_⟩
  obtain ⟨F, ρ, T, w, g⟩ := q
  have g' := g.split
  cases z : ms ρ with
  | no => rw [z] at g'; exact g'.elim
  | ex n f d ρ' =>
    refine (mi_enum (c := c) hK hg hm h hs).run pins s σ H R I ⟨F, ρ, T, w, ?_⟩
    unfold bnd at g ⊢
    rw [z] at g ⊢
    exact g
  | ok ds ρ1 =>
    by_cases y : ∃ es, ds = [.tup es]
    · obtain ⟨es, rfl⟩ := y
      refine (pi_enumT (elts := elts) (kk := kk) (tpos := tpos) hg hm h hs).run pins s σ H R I ⟨F, ρ, T, w, ?_⟩
      rw [z] at g' ⊢
      intro F1 H1 s1 w1 vs rs
      obtain ⟨l, hl, k⟩ := (g' F1 H1 s1).opt
      obtain ⟨v, rfl, r1⟩ := reps1 rs
      cases hl
      cases r1 with
      | @tup a us _ h1 hs1 =>
        rw [← hK]
        refine ⟨a, us, rfl, (h1.same w1.sub).t, k F1 H1 (Same.refl _) w1 _ ⟨_, _, by rw [enumF_len, ← hs1.len]; exact walk_enumT (xs := us), fun H e => (h1.same e).t, fun i H x H' hi _ y => ?_⟩⟩
        obtain ⟨p0, y1, y2, q1, q2, q3, q4, q5⟩ := y
        cases q4
        obtain ⟨d, h3, h4⟩ := hs1.getV q5
        exact ⟨_, enumF_get h3, .inr ⟨p0, _, [.int (0 + (i : Int)), d], q1, q2, q3, rfl, .cons (.int _) (.cons h4 .nil)⟩⟩
    · refine (mi_enum (c := c) hK hg hm h hs).run pins s σ H R I ⟨F, ρ, T, w, ?_⟩
      have e : enD2 ds = enD ds := by
        unfold enD2 enD
        split
        · rfl
        · exact absurd ⟨_, rfl⟩ y
        · rename_i a1 a2
          split
          · exact absurd rfl (a1 _)
          · rfl
      unfold bnd at g ⊢
      rw [z] at g ⊢
      show Go c F T σ (opt (enD ds) ρ1) _
      rw [← e]
      exact g
/-- reversed of a list -/
def rvD : D → Option (List D)
  | .lst ds => some ds.reverse
  | _ => none
theorem mi_rev {tg : Expr} (hK : c.K = X.K) (hg : Gl X "reversed") (hm : X.mg "reversed" = none) (h : PE X e (tE c m)) (hs : starEach [e] X.env = (false, eval e X.env) :: starEach [] X.env := by rfl) :
    PI X tg (.Call (.Name "reversed" p) [e] [] pos) (tI c (un rvD m)) :=
  piI (RT.pi_revA hg hm h hs) fun σ H R ⟨F, ρ, T, w, g⟩ => ⟨F, ρ, T, w, g.split.imp fun d ρ1 F1 H1 s1 g1 w1 v rv => by
    obtain ⟨l, hl, k⟩ := g1.opt
    cases d with
    | lst ds =>
      cases hl
      cases rv with
      | @lst a us _ h1 hs1 =>
        rw [← hK]
        refine ⟨a, us, rfl, .inl ⟨SqL.of (w1.sub _ _ h1), k F1 H1 (Same.refl _) w1 _ ⟨_, _, by rw [List.length_reverse, ← hs1.len]; exact walk_rev (xs := us), fun H e => SqL.of (e _ _ h1), fun i H x H' hi _ y => ?_⟩⟩⟩
        obtain ⟨q1, q2⟩ := y
        obtain ⟨d, h3, h4⟩ := hs1.getV q2
        rw [List.length_reverse] at hi
        refine ⟨d, ?_, .inl ⟨q1, h4⟩⟩
        rw [List.getElem?_reverse hi, ← hs1.len]
        exact h3
    | _ => cases hl⟩
end
end Mir

namespace Mir
open PySem PySem.Spec PyProof.Rows L2
/-! ### a def that returns a pair, a new list in it -/
inductive OuP where
  | ok (r1 r2 : Sl) | ex (c f : Str) (d : D) | no
/-- at most one of them a list that may be changed -/
def oneOw : Sl → Sl → Bool
  | .ow _, .ow _ => false
  | _, _ => true
def Rt (K : PySem.W.Frag) (cl : Str → Addr) (H F' H' : Hp) (v : V) : Sl → Prop
  | .va d => Rep K cl F' v d
  | .ow ds => ∃ a, v = .ref a ∧ H a = none ∧ F' a = none ∧ ∃ us, H' a = some (.lst us) ∧ Reps K cl F' us ds
def spP (K : PySem.W.Frag) (cl : Str → Addr) (n : Nat) (m : List Sl → OuP) : Sp := fun vs H Q E => vs.length = n ∧ ∃ F ds, Same F H ∧ Reps K cl F vs ds ∧ (match m (ds.map .va) with
  | .ok r1 r2 => ∀ t v1 v2 F' H', Pst K cl F H none F' H' [] → H' t = some (.tup [v1, v2]) → Rt K cl H F' H' v1 r1 → Rt K cl H F' H' v2 r2 → oneOw r1 r2 = true → Q (.ref t) H'
  | .ex e f d => ∀ x w F' H', Pst K cl F H none F' H' [] → F' x = some (.xd [(f, w)]) → Rep K cl F' w d → E (.ref (cl e)) (some x) H'
  | .no => False)
def finP (i j : Nat) : Fl → OuP
  | .nx ρ => (match ρ[i]?, ρ[j]? with
    | some (some r1), some (some r2) => if oneOw r1 r2 = true then .ok r1 r2 else .no
    | _, _ => .no)
  | .ex c f d _ => .ex c f d
  | _ => .no
def runP (k i j : Nat) (m : MS) (as : List Sl) : OuP := finP i j (m (as.map some ++ List.replicate (k - as.length) none))
/-- the end of its body -/
def GoP (c : Mc) (F : Hp) (T : Tm) (o : Fl) (i j : Nat) (E : Ends) : Prop := match o with
  | .nx ρ' => (∃ r1 r2, ρ'[i]? = some (some r1) ∧ ρ'[j]? = some (some r2)) ∧ ∀ σ' F' H' t v1 v2, Same F F' → Wd c F' H' σ' ρ' T → H' t = none → σ'[i]? = some (some v1) → σ'[j]? = some (some v2) → E.rt (.ref t) (upd H' t (.tup [v1, v2]))
  | .ex e f d ρ' => ∀ x w σ' F' H', Same F F' → Wd c F' H' σ' ρ' T → F' x = some (.xd [(f, w)]) → c.rep F' w d → c.W (.ref (c.cl e)) (some x) σ' H'
  | _ => False
def tP (c : Mc) (m : MS) (i j : Nat) : TS := fun E σ H => ∃ F ρ T, Wd c F H σ ρ T ∧ GoP c F T (m ρ) i j E
section
variable {X : Cx} {c : Mc} {cl : Str → Addr} {K : PySem.W.Frag} {F F' H H' : Hp} {σ : L2.St} {ρ : En} {T : Tm} {st : Stmt} {sts : List Stmt} {m m1 m2 : MS} {i j : Nat}
theorem GoP.up {o : Fl} {E : Ends} (h : GoP c F T o i j E) (e : Same F F') : GoP c F' T o i j E := by
  cases o with
  | nx ρ' => exact ⟨h.1, fun σ' F2 H2 t v1 v2 s => h.2 σ' F2 H2 t v1 v2 (e.trans s)⟩
  | ex _ _ _ _ => exact fun x w σ' F2 H2 s => h x w σ' F2 H2 (e.trans s)
  | _ => exact h
theorem slot_val (w : Wd c F H σ ρ T) {i : Nat} {r : Sl} (h : ρ[i]? = some (some r)) : ∃ v, σ[i]? = some (some v) := by
  cases r with
  | va d => obtain ⟨v, h1, _⟩ := w.va i d h; exact ⟨v, h1⟩
  | ow ds => obtain ⟨a, h1, _⟩ := w.ow i ds h; exact ⟨_, h1⟩
theorem mp_last {x y : Str} {p1 p2 pos pos' : Pos} {kk : Nat} (hi : X.N[i]? = some x := by rfl) (hj : X.N[j]? = some y := by rfl) (h : PSs X [.Return (some (.Tuple [.Name x p1, .Name y p2] kk pos)) pos'] (fun E σ H => ∃ v1, σ[i]? = some (some v1) ∧ ∃ v2, σ[j]? = some (some v2) ∧ 2 ≤ sizeLine ∧ ∀ t, H t = none → E.rt (.ref t) (upd H t (.tup [v1, v2])))) :
    PSs X [.Return (some (.Tuple [.Name x p1, .Name y p2] kk pos)) pos'] (tP c Fl.nx i j) := pssI h fun E σ H ⟨F, ρ, T, w, g⟩ => by
  obtain ⟨⟨r1, r2, h1, h2⟩, g⟩ := g
  obtain ⟨v1, e1⟩ := slot_val w h1
  obtain ⟨v2, e2⟩ := slot_val w h2
  exact ⟨v1, e1, v2, e2, by decide, fun t ht => g σ F H t v1 v2 (Same.refl _) w ht e1 e2⟩
theorem mp_cons (h1 : PS X st (tS c m1)) (h2 : PSs X sts (tP c m2 i j)) : PSs X (st :: sts) (tP c (sq m1 m2) i j) := pssI (pss_cons h1 h2) fun E σ H ⟨F, ρ, T, w, g⟩ => by
  refine ⟨F, ρ, T, w, ?_⟩
  unfold sq at g
  cases z : m1 ρ with
  | nx ρ1 => rw [z] at g; exact fun σ' F' H' s w' => ⟨F', ρ1, T, w', g.up s⟩
  | ex _ _ _ _ => rw [z] at g; exact g
  | rt r ρ1 => rw [z] at g; exact g.elim
  | bk ρ1 => rw [z] at g; exact g.elim
  | ct ρ1 => rw [z] at g; exact g.elim
  | no => rw [z] at g; exact g.elim
/-- THE RULE for such a def -/
theorem ok_defP {P : Program} {w : World} {mg : Str → Option Value} {base : Heap} {x qual : Str} {st : Stmt} {f : Addr} {fd : FuncData} {N ps : List Str} {k kN n : Nat} {m : MS} (Fn : Fun K x qual st f fd) (S : FnScope N ps (defScope st))
    (hb : ∀ (cdv : Value) (A : Around) (outer : List Env) (s : Shared) (H : Hp) (E : XK) (c : Mc), Room k (A.deeper (envOfC qual (defScope st) s.heap.objs.size f cdv)) → c.K = K → c.cl = cl → (∀ i a, (i, a) ∈ c.bi → (none : Option Nat) = some i) → c.W = (fun cls d _ H => E cls d H) →
      PSs (cxOf (L2.CX P w) P w K mg base N qual (defScope st) f cdv A outer s H E) (defBody st) (tP c m i j)) (hl : N.length = kN := by rfl) (hq : ps.length = n := by rfl) :
    FnOk P w K mg base (L2.CX P w) (k + 1) f fd ps (spP K cl n (runP kN i j m)) := by
  subst hl hq
  refine Fn.okX S (fun vs H Q E h => h.1) (fun cdv A outer s H vs Q E hr h => ?_)
  obtain ⟨hn, F, ds, sm, hs, g⟩ := h
  have ar : Argm K cl F H none none vs (ds.map .va) := ⟨by rw [List.length_map]; exact hs.len, (fun q d h => by
    rw [List.getElem?_map] at h
    cases z : ds[q]? with
    | none => rw [z] at h; cases h
    | some d' => rw [z] at h; cases h; exact hs.get z), (fun q es h => by
    rw [List.getElem?_map] at h
    cases z : ds[q]? with
    | none => rw [z] at h; cases h
    | some d' => rw [z] at h; cases h), (fun q h => by cases h), fun _ => rfl⟩
  have wd0 := ar.start sm (n := N.length) (W := fun cls d _ H => E cls d H)
  refine ⟨_, hb cdv A outer s H E ⟨K, cl, F, H, biOf none none, fun cls d _ H => E cls d H⟩ hr rfl rfl (fun i a h => by cases h) rfl, F, _, [], wd0, ?_⟩
  unfold runP at g
  cases z : m ((ds.map Sl.va).map some ++ List.replicate (N.length - (ds.map Sl.va).length) none) with
  | nx ρ' =>
    rw [z] at g
    have g : (match (match ρ'[i]?, ρ'[j]? with
      | some (some r1), some (some r2) => if oneOw r1 r2 = true then OuP.ok r1 r2 else .no
      | _, _ => .no) with
      | .ok r1 r2 => ∀ t v1 v2 F' H', Pst K cl F H none F' H' [] → H' t = some (.tup [v1, v2]) → Rt K cl H F' H' v1 r1 → Rt K cl H F' H' v2 r2 → oneOw r1 r2 = true → Q (.ref t) H'
      | .ex e f d => ∀ x w F' H', Pst K cl F H none F' H' [] → F' x = some (.xd [(f, w)]) → Rep K cl F' w d → E (.ref (cl e)) (some x) H'
      | .no => False) := g
    cases h1 : ρ'[i]? with
    | none => rw [h1] at g; exact g.elim
    | some o1 =>
      cases o1 with
      | none => rw [h1] at g; exact g.elim
      | some r1 =>
        cases h2 : ρ'[j]? with
        | none => rw [h1, h2] at g; exact g.elim
        | some o2 =>
          cases o2 with
          | none => rw [h1, h2] at g; exact g.elim
          | some r2 =>
            rw [h1, h2] at g
            by_cases ho : oneOw r1 r2 = true
            case neg => simp only [if_neg ho] at g
            simp only [if_pos ho] at g
            refine ⟨⟨r1, r2, h1, h2⟩, fun σ' F' H' t v1 v2 s1 w' ht e1 e2 => ?_⟩
            have ft : F' t = none := w'.sub.free ht
            have P0 := w'.pst ar
            have rt : ∀ {q : Nat} {v : V} {r : Sl}, ρ'[q]? = some (some r) → σ'[q]? = some (some v) → Rt K cl H F' (upd H' t (.tup [v1, v2])) v r := fun {q v r} hr hv => by
              cases r with
              | va d =>
                obtain ⟨u, u1, u2⟩ := w'.va q d hr
                rw [hv] at u1
                cases u1
                exact u2
              | ow es =>
                obtain ⟨a, a1, ⟨a2, us, a3, a4⟩, a5⟩ := w'.ow q es hr
                rw [hv] at a1
                cases a1
                refine ⟨a, rfl, a5.elim (fun y => by cases y) id, a2, us, ?_, a4⟩
                rw [upd_ne (fun y => by rw [y, ht] at a3; cases a3)]
                exact a3
            refine g t v1 v2 F' _ ⟨P0.up, fun a o ha => ?_, P0.new, fun a o ha h => ?_, fun a h => by cases h⟩ upd_same (rt h1 e1) (rt h2 e2) ho
            · rw [upd_ne (ne_of_none ha ft)]
              exact P0.sub a o ha
            · have := P0.keep a o ha h
              rw [upd_ne (ne_of_none this ht)]
              exact this
  | ex e f d ρ' =>
    rw [z] at g
    exact fun x w σ' F' H' _ w' hx rw' => g x w F' H' ⟨(w'.pst ar).up, (w'.pst ar).sub, (w'.pst ar).new, (w'.pst ar).keep, fun a h => by cases h⟩ hx rw'
  | rt r ρ' => rw [z] at g; exact g.elim
  | bk ρ' => rw [z] at g; exact g.elim
  | ct ρ' => rw [z] at g; exact g.elim
  | no => rw [z] at g; exact g.elim
/-! ### a, b = f(..) -/
structure CmP (P : Program) (w : World) (K : PySem.W.Frag) (mg : Str → Option Value) (base : Heap) (cl : Str → Addr) (k : Nat) (x : Str) (ps : List Str) (f : List Sl → OuP) : Prop where
  ex : ∃ fa fd, FnOk P w K mg base (L2.CX P w) k fa fd ps (spP K cl ps.length f) ∧ mg x = some (.ref fa) ∧ PySem.W.keepIn K (.ref fa) = true ∧ Binds K fd ps []
def unpS (f : List Sl → OuP) (n : Nat) (ms : M (List D)) (i j : Nat) : MS := thenS ms fun ds ρ => if ds.length = n then (match f (ds.map .va) with
  | .ok r1 r2 => .nx ((ρ.set i (some r1)).set j (some r2))
  | .ex e g d => .ex e g d ρ
  | .no => .no) else .no
theorem Wd.pst0 {b : List D} (w : Wd c F H σ ρ T) (p : Pst c.K c.cl F H none F' H' b) : Wd c F' H' σ ρ T := by
  have k1 : Same H H' := fun a o h => p.keep a o (fun z => by cases z) h
  have up : ∀ {a : Addr} {es : List D}, Own c F H a es → Own c F' H' a es := fun {a es} ⟨o1, vs, o2, o3⟩ => by
    refine ⟨?_, vs, k1 _ _ o2, o3.same p.up⟩
    cases z : F' a with
    | none => rfl
    | some o =>
      have := p.new a o1 (by rw [z]; exact fun y => by cases y)
      rw [this] at o2
      cases o2
  exact
    { len := w.len, sub := p.sub, ext := w.ext.trans p.up
      new := fun b b1 b2 => by
        by_cases z : F b = none
        · exact w.old (p.new b z b2)
        · exact w.new b b1 z
      keep := fun a o a1 a2 => k1 _ _ (w.keep a o a1 a2)
      va := fun i d h => by
        obtain ⟨v, v1, v2⟩ := w.va i d h
        exact ⟨v, v1, v2.same p.up⟩
      ow := fun i es h => by
        obtain ⟨a, a1, a2, a3⟩ := w.ow i es h
        exact ⟨a, a1, up a2, a3⟩
      tm := fun a es h => ⟨up (w.tm a es h).1, (w.tm a es h).2⟩
      dis := w.dis, dit := w.dit, nod := w.nod, bs := w.bs }
/-- a new list among the results -/
theorem Wd.res {a : Addr} {us : List V} {es : List D} (w0 : Wd c F H σ ρ T) (w : Wd c F' H' σ ρ T) (h1 : H a = none) (h2 : F' a = none) (h3 : H' a = some (.lst us)) (h4 : c.reps F' us es) : Wd c F' H' σ ρ ((a, es) :: T) :=
  { len := w.len, sub := w.sub, ext := w.ext, new := w.new, keep := w.keep, va := w.va, ow := w.ow
    tm := fun b fs h => by
      rcases List.mem_cons.mp h with h | h
      · cases h; exact ⟨⟨h2, us, h3, h4⟩, w0.old h1⟩
      · exact w.tm b fs h
    dis := w.dis
    dit := fun k fs b gs g1 g2 g3 => by
      rcases List.mem_cons.mp g3 with h | h
      · cases h
        obtain ⟨a', z1, z2, _⟩ := w0.ow k fs g1
        rw [g2] at z1
        cases z1
        exact z2.get h1
      · exact w.dit k fs b gs g1 g2 h
    nod := by
      rw [List.map_cons, List.nodup_cons]
      refine ⟨fun hm => ?_, w.nod⟩
      obtain ⟨⟨b, fs⟩, z1, z2⟩ := List.mem_map.mp hm
      have z2' : b = a := z2
      subst z2'
      exact (w0.tm b fs z1).1.get h1
    bs := w.bs }
theorem ms_unp {e : Expr} {es : List Expr} {x y fn : Str} {ps : List Str} {p px py pt pos pos' : Pos} {kt jj k n : Nat} {f : List Sl → OuP} {ms : M (List D)} (C : CmP X.prog X.w X.K X.mg X.base cl k fn ps f) (hK : c.K = X.K) (hcl : c.cl = cl) (tk : Takes X c.W) (hr : Room jj X.A) (hk : k ≤ jj) (hg : Gl X fn) (ha : PA X (e :: es) (tD c ms)) (hbi : ∀ a, (i, a) ∉ c.bi) (hbj : ∀ a, (j, a) ∉ c.bi) (hij : i ≠ j)
    (hN : X.N.Nodup) (hi : X.N[i]? = some x) (hj : X.N[j]? = some y) (hx : Loc X.env.scope x) (hy : Loc X.env.scope y) (hc : X.calm = true) (hn : ps.length = n := by rfl)
    (fx : X.fn x = true ∨ X.env.scope.names.lookup x = some .local := by first | exact .inl rfl | exact .inr rfl) (fy : X.fn y = true ∨ X.env.scope.names.lookup y = some .local := by first | exact .inl rfl | exact .inr rfl)
    (h2 : (assignEach [.Name x px, .Name y py] X.env).length = 2 := by rfl) (h3 : (assignEach [.Name x px, .Name y py] X.env).findIdx? (·.1) = none := by rfl)
    (hs : swapsWithSole [.Tuple [.Name x px, .Name y py] kt pt] (.Call (.Name fn p) (e :: es) [] pos) pos'.line X.env = pure false := by rfl) (hw : swappedStores [.Tuple [.Name x px, .Name y py] kt pt] (.Call (.Name fn p) (e :: es) [] pos) X.env = pure none := by rfl)
    (hdb : (fn == ("__debug__" : Str)) = false := by decide) (he : starEach (e :: es) X.env = (false, eval e X.env) :: starEach es X.env := by rfl) (hpl : (backTo pos (starEach es X.env)).any (·.1) = false := by rfl) :
    PS X (.Assign [.Tuple [.Name x px, .Name y py] kt pt] (.Call (.Name fn p) (e :: es) [] pos) pos') (tS c (unpS f n ms i j)) := by
  obtain ⟨fa, fd, F0, hm, hkp, hb⟩ := C.ex
  subst hcl hn
  rw [← hK] at F0
  have F' : FnOk X.prog X.w X.K X.mg X.base (L2.CX X.prog X.w) k fa fd ps (spP c.K c.cl ps.length f) := by
    rw [hK] at F0 ⊢
    exact F0
  refine psI (ps_asg (pe_callS F' (hr.mono hk) hg hm hkp hb (fun σ => passAt tk σ) ha hdb he hpl) (pg_tup hc (pgs_cons (pg_name hN hi hx fx) (pgs_cons (pg_name hN hj hy fy) pgs_nil)) h2 h3) hs hw) fun E σ H ⟨F, ρ, T, w, g⟩ => ?_
  refine ⟨F, ρ, T, w, g.split.imp fun ds ρ1 F1 H1 s1 g1 w1 vs rs => ?_⟩
  by_cases hd : ds.length = ps.length
  case neg => rw [if_neg hd] at g1; exact g1.elim
  rw [if_pos hd] at g1
  refine ⟨rs.len.trans hd, F1, ds, w1.sub, rs, ?_⟩
  cases hf : f (ds.map .va) with
  | no => rw [hf] at g1; exact g1.elim
  | ex en gg d =>
    rw [hf] at g1
    intro x' w' F2 H2 p2 hx' rw'
    exact g1 x' w' σ F2 H2 p2.up (w1.pst0 p2) hx' rw'
  | ok r1 r2 =>
    rw [hf] at g1
    intro t v1 v2 F2 H2 p2 ht q1 q2 ho
    refine ⟨t, [v1, v2], rfl, (.inl (.inl ht)), rfl, ?_⟩
    have w2 := w1.pst0 p2
    have fin : Wd c F2 H2 ((σ.set i (some v1)).set j (some v2)) ((ρ1.set i (some r1)).set j (some r2)) T := by
      cases r1 with
      | va d1 =>
        have w3 := w2.set (i := i) (v := v1) (d := d1) hbi q1
        cases r2 with
        | va d2 => exact w3.set hbj q2
        | ow e2 =>
          obtain ⟨a, rfl, a1, a2, us, a3, a4⟩ := q2
          exact ((w1.res w2 a1 a2 a3 a4).set (i := i) hbi q1).take hbj
      | ow e1 =>
        obtain ⟨a, rfl, a1, a2, us, a3, a4⟩ := q1
        have w3 := (w1.res w2 a1 a2 a3 a4).take (i := i) hbi
        cases r2 with
        | va d2 => exact w3.set hbj q2
        | ow e2 => cases ho
    exact ⟨v1, [v2], rfl, v2, [], rfl, rfl, g1 _ F2 H2 p2.up fin⟩
end
end Mir

namespace Mir
open PySem PySem.Spec PyProof.Rows L2
/-! ### xs[::2] -/
/-- every second -/
def evy {α : Type} : List α → List α
  | [] => []
  | [x] => [x]
  | x :: _ :: t => x :: evy t
theorem evy_range {α : Type} : ∀ xs : List α, (List.range ((xs.length + 1) / 2)).filterMap (fun k => xs[2 * k]?) = evy xs
  | [] => by simp [evy]
  | [x] => by simp [evy, List.range_succ]
  | x :: y :: t => by
    rw [show ((x :: y :: t).length + 1) / 2 = (t.length + 1) / 2 + 1 by simp only [List.length_cons]; omega, List.range_succ_eq_map, List.filterMap_cons, List.filterMap_map]
    have e : ((fun k => (x :: y :: t)[2 * k]?) ∘ Nat.succ) = fun k => t[2 * k]? := by
      funext k
      show (x :: y :: t)[2 * (k + 1)]? = _
      rw [show 2 * (k + 1) = 2 * k + 1 + 1 by omega, List.getElem?_cons_succ, List.getElem?_cons_succ]
    rw [e, evy_range t]
    rfl
theorem evy_vals : ∀ {xs : List V} {us : List Value}, Vals xs us → Vals (evy xs) (evy us)
  | _, _, .nil => .nil
  | _, _, .cons r .nil => .cons r .nil
  | _, _, .cons r (.cons _ t) => .cons r (evy_vals t)
theorem evy_reps {K : PySem.W.Frag} {cl : Str → Addr} {F : Hp} : ∀ {vs : List V} {ds : List D}, Reps K cl F vs ds → Reps K cl F (evy vs) (evy ds)
  | _, _, .nil => .nil
  | _, _, .cons r .nil => .cons r .nil
  | _, _, .cons r (.cons _ t) => .cons r (evy_reps t)
theorem evy_len {α : Type} : ∀ xs : List α, (evy xs).length ≤ xs.length
  | [] => Nat.le_refl _
  | [x] => Nat.le_refl _
  | x :: y :: t => by
    have := evy_len t
    simp only [evy, List.length_cons]
    omega
theorem pick2 (us : List Value) : slicePick us.toArray none none (some 2) = (evy us).toArray := by
  unfold slicePick
  have b : sliceBounds none none (some 2) us.toArray.size = (0, (us.length : Int), 2) := by
    simp [sliceBounds]
  rw [b]
  congr 1
  rw [← evy_range us]
  unfold sliceRange
  have n : (if (2 : Int) > 0 then (if (0 : Int) < (us.length : Int) then ((us.length : Int) - 0 + 2 - 1) / 2 else 0) else (if (0 : Int) > (us.length : Int) then (0 - (us.length : Int) - 2 - 1) / (-2) else 0) : Int).toNat = (us.length + 1) / 2 := by
    rw [if_pos (by decide)]
    split <;> omega
  show ((List.range (_ : Int).toNat).map _).filterMap _ = _
  rw [n, List.filterMap_map]
  congr 1
  funext k
  show us.toArray[((0 : Int) + 2 * (k : Int)).toNat]? = _
  rw [show ((0 : Int) + 2 * (k : Int)).toNat = 2 * k by omega]
  simp
def tEvy (K : PySem.W.Frag) (te : TE) : TE := fun σ H Q => te σ H fun x H1 => ∃ a xs, x = .ref a ∧ SqL K H1 a xs ∧ ∀ p, H1 p = none → Q (.ref p) (upd H1 p (.lst (evy xs)))
section
variable {X : Cx}
theorem pe_evy {e : Expr} {te : TE} {k : Nat} {q1 q2 q3 : Pos} (he : PE X e te) : PE X (.Subscript e (.Slice none none (some (.Constant (.int 2) k q1)) q2) q3) (tEvy X.K te) := ⟨fun pins s σ H Q I h => by
  refine Subscript_ (thn (he.run pins s σ H _ I h) ?_)
  rintro v s1 ⟨_, G, J1, rv, a, xs, rfl, hx, q⟩
  cases rv
  have two : PO X (some (.Constant (.int 2) k q1)) (tPart (tC (.int 2))) := po_some pe_int
  refine wpAny_Slice (thn (po_none.run pins s1 σ G (fun o H2 => o = none ∧ H2 = G) J1 ⟨rfl, rfl⟩) ?_)
  rintro ul s2 ⟨_, _, J2, pl, rfl, rfl⟩
  refine thn (po_none.run pins s2 σ _ (fun o H3 => o = none ∧ H3 = _) J2 ⟨rfl, rfl⟩) ?_
  rintro uu s3 ⟨_, _, J3, pu, rfl, rfl⟩
  refine thn (two.run pins s3 σ _ (fun o H4 => o = some 2 ∧ H4 = _) J3 ⟨2, rfl, rfl, rfl⟩) ?_
  rintro us s4 ⟨_, _, J4, ps, rfl, rfl⟩
  have J5 := J4.kept (t' := s4.toks) (h' := s4.heap.push { cls := .type "slice", data := .fields #[ul, uu, us] }) fun b ob z => Heap.get?_push_of_some _ z
  obtain ⟨its, r, ht, hz⟩ := J5.list hx
  have hlen := r.length
  refine tail_any (ops := [.ref a, .ref s4.heap.objs.size]) ht.isList.typeIs (PySem.slot_list_getitem.lookup) ?_ (by with_unfolding_all rfl)
  refine wpAny_getItem_list_slice ht.isList (Heap.IsSliceOf.new _ ul uu us) pl pu ps (by decide) ?_ (by
    rw [List.size_toArray]
    omega)
  rw [pick2]
  refine ⟨.ref _, _, J5.laid (t' := s4.toks) (o := .lst (evy xs)) (fun b ob z => Heap.get?_push_of_some _ z) (Nat.le_refl _) ?_, rfl, q _ (J5.hok.fresh (Nat.le_refl _))⟩
  have l := evy_len xs
  exact ⟨by omega, _, 0, evy_vals r, Heap.get?_push_size _ rfl⟩⟩
variable {c : Mc} {a : Expr} {ma : M D} {k : Nat} {q1 q2 q3 : Pos}
def dEvy : D → Option Sl
  | .lst ds => some (.ow (evy ds))
  | _ => none
theorem g_evy (hK : c.K = X.K) (ha : PE X a (tE c ma)) : PE X (.Subscript a (.Slice none none (some (.Constant (.int 2) k q1)) q2) q3) (tL c (bnd ma fun d => opt (dEvy d))) :=
  peI (pe_evy ha) fun σ H Q ⟨F, ρ, T, w, g⟩ => ⟨F, ρ, T, w, g.split.imp fun d ρ1 F1 H1 s1 g1 w1 v rv => by
    obtain ⟨s, hs, k⟩ := g1.opt
    cases d with
    | lst ds =>
      obtain ⟨a, vs, rfl, h1, h2⟩ := now_lst (now_of w1.sub rv)
      cases hs
      exact ⟨a, vs, rfl, (by rw [← hK]; exact SqL.of h1), fun p hp => new_lst w1 hp (evy_reps h2) k⟩
    | _ => cases hs⟩
end
end Mir

namespace Mir
open PySem PySem.Spec PyProof.Rows L2
/-! ### what a mirror comes to, step by step -/
abbrev XP := Str → Str → D → En → Prop
abbrev XB := Str → Str → D → List D → Prop
def We {α : Type} (m : M α) (ρ : En) (Q : α → En → Prop) (X : XP) : Prop := match m ρ with
  | .ok a ρ' => Q a ρ'
  | .ex c f d ρ' => X c f d ρ'
  | .no => False
def Wf (o : Ou) (Q : Sl → List D → Prop) (X : XB) : Prop := match o with
  | .ok s b => Q s b
  | .ex c f d b => X c f d b
  | .no => False
structure Po where
  nx : En → Prop
  rt : Sl → En → Prop
  bk : En → Prop
  ct : En → Prop
  ex : XP
def Po.app (P : Po) : Fl → Prop
  | .nx ρ => P.nx ρ
  | .rt s ρ => P.rt s ρ
  | .bk ρ => P.bk ρ
  | .ct ρ => P.ct ρ
  | .ex c f d ρ => P.ex c f d ρ
  | .no => False
def Ws (m : MS) (ρ : En) (P : Po) : Prop := P.app (m ρ)
def Wl (t : Tg) (m : MS) (ds : List D) (ρ : En) (P : Po) : Prop := P.app (loopS t m ds ρ)
def noX : XP := fun _ _ _ _ => False
def noB : XB := fun _ _ _ _ => False
/-- what is read: a value, an own list, either, anything -/
def rdW (o : Option (Option Sl)) (k : D → Prop) : Prop := match o with
  | some (some (.va d)) => k d
  | _ => False
def owW (o : Option (Option Sl)) (k : List D → Prop) : Prop := match o with
  | some (some (.ow ds)) => k ds
  | _ => False
def slW (o : Option (Option Sl)) (kv : D → Prop) (ko : List D → Prop) : Prop := match o with
  | some (some (.va d)) => kv d
  | some (some (.ow ds)) => ko ds
  | _ => False
def opW {α : Type} (o : Option α) (k : α → Prop) : Prop := match o with
  | some a => k a
  | none => False
def lsW (d : D) (k : List D → Prop) : Prop := match d with
  | .lst ds => k ds
  | _ => False
def inW (d : D) (k : Int → Prop) : Prop := match d with
  | .int n => k n
  | _ => False
@[simp] theorem rdW_va {d : D} {k : D → Prop} : rdW (some (some (.va d))) k = k d := rfl
@[simp] theorem owW_ow {d : List D} {k : List D → Prop} : owW (some (some (.ow d))) k = k d := rfl
@[simp] theorem slW_va {d : D} {k : D → Prop} {k' : List D → Prop} : slW (some (some (.va d))) k k' = k d := rfl
@[simp] theorem slW_ow {d : List D} {k : D → Prop} {k' : List D → Prop} : slW (some (some (.ow d))) k k' = k' d := rfl
@[simp] theorem opW_some {α : Type} {a : α} {k : α → Prop} : opW (some a) k = k a := rfl
@[simp] theorem lsW_lst {d : List D} {k : List D → Prop} : lsW (.lst d) k = k d := rfl
@[simp] theorem inW_int {d : Int} {k : Int → Prop} : inW (.int d) k = k d := rfl
section
variable {α β : Type} {ρ : En} {Q : α → En → Prop} {X : XP} {P : Po}
theorem Wf.out {o : Ou} {Q : Sl → List D → Prop} (h : Wf o Q noB) : ∃ s b, o = .ok s b ∧ Q s b := by
  cases o with
  | ok s b => exact ⟨s, b, rfl, h⟩
  | ex _ _ _ _ => exact h.elim
  | no => exact h.elim
theorem Wf.mono {o : Ou} {Q Q' : Sl → List D → Prop} {X : XB} (h : Wf o Q noB) (k : ∀ s b, Q s b → Q' s b) : Wf o Q' X := by
  obtain ⟨s, b, rfl, q⟩ := h.out
  exact k s b q
theorem Wf_ok {o : Ou} {s : Sl} {b : List D} (e : o = .ok s b) {Q : Sl → List D → Prop} {X : XB} : Wf o Q X = Q s b := by subst e; rfl
theorem We_bnd {m : M β} {k : β → M α} : We (bnd m k) ρ Q X = We m ρ (fun a ρ' => We (k a) ρ' Q X) X := by
  unfold We bnd
  cases m ρ <;> rfl
theorem We_ret {a : α} : We (ret a) ρ Q X = Q a ρ := rfl
theorem We_no : We (fun _ => .no : M α) ρ Q X = False := rfl
theorem We_some {a : α} : We (opt (some a)) ρ Q X = Q a ρ := rfl
theorem We_none : We (opt (none : Option α)) ρ Q X = False := rfl
theorem We_opt {o : Option α} : We (opt o) ρ Q X = ∃ a, o = some a ∧ Q a ρ := by
  cases o with
  | none => exact propext ⟨fun h => h.elim, fun ⟨_, h, _⟩ => by cases h⟩
  | some a => exact propext ⟨fun h => ⟨a, rfl, h⟩, fun ⟨_, h, q⟩ => by cases h; exact q⟩
theorem We_opt_eq {o : Option α} {a : α} (h : o = some a) : We (opt o) ρ Q X = Q a ρ := by subst h; rfl
theorem We_rdv {i : Nat} {Q : D → En → Prop} : We (rdv i) ρ Q X = rdW ρ[i]? (fun d => Q d ρ) := by
  unfold We rdv rdW
  rcases ρ[i]? with _ | _ | _ | _ <;> rfl
theorem We_giv {i : Nat} {Q : Sl → En → Prop} : We (giv i) ρ Q X = slW ρ[i]? (fun d => Q (.va d) ρ) (fun ds => Q (.ow ds) (ρ.set i none)) := by
  unfold We giv slW
  rcases ρ[i]? with _ | _ | _ | _ <;> rfl
theorem We_rdf {i : Nat} {Q : D → En → Prop} : We (rdf i) ρ Q X = slW ρ[i]? (fun d => Q d ρ) (fun ds => Q (.lst ds) (ρ.set i (some (.va (.lst ds))))) := by
  unfold We rdf slW
  rcases ρ[i]? with _ | _ | _ | _ <;> rfl
theorem We_pk {i : Nat} {Q : D → En → Prop} : We (pk i) ρ Q X = slW ρ[i]? (fun d => Q d ρ) (fun ds => Q (.lst ds) ρ) := by
  unfold We pk slW
  rcases ρ[i]? with _ | _ | _ | _ <;> rfl
theorem We_hasM {i : Nat} {m : M α} : We (hasM i m) ρ Q X = slW ρ[i]? (fun _ => We m ρ Q X) (fun _ => We m ρ Q X) := by
  unfold We hasM slW
  rcases ρ[i]? with _ | _ | _ | _ <;> rfl
theorem We_binP {f : D → D → Option α} {i : Nat} {mb : M D} : We (binP f i mb) ρ Q X = slW ρ[i]? (fun _ => We (bnd mb (fun d2 => bnd (pk i) fun d1 => opt (f d1 d2))) ρ Q X) (fun _ => We (bnd mb (fun d2 => bnd (pk i) fun d1 => opt (f d1 d2))) ρ Q X) := by
  unfold We binP slW
  rcases ρ[i]? with _ | _ | _ | _ <;> rfl
theorem We_ite {c : Prop} [Decidable c] {a b : M α} : We (if c then a else b) ρ Q X = if c then We a ρ Q X else We b ρ Q X := by
  split <;> rfl
theorem We_mVa {m : M D} {Q : Sl → En → Prop} : We (mVa m) ρ Q X = We m ρ (fun d ρ' => Q (.va d) ρ') X := We_bnd
theorem We_mFz {m : M Sl} {Q : D → En → Prop} : We (mFz m) ρ Q X = We m ρ (fun s ρ' => Q (match s with | .va d => d | .ow ds => .lst ds) ρ') X := We_bnd
theorem We_mCons {m : M D} {ms : M (List D)} {Q : List D → En → Prop} : We (mCons m ms) ρ Q X = We m ρ (fun d ρ' => We ms ρ' (fun ds ρ2 => Q (d :: ds) ρ2) X) X := by
  unfold mCons
  simp only [We_bnd, We_ret]
theorem We_lCons {m : M Sl} {ms : M (List Sl)} {Q : List Sl → En → Prop} : We (lCons m ms) ρ Q X = We m ρ (fun d ρ' => We ms ρ' (fun ds ρ2 => Q (d :: ds) ρ2) X) X := by
  unfold lCons
  simp only [We_bnd, We_ret]
theorem We_mIf {m : M Bool} {a b : M α} : We (mIf m a b) ρ Q X = We m ρ (fun k ρ' => if k = true then We a ρ' Q X else We b ρ' Q X) X := by
  unfold mIf
  simp only [We_bnd, We_ite]
theorem We_mAnd {m m' : M Bool} {Q : Bool → En → Prop} : We (mAnd m m') ρ Q X = We m ρ (fun k ρ' => if k = true then We m' ρ' Q X else Q false ρ') X := by
  unfold mAnd
  simp only [We_bnd, We_ite, We_ret]
theorem We_mOr {m m' : M Bool} {Q : Bool → En → Prop} : We (mOr m m') ρ Q X = We m ρ (fun k ρ' => if k = true then Q true ρ' else We m' ρ' Q X) X := by
  unfold mOr
  simp only [We_bnd, We_ite, We_ret]
theorem We_mNot {m : M Bool} {Q : Bool → En → Prop} : We (mNot m) ρ Q X = We m ρ (fun k ρ' => Q (!k) ρ') X := by
  unfold mNot
  simp only [We_bnd, We_ret]
theorem We_vAnd {ma mb : M D} {Q : D → En → Prop} : We (vAnd ma mb) ρ Q X = We ma ρ (fun d ρ' => We (opt (truD d)) ρ' (fun k ρ2 => if k = true then We mb ρ2 Q X else Q d ρ2) X) X := by
  unfold vAnd
  simp only [We_bnd, We_ite, We_ret]
theorem We_vOr {ma mb : M D} {Q : D → En → Prop} : We (vOr ma mb) ρ Q X = We ma ρ (fun d ρ' => We (opt (truD d)) ρ' (fun k ρ2 => if k = true then Q d ρ2 else We mb ρ2 Q X) X) X := by
  unfold vOr
  simp only [We_bnd, We_ite, We_ret]
theorem We_chn {f f' : D → D → Option D} {ma mb mc : M D} {Q : D → En → Prop} : We (chn f f' ma mb mc) ρ Q X = We ma ρ (fun d1 ρ1 => We mb ρ1 (fun d2 ρ2 => We (opt ((f d1 d2).bind asB)) ρ2 (fun k ρ3 => if k = true then We mc ρ3 (fun d3 ρ4 => We (opt (f' d2 d3)) ρ4 Q X) X else Q (.bl false) ρ3) X) X) X := by
  unfold chn
  simp only [We_bnd, We_ite, We_ret]
theorem We_callM {f : List Sl → Ou} {om : Option Nat} {md : List Md} {ds : List D} {Q : Sl → En → Prop} : We (callM f om md ds) ρ Q X = opW (sls ρ md ds) (fun ss => Wf (f ss) (fun r bb => (hasB md = false ∨ (lfR r = true ∧ lfs bb = true)) ∧ Q r (outE om md bb ρ)) (fun e g d bb => (hasB md = false ∨ (lf d = true ∧ lfs bb = true)) ∧ X e g d (outE om md bb ρ))) := by
  unfold We callM Wf opW
  cases sls ρ md ds with
  | none => rfl
  | some ss =>
    simp only
    cases f ss with
    | ok r bb =>
      simp only
      by_cases h : hasB md = false ∨ (lfR r = true ∧ lfs bb = true)
      · rw [if_pos h]; exact propext ⟨fun z => ⟨h, z⟩, fun z => z.2⟩
      · rw [if_neg h]; exact propext ⟨fun z => z.elim, fun z => h z.1⟩
    | ex e g d bb =>
      simp only
      by_cases h : hasB md = false ∨ (lf d = true ∧ lfs bb = true)
      · rw [if_pos h]; exact propext ⟨fun z => ⟨h, z⟩, fun z => z.2⟩
      · rw [if_neg h]; exact propext ⟨fun z => z.elim, fun z => h z.1⟩
    | no => rfl
theorem We_mLc {mi : M (List D)} {t : Tg} {tt : M Bool} {me : M D} {vs : List Nat} {Q : Sl → En → Prop} : We (mLc mi t tt me vs) ρ Q X = We mi ρ (fun ds ρ' => We (mLc (ret ds) t tt me vs) ρ' Q X) X := by
  unfold mLc
  simp only [We_bnd, We_ret]
theorem Ws_then {m : M β} {k : β → MS} : Ws (thenS m k) ρ P = We m ρ (fun a ρ' => Ws (k a) ρ' P) P.ex := by
  unfold Ws We thenS
  cases m ρ <;> rfl
theorem Ws_sq {a b : MS} : Ws (sq a b) ρ P = Ws a ρ ⟨fun ρ' => Ws b ρ' P, P.rt, P.bk, P.ct, P.ex⟩ := by
  unfold Ws sq
  cases a ρ <;> rfl
theorem Ws_nx : Ws Fl.nx ρ P = P.nx ρ := rfl
theorem Ws_ct : Ws Fl.ct ρ P = P.ct ρ := rfl
theorem Ws_bk : Ws Fl.bk ρ P = P.bk ρ := rfl
theorem Ws_if {m : M Bool} {a b : MS} : Ws (ifS m a b) ρ P = We m ρ (fun k ρ' => if k = true then Ws a ρ' P else Ws b ρ' P) P.ex := by
  unfold ifS
  rw [Ws_then]
  congr 1
  funext k ρ'
  split <;> rfl
theorem Ws_ret {ml : M Sl} : Ws (retS ml) ρ P = We ml ρ P.rt P.ex := Ws_then
theorem Ws_retN {s : Sl} : Ws (fun ρ => .rt s ρ) ρ P = P.rt s ρ := rfl
theorem Ws_asg {i : Nat} {ml : M Sl} : Ws (asgS i ml) ρ P = We ml ρ (fun s ρ' => P.nx (ρ'.set i (some s))) P.ex := Ws_then
theorem Ws_drop {ml : M Sl} : Ws (dropS ml) ρ P = We ml ρ (fun s ρ' => P.nx ρ') P.ex := Ws_then
theorem Ws_asgT {m : M D} {t : Tg} : Ws (asgT m t) ρ P = We m ρ (fun d ρ' => opW (t d ρ') P.nx) P.ex := by
  unfold asgT opW
  rw [Ws_then]
  congr 1
  funext d ρ'
  unfold Ws
  simp only []
  cases t d ρ' <;> rfl
theorem Ws_par {is : List Nat} {ms : M (List Sl)} : Ws (parS is ms) ρ P = We ms ρ (fun ss ρ' => ss.length = is.length ∧ P.nx (putE ρ' is ss)) P.ex := by
  unfold parS
  rw [Ws_then]
  congr 1
  funext ss ρ'
  unfold Ws
  simp only []
  by_cases h : ss.length = is.length
  · rw [if_pos h]; exact propext ⟨fun z => ⟨h, z⟩, fun z => z.2⟩
  · rw [if_neg h]; exact propext ⟨fun z => z.elim, fun z => h z.1⟩
theorem Ws_hasO {i : Nat} {m : MS} : Ws (hasO i m) ρ P = owW ρ[i]? (fun _ => Ws m ρ P) := by
  unfold Ws hasO owW
  rcases ρ[i]? with _ | _ | _ | _ <;> rfl
theorem Ws_updO {i : Nat} {f : List D → Option (List D)} : Ws (updO i f) ρ P = owW ρ[i]? (fun ds => opW (f ds) fun es => P.nx (ρ.set i (some (.ow es)))) := by
  unfold Ws updO owW opW
  rcases ρ[i]? with _ | _ | _ | ds
  · rfl
  · rfl
  · rfl
  · simp only
    cases f ds <;> rfl
theorem Ws_app {i : Nat} {m : M D} : Ws (appS i m) ρ P = owW ρ[i]? (fun _ => We m ρ (fun d ρ' => owW ρ'[i]? (fun ds => ds.length < 100000 ∧ P.nx (ρ'.set i (some (.ow (ds ++ [d])))))) P.ex) := by
  unfold appS
  rw [Ws_hasO]
  unfold owW
  rcases ρ[i]? with _ | _ | _ | ds
  · rfl
  · rfl
  · rfl
  · simp only [Ws_then]
    congr 1
    funext d ρ'
    rw [Ws_updO]
    unfold owW opW
    rcases ρ'[i]? with _ | _ | _ | es
    · rfl
    · rfl
    · rfl
    · simp only
      by_cases h : es.length < 100000
      · rw [if_pos h]; exact propext ⟨fun z => ⟨h, z⟩, fun z => z.2⟩
      · rw [if_neg h]; exact propext ⟨fun z => z.elim, fun z => h z.1⟩
theorem Ws_ext {i : Nat} {m : M D} : Ws (extS i m) ρ P = owW ρ[i]? (fun _ => We m ρ (fun d ρ' => owW ρ'[i]? (fun ds => lsW d fun es => ds.length + es.length ≤ 100000 ∧ P.nx (ρ'.set i (some (.ow (ds ++ es)))))) P.ex) := by
  unfold extS
  rw [Ws_hasO]
  unfold owW
  rcases ρ[i]? with _ | _ | _ | ds
  · rfl
  · rfl
  · rfl
  · simp only [Ws_then]
    congr 1
    funext d ρ'
    rw [Ws_updO]
    unfold owW opW lsW
    rcases ρ'[i]? with _ | _ | _ | es
    · cases d <;> rfl
    · cases d <;> rfl
    · cases d <;> rfl
    · cases d with
      | lst fs =>
        simp only
        by_cases h : es.length + fs.length ≤ 100000
        · rw [if_pos h]; exact propext ⟨fun z => ⟨h, z⟩, fun z => z.2⟩
        · rw [if_neg h]; exact propext ⟨fun z => z.elim, fun z => h z.1⟩
      | _ => rfl
theorem Ws_set {i : Nat} {mi m : M D} : Ws (setS i mi m) ρ P = We m ρ (fun d ρ1 => owW ρ1[i]? (fun _ => We mi ρ1 (fun k ρ2 => owW ρ2[i]? (fun ds => inW k fun n => opW (ixN ds.length n) fun j => P.nx (ρ2.set i (some (.ow (ds.set j d)))))) P.ex)) P.ex := by
  unfold setS
  rw [Ws_then]
  congr 1
  funext d ρ1
  rw [Ws_hasO]
  unfold owW
  rcases ρ1[i]? with _ | _ | _ | ds
  · rfl
  · rfl
  · rfl
  · simp only [Ws_then]
    congr 1
    funext k ρ2
    rw [Ws_updO]
    unfold owW opW inW
    rcases ρ2[i]? with _ | _ | _ | es
    · cases k <;> rfl
    · cases k <;> rfl
    · cases k <;> rfl
    · cases k with
      | int n =>
        simp only
        cases ixN es.length n <;> rfl
      | _ => rfl
theorem Ws_aug {i : Nat} {f : D → D → Option D} {m : M D} : Ws (augS i f m) ρ P = rdW ρ[i]? (fun d1 => We m ρ (fun d2 ρ1 => opW (f d1 d2) fun d => P.nx (ρ1.set i (some (.va d)))) P.ex) := by
  unfold Ws augS rdW opW
  rcases ρ[i]? with _ | _ | d | ds
  · rfl
  · rfl
  · show P.app (thenS m _ ρ) = _
    have := Ws_then (P := P) (ρ := ρ) (m := m) (k := fun d2 ρ1 => match f d d2 with | some e => .nx (ρ1.set i (some (.va e))) | none => .no)
    unfold Ws at this
    refine Eq.trans this ?_
    simp only
    congr 1
    funext d2 ρ1
    cases f d d2 <;> rfl
  · rfl
theorem Ws_for {mi : M (List D)} {t : Tg} {m : MS} : Ws (forS mi t m) ρ P = We mi ρ (fun ds ρ' => Wl t m ds ρ' P) P.ex := Ws_then
theorem Ws_raise {x f : Str} {me : M D} : Ws (raiseS x f me) ρ P = We me ρ (fun d ρ' => fitD d = true ∧ P.ex x f d ρ') P.ex := by
  unfold raiseS
  rw [Ws_then]
  congr 1
  funext d ρ'
  unfold Ws
  simp only []
  by_cases h : fitD d = true
  · rw [if_pos h]; exact propext ⟨fun z => ⟨h, z⟩, fun z => z.2⟩
  · rw [if_neg h]; exact propext ⟨fun z => z.elim, fun z => h z.1⟩
theorem Ws_try {m : MS} {cn : Str} {ie iy : Nat} : Ws (tryS m cn ie iy) ρ P = Ws m ρ ⟨P.nx, P.rt, P.bk, P.ct, fun e f d ρ' => (e = cn ∧ ie < ρ'.length) ∧ P.nx ((ρ'.set iy (some (.va (.exn e f d)))).set ie none)⟩ := by
  unfold Ws tryS
  cases m ρ with
  | ex e f d ρ' =>
    simp only
    by_cases h : e = cn ∧ ie < ρ'.length
    · rw [if_pos h]; exact propext ⟨fun z => ⟨h, z⟩, fun z => z.2⟩
    · rw [if_neg h]; exact propext ⟨fun z => z.elim, fun z => h z.1⟩
  | _ => rfl
theorem Ws_tryO {m m2 : MS} {cn : Str} : Ws (tryO m cn m2) ρ P = Ws m ρ ⟨P.nx, P.rt, P.bk, P.ct, fun e f d ρ' => e = cn ∧ Ws m2 ρ' P⟩ := by
  unfold Ws tryO
  cases m ρ with
  | ex e f d ρ' =>
    simp only
    by_cases h : e = cn
    · rw [if_pos h]; exact propext ⟨fun z => ⟨h, z⟩, fun z => z.2⟩
    · rw [if_neg h]; exact propext ⟨fun z => z.elim, fun z => h z.1⟩
  | _ => rfl
theorem Wf_def {k : Nat} {om : Option Nat} {m : MS} {as : List Sl} {Q : Sl → List D → Prop} {X : XB} : Wf (runDef k om m as) Q X = Ws m (as.map some ++ List.replicate (k - as.length) none) ⟨fun ρ => Q (.va .non) (ownAt om ρ), fun r ρ => Q r (ownAt om ρ), fun _ => False, fun _ => False, fun c f d ρ => X c f d (ownAt om ρ)⟩ := by
  unfold Wf Ws runDef
  cases m (as.map some ++ List.replicate (k - as.length) none) <;> rfl
theorem Wl_nil {t : Tg} {m : MS} : Wl t m [] ρ P = P.nx ρ := rfl
theorem Wl_cons {t : Tg} {m : MS} {d : D} {ds : List D} : Wl t m (d :: ds) ρ P = opW (t d ρ) (fun ρ1 => Ws m ρ1 ⟨fun ρ2 => Wl t m ds ρ2 P, P.rt, P.nx, fun ρ2 => Wl t m ds ρ2 P, P.ex⟩) := by
  unfold Wl Ws opW
  rw [loopS]
  cases t d ρ with
  | none => rfl
  | some ρ1 =>
    simp only
    cases m ρ1 <;> rfl
/-- a walk by an invariant -/
theorem Wl_by {t : Tg} {m : MS} {ds : List D} (I : Nat → En → Prop) (h0 : I 0 ρ) (hs : ∀ (i : Nat) (d : D) (ρ : En), ds[i]? = some d → I i ρ → ∃ ρ1, t d ρ = some ρ1 ∧ Ws m ρ1 ⟨I (i + 1), P.rt, P.nx, I (i + 1), P.ex⟩) (he : ∀ ρ, I ds.length ρ → P.nx ρ) : Wl t m ds ρ P := by
  have go : ∀ (n i : Nat) (ρ : En), i + n = ds.length → I i ρ → Wl t m (ds.drop i) ρ P := by
    intro n
    induction n with
    | zero =>
      intro i ρ hi hI
      have e : i = ds.length := by omega
      subst e
      rw [List.drop_length, Wl_nil]
      exact he ρ hI
    | succ n ih =>
      intro i ρ hi hI
      have hlt : i < ds.length := by omega
      obtain ⟨ρ1, h1, h2⟩ := hs i ds[i] ρ (List.getElem?_eq_getElem hlt) hI
      rw [drop_cons (List.getElem?_eq_getElem hlt), Wl_cons, h1, opW_some]
      unfold Ws at h2 ⊢
      cases hm : m ρ1 with
      | nx ρ2 => rw [hm] at h2; exact ih (i + 1) ρ2 (by omega) h2
      | ct ρ2 => rw [hm] at h2; exact ih (i + 1) ρ2 (by omega) h2
      | bk ρ2 => rw [hm] at h2; exact h2
      | rt s ρ2 => rw [hm] at h2; exact h2
      | ex _ _ _ _ => rw [hm] at h2; exact h2
      | no => rw [hm] at h2; exact h2
  have := go ds.length 0 ρ (by omega) h0
  rwa [List.drop_zero] at this
theorem Ws_mono {m : MS} {P P' : Po} (h : Ws m ρ P) (a : ∀ ρ, P.nx ρ → P'.nx ρ) (b : ∀ s ρ, P.rt s ρ → P'.rt s ρ) (c : ∀ ρ, P.bk ρ → P'.bk ρ) (d : ∀ ρ, P.ct ρ → P'.ct ρ) (e : ∀ x y z ρ, P.ex x y z ρ → P'.ex x y z ρ) : Ws m ρ P' := by
  unfold Ws at *
  cases hm : m ρ with
  | nx ρ2 => rw [hm] at h; exact a _ h
  | ct ρ2 => rw [hm] at h; exact d _ h
  | bk ρ2 => rw [hm] at h; exact c _ h
  | rt s ρ2 => rw [hm] at h; exact b _ _ h
  | ex _ _ _ _ => rw [hm] at h; exact e _ _ _ _ h
  | no => rw [hm] at h; exact h
theorem rng1_int {j : Int} (h0 : 0 ≤ j) (h : j ≤ 1000000) : rng1 [.int j] = some (upto 0 j.toNat) := by
  have := rng1_nat (m := j.toNat) (by omega)
  rwa [show ((j.toNat : Nat) : Int) = j by omega] at this
theorem fit_int {i : Int} (h0 : 0 ≤ i) (h1 : i ≤ 1000000) : fitD (.int i) = true := by
  show (decide ((0 : Int) ≤ i) && decide (i ≤ 1000000)) = true
  rw [decide_eq_true h0, decide_eq_true h1]; rfl
/-- an index within a list: what is told is one of it -/
theorem at_mem {ds : List D} {i : Int} (h0 : 0 ≤ i) (h : i < ds.length) : ∃ d, atI ds i = some d ∧ d ∈ ds := by
  have e := atI_cast (l := ds) (i := i.toNat)
  rw [show ((i.toNat : Nat) : Int) = i by omega] at e
  rw [e]
  exact ⟨ds[i.toNat]'(by omega), List.getElem?_eq_getElem (by omega), List.getElem_mem _⟩
end
end Mir

namespace Mir
open PySem PySem.Spec PyProof.Rows L2
/-! ### steps, one by one -/
section
variable {α β : Type} {ρ : En} {X : XP} {P : Po}
theorem e_bnd {Q : α → En → Prop} {m : M β} {k : β → M α} (h : We m ρ (fun a ρ' => We (k a) ρ' Q X) X) : We (bnd m k) ρ Q X := by rw [We_bnd]; exact h
theorem e_ret {Q : α → En → Prop} {a : α} (h : Q a ρ) : We (ret a) ρ Q X := h
theorem e_rdv {Q : D → En → Prop} {i : Nat} {d : D} (e : ρ[i]? = some (some (.va d))) (h : Q d ρ) : We (rdv i) ρ Q X := by rw [We_rdv, e]; exact h
theorem e_mVa {Q : Sl → En → Prop} {m : M D} (h : We m ρ (fun d ρ' => Q (.va d) ρ') X) : We (mVa m) ρ Q X := by rw [We_mVa]; exact h
def fzS : Sl → D
  | .va d => d
  | .ow ds => .lst ds
@[simp] theorem fzS_va {d : D} : fzS (.va d) = d := rfl
@[simp] theorem fzS_ow {ds : List D} : fzS (.ow ds) = .lst ds := rfl
/-- frozen -/
def kFz (Q : D → En → Prop) : Sl → En → Prop := fun s ρ => Q (fzS s) ρ
theorem k_va {Q : D → En → Prop} {d : D} (h : Q d ρ) : kFz Q (.va d) ρ := h
theorem k_ow {Q : D → En → Prop} {ds : List D} (h : Q (.lst ds) ρ) : kFz Q (.ow ds) ρ := h
theorem e_mFz {Q : D → En → Prop} {m : M Sl} (h : We m ρ (kFz Q) X) : We (mFz m) ρ Q X := by rw [We_mFz]; exact h
theorem e_mCons {Q : List D → En → Prop} {m : M D} {ms : M (List D)} (h : We m ρ (fun d ρ' => We ms ρ' (fun ds ρ2 => Q (d :: ds) ρ2) X) X) : We (mCons m ms) ρ Q X := by rw [We_mCons]; exact h
theorem e_lCons {Q : List Sl → En → Prop} {m : M Sl} {ms : M (List Sl)} (h : We m ρ (fun d ρ' => We ms ρ' (fun ds ρ2 => Q (d :: ds) ρ2) X) X) : We (lCons m ms) ρ Q X := by rw [We_lCons]; exact h
theorem e_givV {Q : Sl → En → Prop} {i : Nat} {d : D} (e : ρ[i]? = some (some (.va d))) (h : Q (.va d) ρ) : We (giv i) ρ Q X := by rw [We_giv, e]; exact h
theorem e_givO {Q : Sl → En → Prop} {i : Nat} {ds : List D} {ρ2 : En} (e : ρ[i]? = some (some (.ow ds))) (n : ρ.set i none = ρ2) (h : Q (.ow ds) ρ2) : We (giv i) ρ Q X := by rw [We_giv, e, slW_ow, n]; exact h
theorem e_rdfV {Q : D → En → Prop} {i : Nat} {d : D} (e : ρ[i]? = some (some (.va d))) (h : Q d ρ) : We (rdf i) ρ Q X := by rw [We_rdf, e]; exact h
theorem e_rdfO {Q : D → En → Prop} {i : Nat} {ds : List D} {ρ2 : En} (e : ρ[i]? = some (some (.ow ds))) (n : ρ.set i (some (.va (.lst ds))) = ρ2) (h : Q (.lst ds) ρ2) : We (rdf i) ρ Q X := by rw [We_rdf, e, slW_ow, n]; exact h
theorem e_pkV {Q : D → En → Prop} {i : Nat} {d : D} (e : ρ[i]? = some (some (.va d))) (h : Q d ρ) : We (pk i) ρ Q X := by rw [We_pk, e]; exact h
theorem e_pkO {Q : D → En → Prop} {i : Nat} {ds : List D} (e : ρ[i]? = some (some (.ow ds))) (h : Q (.lst ds) ρ) : We (pk i) ρ Q X := by rw [We_pk, e]; exact h
theorem e_hasV {Q : α → En → Prop} {m : M α} {i : Nat} {d : D} (e : ρ[i]? = some (some (.va d))) (h : We m ρ Q X) : We (hasM i m) ρ Q X := by rw [We_hasM, e]; exact h
theorem e_hasO {Q : α → En → Prop} {m : M α} {i : Nat} {d : List D} (e : ρ[i]? = some (some (.ow d))) (h : We m ρ Q X) : We (hasM i m) ρ Q X := by rw [We_hasM, e]; exact h
theorem e_binPO {Q : α → En → Prop} {f : D → D → Option α} {i : Nat} {mb : M D} {d : List D} (e : ρ[i]? = some (some (.ow d))) (h : We (bnd mb (fun d2 => bnd (pk i) fun d1 => opt (f d1 d2))) ρ Q X) : We (binP f i mb) ρ Q X := by rw [We_binP, e]; exact h
theorem e_binPV {Q : α → En → Prop} {f : D → D → Option α} {i : Nat} {mb : M D} {d : D} (e : ρ[i]? = some (some (.va d))) (h : We (bnd mb (fun d2 => bnd (pk i) fun d1 => opt (f d1 d2))) ρ Q X) : We (binP f i mb) ρ Q X := by rw [We_binP, e]; exact h
theorem e_mIf {Q : α → En → Prop} {m : M Bool} {a b : M α} (h : We m ρ (fun k ρ' => if k = true then We a ρ' Q X else We b ρ' Q X) X) : We (mIf m a b) ρ Q X := by rw [We_mIf]; exact h
theorem e_mAnd {Q : Bool → En → Prop} {m m' : M Bool} (h : We m ρ (fun k ρ' => if k = true then We m' ρ' Q X else Q false ρ') X) : We (mAnd m m') ρ Q X := by rw [We_mAnd]; exact h
theorem e_mOr {Q : Bool → En → Prop} {m m' : M Bool} (h : We m ρ (fun k ρ' => if k = true then Q true ρ' else We m' ρ' Q X) X) : We (mOr m m') ρ Q X := by rw [We_mOr]; exact h
theorem e_mNot {Q : Bool → En → Prop} {m : M Bool} (h : We m ρ (fun k ρ' => Q (!k) ρ') X) : We (mNot m) ρ Q X := by rw [We_mNot]; exact h
theorem e_vAnd {Q : D → En → Prop} {ma mb : M D} (h : We ma ρ (fun d ρ' => We (opt (truD d)) ρ' (fun k ρ2 => if k = true then We mb ρ2 Q X else Q d ρ2) X) X) : We (vAnd ma mb) ρ Q X := by rw [We_vAnd]; exact h
theorem e_vOr {Q : D → En → Prop} {ma mb : M D} (h : We ma ρ (fun d ρ' => We (opt (truD d)) ρ' (fun k ρ2 => if k = true then Q d ρ2 else We mb ρ2 Q X) X) X) : We (vOr ma mb) ρ Q X := by rw [We_vOr]; exact h
theorem e_chn {Q : D → En → Prop} {f f' : D → D → Option D} {ma mb mc : M D} (h : We ma ρ (fun d1 ρ1 => We mb ρ1 (fun d2 ρ2 => We (opt ((f d1 d2).bind asB)) ρ2 (fun k ρ3 => if k = true then We mc ρ3 (fun d3 ρ4 => We (opt (f' d2 d3)) ρ4 Q X) X else Q (.bl false) ρ3) X) X) X) : We (chn f f' ma mb mc) ρ Q X := by rw [We_chn]; exact h
theorem e_callN {Q : Sl → En → Prop} {f : List Sl → Ou} {md : List Md} {ds : List D} {ss : List Sl} (e : sls ρ md ds = some ss) (hb : hasB md = false) (h : Wf (f ss) (fun r bb => Q r ρ) (fun e g d bb => X e g d ρ)) : We (callM f none md ds) ρ Q X := by
  rw [We_callM, e]
  show Wf _ _ _
  cases hf : f ss with
  | ok r bb => rw [hf] at h; exact ⟨.inl hb, h⟩
  | ex e g d bb => rw [hf] at h; exact ⟨.inl hb, h⟩
  | no => rw [hf] at h; exact h
theorem e_callO {Q : Sl → En → Prop} {f : List Sl → Ou} {j i : Nat} {md : List Md} {ds : List D} {ss : List Sl} (e : sls ρ md ds = some ss) (hb : hasB md = false) (hm : md[j]? = some (.o i)) (h : Wf (f ss) (fun r bb => Q r (ρ.set i (some (.ow bb)))) (fun e g d bb => X e g d (ρ.set i (some (.ow bb))))) : We (callM f (some j) md ds) ρ Q X := by
  have o : ∀ bb, outE (some j) md bb ρ = ρ.set i (some (.ow bb)) := fun bb => by unfold outE; simp only [hm]
  rw [We_callM, e]
  show Wf _ _ _
  cases hf : f ss with
  | ok r bb => rw [hf] at h; refine ⟨.inl hb, ?_⟩; rw [o]; exact h
  | ex e g d bb => rw [hf] at h; refine ⟨.inl hb, ?_⟩; rw [o]; exact h
  | no => rw [hf] at h; exact h
theorem e_callB {Q : Sl → En → Prop} {f : List Sl → Ou} {om : Option Nat} {md : List Md} {ds : List D} {ss : List Sl} (e : sls ρ md ds = some ss) (h : Wf (f ss) (fun r bb => (lfR r = true ∧ lfs bb = true) ∧ Q r (outE om md bb ρ)) (fun e g d bb => (lf d = true ∧ lfs bb = true) ∧ X e g d (outE om md bb ρ))) : We (callM f om md ds) ρ Q X := by
  rw [We_callM, e]
  show Wf _ _ _
  cases hf : f ss with
  | ok r bb => rw [hf] at h; exact ⟨.inr h.1, h.2⟩
  | ex e g d bb => rw [hf] at h; exact ⟨.inr h.1, h.2⟩
  | no => rw [hf] at h; exact h
theorem i_true {A B : Prop} (h : A) : if true = true then A else B := by simpa using h
theorem i_false {A B : Prop} (h : B) : if false = true then A else B := by simpa using h
theorem i_decT {A B p : Prop} [Decidable p] (z : p) (h : A) : if decide p = true then A else B := by rw [if_pos (decide_eq_true z)]; exact h
theorem i_decF {A B p : Prop} [Decidable p] (z : ¬ p) (h : B) : if decide p = true then A else B := by rw [if_neg (by rw [decide_eq_false z]; decide)]; exact h
theorem i_dec {A B p : Prop} [Decidable p] (h : p → A) (g : ¬ p → B) : if decide p = true then A else B := by
  by_cases z : p
  · rw [if_pos (decide_eq_true z)]; exact h z
  · rw [if_neg (by rw [decide_eq_false z]; decide)]; exact g z
theorem i_ndecT {A B p : Prop} [Decidable p] (z : ¬ p) (h : A) : if (!decide p) = true then A else B := by rw [if_pos (by rw [decide_eq_false z]; decide)]; exact h
theorem i_ndecF {A B p : Prop} [Decidable p] (z : p) (h : B) : if (!decide p) = true then A else B := by rw [if_neg (by rw [decide_eq_true z]; decide)]; exact h
theorem i_ndec {A B p : Prop} [Decidable p] (h : ¬ p → A) (g : p → B) : if (!decide p) = true then A else B := by
  by_cases z : p
  · rw [if_neg (by rw [decide_eq_true z]; decide)]; exact g z
  · rw [if_pos (by rw [decide_eq_false z]; decide)]; exact h z
theorem i_not {A B : Prop} {k : Bool} (h : if k = true then B else A) : if (!k) = true then A else B := by cases k <;> simpa using h
theorem i_bool {A B : Prop} {k : Bool} (h : k = true → A) (g : k = false → B) : if k = true then A else B := by cases k with
  | true => simpa using h rfl
  | false => simpa using g rfl
theorem d_sub {Q : D → En → Prop} {i j : Int}  (h : Q (.int (i - j)) ρ) : We (opt (dSub (.int i) (.int j))) ρ Q X := h
theorem d_add {Q : Sl → En → Prop} {i j : Int}  (h : Q (.va (.int (i + j))) ρ) : We (opt (dAdd (.int i) (.int j))) ρ Q X := h
theorem d_addI {Q : D → En → Prop} {i j : Int}  (h : Q (.int (i + j)) ρ) : We (opt (dAddI (.int i) (.int j))) ρ Q X := h
theorem d_addL {Q : Sl → En → Prop} {a b : List D} (g : a.length + b.length ≤ 100000) (h : Q (.ow (a ++ b)) ρ) : We (opt (dAdd (.lst a) (.lst b))) ρ Q X := by
  rw [show dAdd (.lst a) (.lst b) = some (.ow (a ++ b)) from if_pos g]
  exact h
theorem d_addT {Q : Sl → En → Prop} {a b : List D} (g : a.length + b.length ≤ 100000) (h : Q (.va (.tup (a ++ b))) ρ) : We (opt (dAdd (.tup a) (.tup b))) ρ Q X := by
  rw [show dAdd (.tup a) (.tup b) = some (.va (.tup (a ++ b))) from if_pos g]
  exact h
theorem d_mul {Q : Sl → En → Prop} {i j : Int} (g : cMul i j = true) (h : Q (.va (.int (i * j))) ρ) : We (opt (dMul (.int i) (.int j))) ρ Q X := by
  rw [show dMul (.int i) (.int j) = some (.va (.int (i * j))) from if_pos g]
  exact h
theorem d_mulI {Q : D → En → Prop} {i j : Int} (g : cMul i j = true) (h : Q (.int (i * j)) ρ) : We (opt (dMulI (.int i) (.int j))) ρ Q X := by
  rw [show dMulI (.int i) (.int j) = some (.int (i * j)) from if_pos g]
  exact h
theorem d_rep {Q : Sl → En → Prop} {x : D} {j : Int} (g0 : 0 ≤ j) (g : j ≤ 100000) (h : Q (.ow (List.replicate j.toNat x)) ρ) : We (opt (dMul (.lst [x]) (.int j))) ρ Q X := by
  have e : dMul (.lst [x]) (.int j) = some (.ow ((List.replicate j.toNat [x]).flatten)) := if_pos ⟨blt_of (by omega), by simp; omega⟩
  rw [e, show (List.replicate j.toNat [x]).flatten = List.replicate j.toNat x by simp]
  exact h
theorem d_div {Q : D → En → Prop} {i j : Int} (g1 : 0 < j) (g2 : j < 1073741824) (h : Q (.int (i / j)) ρ) : We (opt (dDiv (.int i) (.int j))) ρ Q X := by
  rw [show dDiv (.int i) (.int j) = some (.int (i / j)) from if_pos (cDiv_eq g1 g2)]
  exact h
theorem d_mod {Q : D → En → Prop} {i j : Int} (g1 : 0 < j) (h : Q (.int (i % j)) ρ) : We (opt (dMod (.int i) (.int j))) ρ Q X := by
  rw [show dMod (.int i) (.int j) = some (.int (i % j)) from if_pos (cMod_eq g1)]
  exact h
theorem d_pow6 {Q : D → En → Prop}   (h : Q (.int 1000000) ρ) : We (opt (dPow (.int 10) (.int 6))) ρ Q X := h
theorem d_pow4 {Q : D → En → Prop}   (h : Q (.int 10000) ρ) : We (opt (dPow (.int 10) (.int 4))) ρ Q X := h
theorem d_pow18 {Q : D → En → Prop}   (h : Q (.int 1000000000000000000) ρ) : We (opt (dPow (.int 10) (.int 18))) ρ Q X := h
theorem d_neg {Q : D → En → Prop} {i : Int}  (h : Q (.int (-i)) ρ) : We (opt (dNeg (.int i))) ρ Q X := h
theorem d_lt {Q : D → En → Prop} {i j : Int}  (h : Q (.bl (decide (i < j))) ρ) : We (opt (dLt (.int i) (.int j))) ρ Q X := h
theorem d_le {Q : D → En → Prop} {i j : Int}  (h : Q (.bl (decide (i ≤ j))) ρ) : We (opt (dLe (.int i) (.int j))) ρ Q X := h
theorem d_gt {Q : D → En → Prop} {i j : Int}  (h : Q (.bl (decide (j < i))) ρ) : We (opt (dGt (.int i) (.int j))) ρ Q X := h
theorem d_ge {Q : D → En → Prop} {i j : Int}  (h : Q (.bl (decide (j ≤ i))) ρ) : We (opt (dGe (.int i) (.int j))) ρ Q X := h
theorem d_eq {Q : D → En → Prop} {i j : Int}  (h : Q (.bl (decide (i = j))) ρ) : We (opt (dEq (.int i) (.int j))) ρ Q X := by
  rw [dEq, eqD_int]
  exact h
theorem d_ne {Q : D → En → Prop} {i j : Int}  (h : Q (.bl (!decide (i = j))) ρ) : We (opt (dNe (.int i) (.int j))) ρ Q X := by
  rw [dNe, eqD_int]
  exact h
theorem d_eqB {Q : D → En → Prop} {i j : Bool}  (h : Q (.bl (decide (i = j))) ρ) : We (opt (dEq (.bl i) (.bl j))) ρ Q X := by
  rw [dEq, eqD_bl]
  exact h
theorem d_neB {Q : D → En → Prop} {i j : Bool}  (h : Q (.bl (!decide (i = j))) ρ) : We (opt (dNe (.bl i) (.bl j))) ρ Q X := by
  rw [dNe, eqD_bl]
  exact h
theorem d_isN_non {Q : D → En → Prop}   (h : Q (.bl true) ρ) : We (opt (dIsN .non .non)) ρ Q X := h
theorem d_notN_non {Q : D → En → Prop}   (h : Q (.bl false) ρ) : We (opt (dNotN .non .non)) ρ Q X := h
theorem d_isN_int {Q : D → En → Prop} {x : Int}  (h : Q (.bl false) ρ) : We (opt (dIsN (.int x) .non)) ρ Q X := h
theorem d_notN_int {Q : D → En → Prop} {x : Int}  (h : Q (.bl true) ρ) : We (opt (dNotN (.int x) .non)) ρ Q X := h
theorem d_isN_lst {Q : D → En → Prop} {x : List D}  (h : Q (.bl false) ρ) : We (opt (dIsN (.lst x) .non)) ρ Q X := h
theorem d_notN_lst {Q : D → En → Prop} {x : List D}  (h : Q (.bl true) ρ) : We (opt (dNotN (.lst x) .non)) ρ Q X := h
theorem d_isN_tup {Q : D → En → Prop} {x : List D}  (h : Q (.bl false) ρ) : We (opt (dIsN (.tup x) .non)) ρ Q X := h
theorem d_notN_tup {Q : D → En → Prop} {x : List D}  (h : Q (.bl true) ρ) : We (opt (dNotN (.tup x) .non)) ρ Q X := h
theorem d_isN_str {Q : D → En → Prop} {x : Str}  (h : Q (.bl false) ρ) : We (opt (dIsN (.str x) .non)) ρ Q X := h
theorem d_notN_str {Q : D → En → Prop} {x : Str}  (h : Q (.bl true) ρ) : We (opt (dNotN (.str x) .non)) ρ Q X := h
theorem d_isN_ob {Q : D → En → Prop} {c : Str} {ns : List Str} {ds : List D}  (h : Q (.bl false) ρ) : We (opt (dIsN (.ob c ns ds) .non)) ρ Q X := h
theorem d_notN_ob {Q : D → En → Prop} {c : Str} {ns : List Str} {ds : List D}  (h : Q (.bl true) ρ) : We (opt (dNotN (.ob c ns ds) .non)) ρ Q X := h
theorem d_isN_exn {Q : D → En → Prop} {c f : Str} {d : D}  (h : Q (.bl false) ρ) : We (opt (dIsN (.exn c f d) .non)) ρ Q X := h
theorem d_notN_exn {Q : D → En → Prop} {c f : Str} {d : D}  (h : Q (.bl true) ρ) : We (opt (dNotN (.exn c f d) .non)) ρ Q X := h
theorem d_isN_bl {Q : D → En → Prop} {x : Bool}  (h : Q (.bl false) ρ) : We (opt (dIsN (.bl x) .non)) ρ Q X := h
theorem d_notN_bl {Q : D → En → Prop} {x : Bool}  (h : Q (.bl true) ρ) : We (opt (dNotN (.bl x) .non)) ρ Q X := h
theorem d_asB {Q : Bool → En → Prop} {b : Bool}  (h : Q (b) ρ) : We (opt (asB (.bl b))) ρ Q X := h
theorem d_asB2 {Q : Bool → En → Prop} {b : Bool}  (h : Q (b) ρ) : We (opt ((some (.bl b) : Option D).bind asB)) ρ Q X := h
theorem d_clt {Q : Bool → En → Prop} {i j : Int}  (h : Q (decide (i < j)) ρ) : We (opt ((dLt (.int i) (.int j)).bind asB)) ρ Q X := h
theorem d_cle {Q : Bool → En → Prop} {i j : Int}  (h : Q (decide (i ≤ j)) ρ) : We (opt ((dLe (.int i) (.int j)).bind asB)) ρ Q X := h
theorem d_cgt {Q : Bool → En → Prop} {i j : Int}  (h : Q (decide (j < i)) ρ) : We (opt ((dGt (.int i) (.int j)).bind asB)) ρ Q X := h
theorem d_cge {Q : Bool → En → Prop} {i j : Int}  (h : Q (decide (j ≤ i)) ρ) : We (opt ((dGe (.int i) (.int j)).bind asB)) ρ Q X := h
theorem d_ceq {Q : Bool → En → Prop} {i j : Int}  (h : Q (decide (i = j)) ρ) : We (opt ((dEq (.int i) (.int j)).bind asB)) ρ Q X := by
  rw [dEq, eqD_int]
  exact h
theorem d_truB {Q : Bool → En → Prop} {b : Bool}  (h : Q (b) ρ) : We (opt (truD (.bl b))) ρ Q X := h
theorem d_truI {Q : Bool → En → Prop} {i : Int}  (h : Q (!decide (i = 0)) ρ) : We (opt (truD (.int i))) ρ Q X := by
  rw [show truD (.int i) = some (!decide (i = 0)) from by simp only [truD]; congr 1]
  exact h
theorem d_truL {Q : Bool → En → Prop} {ds : List D}  (h : Q (!ds.isEmpty) ρ) : We (opt (truD (.lst ds))) ρ Q X := h
theorem d_truN {Q : Bool → En → Prop}   (h : Q (false) ρ) : We (opt (truD .non)) ρ Q X := h
theorem d_notD {Q : D → En → Prop} {b : Bool}  (h : Q (.bl (!b)) ρ) : We (opt (dNot (.bl b))) ρ Q X := h
theorem d_asI {Q : Option Int → En → Prop} {i : Int}  (h : Q (some i) ρ) : We (opt (asI (.int i))) ρ Q X := h
theorem d_lenL {Q : D → En → Prop} {ds : List D}  (h : Q (.int ds.length) ρ) : We (opt (f1 lenD [.lst ds])) ρ Q X := h
theorem d_lenT {Q : D → En → Prop} {ds : List D}  (h : Q (.int ds.length) ρ) : We (opt (f1 lenD [.tup ds])) ρ Q X := h
theorem d_lenS {Q : D → En → Prop} {ns : List Int}  (h : Q (.int ns.length) ρ) : We (opt (f1 lenD [.scr ns])) ρ Q X := h
theorem d_lenL1 {Q : D → En → Prop} {ds : List D}  (h : Q (.int ds.length) ρ) : We (opt (lenD (.lst ds))) ρ Q X := h
theorem d_lenT1 {Q : D → En → Prop} {ds : List D}  (h : Q (.int ds.length) ρ) : We (opt (lenD (.tup ds))) ρ Q X := h
theorem d_abs {Q : D → En → Prop} {i : Int}  (h : Q (.int (if i < 0 then -i else i)) ρ) : We (opt (f1 absD [.int i])) ρ Q X := h
theorem d_int {Q : D → En → Prop} {i : Int}  (h : Q (.int i) ρ) : We (opt (f1 intD [.int i])) ρ Q X := h
theorem d_intB {Q : D → En → Prop} {p : Prop} [Decidable p]  (h : Q (.int (if p then 1 else 0)) ρ) : We (opt (f1 intD [.bl (decide p)])) ρ Q X := by
  rw [show f1 intD [D.bl (decide p)] = some (.int (if decide p = true then 1 else 0)) from rfl]
  show Q _ ρ
  simpa using h
theorem d_min {Q : D → En → Prop} {i j : Int}  (h : Q (.int (if j < i then j else i)) ρ) : We (opt (f2 minD [.int i, .int j])) ρ Q X := h
theorem d_max {Q : D → En → Prop} {i j : Int}  (h : Q (.int (if j > i then j else i)) ρ) : We (opt (f2 maxD [.int i, .int j])) ρ Q X := h
theorem d_tup {Q : D → En → Prop} {ds : List D} (g : ds.length ≤ 100000) (h : Q (.tup ds) ρ) : We (opt (dTup ds)) ρ Q X := by
  rw [show dTup ds = some (.tup ds) from if_pos g]
  exact h
theorem d_lst {Q : Sl → En → Prop} {ds : List D} (g : ds.length ≤ 100000) (h : Q (.ow ds) ρ) : We (opt (dLst ds)) ρ Q X := by
  rw [show dLst ds = some (.ow ds) from if_pos g]
  exact h
theorem d_seqL {Q : List D → En → Prop} {ds : List D}  (h : Q (ds) ρ) : We (opt (seqD (.lst ds))) ρ Q X := h
theorem d_seqT {Q : List D → En → Prop} {ds : List D}  (h : Q (ds) ρ) : We (opt (seqD (.tup ds))) ρ Q X := h
theorem d_listL {Q : Sl → En → Prop} {ds : List D}  (h : Q (.ow ds) ρ) : We (opt (f1 listD [.lst ds])) ρ Q X := h
theorem d_listT {Q : Sl → En → Prop} {ds : List D}  (h : Q (.ow ds) ρ) : We (opt (f1 listD [.tup ds])) ρ Q X := h
theorem d_tupL {Q : D → En → Prop} {ds : List D}  (h : Q (.tup ds) ρ) : We (opt (f1 tupleD [.lst ds])) ρ Q X := h
theorem d_tupT {Q : D → En → Prop} {ds : List D}  (h : Q (.tup ds) ρ) : We (opt (f1 tupleD [.tup ds])) ρ Q X := h
theorem d_rng1 {Q : List D → En → Prop} {j : Int} (g0 : 0 ≤ j) (g1 : j ≤ 1000000) (h : Q (upto 0 j.toNat) ρ) : We (opt (rng1 [.int j])) ρ Q X := by
  rw [rng1_int g0 g1]
  exact h
theorem d_rng2 {Q : List D → En → Prop} {i j : Int} (g0 : -1000000000 ≤ i) (g1 : i ≤ 1000000000) (g2 : -1000000000 ≤ j) (g3 : j ≤ 1000000000) (h : Q (upto i (j - i).toNat) ρ) : We (opt (rng2 [.int i, .int j])) ρ Q X := by
  rw [show rng2 [.int i, .int j] = some (upto i (j - i).toNat) from if_pos ⟨in62_of (by omega) (by omega), in62_of (by omega) (by omega)⟩]
  exact h
theorem d_slLo {Q : Sl → En → Prop} {ds : List D} {i : Int} (g : 0 ≤ i) (h : Q (.ow (ds.drop i.toNat)) ρ) : We (opt (dSl (.lst ds) (some i) none)) ρ Q X := by
  have := cut_lo (ds := ds) (a := i.toNat)
  rw [show ((i.toNat : Nat) : Int) = i by omega] at this
  rw [show dSl (.lst ds) (some i) none = some (.ow (cutD ds (some i) none)) from rfl, this]
  exact h
theorem d_slHi {Q : Sl → En → Prop} {ds : List D} {i : Int} (g : 0 ≤ i) (h : Q (.ow (ds.take i.toNat)) ρ) : We (opt (dSl (.lst ds) none (some i))) ρ Q X := by
  have := cut_hi (ds := ds) (b := i.toNat)
  rw [show ((i.toNat : Nat) : Int) = i by omega] at this
  rw [show dSl (.lst ds) none (some i) = some (.ow (cutD ds none (some i))) from rfl, this]
  exact h
theorem d_slLoT {Q : Sl → En → Prop} {ds : List D} {i : Int} (g : 0 ≤ i) (h : Q (.va (.tup (ds.drop i.toNat))) ρ) : We (opt (dSl (.tup ds) (some i) none)) ρ Q X := by
  have := cut_lo (ds := ds) (a := i.toNat)
  rw [show ((i.toNat : Nat) : Int) = i by omega] at this
  rw [show dSl (.tup ds) (some i) none = some (.va (.tup (cutD ds (some i) none))) from rfl, this]
  exact h
theorem d_slHiT {Q : Sl → En → Prop} {ds : List D} {i : Int} (g : 0 ≤ i) (h : Q (.va (.tup (ds.take i.toNat))) ρ) : We (opt (dSl (.tup ds) none (some i))) ρ Q X := by
  have := cut_hi (ds := ds) (b := i.toNat)
  rw [show ((i.toNat : Nat) : Int) = i by omega] at this
  rw [show dSl (.tup ds) none (some i) = some (.va (.tup (cutD ds none (some i)))) from rfl, this]
  exact h
theorem d_ix2 {Q : D → En → Prop} {a0 a1 i : Int} (g0 : 0 ≤ i) (g1 : i < 2) (h : ∀ v : Int, (v = a0 ∨ v = a1) → Q (.int v) ρ) : We (opt (dIx (.lst [.int a0, .int a1]) (.int i))) ρ Q X := by
  obtain ⟨d, e, m⟩ := at_mem (ds := [.int a0, .int a1]) g0 (by simpa using g1)
  rw [show dIx (.lst [.int a0, .int a1]) (.int i) = some d from e]
  simp only [List.mem_cons, List.not_mem_nil, or_false] at m
  rcases m with rfl | rfl
  · exact h _ (by simp)
  · exact h _ (by simp)
theorem d_ix3 {Q : D → En → Prop} {a0 a1 a2 i : Int} (g0 : 0 ≤ i) (g1 : i < 3) (h : ∀ v : Int, (v = a0 ∨ v = a1 ∨ v = a2) → Q (.int v) ρ) : We (opt (dIx (.lst [.int a0, .int a1, .int a2]) (.int i))) ρ Q X := by
  obtain ⟨d, e, m⟩ := at_mem (ds := [.int a0, .int a1, .int a2]) g0 (by simpa using g1)
  rw [show dIx (.lst [.int a0, .int a1, .int a2]) (.int i) = some d from e]
  simp only [List.mem_cons, List.not_mem_nil, or_false] at m
  rcases m with rfl | rfl | rfl
  · exact h _ (by simp)
  · exact h _ (by simp)
  · exact h _ (by simp)
theorem d_ix4 {Q : D → En → Prop} {a0 a1 a2 a3 i : Int} (g0 : 0 ≤ i) (g1 : i < 4) (h : ∀ v : Int, (v = a0 ∨ v = a1 ∨ v = a2 ∨ v = a3) → Q (.int v) ρ) : We (opt (dIx (.lst [.int a0, .int a1, .int a2, .int a3]) (.int i))) ρ Q X := by
  obtain ⟨d, e, m⟩ := at_mem (ds := [.int a0, .int a1, .int a2, .int a3]) g0 (by simpa using g1)
  rw [show dIx (.lst [.int a0, .int a1, .int a2, .int a3]) (.int i) = some d from e]
  simp only [List.mem_cons, List.not_mem_nil, or_false] at m
  rcases m with rfl | rfl | rfl | rfl
  · exact h _ (by simp)
  · exact h _ (by simp)
  · exact h _ (by simp)
  · exact h _ (by simp)
theorem d_ix5 {Q : D → En → Prop} {a0 a1 a2 a3 a4 i : Int} (g0 : 0 ≤ i) (g1 : i < 5) (h : ∀ v : Int, (v = a0 ∨ v = a1 ∨ v = a2 ∨ v = a3 ∨ v = a4) → Q (.int v) ρ) : We (opt (dIx (.lst [.int a0, .int a1, .int a2, .int a3, .int a4]) (.int i))) ρ Q X := by
  obtain ⟨d, e, m⟩ := at_mem (ds := [.int a0, .int a1, .int a2, .int a3, .int a4]) g0 (by simpa using g1)
  rw [show dIx (.lst [.int a0, .int a1, .int a2, .int a3, .int a4]) (.int i) = some d from e]
  simp only [List.mem_cons, List.not_mem_nil, or_false] at m
  rcases m with rfl | rfl | rfl | rfl | rfl
  · exact h _ (by simp)
  · exact h _ (by simp)
  · exact h _ (by simp)
  · exact h _ (by simp)
  · exact h _ (by simp)
theorem d_ix6 {Q : D → En → Prop} {a0 a1 a2 a3 a4 a5 i : Int} (g0 : 0 ≤ i) (g1 : i < 6) (h : ∀ v : Int, (v = a0 ∨ v = a1 ∨ v = a2 ∨ v = a3 ∨ v = a4 ∨ v = a5) → Q (.int v) ρ) : We (opt (dIx (.lst [.int a0, .int a1, .int a2, .int a3, .int a4, .int a5]) (.int i))) ρ Q X := by
  obtain ⟨d, e, m⟩ := at_mem (ds := [.int a0, .int a1, .int a2, .int a3, .int a4, .int a5]) g0 (by simpa using g1)
  rw [show dIx (.lst [.int a0, .int a1, .int a2, .int a3, .int a4, .int a5]) (.int i) = some d from e]
  simp only [List.mem_cons, List.not_mem_nil, or_false] at m
  rcases m with rfl | rfl | rfl | rfl | rfl | rfl
  · exact h _ (by simp)
  · exact h _ (by simp)
  · exact h _ (by simp)
  · exact h _ (by simp)
  · exact h _ (by simp)
  · exact h _ (by simp)
theorem d_ix7 {Q : D → En → Prop} {a0 a1 a2 a3 a4 a5 a6 i : Int} (g0 : 0 ≤ i) (g1 : i < 7) (h : ∀ v : Int, (v = a0 ∨ v = a1 ∨ v = a2 ∨ v = a3 ∨ v = a4 ∨ v = a5 ∨ v = a6) → Q (.int v) ρ) : We (opt (dIx (.lst [.int a0, .int a1, .int a2, .int a3, .int a4, .int a5, .int a6]) (.int i))) ρ Q X := by
  obtain ⟨d, e, m⟩ := at_mem (ds := [.int a0, .int a1, .int a2, .int a3, .int a4, .int a5, .int a6]) g0 (by simpa using g1)
  rw [show dIx (.lst [.int a0, .int a1, .int a2, .int a3, .int a4, .int a5, .int a6]) (.int i) = some d from e]
  simp only [List.mem_cons, List.not_mem_nil, or_false] at m
  rcases m with rfl | rfl | rfl | rfl | rfl | rfl | rfl
  · exact h _ (by simp)
  · exact h _ (by simp)
  · exact h _ (by simp)
  · exact h _ (by simp)
  · exact h _ (by simp)
  · exact h _ (by simp)
  · exact h _ (by simp)
theorem d_ix8 {Q : D → En → Prop} {a0 a1 a2 a3 a4 a5 a6 a7 i : Int} (g0 : 0 ≤ i) (g1 : i < 8) (h : ∀ v : Int, (v = a0 ∨ v = a1 ∨ v = a2 ∨ v = a3 ∨ v = a4 ∨ v = a5 ∨ v = a6 ∨ v = a7) → Q (.int v) ρ) : We (opt (dIx (.lst [.int a0, .int a1, .int a2, .int a3, .int a4, .int a5, .int a6, .int a7]) (.int i))) ρ Q X := by
  obtain ⟨d, e, m⟩ := at_mem (ds := [.int a0, .int a1, .int a2, .int a3, .int a4, .int a5, .int a6, .int a7]) g0 (by simpa using g1)
  rw [show dIx (.lst [.int a0, .int a1, .int a2, .int a3, .int a4, .int a5, .int a6, .int a7]) (.int i) = some d from e]
  simp only [List.mem_cons, List.not_mem_nil, or_false] at m
  rcases m with rfl | rfl | rfl | rfl | rfl | rfl | rfl | rfl
  · exact h _ (by simp)
  · exact h _ (by simp)
  · exact h _ (by simp)
  · exact h _ (by simp)
  · exact h _ (by simp)
  · exact h _ (by simp)
  · exact h _ (by simp)
  · exact h _ (by simp)
theorem d_ix9 {Q : D → En → Prop} {a0 a1 a2 a3 a4 a5 a6 a7 a8 i : Int} (g0 : 0 ≤ i) (g1 : i < 9) (h : ∀ v : Int, (v = a0 ∨ v = a1 ∨ v = a2 ∨ v = a3 ∨ v = a4 ∨ v = a5 ∨ v = a6 ∨ v = a7 ∨ v = a8) → Q (.int v) ρ) : We (opt (dIx (.lst [.int a0, .int a1, .int a2, .int a3, .int a4, .int a5, .int a6, .int a7, .int a8]) (.int i))) ρ Q X := by
  obtain ⟨d, e, m⟩ := at_mem (ds := [.int a0, .int a1, .int a2, .int a3, .int a4, .int a5, .int a6, .int a7, .int a8]) g0 (by simpa using g1)
  rw [show dIx (.lst [.int a0, .int a1, .int a2, .int a3, .int a4, .int a5, .int a6, .int a7, .int a8]) (.int i) = some d from e]
  simp only [List.mem_cons, List.not_mem_nil, or_false] at m
  rcases m with rfl | rfl | rfl | rfl | rfl | rfl | rfl | rfl | rfl
  · exact h _ (by simp)
  · exact h _ (by simp)
  · exact h _ (by simp)
  · exact h _ (by simp)
  · exact h _ (by simp)
  · exact h _ (by simp)
  · exact h _ (by simp)
  · exact h _ (by simp)
  · exact h _ (by simp)
theorem d_ix10 {Q : D → En → Prop} {a0 a1 a2 a3 a4 a5 a6 a7 a8 a9 i : Int} (g0 : 0 ≤ i) (g1 : i < 10) (h : ∀ v : Int, (v = a0 ∨ v = a1 ∨ v = a2 ∨ v = a3 ∨ v = a4 ∨ v = a5 ∨ v = a6 ∨ v = a7 ∨ v = a8 ∨ v = a9) → Q (.int v) ρ) : We (opt (dIx (.lst [.int a0, .int a1, .int a2, .int a3, .int a4, .int a5, .int a6, .int a7, .int a8, .int a9]) (.int i))) ρ Q X := by
  obtain ⟨d, e, m⟩ := at_mem (ds := [.int a0, .int a1, .int a2, .int a3, .int a4, .int a5, .int a6, .int a7, .int a8, .int a9]) g0 (by simpa using g1)
  rw [show dIx (.lst [.int a0, .int a1, .int a2, .int a3, .int a4, .int a5, .int a6, .int a7, .int a8, .int a9]) (.int i) = some d from e]
  simp only [List.mem_cons, List.not_mem_nil, or_false] at m
  rcases m with rfl | rfl | rfl | rfl | rfl | rfl | rfl | rfl | rfl | rfl
  · exact h _ (by simp)
  · exact h _ (by simp)
  · exact h _ (by simp)
  · exact h _ (by simp)
  · exact h _ (by simp)
  · exact h _ (by simp)
  · exact h _ (by simp)
  · exact h _ (by simp)
  · exact h _ (by simp)
  · exact h _ (by simp)
theorem d_ix11 {Q : D → En → Prop} {a0 a1 a2 a3 a4 a5 a6 a7 a8 a9 a10 i : Int} (g0 : 0 ≤ i) (g1 : i < 11) (h : ∀ v : Int, (v = a0 ∨ v = a1 ∨ v = a2 ∨ v = a3 ∨ v = a4 ∨ v = a5 ∨ v = a6 ∨ v = a7 ∨ v = a8 ∨ v = a9 ∨ v = a10) → Q (.int v) ρ) : We (opt (dIx (.lst [.int a0, .int a1, .int a2, .int a3, .int a4, .int a5, .int a6, .int a7, .int a8, .int a9, .int a10]) (.int i))) ρ Q X := by
  obtain ⟨d, e, m⟩ := at_mem (ds := [.int a0, .int a1, .int a2, .int a3, .int a4, .int a5, .int a6, .int a7, .int a8, .int a9, .int a10]) g0 (by simpa using g1)
  rw [show dIx (.lst [.int a0, .int a1, .int a2, .int a3, .int a4, .int a5, .int a6, .int a7, .int a8, .int a9, .int a10]) (.int i) = some d from e]
  simp only [List.mem_cons, List.not_mem_nil, or_false] at m
  rcases m with rfl | rfl | rfl | rfl | rfl | rfl | rfl | rfl | rfl | rfl | rfl
  · exact h _ (by simp)
  · exact h _ (by simp)
  · exact h _ (by simp)
  · exact h _ (by simp)
  · exact h _ (by simp)
  · exact h _ (by simp)
  · exact h _ (by simp)
  · exact h _ (by simp)
  · exact h _ (by simp)
  · exact h _ (by simp)
  · exact h _ (by simp)
theorem d_ix12 {Q : D → En → Prop} {a0 a1 a2 a3 a4 a5 a6 a7 a8 a9 a10 a11 i : Int} (g0 : 0 ≤ i) (g1 : i < 12) (h : ∀ v : Int, (v = a0 ∨ v = a1 ∨ v = a2 ∨ v = a3 ∨ v = a4 ∨ v = a5 ∨ v = a6 ∨ v = a7 ∨ v = a8 ∨ v = a9 ∨ v = a10 ∨ v = a11) → Q (.int v) ρ) : We (opt (dIx (.lst [.int a0, .int a1, .int a2, .int a3, .int a4, .int a5, .int a6, .int a7, .int a8, .int a9, .int a10, .int a11]) (.int i))) ρ Q X := by
  obtain ⟨d, e, m⟩ := at_mem (ds := [.int a0, .int a1, .int a2, .int a3, .int a4, .int a5, .int a6, .int a7, .int a8, .int a9, .int a10, .int a11]) g0 (by simpa using g1)
  rw [show dIx (.lst [.int a0, .int a1, .int a2, .int a3, .int a4, .int a5, .int a6, .int a7, .int a8, .int a9, .int a10, .int a11]) (.int i) = some d from e]
  simp only [List.mem_cons, List.not_mem_nil, or_false] at m
  rcases m with rfl | rfl | rfl | rfl | rfl | rfl | rfl | rfl | rfl | rfl | rfl | rfl
  · exact h _ (by simp)
  · exact h _ (by simp)
  · exact h _ (by simp)
  · exact h _ (by simp)
  · exact h _ (by simp)
  · exact h _ (by simp)
  · exact h _ (by simp)
  · exact h _ (by simp)
  · exact h _ (by simp)
  · exact h _ (by simp)
  · exact h _ (by simp)
  · exact h _ (by simp)
theorem d_ix13 {Q : D → En → Prop} {a0 a1 a2 a3 a4 a5 a6 a7 a8 a9 a10 a11 a12 i : Int} (g0 : 0 ≤ i) (g1 : i < 13) (h : ∀ v : Int, (v = a0 ∨ v = a1 ∨ v = a2 ∨ v = a3 ∨ v = a4 ∨ v = a5 ∨ v = a6 ∨ v = a7 ∨ v = a8 ∨ v = a9 ∨ v = a10 ∨ v = a11 ∨ v = a12) → Q (.int v) ρ) : We (opt (dIx (.lst [.int a0, .int a1, .int a2, .int a3, .int a4, .int a5, .int a6, .int a7, .int a8, .int a9, .int a10, .int a11, .int a12]) (.int i))) ρ Q X := by
  obtain ⟨d, e, m⟩ := at_mem (ds := [.int a0, .int a1, .int a2, .int a3, .int a4, .int a5, .int a6, .int a7, .int a8, .int a9, .int a10, .int a11, .int a12]) g0 (by simpa using g1)
  rw [show dIx (.lst [.int a0, .int a1, .int a2, .int a3, .int a4, .int a5, .int a6, .int a7, .int a8, .int a9, .int a10, .int a11, .int a12]) (.int i) = some d from e]
  simp only [List.mem_cons, List.not_mem_nil, or_false] at m
  rcases m with rfl | rfl | rfl | rfl | rfl | rfl | rfl | rfl | rfl | rfl | rfl | rfl | rfl
  · exact h _ (by simp)
  · exact h _ (by simp)
  · exact h _ (by simp)
  · exact h _ (by simp)
  · exact h _ (by simp)
  · exact h _ (by simp)
  · exact h _ (by simp)
  · exact h _ (by simp)
  · exact h _ (by simp)
  · exact h _ (by simp)
  · exact h _ (by simp)
  · exact h _ (by simp)
  · exact h _ (by simp)
theorem d_ixM {Q : D → En → Prop} {ds : List D} {i : Int} (g0 : 0 ≤ i) (g1 : i < ds.length) (h : ∀ d, d ∈ ds → Q d ρ) : We (opt (dIx (.lst ds) (.int i))) ρ Q X := by
  obtain ⟨d, e, m⟩ := at_mem g0 g1
  rw [show dIx (.lst ds) (.int i) = some d from e]
  exact h d m
theorem d_ixN {Q : D → En → Prop} {cs : List Int} {i : Int} (g0 : 0 ≤ i) (g1 : i < cs.length) (h : ∀ v : Int, cs[i.toNat]? = some v → Q (.int v) ρ) : We (opt (dIx (.lst (cs.map .int)) (.int i))) ρ Q X := by
  have e := atI_cast (l := cs.map D.int) (i := i.toNat)
  rw [show ((i.toNat : Nat) : Int) = i by omega, List.getElem?_map, List.getElem?_eq_getElem (by omega)] at e
  rw [show dIx (.lst (cs.map .int)) (.int i) = some _ from e]
  exact h _ (List.getElem?_eq_getElem (by omega))
theorem d_ixNT {Q : D → En → Prop} {cs : List Int} {i : Int} (g0 : 0 ≤ i) (g1 : i < cs.length) (h : ∀ v : Int, cs[i.toNat]? = some v → Q (.int v) ρ) : We (opt (dIx (.tup (cs.map .int)) (.int i))) ρ Q X := by
  have e := atI_cast (l := cs.map D.int) (i := i.toNat)
  rw [show ((i.toNat : Nat) : Int) = i by omega, List.getElem?_map, List.getElem?_eq_getElem (by omega)] at e
  rw [show dIx (.tup (cs.map .int)) (.int i) = some _ from e]
  exact h _ (List.getElem?_eq_getElem (by omega))
/-- a written tuple at a written place -/
theorem d_ixK {Q : D → En → Prop} {ds : List D} {i : Nat} {d : D} (e : ds[i]? = some d) (h : Q d ρ) : We (opt (dIx (.tup ds) (.int (OfNat.ofNat i)))) ρ Q X := by
  have := atI_cast (l := ds) (i := i)
  rw [e] at this
  rw [show dIx (.tup ds) (.int (OfNat.ofNat i)) = some d from this]
  exact h
theorem d_ixKL {Q : D → En → Prop} {ds : List D} {i : Nat} {d : D} (e : ds[i]? = some d) (h : Q d ρ) : We (opt (dIx (.lst ds) (.int (OfNat.ofNat i)))) ρ Q X := by
  have := atI_cast (l := ds) (i := i)
  rw [e] at this
  rw [show dIx (.lst ds) (.int (OfNat.ofNat i)) = some d from this]
  exact h
def Wt (m : MS) (ρ : En) (N : En → Prop) (R : Sl → En → Prop) (B C : En → Prop) (X : XP) : Prop := Ws m ρ ⟨N, R, B, C, X⟩
def Wv (t : Tg) (m : MS) (ds : List D) (ρ : En) (N : En → Prop) (R : Sl → En → Prop) (X : XP) : Prop := Wl t m ds ρ ⟨N, R, N, N, X⟩
variable {N : En → Prop} {R : Sl → En → Prop} {B C : En → Prop}
theorem Wl_any {t : Tg} {m : MS} {ds : List D} {B' C' : En → Prop} : ∀ {ds : List D} {ρ : En}, Wl t m ds ρ ⟨N, R, B, C, X⟩ → Wl t m ds ρ ⟨N, R, B', C', X⟩
  | [], ρ, h => h
  | d :: ds, ρ, h => by
    rw [Wl_cons] at h ⊢
    cases e : t d ρ with
    | none => rw [e] at h; exact h
    | some ρ1 =>
      rw [e] at h
      refine Ws_mono (P := ⟨fun ρ2 => Wl t m ds ρ2 ⟨N, R, B, C, X⟩, R, N, fun ρ2 => Wl t m ds ρ2 ⟨N, R, B, C, X⟩, X⟩) h (fun _ z => Wl_any (ds := []) z) (fun _ _ z => z) (fun _ z => z) (fun _ z => Wl_any (ds := []) z) (fun _ _ _ _ z => z)
/-- a walk by an invariant -/
theorem Wv_by {t : Tg} {m : MS} {ds : List D} (I : Nat → En → Prop) (h0 : I 0 ρ) (hs : ∀ (i : Nat) (d : D) (ρ : En), ds[i]? = some d → I i ρ → ∃ ρ1, t d ρ = some ρ1 ∧ Wt m ρ1 (I (i + 1)) R N (I (i + 1)) X) (he : ∀ ρ, I ds.length ρ → N ρ) : Wv t m ds ρ N R X :=
  Wl_by (P := ⟨N, R, N, N, X⟩) I h0 hs he
theorem Wv_nil {t : Tg} {m : MS} (h : N ρ) : Wv t m [] ρ N R X := h
theorem Wv_cons {t : Tg} {m : MS} {d : D} {ds : List D} {ρ1 : En} (e : t d ρ = some ρ1) (h : Wt m ρ1 (fun ρ2 => Wv t m ds ρ2 N R X) R N (fun ρ2 => Wv t m ds ρ2 N R X) X) : Wv t m (d :: ds) ρ N R X := by
  unfold Wv
  rw [Wl_cons, e]
  exact h
theorem Wt_mono {m : MS} {N' B' C' : En → Prop} {R' : Sl → En → Prop} {X' : XP} (h : Wt m ρ N R B C X) (a : ∀ ρ, N ρ → N' ρ) (b : ∀ s ρ, R s ρ → R' s ρ) (c : ∀ ρ, B ρ → B' ρ) (d : ∀ ρ, C ρ → C' ρ) (e : ∀ x y z ρ, X x y z ρ → X' x y z ρ) : Wt m ρ N' R' B' C' X' := Ws_mono (P := ⟨N, R, B, C, X⟩) h a b c d e
theorem s_sq {a b : MS} (h : Wt a ρ (fun ρ' => Wt b ρ' N R B C X) R B C X) : Wt (sq a b) ρ N R B C X := by unfold Wt; rw [Ws_sq]; exact h
theorem s_mid {a b : MS} (J : En → Prop) (h : Wt a ρ J R B C X) (g : ∀ ρ', J ρ' → Wt b ρ' N R B C X) : Wt (sq a b) ρ N R B C X := s_sq (Wt_mono h g (fun _ _ z => z) (fun _ z => z) (fun _ z => z) (fun _ _ _ _ z => z))
theorem s_nx (h : N ρ) : Wt (Fl.nx) ρ N R B C X := h
theorem s_ct (h : C ρ) : Wt (Fl.ct) ρ N R B C X := h
theorem s_bk (h : B ρ) : Wt (Fl.bk) ρ N R B C X := h
theorem s_if {m : M Bool} {a b : MS} (h : We m ρ (fun k ρ' => if k = true then Wt a ρ' N R B C X else Wt b ρ' N R B C X) X) : Wt (ifS m a b) ρ N R B C X := by unfold Wt; rw [Ws_if]; exact h
theorem s_ret {ml : M Sl} (h : We ml ρ R X) : Wt (retS ml) ρ N R B C X := by unfold Wt; rw [Ws_ret]; exact h
/-- a store -/
def kSt (i : Nat) (N : En → Prop) : Sl → En → Prop := fun s ρ => N (ρ.set i (some s))
theorem k_st {i : Nat} {N : En → Prop} {s : Sl} {ρ2 : En} (e : ρ.set i (some s) = ρ2) (h : N ρ2) : kSt i N s ρ := by unfold kSt; rw [e]; exact h
theorem s_asg {i : Nat} {ml : M Sl} (h : We ml ρ (kSt i N) X) : Wt (asgS i ml) ρ N R B C X := by unfold Wt; rw [Ws_asg]; exact h
theorem s_drop {ml : M Sl} (h : We ml ρ (fun _ ρ' => N ρ') X) : Wt (dropS ml) ρ N R B C X := by unfold Wt; rw [Ws_drop]; exact h
def kTg (t : Tg) (N : En → Prop) : D → En → Prop := fun d ρ => opW (t d ρ) N
theorem k_tg {t : Tg} {N : En → Prop} {d : D} {ρ2 : En} (e : t d ρ = some ρ2) (h : N ρ2) : kTg t N d ρ := by unfold kTg; rw [e]; exact h
theorem s_asgT {m : M D} {t : Tg} (h : We m ρ (kTg t N) X) : Wt (asgT m t) ρ N R B C X := by unfold Wt; rw [Ws_asgT]; exact h
def kPar (is : List Nat) (N : En → Prop) : List Sl → En → Prop := fun ss ρ => ss.length = is.length ∧ N (putE ρ is ss)
theorem k_par {is : List Nat} {N : En → Prop} {ss : List Sl} {ρ2 : En} (l : ss.length = is.length) (e : putE ρ is ss = ρ2) (h : N ρ2) : kPar is N ss ρ := by unfold kPar; rw [e]; exact ⟨l, h⟩
theorem s_par {is : List Nat} {ms : M (List Sl)} (h : We ms ρ (kPar is N) X) : Wt (parS is ms) ρ N R B C X := by unfold Wt; rw [Ws_par]; exact h
def kApp (i : Nat) (N : En → Prop) : D → En → Prop := fun d ρ => owW ρ[i]? (fun ds => ds.length < 100000 ∧ N (ρ.set i (some (.ow (ds ++ [d])))))
theorem k_app {i : Nat} {N : En → Prop} {d : D} {ds : List D} {ρ2 : En} (r : ρ[i]? = some (some (.ow ds))) (l : ds.length < 100000) (e : ρ.set i (some (.ow (ds ++ [d]))) = ρ2) (h : N ρ2) : kApp i N d ρ := by unfold kApp; rw [r]; show _ ∧ _; rw [e]; exact ⟨l, h⟩
theorem s_app {i : Nat} {m : M D} {ds : List D} (r : ρ[i]? = some (some (.ow ds))) (h : We m ρ (kApp i N) X) : Wt (appS i m) ρ N R B C X := by unfold Wt; rw [Ws_app, r]; exact h
def kExt (i : Nat) (N : En → Prop) : D → En → Prop := fun d ρ => owW ρ[i]? (fun ds => lsW d fun es => ds.length + es.length ≤ 100000 ∧ N (ρ.set i (some (.ow (ds ++ es)))))
theorem k_ext {i : Nat} {N : En → Prop} {es ds : List D} {ρ2 : En} (r : ρ[i]? = some (some (.ow ds))) (l : ds.length + es.length ≤ 100000) (e : ρ.set i (some (.ow (ds ++ es))) = ρ2) (h : N ρ2) : kExt i N (.lst es) ρ := by unfold kExt; rw [r]; show _ ∧ _; rw [e]; exact ⟨l, h⟩
theorem s_ext {i : Nat} {m : M D} {ds : List D} (r : ρ[i]? = some (some (.ow ds))) (h : We m ρ (kExt i N) X) : Wt (extS i m) ρ N R B C X := by unfold Wt; rw [Ws_ext, r]; exact h
def kAug (i : Nat) (f : D → D → Option D) (d1 : D) (N : En → Prop) : D → En → Prop := fun d2 ρ => opW (f d1 d2) fun d => N (ρ.set i (some (.va d)))
theorem k_augA {i : Nat} {N : En → Prop} {a b : Int} {ρ2 : En} (e : ρ.set i (some (.va (.int (a + b)))) = ρ2) (h : N ρ2) : kAug i dAddI (.int a) N (.int b) ρ := by show N (ρ.set i (some (.va (.int (a + b))))); rw [e]; exact h
theorem k_augS {i : Nat} {N : En → Prop} {a b : Int} {ρ2 : En} (e : ρ.set i (some (.va (.int (a - b)))) = ρ2) (h : N ρ2) : kAug i dSub (.int a) N (.int b) ρ := by show N (ρ.set i (some (.va (.int (a - b))))); rw [e]; exact h
theorem s_aug {i : Nat} {f : D → D → Option D} {m : M D} {d1 : D} (r : ρ[i]? = some (some (.va d1))) (h : We m ρ (kAug i f d1 N) X) : Wt (augS i f m) ρ N R B C X := by unfold Wt; rw [Ws_aug, r]; exact h
theorem s_for {mi : M (List D)} {t : Tg} {m : MS} (h : We mi ρ (fun ds ρ' => Wv t m ds ρ' N R X) X) : Wt (forS mi t m) ρ N R B C X := by unfold Wt; rw [Ws_for]; unfold We at *; cases e : mi ρ with
  | ok a r => rw [e] at h; exact Wl_any (ds := []) h
  | ex _ _ _ _ => rw [e] at h; exact h
  | no => rw [e] at h; exact h
theorem s_raise {x f : Str} {me : M D} (h : We me ρ (fun d ρ' => fitD d = true ∧ X x f d ρ') X) : Wt (raiseS x f me) ρ N R B C X := by unfold Wt; rw [Ws_raise]; exact h
theorem s_try {m : MS} {cn : Str} {ie iy : Nat} (h : Wt m ρ N R B C (fun e f d ρ' => (e = cn ∧ ie < ρ'.length) ∧ N ((ρ'.set iy (some (.va (.exn e f d)))).set ie none))) : Wt (tryS m cn ie iy) ρ N R B C X := by unfold Wt; rw [Ws_try]; exact h
def kSet2 (i : Nat) (d : D) (N : En → Prop) : D → En → Prop := fun k ρ2 => owW ρ2[i]? (fun ds => inW k fun n => opW (ixN ds.length n) fun j => N (ρ2.set i (some (.ow (ds.set j d)))))
def kSet1 (i : Nat) (mi : M D) (N : En → Prop) (X : XP) : D → En → Prop := fun d ρ1 => owW ρ1[i]? (fun _ => We mi ρ1 (kSet2 i d N) X)
theorem k_set1 {i : Nat} {mi : M D} {N : En → Prop} {d : D} {ds : List D} (r : ρ[i]? = some (some (.ow ds))) (h : We mi ρ (kSet2 i d N) X) : kSet1 i mi N X d ρ := by unfold kSet1; rw [r]; exact h
theorem k_set2 {i : Nat} {N : En → Prop} {d : D} {ds : List D} {n : Int} {ρ2 : En} (r : ρ[i]? = some (some (.ow ds))) (g0 : 0 ≤ n) (g1 : n < ds.length) (e : ρ.set i (some (.ow (ds.set n.toNat d))) = ρ2) (h : N ρ2) : kSet2 i d N (.int n) ρ := by
  unfold kSet2
  rw [r]
  show opW (ixN ds.length n) _
  rw [show ixN ds.length n = some n.toNat from by unfold ixN; rw [if_pos g0, if_pos g1]]
  show N _
  rw [e]; exact h
theorem s_set {i : Nat} {mi m : M D} (h : We m ρ (kSet1 i mi N X) X) : Wt (setS i mi m) ρ N R B C X := by unfold Wt; rw [Ws_set]; exact h
theorem f_def {k : Nat} {om : Option Nat} {m : MS} {as : List Sl} {ρ0 : En} {Q : Sl → List D → Prop} {X : XB} (e : as.map some ++ List.replicate (k - as.length) none = ρ0) (h : Wt m ρ0 (fun ρ => Q (.va .non) (ownAt om ρ)) (fun r ρ => Q r (ownAt om ρ)) (fun _ => False) (fun _ => False) (fun c f d ρ => X c f d (ownAt om ρ))) : Wf (runDef k om m as) Q X := by rw [Wf_def, e]; exact h
/-! ### comprehensions -/
def Wk (t : Tg) (tt : M Bool) (me : M D) (vs : List Nat) (ds : List D) (ρ : En) (acc : List D) (K : List D → En → Prop) : Prop := match runLc t tt me vs ds ρ acc with
  | some (a, ρ') => K a ρ'
  | none => False
theorem Wk_by {t : Tg} {tt : M Bool} {me : M D} {vs : List Nat} {ds : List D} {K : List D → En → Prop} (I : Nat → List D → En → Prop) (h0 : I 0 [] ρ) (hs : ∀ (i : Nat) (d : D) (acc : List D) (ρ : En), ds[i]? = some d → acc.length ≤ i → I i acc ρ → ∃ ρ1, t d ρ = some ρ1 ∧ We tt ρ1 (fun k ρ2 => if k = true then We me ρ2 (fun y ρ3 => I (i + 1) (acc ++ [y]) (wipeE ρ3 vs)) noX else I (i + 1) acc (wipeE ρ2 vs)) noX) (hl : ds.length ≤ 100000) (he : ∀ acc ρ', I ds.length acc ρ' → K acc ρ') : Wk t tt me vs ds ρ [] K := by
  have go : ∀ (n i : Nat) (ρ : En) (acc : List D), i + n = ds.length → acc.length ≤ i → I i acc ρ → Wk t tt me vs (ds.drop i) ρ acc K := by
    intro n
    induction n with
    | zero =>
      intro i ρ acc hi ha hI
      have e : i = ds.length := by omega
      subst e
      unfold Wk
      rw [List.drop_length, runLc]
      exact he acc ρ hI
    | succ n ih =>
      intro i ρ acc hi ha hI
      have hlt : i < ds.length := by omega
      obtain ⟨ρ1, h1, h2⟩ := hs i ds[i] acc ρ (List.getElem?_eq_getElem hlt) ha hI
      unfold Wk
      rw [drop_cons (List.getElem?_eq_getElem hlt), runLc, h1]
      unfold We at h2
      cases htt : tt ρ1 with
      | ok k ρ2 =>
        rw [htt] at h2
        simp only [htt] at h2 ⊢
        cases k with
        | true =>
          simp only [if_true] at h2 ⊢
          cases hme : me ρ2 with
          | ok y ρ3 =>
            rw [hme] at h2
            simp only [hme] at h2 ⊢
            rw [if_pos (by omega)]
            exact ih (i + 1) _ _ (by omega) (by simp; omega) h2
          | ex _ _ _ _ => rw [hme] at h2; exact h2.elim
          | no => rw [hme] at h2; exact h2.elim
        | false =>
          simp only [Bool.false_eq_true, if_false] at h2 ⊢
          exact ih (i + 1) _ _ (by omega) (by omega) h2
      | ex _ _ _ _ => rw [htt] at h2; exact h2.elim
      | no => rw [htt] at h2; exact h2.elim
  have := go ds.length 0 ρ [] (by omega) (Nat.le_refl _) h0
  rwa [List.drop_zero] at this
theorem Wk_map {t : Tg} {me : M D} {vs : List Nat} {ds : List D} {K : List D → En → Prop} (g : D → D) (hs : ∀ d, d ∈ ds → ∃ ρ1, t d ρ = some ρ1 ∧ We me ρ1 (fun y ρ3 => y = g d ∧ wipeE ρ3 vs = ρ) noX) (hl : ds.length ≤ 100000) (h : K (ds.map g) ρ) : Wk t (ret true) me vs ds ρ [] K := by
  refine Wk_by (fun i acc ρ' => ρ' = ρ ∧ acc = (ds.take i).map g) ⟨rfl, by simp⟩ ?_ hl ?_
  · rintro i d acc ρ' hd _ ⟨rfl, rfl⟩
    obtain ⟨ρ1, h1, h2⟩ := hs d (List.mem_of_getElem? hd)
    refine ⟨ρ1, h1, ?_⟩
    rw [We_ret, if_pos rfl]
    unfold We at h2 ⊢
    cases e : me ρ1 with
    | ok y ρ3 =>
      rw [e] at h2
      obtain ⟨rfl, h3⟩ := h2
      refine ⟨h3, ?_⟩
      rw [List.take_add_one, List.map_append, hd]
      rfl
    | ex _ _ _ _ => rw [e] at h2; exact h2
    | no => rw [e] at h2; exact h2
  · rintro acc ρ' ⟨rfl, rfl⟩
    rw [List.take_length]
    exact h
def kBk (ρ1 : En) (vs : List Nat) (Q : Sl → En → Prop) : List D → En → Prop := fun acc ρ' => Q (.ow acc) (back ρ1 ρ' vs)
def kLc (t : Tg) (tt : M Bool) (me : M D) (vs : List Nat) (Q : Sl → En → Prop) : List D → En → Prop := fun ds ρ1 => clearE ρ1 vs = true ∧ Wk t tt me vs ds (wipeE ρ1 vs) [] (kBk ρ1 vs Q)
theorem k_bk {ρ1 ρ' ρ2 : En} {vs : List Nat} {Q : Sl → En → Prop} {acc : List D} (e : back ρ1 ρ' vs = ρ2) (h : Q (.ow acc) ρ2) : kBk ρ1 vs Q acc ρ' := by unfold kBk; rw [e]; exact h
theorem k_lc {t : Tg} {tt : M Bool} {me : M D} {vs : List Nat} {Q : Sl → En → Prop} {ds : List D} {ρ2 : En} (c : clearE ρ vs = true) (e : wipeE ρ vs = ρ2) (h : Wk t tt me vs ds ρ2 [] (kBk ρ vs Q)) : kLc t tt me vs Q ds ρ := ⟨c, by rw [e]; exact h⟩
theorem e_lc {mi : M (List D)} {t : Tg} {tt : M Bool} {me : M D} {vs : List Nat} {Q : Sl → En → Prop} (h : We mi ρ (kLc t tt me vs Q) X) : We (mLc mi t tt me vs) ρ Q X := by
  rw [We_mLc]
  unfold We at *
  cases e : mi ρ with
  | ok ds ρ1 =>
    rw [e] at h
    obtain ⟨h1, h2⟩ := h
    unfold mLc bnd ret
    simp only [h1, if_true]
    unfold Wk at h2
    cases z : runLc t tt me vs ds (wipeE ρ1 vs) [] with
    | none => rw [z] at h2; exact h2.elim
    | some p => rw [z] at h2; exact h2
  | ex _ _ _ _ => rw [e] at h; exact h
  | no => rw [e] at h; exact h
theorem e_opt {Q : α → En → Prop} {o : Option α} {a : α} (e : o = some a) (h : Q a ρ) : We (opt o) ρ Q X := by rw [e]; exact h
theorem f_ok {o : Ou} {Q : Sl → List D → Prop} {X : XB} {s : Sl} {b : List D} (e : o = .ok s b) (h : Q s b) : Wf o Q X := by rw [e]; exact h
theorem f_ex {o : Ou} {Q : Sl → List D → Prop} {X : XB} {c f : Str} {d : D} {b : List D} (e : o = .ex c f d b) (h : X c f d b) : Wf o Q X := by rw [e]; exact h
end
end Mir

namespace Mir
open PySem PySem.Spec PyProof.Rows L2
/-! ### == of own objects -/
/-- the class cn has an __eq__ of its own, whose mirror is f -/
structure OwnM (P : Program) (w : World) (K : PySem.W.Frag) (mg : Str → Option Value) (base : Heap) (cl : Str → Addr) (k : Nat) (cn : Str) (f : List Sl → Ou) : Prop where
  ex : ∃ fa fd ps, FnOk P w K mg base (L2.CX P w) k fa fd ps (spM K cl 2 none f) ∧ PySem.W.findIn K (.ref (cl cn)) "__eq__" = some (some (.ref fa)) ∧ PySem.W.isFn K (.ref fa) = true ∧ Binds K fd ps []
  ne : PySem.W.findIn K (.ref (cl cn)) "__ne__" = some (some (.builtin "object.__ne__"))
  hm : PySem.W.mroIn K (cl cn) (.type "object") = some true
theorem fn_calm {P : Program} {w : World} {K : PySem.W.Frag} {mg : Str → Option Value} {base : Heap} {k : Nat} {fa : Addr} {fd : FuncData} {ps : List Str} {sp : Sp} (F : FnOk P w K mg base (L2.CX P w) k fa fd ps sp) : FnOk P w K mg base CX0 k fa fd ps (fun vs H Q _ => sp vs H Q E0) :=
  ⟨fun vs H Q E h => F.len vs H Q E0 h, fun A outer s H args us vs Q E hr he hb hv h => codeAny_mono (F.run A outer s H args us vs Q E0 hr he hb hv h) fun r s' q => by
    match r, q with
    | .error _, q => exact (cx_false q).elim
    | .ok (.ret _), q => exact q
    | .ok .next, q => exact q.elim
    | .ok .brk, q => exact q.elim
    | .ok .cont, q => exact q.elim⟩
theorem OwnM.e {P : Program} {w : World} {K : PySem.W.Frag} {mg : Str → Option Value} {base : Heap} {cl : Str → Addr} {k : Nat} {cn : Str} {f : List Sl → Ou} (O : OwnM P w K mg base cl k cn f) : My.OwnE P w K mg base k (cl cn) (fun vs H Q _ => spM K cl 2 none f vs H Q E0) := by
  obtain ⟨fa, fd, ps, F, h1, h2, h3⟩ := O.ex
  exact ⟨⟨fa, fd, ps, fn_calm F, h1, h2, h3⟩, O.ne, O.hm⟩
def turnB (neg : Bool) : Bool → Bool := fun b => if neg then !b else b
def dEqO (f : List Sl → Ou) (cn : Str) (neg : Bool) (d1 d2 : D) : Option D := match d1, d2 with
  | .ob c1 n1 e1, .ob c2 n2 e2 => if c1 = cn ∧ c2 = cn then (match f [.va (.ob c1 n1 e1), .va (.ob c2 n2 e2)] with
    | .ok (.va (.bl b)) _ => some (.bl (turnB neg b))
    | _ => none) else none
  | d1, d2 => if neg then dNe d1 d2 else dEq d1 d2
section
variable {X : Cx} {c : Mc} {K : PySem.W.Frag} {cl : Str → Addr} {cn : Str} {f : List Sl → Ou} {k : Nat}
theorem Wd.cal {F H : Hp} {σ : L2.St} {ρ : En} {T : Tm} (w : Wd c F H σ ρ T) : Wd c.calm F H σ ρ T :=
  { len := w.len, sub := w.sub, ext := w.ext, new := w.new, keep := w.keep, va := w.va, ow := w.ow, tm := w.tm, dis := w.dis, dit := w.dit, nod := w.nod, bs := w.bs }
theorem Wd.uncal {F H : Hp} {σ : L2.St} {ρ : En} {T : Tm} (w : Wd c.calm F H σ ρ T) : Wd c F H σ ρ T :=
  { len := w.len, sub := w.sub, ext := w.ext, new := w.new, keep := w.keep, va := w.va, ow := w.ow, tm := w.tm, dis := w.dis, dit := w.dit, nod := w.nod, bs := w.bs }
theorem own_run {neg : Bool} {F H : Hp} {σ : L2.St} {ρ : En} {T : Tm} {x y : V} {c1 c2 : Str} {n1 n2 : List Str} {e1 e2 : List D} {d : D} {Q : VK} (w : Wd c F H σ ρ T) (r1 : c.rep F x (.ob c1 n1 e1)) (r2 : c.rep F y (.ob c2 n2 e2)) (h : dEqO f cn neg (.ob c1 n1 e1) (.ob c2 n2 e2) = some d) (q : ∀ F' H', Same F F' → kE c T σ Q d ρ F' H') :
    My.rOwnE (c.cl cn) (fun vs H Q _ => spM c.K c.cl 2 none f vs H Q E0) (turnB neg) x y H Q := by
  unfold dEqO at h
  simp only at h
  by_cases z : c1 = cn ∧ c2 = cn
  · rw [if_pos z] at h
    obtain ⟨rfl, rfl⟩ := z
    cases hf : f [.va (.ob c2 n1 e1), .va (.ob c2 n2 e2)] with
    | no => rw [hf] at h; cases h
    | ex _ _ _ _ => rw [hf] at h; cases h
    | ok s bb =>
      rw [hf] at h
      cases s with
      | ow _ => cases h
      | va dd =>
        cases dd with
        | bl b =>
          cases h
          cases r1 with
          | ob hp hl hs =>
            cases r2 with
            | ob hp' hl' hs' =>
              refine ⟨_, _, _, _, _, _, rfl, rfl, w.sub _ _ hp, w.sub _ _ hp', ?_⟩
              refine sp_of (c := c.calm) (om := none) (md := [.v, .v]) (ds := [.ob c2 n1 e1, .ob c2 n2 e2]) (ρ := ρ) (T := T) (σ := σ) (F := F) rfl rfl rfl w.cal (.v (.ob hp hl hs) (.v (.ob hp' hl' hs') .nil)) ?_
              have e : callM f none [.v, .v] [.ob c2 n1 e1, .ob c2 n2 e2] ρ = .ok (.va (.bl b)) ρ := by
                unfold callM
                simp [sls, hf, hasB, outE]
              rw [e]
              intro F' H' s w' v rv
              cases rv
              exact ⟨b, rfl, q F' H' s w'.uncal _ (.bl _)⟩
        | _ => cases h
  · rw [if_neg z] at h; cases h
def rEqU (K : PySem.W.Frag) (C : Addr) (sp : Sp) : R2 := fun x y H Q => rEqD K x y H Q ∨ My.rOwnE C sp id x y H Q
def rNeU (K : PySem.W.Frag) (C : Addr) (sp : Sp) : R2 := fun x y H Q => rNeD K x y H Q ∨ My.rOwnE C sp (!·) x y H Q
theorem op_eqU {n : Nat} {C : Addr} {sp : Sp} (O : My.OwnE X.prog X.w X.K X.mg X.base n C sp) {j : Nat} (hr : Room j X.A) (hk : n ≤ j) (hu : X.A.units + 64 < cLine) : OpR X (compareOp .Eq) (rEqU X.K C sp) :=
  fun pins s σ H x y v u Q I rx ry h => h.elim (op_eqD hu pins s σ H x y v u Q I rx ry) (My.op_eqB O (hr.mono hk) pins s σ H x y v u Q I rx ry)
theorem op_neU {n : Nat} {C : Addr} {sp : Sp} (O : My.OwnE X.prog X.w X.K X.mg X.base n C sp) {j : Nat} (hr : Room j X.A) (hk : n + 1 ≤ j) (hu : X.A.units + 64 < cLine) : OpR X (compareOp .NotEq) (rNeU X.K C sp) :=
  fun pins s σ H x y v u Q I rx ry h => h.elim (op_neD hu pins s σ H x y v u Q I rx ry) (My.op_neB O (hr.mono hk) pins s σ H x y v u Q I rx ry)
theorem o_eqU (hK : c.K = K) (hcl : c.cl = cl) : Op2 c (kE c) (rEqU K (cl cn) (fun vs H Q _ => spM K cl 2 none f vs H Q E0)) (dEqO f cn false) := by
  subst hK hcl
  constructor
  intro F H σ ρ T x y d1 d2 d Q w n1 n2 h q
  by_cases z : (∃ c1 m1 e1, d1 = .ob c1 m1 e1) ∧ ∃ c2 m2 e2, d2 = .ob c2 m2 e2
  · obtain ⟨⟨c1, m1, e1, rfl⟩, c2, m2, e2, rfl⟩ := z
    exact .inr (own_run (neg := false) w n1 n2 h q)
  · refine .inl ((o_eq (c := c) rfl).run w n1 n2 ?_ q)
    unfold dEqO at h
    split at h
    · exact absurd ⟨⟨_, _, _, rfl⟩, _, _, _, rfl⟩ z
    · exact h
theorem o_neU (hK : c.K = K) (hcl : c.cl = cl) : Op2 c (kE c) (rNeU K (cl cn) (fun vs H Q _ => spM K cl 2 none f vs H Q E0)) (dEqO f cn true) := by
  subst hK hcl
  constructor
  intro F H σ ρ T x y d1 d2 d Q w n1 n2 h q
  by_cases z : (∃ c1 m1 e1, d1 = .ob c1 m1 e1) ∧ ∃ c2 m2 e2, d2 = .ob c2 m2 e2
  · obtain ⟨⟨c1, m1, e1, rfl⟩, c2, m2, e2, rfl⟩ := z
    exact .inr (own_run (neg := true) w n1 n2 h q)
  · refine .inl ((o_ne (c := c) rfl).run w n1 n2 ?_ q)
    unfold dEqO at h
    split at h
    · exact absurd ⟨⟨_, _, _, rfl⟩, _, _, _, rfl⟩ z
    · exact h
end
end Mir

namespace Mir
open PySem PySem.Spec PyProof.Rows L2
section
variable {X : Cx} {c : Mc} {K : PySem.W.Frag} {F H : Hp} {σ : L2.St} {e o : Expr} {apos cpos : Pos} {mo me : M D}
/-! ### list.count and list.index of flat things -/
def rCntL (K : PySem.W.Frag) : V → List V → Hp → VK → Prop := fun x xs H Q => ∃ (a : Addr) (ys : List V) (y : V), x = V.ref a ∧ xs = [y] ∧ SqL K H a ys ∧ flatV y = true ∧ ys.all flatV = true ∧ Q (.int ((ys.countP fun z => eqV z y : Nat) : Int)) H
theorem cnt_vals {y : V} : ∀ {ys : List V} {its : List Value}, Vals ys its → ys.all flatV = true → its.countP (eqU y) = ys.countP fun z => eqV z y
  | _, _, .nil, _ => rfl
  | _, _, .cons r rs, h => by
    rw [List.all_cons, Bool.and_eq_true] at h
    rw [List.countP_cons, List.countP_cons, cnt_vals rs h.2, eqU_of r h.1]
theorem mt_cntL : MtR X "list.count" (rCntL X.K) := by
  intro pins s σ H x xs v us Q I rx rxs h
  obtain ⟨a, ys, y, rfl, rfl, hs, fy, fys, q⟩ := h
  cases rx
  cases rxs with
  | cons ry rt =>
    rename_i uy ut
    cases rt
    obtain ⟨its, rv, ⟨⟨cls, dd, data, sl⟩, n, ho, hc, hdn, hd⟩, hlen⟩ := I.list hs
    simp only at hc hd
    subst hc hd
    refine call_meets PySem.F.slot_list_count ⟨_, ho, rfl⟩ PySem.F.entry_list_count (PySem.F.args_list_count_2 _ _)
      (SeqAt.list_countAt a its.toArray n dd sl uy (eqU y)) ⟨ho, fun u' hu' => mem_eqAt ry fy rv fys u' (by simpa using hu'), ?_⟩
    have ec : its.toArray.toList.countP (eqU y) = ys.countP fun z => eqV z y := by rw [show its.toArray.toList = its by simp, cnt_vals rv fys]
    rw [ec]
    exact ⟨.int ((ys.countP fun z => eqV z y : Nat) : Int), H, I.tok _, ⟨_, rfl⟩, q⟩
def idxD (ds : List D) (y : D) : Option D := if flatD y = true ∧ ds.all flatD = true then (ds.findIdx? fun z => eqF z y).map fun j => .int (j : Nat) else none
def cntD (ds : List D) (y : D) : Option D := if flatD y = true ∧ ds.all flatD = true then some (.int ((ds.countP fun z => eqF z y : Nat) : Int)) else none
def lstM (f : List D → D → Option D) (mo me : M D) : M D := bnd mo fun d => match d with
  | .lst ds => bnd me fun y => opt (f ds y)
  | _ => fun _ => .no
theorem reps_get {vs : List V} {ds : List D} (r : c.reps F vs ds) {j : Nat} {d : D} (h : ds[j]? = some d) : ∃ v, vs[j]? = some v ∧ c.rep F v d := r.get h
theorem cnt_reps {y : V} {d : D} (h : flatD d = true) (r : c.rep F y d) : ∀ {vs : List V} {ds : List D}, c.reps F vs ds → ds.all flatD = true → vs.countP (fun z => eqV z y) = ds.countP fun z => eqF z d
  | _, _, .nil, _ => rfl
  | _, _, .cons g gs, hh => by
    rw [List.all_cons, Bool.and_eq_true] at hh
    rw [List.countP_cons, List.countP_cons, cnt_reps h r gs hh.2, (flat_rep h r).2 hh.1 g]
theorem flat_all {vs : List V} {ds : List D} (r : c.reps F vs ds) (h : ds.all flatD = true) : vs.all flatV = true := (in_reps (c := c) (F := F) (d := .non) (v := .non) rfl .non r h).1
theorem lst_le {r : V → List V → Hp → VK → Prop} {f : List D → D → Option D} {Q : VK} (hr : ∀ {F H σ ρ T a vs ds v y d} {Q : VK}, Wd c F H σ ρ T → F a = some (.lst vs) → c.reps F vs ds → c.rep F v y → f ds y = some d → (∀ F' H', Same F F' → kE c T σ Q d ρ F' H') → r (.ref a) [v] H Q)
    (h : tE c (lstM f mo me) σ H Q) : tBM c.K "list" r (tE c mo) (tCons (tE c me) tNil) σ H Q := by
  obtain ⟨F, ρ, T, w, g⟩ := h
  refine ⟨F, ρ, T, w, g.split.imp fun d ρ1 F1 H1 s1 g1 w1 x rx => ?_⟩
  cases d with
  | lst ds =>
    cases rx with
    | lst ha hs =>
      refine ⟨tyL (w1.sub _ _ ha), F1, ρ1, T, w1, g1.split.imp fun y ρ2 F2 H2 s2 g2 w2 v rv => ?_⟩
      obtain ⟨d, hd, k⟩ := g2.opt
      exact hr w2 (s2 _ _ ha) (hs.same s2) rv hd k
  | _ => exact g1.elim
theorem idx_run {ρ : En} {T : Tm} {a : Addr} {vs : List V} {ds : List D} {v : V} {y d : D} {Q : VK} (w : Wd c F H σ ρ T) (ha : F a = some (.lst vs)) (hs : c.reps F vs ds) (rv : c.rep F v y) (h : idxD ds y = some d) (k : ∀ F' H', Same F F' → kE c T σ Q d ρ F' H') : rIndex c.K (.ref a) [v] H Q := by
  unfold idxD at h
  split at h
  · rename_i hc
    cases hf : ds.findIdx? (fun z => eqF z y) with
    | none => rw [hf] at h; cases h
    | some j =>
      rw [hf] at h
      cases h
      obtain ⟨hj, h1, h2⟩ := List.findIdx?_eq_some_iff_getElem.mp hf
      obtain ⟨z, hz, rz⟩ := hs.get (List.getElem?_eq_getElem hj)
      have fz := List.all_eq_true.mp hc.2 _ (List.getElem_mem hj)
      refine ⟨a, vs, v, j, z, rfl, rfl, SqL.of (w.sub _ _ ha), (flat_rep hc.1 rv).1, flat_all hs hc.2, hz, ?_, fun m z' hm hz' => ?_, k F H (Same.refl _) w _ (.int _)⟩
      · rw [(flat_rep hc.1 rv).2 fz rz]; exact h1
      · obtain ⟨e, he, re⟩ := hs.getV hz'
        have hml : m < ds.length := by omega
        rw [List.getElem?_eq_getElem hml] at he
        cases he
        rw [(flat_rep hc.1 rv).2 (List.all_eq_true.mp hc.2 _ (List.getElem_mem hml)) re]
        have := h2 m hm
        simpa using this
  · cases h
theorem cnt_run {ρ : En} {T : Tm} {a : Addr} {vs : List V} {ds : List D} {v : V} {y d : D} {Q : VK} (w : Wd c F H σ ρ T) (ha : F a = some (.lst vs)) (hs : c.reps F vs ds) (rv : c.rep F v y) (h : cntD ds y = some d) (k : ∀ F' H', Same F F' → kE c T σ Q d ρ F' H') : rCntL c.K (.ref a) [v] H Q := by
  unfold cntD at h
  split at h
  · rename_i hc
    cases h
    refine ⟨a, vs, v, rfl, rfl, SqL.of (w.sub _ _ ha), (flat_rep hc.1 rv).1, flat_all hs hc.2, ?_⟩
    rw [cnt_reps hc.1 rv hs hc.2]
    exact k F H (Same.refl _) w _ (.int _)
  · cases h
theorem g_idx (hK : c.K = X.K) {x : Expr} (h : PE X x (tBM X.K "list" (rIndex X.K) (tE c mo) (tCons (tE c me) tNil))) : PE X x (tE c (lstM idxD mo me)) := peI h fun σ H Q q => by
  rw [← hK]
  exact lst_le (fun w ha hs rv hd k => idx_run w ha hs rv hd k) q
theorem g_cnt (hK : c.K = X.K) {x : Expr} (h : PE X x (tBM X.K "list" (rCntL X.K) (tE c mo) (tCons (tE c me) tNil))) : PE X x (tE c (lstM cntD mo me)) := peI h fun σ H Q q => by
  rw [← hK]
  exact lst_le (fun w ha hs rv hd k => cnt_run w ha hs rv hd k) q
/-! ### str of a number -/
def strD : D → Option D
  | .int i => if Nat.blt i.natAbs 18446744073709551616 = true then some (.str (Str.ofString (toString i))) else none
  | _ => none
theorem o_str : OpN c (kE c) (fun xs H Q => ∃ i, xs = [.int i] ∧ i.natAbs.log2 < 1920 ∧ Q (.str (toString i)) H) (f1 strD) := opN1 fun {F H σ ρ T x d1 d Q} w n h k => by
  unfold strD at h
  split at h
  · rename_i i
    cases now_int n
    split at h
    · rename_i hb
      cases h
      refine ⟨i, rfl, ?_, k F H (Same.refl _) w _ (.str _)⟩
      have hb := Nat.blt_eq.mp hb
      by_cases hz : i.natAbs = 0
      · rw [hz]; decide
      · exact (Nat.log2_lt hz).mpr (Nat.lt_of_lt_of_le (show i.natAbs < 2 ^ 64 by simpa using hb) (Nat.pow_le_pow_right (by decide) (by decide)))
    · cases h
  · cases h
end
end Mir

namespace Mir
open PySem PySem.Spec PyProof.Rows L2
section
variable {α β : Type} {ρ : En} {X : XP}
theorem e_iteT {Q : α → En → Prop} {p : Prop} [Decidable p] {a b : M α} (h : p) (g : We a ρ Q X) : We (if p then a else b) ρ Q X := by rw [if_pos h]; exact g
def kMk (cn : Str) (Q : Sl → En → Prop) (r : Sl) (ρ : En) : Prop := match r with
  | .va (.ob c1 ns es) => c1 = cn ∧ Q (.va (.ob c1 ns es)) ρ
  | _ => False
theorem k_mk {cn : Str} {Q : Sl → En → Prop} {ns : List Str} {es : List D} (h : Q (.va (.ob cn ns es)) ρ) : kMk cn Q (.va (.ob cn ns es)) ρ := ⟨rfl, h⟩
theorem e_mk {f : List Sl → Ou} {cn : Str} {ds : List D} {as : List Sl} {Q : Sl → En → Prop} (n : ds.map Sl.va = as) (h : Wf (f as) (fun r _ => kMk cn Q r ρ) (fun x g d _ => X x g d ρ)) : We (mkA f cn ds) ρ Q X := by
  unfold We mkA
  rw [n]
  cases e : f as with
  | ok r b =>
    rw [e] at h
    cases r with
    | ow _ => exact h.elim
    | va d =>
      cases d with
      | ob c1 ns es =>
        obtain ⟨rfl, h⟩ := (h : _ ∧ _)
        simp only [if_true]
        exact h
      | _ => exact h.elim
  | ex x g d b => rw [e] at h; exact h
  | no => rw [e] at h; exact h
theorem k_ob {cn fn : Str} {d : D} {G : Prop} (e : isOb cn fn d = true) (h : G) : isOb cn fn d = true ∧ G := ⟨e, h⟩
theorem e_mth {f : List Sl → Ou} {cn fn : Str} {md : List Md} {mo : M D} {ms : M (List D)} {Q : Sl → En → Prop} (h : We mo ρ (fun d ρ' => isOb cn fn d = true ∧ We (bnd ms fun ds => callM f none (.v :: md) (d :: ds)) ρ' Q X) X) : We (mthA f cn fn md mo ms) ρ Q X := by
  unfold mthA
  refine e_bnd ?_
  unfold We at h ⊢
  cases e : mo ρ with
  | ok d ρ' =>
    rw [e] at h
    obtain ⟨h1, h2⟩ := h
    simp only [h1, if_true]
    exact h2
  | ex _ _ _ _ => rw [e] at h; exact h
  | no => rw [e] at h; exact h
theorem e_mth0 {f : List Sl → Ou} {cn fn : Str} {mo : M D} {Q : Sl → En → Prop} (h : We mo ρ (fun d ρ' => isOb cn fn d = true ∧ We (callM f none [.v] [d]) ρ' Q X) X) : We (mth0 f cn fn mo) ρ Q X := by
  unfold mth0
  refine e_bnd ?_
  unfold We at h ⊢
  cases e : mo ρ with
  | ok d ρ' =>
    rw [e] at h
    obtain ⟨h1, h2⟩ := h
    simp only [h1, if_true]
    exact h2
  | ex _ _ _ _ => rw [e] at h; exact h
  | no => rw [e] at h; exact h
theorem e_lst {f : List D → D → Option D} {mo me : M D} {Q : D → En → Prop} (h : We mo ρ (fun d ρ' => lsW d fun ds => We me ρ' (fun y ρ2 => We (opt (f ds y)) ρ2 Q X) X) X) : We (lstM f mo me) ρ Q X := by
  unfold lstM
  refine e_bnd ?_
  unfold We at h ⊢
  cases e : mo ρ with
  | ok d ρ' =>
    rw [e] at h
    cases d with
    | lst ds => exact (e_bnd (m := me) (k := fun y => opt (f ds y)) h)
    | _ => exact h
  | ex _ _ _ _ => rw [e] at h; exact h
  | no => rw [e] at h; exact h
theorem k_lsW {ds : List D} {k : List D → Prop} (h : k ds) : lsW (.lst ds) k := h
theorem d_str {Q : D → En → Prop} {i : Int} (g0 : -18446744073709551616 < i) (g1 : i < 18446744073709551616) (h : Q (.str (Str.ofString (toString i))) ρ) : We (opt (f1 strD [.int i])) ρ Q X := by
  rw [show f1 strD [D.int i] = some (.str (Str.ofString (toString i))) from if_pos (blt_of (by omega))]
  exact h
theorem d_pow30 {Q : D → En → Prop} (h : Q (.int 1000000000000000000000000000000) ρ) : We (opt (dPow (.int 10) (.int 30))) ρ Q X := h
end
end Mir

namespace Mir
open PySem PySem.Spec PyProof.Rows L2
/-! ### names of the module: tuples, dicts with texts as keys -/
/-- the name holds d, which is never changed -/
def KcV (K : PySem.W.Frag) (cl : Str → Addr) (mg : Str → Option Value) (x : Str) (d : D) : Prop := ∃ v u, mg x = some u ∧ RelV v u ∧ ∀ F, Rep K cl F v d
/-- the name holds a dict; tab: what stands under a text -/
def KtV (K : PySem.W.Frag) (w : World) (cl : Str → Addr) (mg : Str → Option Value) (x : Str) (tab : Str → Option D) : Prop := ∃ a, mg x = some (.ref a) ∧ ∀ z d, tab z = some d → ∃ v, KDct K w a z v ∧ ∀ F, Rep K cl F v d
def dKt (tab : Str → Option D) : D → Option D
  | .str z => tab z
  | _ => none
section
variable {X : Cx} {c : Mc} {K : PySem.W.Frag} {cl : Str → Addr} {F F' F0 H H' H0 : Hp} {σ : L2.St} {ρ ρ' : En} {T T' : Tm} {α β : Type} {e a b tg : Expr} {es rest : List Expr} {pos p : Pos} {x : V} {d : D} {i j l : Nat} {m : M D} {ms : M (List D)}
theorem me_kc {x : Str} (h : KcV X.K cl X.mg x d) (hK : c.K = X.K) (hcl : c.cl = cl) (hg : Gl X x) (hd : (x == ("__debug__" : Str)) = false := by decide) : PE X (.Name x pos) (tE c (ret d)) := by
  obtain ⟨v, u, h1, h2, h3⟩ := h
  refine me_c (pe_glob hg h1 h2 hd) fun F => ?_
  show Rep c.K c.cl F v d
  rw [hK, hcl]
  exact h3 F
theorem g_kt {x : Str} {tab : Str → Option D} (h : KtV X.K X.w cl X.mg x tab) (hK : c.K = X.K) (hcl : c.cl = cl) (hg : Gl X x) (hb : PE X b (tE c m)) (hs : PlainIx b) (hd : (x == ("__debug__" : Str)) = false := by decide) : PE X (.Subscript (.Name x p) b pos) (tE c (un (dKt tab) m)) := by
  obtain ⟨a, h1, h2⟩ := h
  refine peI (pe_ix ix_kdict (pe_glob (v := .ref a) hg h1 rfl hd) hb hs) fun σ H Q ⟨F, ρ, T, w, g⟩ => ⟨F, ρ, T, w, g.split.imp fun d ρ1 F1 H1 s1 g1 w1 y ry => ?_⟩
  obtain ⟨d', hd', k⟩ := g1.opt
  unfold dKt at hd'
  split at hd'
  · rename_i z
    cases ry
    obtain ⟨v, q1, q2⟩ := h2 _ _ hd'
    refine ⟨a, z, v, rfl, rfl, q1, k F1 H1 (Same.refl _) w1 v ?_⟩
    show Rep c.K c.cl F1 v d'
    rw [hK, hcl]
    exact q2 F1
  · cases hd'

/-! ### (a, *xs) -/
def sCons (m : M D) (ms : M (List D)) : M (List D) := bnd m fun d => bnd (opt (seqD d)) fun xs => bnd ms fun ds => ret (xs ++ ds)
theorem md_star {p : Pos} (hK : c.K = X.K) (h : PE X e (tE c m)) (hs : PA X es (tD c ms)) (hq : starEach (.Starred e p :: es) X.env = (true, eval e X.env) :: starEach es X.env := by rfl) : PA X (.Starred e p :: es) (tD c (sCons m ms)) :=
  paI (StX.pa_star h hs hq) fun σ H Q ⟨F, ρ, T, w, g⟩ => ⟨F, ρ, T, w, g.split.imp fun d ρ1 F1 H1 s1 g1 w1 v rv => by
    obtain ⟨xs, hx, k⟩ := g1.split.opt
    have k := k F1 H1 (Same.refl _)
    have go : ∀ (a : Addr) (vs : List V), v = .ref a → (SqT X.K H1 a vs ∨ SqL X.K H1 a vs) → c.reps F1 vs xs → ∃ a xs, v = .ref a ∧ (SqT X.K H1 a xs ∨ SqL X.K H1 a xs) ∧ tD c ms σ H1 fun ws H2 => Q (xs ++ ws) H2 := fun a vs e1 e2 e3 =>
      ⟨a, vs, e1, e2, F1, ρ1, T, w1, (Go.split k).imp fun ds ρ2 F2 H2 s2 g2 w2 us rs => g2 F2 H2 (Same.refl _) w2 _ ((e3.same s2).append rs)⟩
    cases d with
    | lst ds =>
      cases hx
      cases rv with
      | lst h1 h2 => exact go _ _ rfl (.inr (SqL.of (w1.sub _ _ h1))) h2
    | tup ds =>
      cases hx
      cases rv with
      | tup h1 h2 => exact go _ _ rfl (.inl (by rw [← hK]; exact (h1.same w1.sub).t)) h2
    | scr ns =>
      cases hx
      cases rv with
      | scr h1 => exact go _ _ rfl (.inr (by rw [← hK]; exact w1.sub.seq h1)) (Reps.ints _)
    | _ => cases hx⟩

/-! ### divmod -/
def divmodD : D → D → Option D
  | .int i, .int j => if cDiv i j = true then some (.tup [.int (i / j), .int (i % j)]) else none
  | _, _ => none
theorem o_divmod : OpN c (kE c) (fun xs H Q => ∃ i j, xs = [.int i, .int j] ∧ CDiv i j ∧ ∀ p, H p = none → Q (.ref p) (upd H p (.tup [.int (i / j), .int (i % j)]))) (f2 divmodD) := opN2 fun {F H σ ρ T x y d1 d2 d Q} w n1 n2 h k => by
  unfold divmodD at h
  split at h
  · cases now_int n1
    cases now_int n2
    split at h
    · cases h
      exact ⟨_, _, rfl, cDiv_ok ‹_›, fun p hp => new_tup w hp (.cons (.int _) (.cons (.int _) .nil)) k⟩
    · cases h
  · cases h

/-! ### xs[::-1], xs a list that never changes -/
def dRevL : D → Option Sl
  | .lst ds => some (.ow ds.reverse)
  | _ => none
theorem g_revL {k : Nat} {p1 p2 p3 : Pos} (hK : c.K = X.K) (ha : PE X a (tE c m)) : PE X (.Subscript a (.Slice none none (some (.UnaryOp .USub (.Constant (.int 1) k p1) p2)) p3) pos) (tL c (bnd m fun d => opt (dRevL d))) :=
  peI (pe_revL ha) fun σ H Q ⟨F, ρ, T, w, g⟩ => ⟨F, ρ, T, w, g.split.imp fun d ρ1 F1 H1 s1 g1 w1 v rv => by
    obtain ⟨s, hs, k⟩ := g1.opt
    cases d with
    | lst ds =>
      obtain ⟨a, vs, rfl, h1, h2⟩ := now_lst (now_of w1.sub rv)
      cases hs
      exact ⟨a, vs, rfl, (by rw [← hK]; exact SqL.of h1), fun p hp => new_lst w1 hp h2.reverse k⟩
    | _ => cases hs⟩

/-! ### a ^ b -/
def dXor := iI cT Builtin.bitXor
theorem o_xor : Op2 c (kE c) (rI0 fun i j => .int (Builtin.bitXor i j)) dXor := rI0_ok

/-! ### xs.insert(i, y) -/
def insS (i : Nat) (mk my : M D) : MS := hasO i (thenS mk fun dk => thenS my fun dy => updO i fun ds => match dk with
  | .int k => if 0 ≤ k ∧ Nat.blt k.natAbs 100000 = true ∧ ds.length < 100000 then some (ds.take k.toNat ++ [dy] ++ ds.drop k.toNat) else none
  | _ => none)
theorem ins_le {mk my : M D} {E : Ends} (h : tS c (insS i mk my) E σ H) : tDrop (tBM K "list" (fun x vs H Q => ∃ (l : Addr) (xs : List V) (i : Int) (y : V), x = .ref l ∧ vs = [.int i, y] ∧ H l = some (.lst xs) ∧ xs.length < sizeLine ∧ 0 ≤ i ∧ i < 2 ^ 63 ∧
    Q .non (upd H l (.lst (xs.take i.toNat ++ [y] ++ xs.drop i.toNat)))) (tVar i) (tCons (tE c mk) (tCons (tE c my) tNil))) E σ H := by
  obtain ⟨F, ρ, T, w, g⟩ := h
  obtain ⟨a, vs, h1, h2, g⟩ := GoS.hasO w g
  refine ⟨.ref a, h1, tyL h2, F, ρ, T, w, g.split.imp fun dk ρ1 F1 H1 s1 g1 w1 v rv => ⟨F1, ρ1, T, w1, g1.split.imp fun dy ρ2 F2 H2 s2 g2 w2 u ru => ?_⟩⟩
  obtain ⟨ds, es, us, q1, q2, q3, q4⟩ := GoS.updO w2 h1 g2
  cases dk with
  | int k =>
    change (if 0 ≤ k ∧ Nat.blt k.natAbs 100000 = true ∧ ds.length < 100000 then some (ds.take k.toNat ++ [dy] ++ ds.drop k.toNat) else none) = some es at q3
    by_cases hc : 0 ≤ k ∧ Nat.blt k.natAbs 100000 = true ∧ ds.length < 100000
    · rw [if_pos hc] at q3
      cases q3
      cases rv
      obtain ⟨c1, c2, c3⟩ := hc
      have c2 := blt_ok c2
      exact ⟨a, us, k, u, rfl, rfl, q1, by rw [q2.len]; exact lims (Nat.le_of_lt c3), c1, by omega, q4 _ (((q2.take _).append (.cons ru .nil)).append (q2.drop _))⟩
    · rw [if_neg hc] at q3
      cases q3
  | _ => cases q3
theorem ms_ins {mk my : M D} {st : Stmt} (h : PS X st (tDrop (tBM X.K "list" (fun x vs H Q => ∃ (l : Addr) (xs : List V) (i : Int) (y : V), x = .ref l ∧ vs = [.int i, y] ∧ H l = some (.lst xs) ∧ xs.length < sizeLine ∧ 0 ≤ i ∧ i < 2 ^ 63 ∧
    Q .non (upd H l (.lst (xs.take i.toNat ++ [y] ++ xs.drop i.toNat)))) (tVar i) (tCons (tE c mk) (tCons (tE c my) tNil))))) : PS X st (tS c (insS i mk my)) := psI h fun _ _ _ q => ins_le q
end
end Mir

namespace Mir
open PySem PySem.Spec PyProof.Rows L2
section
variable {X : Cx} {c : Mc} {K : PySem.W.Frag} {cl : Str → Addr} {F F' F0 H H' H0 : Hp} {σ : L2.St} {ρ ρ' : En} {T T' : Tm} {α β : Type} {e a b tg : Expr} {es rest : List Expr} {pos p : Pos} {x : V} {d : D} {i j l : Nat} {m : M D} {ms : M (List D)}
/-! ### comprehensions with two fors -/
def runLc2 (t : Tg) (tt : M Bool) (mi1 : M (List D)) (t1 : Tg) (tt1 : M Bool) (me : M D) (vs vs1 : List Nat) : List D → En → List D → Option (List D × En)
  | [], ρ, acc => some (acc, ρ)
  | d :: ds, ρ, acc => match t d ρ with
    | none => none
    | some ρ1 => match tt ρ1 with
      | .ok k ρ2 => if k = true then (match mi1 ρ2 with
          | .ok ds1 ρ3 => (match runLc t1 tt1 me vs1 ds1 (wipeE ρ3 vs1) acc with
            | some (acc', ρ4) => runLc2 t tt mi1 t1 tt1 me vs vs1 ds (wipeE ρ4 vs) acc'
            | none => none)
          | _ => none) else runLc2 t tt mi1 t1 tt1 me vs vs1 ds (wipeE ρ2 vs) acc
      | _ => none
def mLc2 (mi : M (List D)) (t : Tg) (tt : M Bool) (mi1 : M (List D)) (t1 : Tg) (tt1 : M Bool) (me : M D) (vs vs1 : List Nat) : M Sl := bnd mi fun ds => fun ρ =>
  if clearE ρ vs = true then (match runLc2 t tt mi1 t1 tt1 me vs vs1 ds (wipeE ρ vs) [] with
    | some (acc, ρ') => .ok (.ow acc) (back ρ ρ' vs)
    | none => .no) else .no
theorem wipe_wipe {vs vs1 : List Nat} (hv : ∀ j ∈ vs1, j ∈ vs) : L2.wipe (L2.wipe σ vs1) vs = L2.wipe σ vs := wipe_eq (wipe_length ..) fun j hj => wipe_get fun z => hj (hv j z)
theorem lc2_le {mi mi1 : M (List D)} {t t1 : Tg} {ts ts1 vs vs1 : List Nat} {tt tt1 : M Bool} {me : M D} (hb : ∀ v ∈ vs, ∀ a, (v, a) ∉ c.bi) (hts : ∀ j ∈ ts, j ∈ vs) (hts1 : ∀ j ∈ ts1, j ∈ vs1) (hv : ∀ j ∈ vs1, j ∈ vs) {σ : L2.St} {H : Hp} {Q : VK} (h : tL c (mLc2 mi t tt mi1 t1 tt1 me vs vs1) σ H Q) :
    tLc2 (tI c mi) (gM c.calm t ts) (tT c.calm tt) (tI c.calm mi1) (gM c.calm t1 ts1) (tT c.calm tt1) (tE c.calm me) vs vs1 σ H Q := by
  have hb1 : ∀ v ∈ vs1, ∀ a, (v, a) ∉ c.bi := fun v h => hb v (hv v h)
  obtain ⟨F, ρ, T, w, g⟩ := h
  refine ⟨F, ρ, T, w, g.split.imp fun ds ρ1 F1 H1 s1 g1 w1 J hJ Dn hD => ?_⟩
  have g1 : Go c F1 T σ (if clearE ρ1 vs = true then (match runLc2 t tt mi1 t1 tt1 me vs vs1 ds (wipeE ρ1 vs) [] with
    | some (acc, ρ') => Oc.ok (Sl.ow acc) (back ρ1 ρ' vs)
    | none => .no) else .no) (kL c T σ Q) := g1
  by_cases hcl : clearE ρ1 vs = true
  case neg => rw [if_neg hcl] at g1; exact g1.elim
  rw [if_pos hcl] at g1
  cases hrun : runLc2 t tt mi1 t1 tt1 me vs vs1 ds (wipeE ρ1 vs) [] with
  | none => rw [hrun] at g1; exact g1.elim
  | some ar =>
    obtain ⟨acc, ρe⟩ := ar
    rw [hrun] at g1
    have g1 : ∀ F' H', Same F1 F' → ∀ a, Wd c F' H' σ (back ρ1 ρe vs) ((a, acc) :: T) → Q (.ref a) H' := g1
    obtain ⟨G, Y, wk, hG, hY⟩ := hJ
    refine ⟨fun i m H' => m = ds.length - i ∧ i ≤ ds.length ∧ ∃ F2 ρ2 acc2, Same F1 F2 ∧ Wd c.calm F2 H' (L2.wipe σ vs) ρ2 ((Dn, acc2) :: T) ∧ runLc2 t tt mi1 t1 tt1 me vs vs1 (ds.drop i) ρ2 acc2 = some (acc, ρe), ⟨ds.length, by simp, Nat.zero_le _, F1, wipeE ρ1 vs, [], Same.refl _, ((w1.wipe vs hb).wish _).tmp hD .nil, hrun⟩, ?_⟩
    rintro i m H2 ⟨rfl, hi, F2, ρ2, acc2, s2, w2, run⟩
    by_cases hlt : i < ds.length
    case neg =>
      have e : i = ds.length := by omega
      subst e
      refine .inl ⟨wk.stops H2 (hG H2 (s2.trans w2.sub)), ?_⟩
      rw [List.drop_length] at run
      unfold runLc2 at run
      cases run
      exact g1 F2 H2 s2 Dn (w1.back w2.unwish s2 hcl hb)
    refine .inr ⟨wk.goes i H2 hlt (hG H2 (s2.trans w2.sub)), fun H' => ∃ F2 ρ2 acc2, Same F1 F2 ∧ Wd c.calm F2 H' (L2.wipe σ vs) ρ2 ((Dn, acc2) :: T) ∧ runLc2 t tt mi1 t1 tt1 me vs vs1 (ds.drop (i + 1)) ρ2 acc2 = some (acc, ρe), fun H' p' => ⟨ds.length - (i + 1), by omega, rfl, hlt, p'⟩, fun x H2' y => ?_⟩
    have y := wk.yields i H2 x H2' hlt (hG H2 (s2.trans w2.sub)) y
    obtain ⟨d, F3, hd, s3, w3, r3⟩ := WalkD.turn (c := c.calm) (J := J) (G := G) hY hlt s2 w2 y
    rw [drop_cons hd] at run
    unfold runLc2 at run
    cases ht : t d ρ2 with
    | none => simp only [ht] at run; cases run
    | some ρ3 =>
      simp only [ht] at run
      refine ⟨F3, ρ2, _, d, ρ3, w3, r3, ht, fun σ2 l2 a2 w4 => ?_⟩
      have we : L2.wipe σ2 vs = L2.wipe σ vs := by
        rw [wipe_eq (σ := L2.wipe σ vs) (σ' := σ2) l2 fun j hj => a2 j fun z => hj (hts j z)]
        exact wipe_eq (wipe_length ..) fun j hj => wipe_get hj
      refine ⟨we, F3, ρ3, _, w4, ?_⟩
      cases hk : tt ρ3 with
      | ex _ _ _ _ => simp only [hk] at run; cases run
      | no => simp only [hk] at run; cases run
      | ok k ρ4 =>
        simp only [hk] at run
        intro F4 H4 s4 w5
        cases k with
        | false =>
          refine iteF ⟨F4, wipeE ρ4 vs, acc2, ((s2.trans s3).trans s4), ?_, by simpa using run⟩
          have := Wd.wipe (c := c.calm) vs hb w5
          rw [we] at this
          exact this
        | true =>
          refine iteT ⟨F4, ρ4, _, w5, ?_⟩
          cases hm : mi1 ρ4 with
          | ex _ _ _ _ => simp [hm] at run
          | no => simp [hm] at run
          | ok ds1 ρ5 =>
            have run : (match runLc t1 tt1 me vs1 ds1 (wipeE ρ5 vs1) acc2 with
              | some (acc', ρ4) => runLc2 t tt mi1 t1 tt1 me vs vs1 (ds.drop (i + 1)) (wipeE ρ4 vs) acc'
              | none => none) = some (acc, ρe) := by simpa [hm] using run
            intro F5 H5 s5 w6 J1 hJ1
            obtain ⟨G1, Y1, wk1, hG1, hY1⟩ := hJ1
            cases hr1 : runLc t1 tt1 me vs1 ds1 (wipeE ρ5 vs1) acc2 with
            | none => rw [hr1] at run; cases run
            | some ar1 =>
              obtain ⟨acc3, ρ6⟩ := ar1
              rw [hr1] at run
              have run : runLc2 t tt mi1 t1 tt1 me vs vs1 (ds.drop (i + 1)) (wipeE ρ6 vs) acc3 = some (acc, ρe) := run
              refine ⟨fun j k H => k = ds1.length - j ∧ j ≤ ds1.length ∧ ∃ F7 ρ7 acc7, Same F5 F7 ∧ Wd c.calm F7 H (L2.wipe σ2 vs1) ρ7 ((Dn, acc7) :: T) ∧ runLc t1 tt1 me vs1 (ds1.drop j) ρ7 acc7 = some (acc3, ρ6), ⟨ds1.length, by simp, Nat.zero_le _, F5, wipeE ρ5 vs1, acc2, Same.refl _, Wd.wipe (c := c.calm) vs1 hb1 w6, hr1⟩, ?_⟩
              rintro j k H7 ⟨rfl, hj, F7, ρ7, acc7, s7, w7, run1⟩
              by_cases hltj : j < ds1.length
              case neg =>
                have e : j = ds1.length := by omega
                subst e
                refine .inl ⟨wk1.stops H7 (hG1 H7 (s7.trans w7.sub)), F7, wipeE ρ6 vs, acc3, ((s2.trans s3).trans s4).trans (s5.trans s7), ?_, run⟩
                rw [List.drop_length] at run1
                unfold runLc at run1
                cases run1
                have := Wd.wipe (c := c.calm) vs hb w7
                rw [wipe_wipe hv, we] at this
                exact this
              refine .inr ⟨wk1.goes j H7 hltj (hG1 H7 (s7.trans w7.sub)), fun H' => ∃ F7 ρ7 acc7, Same F5 F7 ∧ Wd c.calm F7 H' (L2.wipe σ2 vs1) ρ7 ((Dn, acc7) :: T) ∧ runLc t1 tt1 me vs1 (ds1.drop (j + 1)) ρ7 acc7 = some (acc3, ρ6), fun H' p' => ⟨ds1.length - (j + 1), by omega, rfl, hltj, p'⟩, fun x1 H7' y1 => ?_⟩
              have y1 := wk1.yields j H7 x1 H7' hltj (hG1 H7 (s7.trans w7.sub)) y1
              obtain ⟨d1, F8, hd1, s8, w8, r8⟩ := WalkD.turn (c := c.calm) (J := J1) (G := G1) hY1 hltj s7 w7 y1
              rw [drop_cons hd1] at run1
              unfold runLc at run1
              cases ht1 : t1 d1 ρ7 with
              | none => simp only [ht1] at run1; cases run1
              | some ρ8 =>
                simp only [ht1] at run1
                refine ⟨F8, ρ7, _, d1, ρ8, w8, r8, ht1, fun σ3 l3 a3 w9 => ?_⟩
                have we1 : L2.wipe σ3 vs1 = L2.wipe σ2 vs1 := by
                  rw [wipe_eq (σ := L2.wipe σ2 vs1) (σ' := σ3) l3 fun j hj => a3 j fun z => hj (hts1 j z)]
                  exact wipe_eq (wipe_length ..) fun j hj => wipe_get hj
                refine ⟨we1, F8, ρ8, _, w9, ?_⟩
                cases hk1 : tt1 ρ8 with
                | ex _ _ _ _ => simp only [hk1] at run1; cases run1
                | no => simp only [hk1] at run1; cases run1
                | ok k1 ρ9 =>
                  simp only [hk1] at run1
                  intro F9 H9 s9 w10
                  cases k1 with
                  | false =>
                    refine iteF ⟨F9, wipeE ρ9 vs1, acc7, ((s7.trans s8).trans s9), ?_, by simpa using run1⟩
                    have := Wd.wipe (c := c.calm) vs1 hb1 w10
                    rw [we1] at this
                    exact this
                  | true =>
                    refine iteT ⟨F9, ρ9, _, w10, ?_⟩
                    rw [if_pos rfl] at run1
                    cases hm1 : me ρ9 with
                    | ex _ _ _ _ => simp only [hm1] at run1; cases run1
                    | no => simp only [hm1] at run1; cases run1
                    | ok yd ρ10 =>
                      simp only [hm1] at run1
                      have run1 : (if acc7.length < 100000 then runLc t1 tt1 me vs1 (ds1.drop (j + 1)) (wipeE ρ10 vs1) (acc7 ++ [yd]) else none) = some (acc3, ρ6) := run1
                      by_cases hl : acc7.length < 100000
                      case neg => rw [if_neg hl] at run1; cases run1
                      rw [if_pos hl] at run1
                      intro F10 H10 s10 w11 v rv
                      obtain ⟨⟨_, us, h1, h2⟩, _⟩ := w11.tm Dn acc7 List.mem_cons_self
                      refine ⟨us, h1, by rw [h2.len]; exact lims (Nat.le_of_lt hl), F10, wipeE ρ10 vs1, acc7 ++ [yd], ((s7.trans s8).trans s9).trans s10, ?_, run1⟩
                      have := Wd.wipe (c := c.calm) vs1 hb1 (w11.mutT (h2.append (.cons rv .nil)))
                      rw [we1] at this
                      exact this
variable {elt iter tg1 iter1 : Expr} {ifs ifs1 : List Expr} {scope : Scope} {own : List (Str × Nat)} {mi mi1 : M (List D)} {t t1 : Tg} {ts ts1 vs1 : List Nat} {tt tt1 : M Bool} {me : M D}
theorem ml_lc2 (hb : ∀ v ∈ own.map (·.2), ∀ a, (v, a) ∉ c.bi) (hts : ∀ j ∈ ts, j ∈ own.map (·.2)) (hts1 : ∀ j ∈ ts1, j ∈ vs1) (hv : ∀ j ∈ vs1, j ∈ own.map (·.2)) (hc : X.calm = true) (hN : X.N.Nodup) (hi : PI X tg iter (tI c mi)) (ok : BlkOk X.N X.env.scope scope own)
    (hg : ∀ (s : Shared) (H : Hp) (C : Addr) (cl : List (Str × Addr)) (fp : List Addr), PG (X.blk s H scope (compEnvC scope cl C X.env) fp) tg (gM c.calm t ts)) (ht : ∀ (s : Shared) (H : Hp) (C : Addr) (cl : List (Str × Addr)) (fp : List Addr), PTs (X.blk s H scope (compEnvC scope cl C X.env) fp) ifs (tT c.calm tt))
    (hi1 : ∀ (s : Shared) (H : Hp) (C : Addr) (cl : List (Str × Addr)) (fp : List Addr), PI (X.blk s H scope (compEnvC scope cl C X.env) fp) tg1 iter1 (tI c.calm mi1))
    (hg1 : ∀ (s : Shared) (H : Hp) (C : Addr) (cl : List (Str × Addr)) (fp : List Addr), PG (X.blk s H scope (compEnvC scope cl C X.env) fp) tg1 (gM c.calm t1 ts1)) (ht1 : ∀ (s : Shared) (H : Hp) (C : Addr) (cl : List (Str × Addr)) (fp : List Addr), PTs (X.blk s H scope (compEnvC scope cl C X.env) fp) ifs1 (tT c.calm tt1))
    (he : ∀ (s : Shared) (H : Hp) (C : Addr) (cl : List (Str × Addr)) (fp : List Addr), PE (X.blk s H scope (compEnvC scope cl C X.env) fp) elt (tE c.calm me)) (hs : ∀ x, foldedSetIterable iter X.env x = pure x := by intro _; rfl) (hs1 : ∀ env x, foldedSetIterable iter1 env x = pure x := by intro _ _; rfl) :
    PE X (.ListComp elt [⟨tg, iter, ifs, 0⟩, ⟨tg1, iter1, ifs1, 0⟩] scope pos) (tL c (mLc2 mi t tt mi1 t1 tt1 me (own.map (·.2)) vs1)) := peI (pe_lc2 hc hN hi ok hv hg ht hi1 hg1 ht1 he hs hs1) fun σ H Q h => lc2_le hb hts hts1 hv h
theorem ms_setLc2 {y : Str} {py spos : Pos} (hbi : ∀ a, (i, a) ∉ c.bi) (hb : ∀ v ∈ own.map (·.2), ∀ a, (v, a) ∉ c.bi) (hts : ∀ j ∈ ts, j ∈ own.map (·.2)) (hts1 : ∀ j ∈ ts1, j ∈ vs1) (hv : ∀ j ∈ vs1, j ∈ own.map (·.2)) (hc : X.calm = true) (hN : X.N.Nodup) (hy : X.N[i]? = some y) (hyl : X.env.scope.names.lookup y = some .local)
    (hsw : swapsWith (.ListComp elt [⟨tg, iter, ifs, 0⟩, ⟨tg1, iter1, ifs1, 0⟩] scope pos) (some (.Name y py)) spos.line X.env = pure true) (hi : PI X tg iter (tI c mi)) (ok : BlkOk X.N X.env.scope scope own)
    (hg : ∀ (s : Shared) (H : Hp) (C : Addr) (cl : List (Str × Addr)) (fp : List Addr), PG (X.blk s H scope (compEnvC scope cl C X.env) fp) tg (gM c.calm t ts)) (ht : ∀ (s : Shared) (H : Hp) (C : Addr) (cl : List (Str × Addr)) (fp : List Addr), PTs (X.blk s H scope (compEnvC scope cl C X.env) fp) ifs (tT c.calm tt))
    (hi1 : ∀ (s : Shared) (H : Hp) (C : Addr) (cl : List (Str × Addr)) (fp : List Addr), PI (X.blk s H scope (compEnvC scope cl C X.env) fp) tg1 iter1 (tI c.calm mi1))
    (hg1 : ∀ (s : Shared) (H : Hp) (C : Addr) (cl : List (Str × Addr)) (fp : List Addr), PG (X.blk s H scope (compEnvC scope cl C X.env) fp) tg1 (gM c.calm t1 ts1)) (ht1 : ∀ (s : Shared) (H : Hp) (C : Addr) (cl : List (Str × Addr)) (fp : List Addr), PTs (X.blk s H scope (compEnvC scope cl C X.env) fp) ifs1 (tT c.calm tt1))
    (he : ∀ (s : Shared) (H : Hp) (C : Addr) (cl : List (Str × Addr)) (fp : List Addr), PE (X.blk s H scope (compEnvC scope cl C X.env) fp) elt (tE c.calm me)) (hs : ∀ x, foldedSetIterable iter X.env x = pure x := by intro _; rfl) (hs1 : ∀ env x, foldedSetIterable iter1 env x = pure x := by intro _ _; rfl) :
    PS X (.Assign [.Name y py] (.ListComp elt [⟨tg, iter, ifs, 0⟩, ⟨tg1, iter1, ifs1, 0⟩] scope pos) spos) (tS c (asgS i (mLc2 mi t tt mi1 t1 tt1 me (own.map (·.2)) vs1))) := psI (ps_setLc2 hc hN hy hyl hsw hi ok hv hg ht hi1 hg1 ht1 he hs hs1) fun E σ H h => asg_le hbi (fun _ _ _ q => lc2_le hb hts hts1 hv q) h
end
end Mir

namespace Mir
open PySem PySem.Spec PyProof.Rows L2
section
variable {X : Cx} {c : Mc} {K : PySem.W.Frag} {cl : Str → Addr} {F F' F0 H H' H0 : Hp} {σ : L2.St} {ρ ρ' : En} {T T' : Tm} {α β : Type} {e a b tg : Expr} {es rest : List Expr} {pos p : Pos} {x : V} {d : D} {i j l : Nat} {m : M D} {ms : M (List D)}
/-! ### a < b < c < d -/
def tLink3 (r r' r'' : R2) (ta tb tc td : TE) : TE := fun σ H Q => ta σ H fun x H1 => tb σ H1 fun y H2 => r x y H2 fun z H3 => ∃ k, z = .bl k ∧
  (if k = true then tc σ H3 fun u H4 => r' y u H4 fun z2 H5 => ∃ k2, z2 = .bl k2 ∧ (if k2 = true then td σ H5 fun w H6 => r'' u w H6 Q else Q (.bl false) H5) else Q (.bl false) H3)
variable {op op' op'' : CmpOp} {r r' r'' : R2} {ta tb tc td : TE} {cc dd : Expr}
theorem pe_link3 (ho : OpR X (compareOp op) r) (ho' : OpR X (compareOp op') r') (ho'' : OpR X (compareOp op'') r'') (ha : PE X a ta) (hb : PE X b tb) (hc : PE X cc tc) (hd : PE X dd td)
    (hm : lastMarks [op, op', op''] [b, cc, dd] = false := by with_unfolding_all rfl) : PE X (.Compare a [op, op', op''] [b, cc, dd] pos) (tLink3 r r' r'' ta tb tc td) := by
  constructor
  intro pins s σ H Q I h
  refine Compare_chain (thn (ha.run pins s σ H _ I h) ?_) hm
  rintro v1 s1 ⟨x1, G1, J1, q1, k1⟩
  refine chain_link (thn (hb.run pins s1 σ G1 _ J1 k1) ?_)
  rintro v2 s2 ⟨x2, G2, J2, q2, k2⟩
  refine thn (ho pins s2 σ G2 x1 x2 v1 v2 _ J2 q1 q2 k2) ?_
  rintro v3 s3 ⟨x3, G3, J3, q3, t, rfl, k3⟩
  cases q3
  refine wpAny_truthy_bool ?_
  cases t with
  | false => exact ite_ff ⟨.bl false, G3, J3, rfl, k3⟩
  | true =>
    refine ite_tt (chain_link (thn (hc.run pins s3 σ G3 _ J3 k3) ?_))
    rintro v4 s4 ⟨x4, G4, J4, q4, k4⟩
    refine thn (ho' pins s4 σ G4 x2 x4 v2 v4 _ J4 q2 q4 k4) ?_
    rintro v5 s5 ⟨x5, G5, J5, q5, t2, rfl, k5⟩
    cases q5
    refine wpAny_truthy_bool ?_
    cases t2 with
    | false => exact ite_ff ⟨.bl false, G5, J5, rfl, k5⟩
    | true =>
      refine ite_tt (chain_last (thn (hd.run pins s5 σ G5 _ J5 k5) ?_))
      rintro v6 s6 ⟨x6, G6, J6, q6, k6⟩
      exact ho'' pins s6 σ G6 x4 x6 v4 v6 Q J6 q4 q6 k6
theorem pt_link3 (ho : OpR X (compareOp op) r) (ho' : OpR X (compareOp op') r') (ho'' : OpR X (compareOp op'') r'') (ha : PE X a ta) (hb : PE X b tb) (hc : PE X cc tc) (hd : PE X dd td)
    (hm : lastMarks [op, op', op''] [b, cc, dd] = false := by with_unfolding_all rfl) : PT X (.Compare a [op, op', op''] [b, cc, dd] pos) (tTest (tLink3 r r' r'' ta tb tc td)) := by
  constructor
  intro pins s σ H Q I h
  refine isTrue_chain (thn (ha.run pins s σ H _ I h) ?_) hm
  rintro v1 s1 ⟨x1, G1, J1, q1, k1⟩
  refine test_link (thn (hb.run pins s1 σ G1 _ J1 k1) ?_)
  rintro v2 s2 ⟨x2, G2, J2, q2, k2⟩
  refine thn (ho pins s2 σ G2 x1 x2 v1 v2 _ J2 q1 q2 k2) ?_
  rintro v3 s3 ⟨x3, G3, J3, q3, t, rfl, k3⟩
  cases q3
  refine wpAny_truthy_bool ?_
  cases t with
  | false =>
    obtain ⟨z, hz, kz⟩ := k3
    cases hz
    exact ite_ff ⟨G3, J3, kz⟩
  | true =>
    refine ite_tt (test_link (thn (hc.run pins s3 σ G3 _ J3 k3) ?_))
    rintro v4 s4 ⟨x4, G4, J4, q4, k4⟩
    refine thn (ho' pins s4 σ G4 x2 x4 v2 v4 _ J4 q2 q4 k4) ?_
    rintro v5 s5 ⟨x5, G5, J5, q5, t2, rfl, k5⟩
    cases q5
    refine wpAny_truthy_bool ?_
    cases t2 with
    | false =>
      obtain ⟨z, hz, kz⟩ := k5
      cases hz
      exact ite_ff ⟨G5, J5, kz⟩
    | true =>
      refine ite_tt (test_last (thn (hd.run pins s5 σ G5 _ J5 k5) ?_))
      rintro v6 s6 ⟨x6, G6, J6, q6, k6⟩
      refine thn (ho'' pins s6 σ G6 x4 x6 v4 v6 _ J6 q4 q6 k6) ?_
      rintro v7 s7 ⟨x7, G7, J7, q7, t3, rfl, k7⟩
      cases q7
      exact wpAny_truthy_bool ⟨G7, J7, k7⟩
def chn3 (f f' f'' : D → D → Option D) (ma mb mc md : M D) : M D := bnd ma fun d1 => bnd mb fun d2 => bnd (opt ((f d1 d2).bind asB)) fun k => if k = true then (bnd mc fun d3 => bnd (opt ((f' d2 d3).bind asB)) fun k2 => if k2 = true then bnd md fun d4 => opt (f'' d3 d4) else ret (.bl false)) else ret (.bl false)
variable {f f' f'' : D → D → Option D} {ma mb mc md : M D}
theorem link3_le (hr : Op2 c (kE c) r f) (hr' : Op2 c (kE c) r' f') (hr'' : Op2 c (kE c) r'' f'') {Q : VK} (h : tE c (chn3 f f' f'' ma mb mc md) σ H Q) : tLink3 r r' r'' (tE c ma) (tE c mb) (tE c mc) (tE c md) σ H Q := by
  obtain ⟨F, ρ, T, w, g⟩ := h
  refine ⟨F, ρ, T, w, g.split.imp fun d1 ρ1 F1 H1 s1 g1 w1 x rx => ⟨F1, ρ1, T, w1, g1.split.imp fun d2 ρ2 F2 H2 s2 g2 w2 y ry => ?_⟩⟩
  obtain ⟨k, hk, q⟩ := g2.split.opt
  cases hf : f d1 d2 with
  | none => rw [hf] at hk; cases hk
  | some d =>
    rw [hf] at hk
    have hk : asB d = some k := hk
    refine hr.run w2 (now_of w2.sub (rx.same s2)) (now_of w2.sub ry) hf fun F3 H3 s3 w3 v rv => ?_
    refine ⟨k, rep_bl hk rv, ?_⟩
    have q := q F3 H3 s3
    cases k with
    | false => exact iteF (q F3 H3 (Same.refl _) w3 _ (.bl _))
    | true =>
      refine iteT ⟨F3, ρ2, T, w3, (Go.split q).imp fun d3 ρ4 F4 H4 s4 g4 w4 z rz => ?_⟩
      obtain ⟨k2, hk2, q2⟩ := g4.split.opt
      cases hf2 : f' d2 d3 with
      | none => rw [hf2] at hk2; cases hk2
      | some dm =>
        rw [hf2] at hk2
        have hk2 : asB dm = some k2 := hk2
        refine hr'.run w4 (now_of w4.sub (ry.same (s3.trans s4))) (now_of w4.sub rz) hf2 fun F5 H5 s5 w5 v5 rv5 => ?_
        refine ⟨k2, rep_bl hk2 rv5, ?_⟩
        have q2 := q2 F5 H5 s5
        cases k2 with
        | false => exact iteF (q2 F5 H5 (Same.refl _) w5 _ (.bl _))
        | true =>
          refine iteT ⟨F5, ρ4, T, w5, (Go.split q2).imp fun d4 ρ6 F6 H6 s6 g6 w6 z6 rz6 => ?_⟩
          obtain ⟨dd, hf3, k'⟩ := g6.opt
          exact hr''.run w6 (now_of w6.sub (rz.same (s5.trans s6))) (now_of w6.sub rz6) hf3 k'
theorem me_chn3 (hr : Op2 c (kE c) r f) (hr' : Op2 c (kE c) r' f') (hr'' : Op2 c (kE c) r'' f'') (h : PE X e (tLink3 r r' r'' (tE c ma) (tE c mb) (tE c mc) (tE c md))) : PE X e (tE c (chn3 f f' f'' ma mb mc md)) := peI h fun σ H Q q => link3_le hr hr' hr'' q
theorem t_chn3 (hr : Op2 c (kE c) r f) (hr' : Op2 c (kE c) r' f') (hr'' : Op2 c (kE c) r'' f'') (h : PT X e (tTest (tLink3 r r' r'' (tE c ma) (tE c mb) (tE c mc) (tE c md)))) : PT X e (tT c (un asB (chn3 f f' f'' ma mb mc md))) := ptI h fun σ H Q ⟨F, ρ, T, w, g⟩ => link3_le hr hr' hr'' ⟨F, ρ, T, w, asB_end g⟩
/-! ### try: .. except C as n: return n.f -/
def tryR (m : MS) (cn fn : Str) (ie : Nat) : MS := fun ρ => match m ρ with
  | .ex e f d ρ' => if (e = cn ∧ f = fn) ∧ ie < ρ'.length then .rt (.va d) ρ' else .no
  | o => o
/-- y = n.f if isinstance(n, B) else k -/
def tryA (m : MS) (cn fn : Str) (tb : Str → D → Option Bool) (eb k : D) (ie iy : Nat) : MS := fun ρ => match m ρ with
  | .ex e f d ρ' => if (e = cn ∧ f = fn) ∧ ie < ρ'.length then (match tb e eb with
    | some t => .nx ((ρ'.set iy (some (.va (if t = true then d else k)))).set ie none)
    | none => .no) else .no
  | o => o
variable {n y fn : Str} {x : Str} {cv : Value} {ie iy : Nat} {body : List Stmt} {np pos' p1 p2 p3 p4 p5 p6 p7 : Pos} {mb : MS}
theorem wish_run {E : Ends} {W : WX} {m2 : MS} (g : GoS c F T (m2 ρ) E) (hm : ∀ e f d ρ1, mb ρ = .ex e f d ρ1 → ∀ x w σ' F' H', Same F F' → Wd c F' H' σ' ρ1 T → F' x = some (.xd [(f, w)]) → c.rep F' w d → W (.ref (c.cl e)) (some x) σ' H') (heq : ∀ o, mb ρ = o → (∀ e f d ρ1, o ≠ .ex e f d ρ1) → m2 ρ = o) : GoS (c.wish W) F T (mb ρ) E := by
  cases z : mb ρ with
  | nx ρ1 => rw [heq _ z (fun _ _ _ _ h => by cases h)] at g; exact fun σ' F' H' s w' => g σ' F' H' s w'.unwish
  | bk ρ1 => rw [heq _ z (fun _ _ _ _ h => by cases h)] at g; exact fun σ' F' H' s w' => g σ' F' H' s w'.unwish
  | ct ρ1 => rw [heq _ z (fun _ _ _ _ h => by cases h)] at g; exact fun σ' F' H' s w' => g σ' F' H' s w'.unwish
  | no => rw [heq _ z (fun _ _ _ _ h => by cases h)] at g; exact g.elim
  | rt r ρ1 =>
    rw [heq _ z (fun _ _ _ _ h => by cases h)] at g
    cases r with
    | va d => exact fun v σ' F' H' s w' r => g v σ' F' H' s w'.unwish r
    | ow ds => exact fun a σ' F' H' s w' => g a σ' F' H' s w'.unwish
  | ex e f d ρ1 => exact fun x' w' σ' F' H' s wd hx rw' => hm e f d ρ1 z x' w' σ' F' H' s wd.unwish hx rw'
theorem tryR_eq {o : Fl} (h : mb ρ = o) (no : ∀ e f d ρ1, o ≠ .ex e f d ρ1) : tryR mb x fn ie ρ = o := by
  unfold tryR
  rw [h]
  cases o with
  | ex e f d ρ1 => exact absurd rfl (no e f d ρ1)
  | _ => rfl
theorem tryA_eq {o : Fl} {tb : Str → D → Option Bool} {eb k : D} (h : mb ρ = o) (no : ∀ e f d ρ1, o ≠ .ex e f d ρ1) : tryA mb x fn tb eb k ie iy ρ = o := by
  unfold tryA
  rw [h]
  cases o with
  | ex e f d ρ1 => exact absurd rfl (no e f d ρ1)
  | _ => rfl
theorem xf_le {a : Addr} {f : Str} {x' : Addr} {w' : V} {Q : VK} (hl : ie < σ.length) (hx : F x' = some (.xd [(f, w')])) (w : Wd c F H σ ρ T) (hf : f = fn) (q : Q w' H) : tXf a (.ref (c.cl x)) (some x') (c.cl x) fn (tVar ie) (σ.set ie (some (.ref a))) H Q := by
  subst hf
  exact ⟨.ref a, by rw [List.getElem?_set_self hl], rfl, rfl, x', _, w', rfl, w.sub _ _ hx, by rw [List.lookup_cons_self], q⟩
theorem ms_tryR (hcl : c.cl = cl) (hs : X.stack = X.env :: X.outer) (hf : X.env.frame = some X.env.locals) (hex : X.ex = []) (hN : X.N.Nodup) (hi : X.N[ie]? = some n) (hln : X.env.kindOf n = some .local) (hc : Names X x cv) (tk : Takes X c.W) (hm : PySem.W.exmOne X.K (.ref (cl x)) cv = some true)
    (XB : XfC X.K (cl x)) (hno : PySem.W.findIn X.K (.ref (cl x)) fn = some none) (hbe : ∀ a, (ie, a) ∉ c.bi)
    (hb : ∀ (W : WX) (pn : List (Addr × Obj)) (xe : Value → Shared → Prop), Takes (X.tr pn xe) W → PassesOwn (model X.prog X.w) X.A X.env xe → PSs (X.tr pn xe) body (tS (c.wish W) mb))
    (hsu : ∀ (a : Addr) (oe : Obj) (pn : List (Addr × Obj)), PE (X.suite a ((a, oe) :: pn)) (.Name n p1) (tVar ie)) (hab : ∀ (a : Addr) (oe : Obj) (pn : List (Addr × Obj)), attributeBase (.Name n p1) fn (X.suite a ((a, oe) :: pn)).env (eval (.Name n p1) (X.suite a ((a, oe) :: pn)).env) = eval (.Name n p1) (X.suite a ((a, oe) :: pn)).env := by intro _ _ _; rfl) :
    PS X (.Try body [.ExceptHandler (some (.Name x np)) (some n) [.Return (some (.Attribute (.Name n p1) fn p2)) p3] pos'] [] [] pos) (tS c (tryR mb x fn ie)) := by
  subst hcl
  refine psI (My.ps_try_keep (tb := fun W => tS (c.wish W) mb) (ts := fun a cls d E σ H => tXf a cls d (c.cl x) fn (tVar ie) σ H E.rt) hs hf hex hN hi hln hc tk hb (fun a oe cls d pn hz hd => pss_one (ps_ret (pe_xf XB hno hz hd (hsu a oe pn) (hab a oe pn))))) fun E σ H ⟨F, ρ, T, w, g⟩ => ?_
  refine ⟨F, ρ, T, w.wish _, wish_run (m2 := tryR mb x fn ie) g (fun e f d ρ1 z x' w' σ' F' H' s wd hx rw' => ?_) (fun o z no => tryR_eq z no)⟩
  unfold tryR at g
  rw [z] at g
  by_cases hq : (e = x ∧ f = fn) ∧ ie < ρ1.length
  · simp only [if_pos hq] at g
    obtain ⟨⟨rfl, rfl⟩, hlt⟩ := hq
    refine ⟨true, hm, fun _ a ha => ?_, fun q => by cases q⟩
    exact xf_le (by rw [wd.len]; exact hlt) hx wd rfl (g w' σ' F' H' s wd rw')
  · simp only [if_neg hq] at g
    exact g.elim
/-- isinstance of the caught exception within the clause -/
def tIsS (K : PySem.W.Frag) (a : Addr) (cls : Value) (d : Option Addr) (D : Addr) (te tc : TE) : TE := fun σ H Q => te σ H fun x H1 => x = .ref a ∧ cls = .ref D ∧ ∃ (dd : Addr) (fs : List (Str × V)), d = some dd ∧ H1 dd = some (.xd fs) ∧ tc σ H1 fun cv H2 => ∃ (u : Value) (b : Bool), H2 dd = some (.xd fs) ∧ ClsV cv u ∧ PySem.W.kitOne K (.ref D) u = some b ∧ Q (.bl b) H2
theorem inst_pin {X : Cx} {a C : Addr} {oe : Obj} {dd : Addr} {pn pins : List (Addr × Obj)} {s : Shared} {fs : List (Str × V)} (I : Inv (X.suite a ((a, oe) :: pn)) pins σ H s) (hz : Zc (.ref C) (some dd) oe) (hf : ∃ vs, oe.data = .fields vs) (ea : H dd = some (.xd fs)) : ∃ od, PySem.W.InstAt s.heap a oe C (some od) := by
  obtain ⟨ha, _⟩ := I.pin (a, oe) (List.mem_append_left _ List.mem_cons_self)
  obtain ⟨vs, hd⟩ := hf
  obtain ⟨mA, hns, hr⟩ := (show ObjOk X.prog X.w H s.heap dd (.xd fs) from I.hok dd _ ea)
  obtain ⟨od, ho, hl⟩ := lookIn_ns hns
  exact ⟨od, ha, hz.1, by unfold PySem.W.notCls; rw [hd] <;> rfl, by rw [hz.2]; exact ho⟩
theorem pe_isS {X : Cx} {a C : Addr} {oe : Obj} {cls : Value} {d : Option Addr} {pn : List (Addr × Obj)} {n B : Str} {bv : V} {i : Nat} {pos p p6 pB : Pos} (T : My.ExI X.K C) (hz : Zc cls d oe) (hf : ∃ vs, oe.data = .fields vs) (hg : Gl (X.suite a ((a, oe) :: pn)) "isinstance") (hm : X.mg "isinstance" = none)
    (he : PE (X.suite a ((a, oe) :: pn)) (.Name n p6) (tVar i)) (he2 : PE (X.suite a ((a, oe) :: pn)) (.Name B pB) (tC bv)) :
    PE (X.suite a ((a, oe) :: pn)) (.Call (.Name "isinstance" p) [.Name n p6, .Name B pB] [] pos) (fun σ H Q => σ[i]? = some (some (.ref a)) ∧ ∃ (dd : Addr) (fs : List (Str × V)) (u : Value) (b : Bool), cls = .ref C ∧ d = some dd ∧ H dd = some (.xd fs) ∧ ClsV bv u ∧ PySem.W.kitOne X.K (.ref C) u = some b ∧ Q (.bl b) H) := by
  have R : CallR (X.suite a ((a, oe) :: pn)) (.builtin "isinstance") (fun xs H Q => ∃ (dd : Addr) (fs : List (Str × V)) (cv : V) (u : Value) (b : Bool), xs = [.ref a, cv] ∧ cls = .ref C ∧ d = some dd ∧ H dd = some (.xd fs) ∧ ClsV cv u ∧ PySem.W.kitOne X.K (.ref C) u = some b ∧ Q (.bl b) H) := by
    intro pins s σ H xs us Q I r h
    obtain ⟨dd, fs, cv, u, b, rfl, rfl, rfl, ed, k, e, q⟩ := h
    obtain ⟨u1, u2, rfl, r1, r2⟩ := vals2 r
    have e2 := k.eq r2
    subst e2
    cases (show u1 = Value.ref a from r1)
    obtain ⟨od, J⟩ := inst_pin I hz hf ed
    exact PySem.W.kia_one (PySem.W.kitx_exc T.ic T.xf.ga T.xf.gg T.xf.exC T.ha T.hn T.ht T.hm) I.kIn J e (fun z => nomatch z) fun tk => ⟨.bl b, H, I.tok tk, rfl, q⟩
  refine peI (pe_callB R hg hm (by decide +kernel) (pa_cons he (pa_cons he2 pa_nil))) fun σ H Q h => ?_
  obtain ⟨h1, dd, fs, u, b, h2, h3, h4, h5, h6, q⟩ := h
  exact ⟨.ref a, h1, dd, fs, bv, u, b, rfl, h2, h3, h4, h5, h6, q⟩
theorem ms_tryA {t : Bool} {B : Str} {bv kv : V} {eb k : D} {ek : Expr} {tb : Str → D → Option Bool} {pB p8 p9 : Pos} (hcl : c.cl = cl) (hs : X.stack = X.env :: X.outer) (hf : X.env.frame = some X.env.locals) (hex : X.ex = []) (hN : X.N.Nodup) (hi : X.N[ie]? = some n) (hln : X.env.kindOf n = some .local) (hiy : X.N[iy]? = some y) (hly : ∀ (a : Addr) (oe : Obj) (pn : List (Addr × Obj)), Loc (X.suite a ((a, oe) :: pn)).env.scope y)
    (hfy : ∀ (a : Addr) (oe : Obj) (pn : List (Addr × Obj)), (X.suite a ((a, oe) :: pn)).fn y = true ∨ (X.suite a ((a, oe) :: pn)).env.scope.names.lookup y = some .local) (hc : Names X x cv) (tk : Takes X c.W) (hm : PySem.W.exmOne X.K (.ref (cl x)) cv = some true)
    (hK : c.K = X.K) (ht : XtOk X.K cl tb) (htb : tb x eb = some t) (hno : PySem.W.findIn X.K (.ref (cl x)) fn = some none) (hbe : ∀ a, (ie, a) ∉ c.bi) (hby : ∀ a, (iy, a) ∉ c.bi) (hne : ie ≠ iy) (gi : Gl X "isinstance") (mi : X.mg "isinstance" = none)
    (hb : ∀ (W : WX) (pn : List (Addr × Obj)) (xe : Value → Shared → Prop), Takes (X.tr pn xe) W → PassesOwn (model X.prog X.w) X.A X.env xe → PSs (X.tr pn xe) body (tS (c.wish W) mb))
    (hn1 : ∀ (a : Addr) (oe : Obj) (pn : List (Addr × Obj)) (p : Pos), PE (X.suite a ((a, oe) :: pn)) (.Name n p) (tVar ie)) (hB : ∀ (a : Addr) (oe : Obj) (pn : List (Addr × Obj)), PE (X.suite a ((a, oe) :: pn)) (.Name B pB) (tC bv)) (rB : ∀ F, Rep X.K cl F bv eb)
    (hk : ∀ (a : Addr) (oe : Obj) (pn : List (Addr × Obj)), PE (X.suite a ((a, oe) :: pn)) ek (tC kv)) (rk : ∀ F, c.rep F kv k)
    (hsw : ∀ (a : Addr) (oe : Obj) (pn : List (Addr × Obj)), swapsWith (.IfExp (.Call (.Name "isinstance" p5) [.Name n p6, .Name B pB] [] p7) (.Attribute (.Name n p1) fn p2) ek p9) (some (.Name y p4)) p3.line (X.suite a ((a, oe) :: pn)).env = pure false := by intro _ _ _; rfl)
    (hab : ∀ (a : Addr) (oe : Obj) (pn : List (Addr × Obj)), attributeBase (.Name n p1) fn (X.suite a ((a, oe) :: pn)).env (eval (.Name n p1) (X.suite a ((a, oe) :: pn)).env) = eval (.Name n p1) (X.suite a ((a, oe) :: pn)).env := by intro _ _ _; rfl) :
    PS X (.Try body [.ExceptHandler (some (.Name x np)) (some n) [.Assign [.Name y p4] (.IfExp (.Call (.Name "isinstance" p5) [.Name n p6, .Name B pB] [] p7) (.Attribute (.Name n p1) fn p2) ek p9) p3] pos'] [] [] pos) (tS c (tryA mb x fn tb eb k ie iy)) := by
  subst hcl
  obtain ⟨T, hu⟩ := ht x eb t htb
  refine psI (My.ps_try_keep (tb := fun W => tS (c.wish W) mb) (ts := fun a cls d E σ H => _) hs hf hex hN hi hln hc tk hb (fun a oe cls d pn hz hd => pss_one (ps_set (i := iy) hN hiy (hly a oe pn) (pe_ifExp (pt_val (pe_isS T hz hd gi mi (hn1 a oe pn p6) (hB a oe pn))) (pe_xf T.xf hno hz hd (hn1 a oe pn p1) (hab a oe pn)) (hk a oe pn)) (hsw a oe pn) (hfy a oe pn)))) fun E σ H ⟨F, ρ, T, w, g⟩ => ?_
  refine ⟨F, ρ, T, w.wish _, wish_run (m2 := tryA mb x fn tb eb k ie iy) g (fun e f d ρ1 z x' w' σ' F' H' s wd hx rw' => ?_) (fun o z no => tryA_eq z no)⟩
  unfold tryA at g
  rw [z] at g
  by_cases hq : (e = x ∧ f = fn) ∧ ie < ρ1.length
  · simp only [if_pos hq] at g
    have g : GoS c F T (match some t with
      | some t => Fl.nx ((List.set ρ1 iy (some (Sl.va (if t = true then d else k)))).set ie none)
      | none => Fl.no) E := by
      rw [← htb, ← hq.1.1]
      exact g
    obtain ⟨⟨rfl, rfl⟩, hlt⟩ := hq
    refine ⟨true, hm, fun _ a ha => ?_, fun q => by cases q⟩
    have hl : ie < σ'.length := by rw [wd.len]; exact hlt
    obtain ⟨u, hcv, hkt⟩ := hu F' bv (rB F')
    have fa : F' a = none := wd.sub.free ha
    have s1 : Same F' (upd F' a (My.exK a (.ref (c.cl e)) (some x'))) := same_upd fa
    have wl := wd.lay (My.exK a (.ref (c.cl e)) (some x')) ha
    refine ⟨by rw [List.getElem?_set_self hl], x', _, u, t, rfl, rfl, wd.sub _ _ hx, hcv, hkt, ?_⟩
    have w1 := ((wl.set (i := ie) (v := .ref a) (d := .raw (.ref a)) hbe (.raw _)))
    refine ⟨t, rfl, ?_⟩
    cases t with
    | true =>
      refine iteT ?_
      refine xf_le hl hx wd rfl ?_
      have w2 := (w1.set (i := iy) (v := w') (d := d) hby (rw'.same s1)).clr (i := ie) none hbe
      rw [set3 (l := ρ1) hne] at w2
      exact g _ _ _ (s.trans s1) w2
    | false =>
      refine iteF ?_
      have w2 := (w1.set (i := iy) (v := kv) (d := k) hby (rk _)).clr (i := ie) none hbe
      rw [set3 (l := ρ1) hne] at w2
      exact g _ _ _ (s.trans s1) w2
  · simp only [if_neg hq] at g
    exact g.elim
end
end Mir

namespace Mir
open PySem PySem.Spec PyProof.Rows L2
section
variable {α β : Type} {ρ : En} {X : XP} {P : Po} {N B C : En → Prop} {R : Sl → En → Prop}
/-! ### steps of the newer rules -/
theorem w_step {mb : M Bool} {m : MS} {n : Nat} (h : We mb ρ (fun k ρ1 => if k = true then Wt m ρ1 (fun ρ2 => Wt (whileS mb m n) ρ2 N R B C X) R N (fun ρ2 => Wt (whileS mb m n) ρ2 N R B C X) X else N ρ1) X) : Wt (whileS mb m (n + 1)) ρ N R B C X := by
  unfold Wt Ws We Po.app at *
  rw [whileS]
  cases e : mb ρ with
  | ok k ρ1 =>
    rw [e] at h
    cases k with
    | false => simpa using h
    | true =>
      simp only [if_true] at h ⊢
      cases e2 : m ρ1 <;> rw [e2] at h <;> exact h
  | ex _ _ _ _ => rw [e] at h; exact h
  | no => rw [e] at h; exact h
theorem e_star {m : M D} {ms : M (List D)} {Q : List D → En → Prop} (h : We m ρ (fun d ρ' => We (opt (seqD d)) ρ' (fun xs ρ2 => We ms ρ2 (fun ds ρ3 => Q (xs ++ ds) ρ3) X) X) X) : We (sCons m ms) ρ Q X := by
  unfold sCons
  simp only [We_bnd, We_ret]
  exact h
theorem d_kt {tab : Str → Option D} {z : Str} {d : D} {Q : D → En → Prop} (e : tab z = some d) (h : Q d ρ) : We (opt (dKt tab (.str z))) ρ Q X := by
  rw [show dKt tab (.str z) = some d from e]
  exact h
theorem d_divmod {i j : Int} {Q : D → En → Prop} (g0 : 0 < j) (g1 : j < 1073741824) (h : Q (.tup [.int (i / j), .int (i % j)]) ρ) : We (opt (f2 divmodD [.int i, .int j])) ρ Q X := by
  have : cDiv i j = true := by
    show (decide (0 < j) && Nat.blt j.natAbs 1073741824) = true
    rw [decide_eq_true g0, blt_of (by omega)]; rfl
  rw [show f2 divmodD [.int i, .int j] = some (.tup [.int (i / j), .int (i % j)]) from if_pos this]
  exact h
theorem e_chn3 {f f' f'' : D → D → Option D} {ma mb mc md : M D} {Q : D → En → Prop} (h : We ma ρ (fun d1 ρ1 => We mb ρ1 (fun d2 ρ2 => We (opt ((f d1 d2).bind asB)) ρ2 (fun k ρ3 => if k = true then We mc ρ3 (fun d3 ρ4 => We (opt ((f' d2 d3).bind asB)) ρ4 (fun k2 ρ5 => if k2 = true then We md ρ5 (fun d4 ρ6 => We (opt (f'' d3 d4)) ρ6 Q X) X else Q (.bl false) ρ5) X) X else Q (.bl false) ρ3) X) X) X) : We (chn3 f f' f'' ma mb mc md) ρ Q X := by
  unfold chn3
  simp only [We_bnd, We_ite, We_ret]
  exact h
theorem s_tryO {m m2 : MS} {cn : Str} (h : Wt m ρ N R B C (fun e f d ρ' => e = cn ∧ Wt m2 ρ' N R B C X)) : Wt (tryO m cn m2) ρ N R B C X := by
  unfold Wt at *
  rw [Ws_tryO]
  exact h
theorem s_tryR {m : MS} {cn fn : Str} {ie : Nat} (h : Wt m ρ N R B C (fun e f d ρ' => ((e = cn ∧ f = fn) ∧ ie < ρ'.length) ∧ R (.va d) ρ')) : Wt (tryR m cn fn ie) ρ N R B C X := by
  unfold Wt Ws tryR at *
  cases e : m ρ with
  | ex x f d ρ' =>
    rw [e] at h
    obtain ⟨h1, h2⟩ := h
    simp only [if_pos h1]
    exact h2
  | _ => rw [e] at h; exact h
theorem s_tryA {m : MS} {cn fn : Str} {tb : Str → D → Option Bool} {eb k : D} {ie iy : Nat} (h : Wt m ρ N R B C (fun e f d ρ' => ((e = cn ∧ f = fn) ∧ ie < ρ'.length) ∧ opW (tb e eb) fun t => N ((ρ'.set iy (some (.va (if t = true then d else k)))).set ie none))) : Wt (tryA m cn fn tb eb k ie iy) ρ N R B C X := by
  unfold Wt Ws tryA at *
  cases e : m ρ with
  | ex x f d ρ' =>
    rw [e] at h
    obtain ⟨h1, h2⟩ := h
    simp only [if_pos h1]
    cases z : tb x eb with
    | none => rw [z] at h2; exact h2.elim
    | some t => rw [z] at h2; exact h2
  | _ => rw [e] at h; exact h
theorem e_slP {i : Nat} {ml mh : M (Option Int)} {Q : Sl → En → Prop} (h : We (bnd (pk i) fun _ => bnd ml fun l => bnd mh fun u => bnd (pk i) fun d => opt (dSl d l u)) ρ Q X) : We (slP i ml mh) ρ Q X := h
theorem k_fzS {Q : D → En → Prop} {r : Sl} {d : D} (e : fzS r = d) (h : Q d ρ) : kFz Q r ρ := by
  show Q (fzS r) ρ
  rw [e]; exact h
theorem d_rep2 {Q : Sl → En → Prop} {ds : List D} (g : ds.length * 2 ≤ 100000) (h : Q (.ow (List.replicate 2 ds).flatten) ρ) : We (opt (dMul (.lst ds) (.int 2))) ρ Q X := by
  have e : dMul (.lst ds) (.int 2) = some (.ow (List.replicate 2 ds).flatten) := if_pos ⟨by decide, g⟩
  rw [e]
  exact h
theorem s_pass (h : N ρ) : Wt Fl.nx ρ N R B C X := h
theorem d_revL {ds : List D} {Q : Sl → En → Prop} (h : Q (.ow ds.reverse) ρ) : We (opt (dRevL (.lst ds))) ρ Q X := h
theorem d_xor {i j : Int} {Q : D → En → Prop} (h : Q (.int (Builtin.bitXor i j)) ρ) : We (opt (dXor (.int i) (.int j))) ρ Q X := h
theorem s_rev {i : Nat} {ds : List D} {ρ2 : En} (r : ρ[i]? = some (some (.ow ds))) (e : ρ.set i (some (.ow ds.reverse)) = ρ2) (h : N ρ2) : Wt (hasO i (revS i)) ρ N R B C X := by
  unfold Wt
  rw [Ws_hasO, r]
  show Ws (revS i) ρ _
  unfold revS
  rw [Ws_updO, r]
  show N _
  rw [e]; exact h
theorem s_clr {i : Nat} {ds : List D} {ρ2 : En} (r : ρ[i]? = some (some (.ow ds))) (e : ρ.set i (some (.ow [])) = ρ2) (h : N ρ2) : Wt (hasO i (clrS i)) ρ N R B C X := by
  unfold Wt
  rw [Ws_hasO, r]
  show Ws (clrS i) ρ _
  unfold clrS
  rw [Ws_updO, r]
  show N _
  rw [e]; exact h
theorem k_augM {i : Nat} {N : En → Prop} {a b : Int} {ρ2 : En} (g : cMul a b = true) (e : ρ.set i (some (.va (.int (a * b)))) = ρ2) (h : N ρ2) : kAug i dMulI (.int a) N (.int b) ρ := by
  show opW (dMulI (.int a) (.int b)) _
  rw [show dMulI (.int a) (.int b) = some (.int (a * b)) from if_pos g]
  show N _
  rw [e]; exact h
theorem k_augD {i : Nat} {N : En → Prop} {a b : Int} {ρ2 : En} (g0 : 0 < b) (g1 : b < 1073741824) (e : ρ.set i (some (.va (.int (a / b)))) = ρ2) (h : N ρ2) : kAug i dDiv (.int a) N (.int b) ρ := by
  have : cDiv a b = true := by
    show (decide (0 < b) && Nat.blt b.natAbs 1073741824) = true
    rw [decide_eq_true g0, blt_of (by omega)]; rfl
  show opW (dDiv (.int a) (.int b)) _
  rw [show dDiv (.int a) (.int b) = some (.int (a / b)) from if_pos this]
  show N _
  rw [e]; exact h
theorem k_out {Q : D → En → Prop} {r : Sl} {md : List Md} {bb : List D} (h : kFz Q r ρ) : kFz Q r (outE none md bb ρ) := h
theorem k_outQ {Q : Sl → En → Prop} {r : Sl} {md : List Md} {bb : List D} (h : Q r ρ) : Q r (outE none md bb ρ) := h
/-- what a comprehension with a test keeps -/
theorem Wk_fm {α : Type} {t : Tg} {tt : M Bool} {me : M D} {vs : List Nat} {K : List D → En → Prop} (f g : α → D) (p : α → Bool) {ss : List α} (hs : ∀ s ∈ ss, ∃ ρ1, t (f s) ρ = some ρ1 ∧ We tt ρ1 (fun k ρ2 => k = p s ∧ (k = false → wipeE ρ2 vs = ρ) ∧ (k = true → We me ρ2 (fun y ρ3 => y = g s ∧ wipeE ρ3 vs = ρ) noX)) noX) (hl : ss.length ≤ 100000) (h : K ((ss.filter p).map g) ρ) : Wk t tt me vs (ss.map f) ρ [] K := by
  refine Wk_by (fun i acc ρ' => ρ' = ρ ∧ acc = ((ss.take i).filter p).map g) ⟨rfl, by simp⟩ ?_ (by simpa using hl) ?_
  · rintro i d acc ρ' hd _ ⟨rfl, rfl⟩
    rw [List.getElem?_map] at hd
    cases hi : ss[i]? with
    | none => rw [hi] at hd; cases hd
    | some s =>
      rw [hi] at hd
      cases hd
      obtain ⟨ρ1, h1, h2⟩ := hs s (List.mem_of_getElem? hi)
      refine ⟨ρ1, h1, ?_⟩
      have e : ss.take (i + 1) = ss.take i ++ [s] := by rw [List.take_add_one, hi]; rfl
      unfold We at h2 ⊢
      cases e1 : tt ρ1 with
      | ok k ρ2 =>
        rw [e1] at h2
        obtain ⟨hk, k0, k1⟩ := h2
        cases k with
        | false =>
          refine i_false ⟨k0 rfl, ?_⟩
          rw [e, List.filter_append, List.filter_cons, ← hk]
          simp
        | true =>
          refine i_true ?_
          have k1 := k1 rfl
          unfold We at k1
          cases e2 : me ρ2 with
          | ok y ρ3 =>
            rw [e2] at k1
            obtain ⟨rfl, k3⟩ := k1
            refine ⟨k3, ?_⟩
            rw [e, List.filter_append, List.filter_cons, ← hk]
            simp
          | ex _ _ _ _ => rw [e2] at k1; exact k1
          | no => rw [e2] at k1; exact k1
      | ex _ _ _ _ => rw [e1] at h2; exact h2
      | no => rw [e1] at h2; exact h2
  · rintro acc ρ' ⟨rfl, rfl⟩
    rw [List.length_map, List.take_length]
    exact h
/-- [x for d in ds for x in inner d] -/
def Wk2 (t : Tg) (tt : M Bool) (mi1 : M (List D)) (t1 : Tg) (tt1 : M Bool) (me : M D) (vs vs1 : List Nat) (ds : List D) (ρ : En) (acc : List D) (K : List D → En → Prop) : Prop := match runLc2 t tt mi1 t1 tt1 me vs vs1 ds ρ acc with
  | some (a, ρ') => K a ρ'
  | none => False
theorem Wk2_by {t : Tg} {tt : M Bool} {mi1 : M (List D)} {t1 : Tg} {tt1 : M Bool} {me : M D} {vs vs1 : List Nat} {K : List D → En → Prop} (inner : D → List D) :
    ∀ (ds acc : List D), (∀ d ∈ ds, ∀ acc : List D, ∃ ρ1, t d ρ = some ρ1 ∧ ∃ ρ2, tt ρ1 = .ok true ρ2 ∧ ∃ ds1 ρ3, mi1 ρ2 = .ok ds1 ρ3 ∧ ∃ ρ4, (acc.length + (inner d).length ≤ 100000 → runLc t1 tt1 me vs1 ds1 (wipeE ρ3 vs1) acc = some (acc ++ inner d, ρ4)) ∧ wipeE ρ4 vs = ρ) →
      (acc ++ (ds.map inner).flatten).length ≤ 100000 → K (acc ++ (ds.map inner).flatten) ρ → Wk2 t tt mi1 t1 tt1 me vs vs1 ds ρ acc K
  | [], acc, _, _, h => by
    unfold Wk2 runLc2
    simpa using h
  | d :: ds, acc, hs, hl, h => by
    obtain ⟨ρ1, h1, ρ2, h2, ds1, ρ3, h3, ρ4, h4, h5⟩ := hs d List.mem_cons_self acc
    have l2 : acc.length + (inner d).length ≤ 100000 := by simp only [List.length_append, List.map_cons, List.flatten_cons] at hl; omega
    have ih := Wk2_by (t := t) (tt := tt) (mi1 := mi1) (t1 := t1) (tt1 := tt1) (me := me) (vs := vs) (vs1 := vs1) (K := K) inner ds (acc ++ inner d) (fun e he => hs e (List.mem_cons_of_mem _ he)) (by simpa [List.append_assoc] using hl) (by simpa [List.append_assoc] using h)
    unfold Wk2 at ih ⊢
    rw [runLc2, h1]
    simp only [h2, h3, h4 l2, h5, if_true]
    exact ih
def kLc2 (t : Tg) (tt : M Bool) (mi1 : M (List D)) (t1 : Tg) (tt1 : M Bool) (me : M D) (vs vs1 : List Nat) (Q : Sl → En → Prop) : List D → En → Prop := fun ds ρ1 => clearE ρ1 vs = true ∧ Wk2 t tt mi1 t1 tt1 me vs vs1 ds (wipeE ρ1 vs) [] (kBk ρ1 vs Q)
theorem k_lc2 {t : Tg} {tt : M Bool} {mi1 : M (List D)} {t1 : Tg} {tt1 : M Bool} {me : M D} {vs vs1 : List Nat} {Q : Sl → En → Prop} {ds : List D} {ρ2 : En} (c : clearE ρ vs = true) (e : wipeE ρ vs = ρ2) (h : Wk2 t tt mi1 t1 tt1 me vs vs1 ds ρ2 [] (kBk ρ vs Q)) : kLc2 t tt mi1 t1 tt1 me vs vs1 Q ds ρ := ⟨c, by rw [e]; exact h⟩
theorem e_lc2 {mi : M (List D)} {t : Tg} {tt : M Bool} {mi1 : M (List D)} {t1 : Tg} {tt1 : M Bool} {me : M D} {vs vs1 : List Nat} {Q : Sl → En → Prop} (h : We mi ρ (kLc2 t tt mi1 t1 tt1 me vs vs1 Q) X) : We (mLc2 mi t tt mi1 t1 tt1 me vs vs1) ρ Q X := by
  unfold mLc2
  refine e_bnd ?_
  unfold We at h ⊢
  cases e : mi ρ with
  | ok ds ρ1 =>
    rw [e] at h
    obtain ⟨h1, h2⟩ := h
    simp only [h1, if_true]
    unfold Wk2 at h2
    cases z : runLc2 t tt mi1 t1 tt1 me vs vs1 ds (wipeE ρ1 vs) [] with
    | none => rw [z] at h2; exact h2.elim
    | some p => rw [z] at h2; exact h2
  | ex _ _ _ _ => rw [e] at h; exact h
  | no => rw [e] at h; exact h
end
end Mir

namespace Mir
open PySem PySem.Spec PyProof.Rows L2
/-! ### xs[a::k] -/
/-- from a on, each k-th -/
def stp {α : Type} (a k : Nat) (xs : List α) : List α := (List.range ((xs.length - a + k - 1) / k)).filterMap fun j => xs[a + k * j]?
theorem stp_len {α : Type} {a k : Nat} {xs : List α} (hk : 0 < k) : (stp a k xs).length ≤ xs.length := by
  unfold stp
  refine Nat.le_trans (List.length_filterMap_le _ _) ?_
  rw [List.length_range]
  by_cases h : xs.length ≤ a
  · rw [show xs.length - a + k - 1 = k - 1 by omega, Nat.div_eq_of_lt (by omega)]; omega
  · refine Nat.le_trans ?_ (Nat.sub_le xs.length a)
    generalize hd : xs.length - a = d
    have h1 : 1 ≤ d := by omega
    have : (d + k - 1) / k < d + 1 := by
      rw [Nat.div_lt_iff_lt_mul hk, Nat.add_mul, Nat.one_mul]
      have : d ≤ d * k := Nat.le_mul_of_pos_right d hk
      omega
    omega
theorem stp_mem {α : Type} {a k : Nat} {xs : List α} {x : α} (h : x ∈ stp a k xs) : x ∈ xs := by
  unfold stp at h
  rw [List.mem_filterMap] at h
  obtain ⟨j, _, h⟩ := h
  exact List.mem_of_getElem? h
theorem fm_vals {xs : List V} {us : List Value} (h : Vals xs us) (f : Nat → Nat) : ∀ js : List Nat, Vals (js.filterMap fun j => xs[f j]?) (js.filterMap fun j => us[f j]?)
  | [] => .nil
  | j :: js => by
    have t := fm_vals h f js
    have l := h.length
    by_cases hj : f j < xs.length
    · have e1 := List.getElem?_eq_getElem hj
      have e2 : us[f j]? = some (us[f j]'(by omega)) := List.getElem?_eq_getElem (by omega)
      rw [List.filterMap_cons_some (f := fun j => xs[f j]?) (a := j) e1, List.filterMap_cons_some (f := fun j => us[f j]?) (a := j) e2]
      refine .cons ?_ t
      obtain ⟨u, q1, q2⟩ := h.get e1
      rw [e2] at q1
      cases q1
      exact q2
    · have e1 : xs[f j]? = none := List.getElem?_eq_none (by omega)
      have e2 : us[f j]? = none := List.getElem?_eq_none (by omega)
      rw [List.filterMap_cons_none (f := fun j => xs[f j]?) (a := j) e1, List.filterMap_cons_none (f := fun j => us[f j]?) (a := j) e2]
      exact t
theorem fm_reps {K : PySem.W.Frag} {cl : Str → Addr} {F : Hp} {xs : List V} {ds : List D} (h : Reps K cl F xs ds) (f : Nat → Nat) : ∀ js : List Nat, Reps K cl F (js.filterMap fun j => xs[f j]?) (js.filterMap fun j => ds[f j]?)
  | [] => .nil
  | j :: js => by
    have t := fm_reps h f js
    have l := h.len
    by_cases hj : f j < xs.length
    · have e1 := List.getElem?_eq_getElem hj
      have e2 : ds[f j]? = some (ds[f j]'(by omega)) := List.getElem?_eq_getElem (by omega)
      rw [List.filterMap_cons_some (f := fun j => xs[f j]?) (a := j) e1, List.filterMap_cons_some (f := fun j => ds[f j]?) (a := j) e2]
      refine .cons ?_ t
      obtain ⟨u, q1, q2⟩ := h.get e2
      rw [e1] at q1
      cases q1
      exact q2
    · have e1 : xs[f j]? = none := List.getElem?_eq_none (by omega)
      have e2 : ds[f j]? = none := List.getElem?_eq_none (by omega)
      rw [List.filterMap_cons_none (f := fun j => xs[f j]?) (a := j) e1, List.filterMap_cons_none (f := fun j => ds[f j]?) (a := j) e2]
      exact t
theorem stp_vals {a k : Nat} {xs : List V} {us : List Value} (h : Vals xs us) : Vals (stp a k xs) (stp a k us) := by
  unfold stp
  rw [h.length]
  exact fm_vals h _ _
theorem stp_reps {K : PySem.W.Frag} {cl : Str → Addr} {F : Hp} {a k : Nat} {xs : List V} {ds : List D} (h : Reps K cl F xs ds) : Reps K cl F (stp a k xs) (stp a k ds) := by
  unfold stp
  rw [h.len]
  exact fm_reps h _ _
theorem pick_stp {a k : Nat} (hk : 0 < k) (us : List Value) : slicePick us.toArray (some (a : Int)) none (some (k : Int)) = (stp a k us).toArray := by
  unfold slicePick
  have b : sliceBounds (some (a : Int)) none (some (k : Int)) us.toArray.size = (((min a us.length : Nat) : Int), (us.length : Int), (k : Int)) := by
    have k0 : (k : Int) > 0 := by omega
    simp only [sliceBounds, Option.getD_some, k0, if_true, List.size_toArray]
    rw [if_neg (by omega)]
    congr 1
    omega
  rw [b]
  congr 1
  unfold stp sliceRange
  have n : (if (k : Int) > 0 then (if ((min a us.length : Nat) : Int) < (us.length : Int) then ((us.length : Int) - ((min a us.length : Nat) : Int) + (k : Int) - 1) / (k : Int) else 0) else (if ((min a us.length : Nat) : Int) > (us.length : Int) then (((min a us.length : Nat) : Int) - (us.length : Int) - (k : Int) - 1) / (-(k : Int)) else 0) : Int).toNat = (us.length - a + k - 1) / k := by
    rw [if_pos (by omega)]
    by_cases h : us.length ≤ a
    · rw [if_neg (by omega), show us.length - a + k - 1 = k - 1 by omega, Nat.div_eq_of_lt (by omega)]
      rfl
    · rw [if_pos (by omega), show (us.length : Int) - ((min a us.length : Nat) : Int) + (k : Int) - 1 = ((us.length - a + k - 1 : Nat) : Int) by omega, ← Int.natCast_ediv, Int.toNat_natCast]
  show ((List.range (_ : Int).toNat).map _).filterMap _ = _
  rw [n, List.filterMap_map]
  by_cases h : us.length ≤ a
  · rw [show us.length - a + k - 1 = k - 1 by omega, Nat.div_eq_of_lt (by omega)]
    rfl
  congr 1
  funext j
  show us.toArray[(((min a us.length : Nat) : Int) + (k : Int) * (j : Int)).toNat]? = _
  rw [show (((min a us.length : Nat) : Int) + (k : Int) * (j : Int)).toNat = a + k * j by rw [show (k : Int) * (j : Int) = ((k * j : Nat) : Int) by simp]; omega]
  simp
def tStp (K : PySem.W.Frag) (a k : Nat) (te : TE) : TE := fun σ H Q => te σ H fun x H1 => ∃ p xs, x = .ref p ∧ SqL K H1 p xs ∧ ∀ q, H1 q = none → Q (.ref q) (upd H1 q (.lst (stp a k xs)))
section
variable {X : Cx}
theorem pe_stp {e : Expr} {te : TE} {a k j1 j2 : Nat} {q0 q1 q2 q3 : Pos} (hk : 0 < k) (he : PE X e te) : PE X (.Subscript e (.Slice (some (.Constant (.int (a : Int)) j1 q0)) none (some (.Constant (.int (k : Int)) j2 q1)) q2) q3) (tStp X.K a k te) := ⟨fun pins s σ H Q I h => by
  refine Subscript_ (thn (he.run pins s σ H _ I h) ?_)
  rintro v s1 ⟨_, G, J1, rv, b, xs, rfl, hx, q⟩
  cases rv
  have one : PO X (some (.Constant (.int (a : Int)) j1 q0)) (tPart (tC (.int (a : Int)))) := po_some pe_int
  have two : PO X (some (.Constant (.int (k : Int)) j2 q1)) (tPart (tC (.int (k : Int)))) := po_some pe_int
  refine wpAny_Slice (thn (one.run pins s1 σ G (fun o H2 => o = some (a : Int) ∧ H2 = G) J1 ⟨a, rfl, rfl, rfl⟩) ?_)
  rintro ul s2 ⟨_, _, J2, pl, rfl, rfl⟩
  refine thn (po_none.run pins s2 σ _ (fun o H3 => o = none ∧ H3 = _) J2 ⟨rfl, rfl⟩) ?_
  rintro uu s3 ⟨_, _, J3, pu, rfl, rfl⟩
  refine thn (two.run pins s3 σ _ (fun o H4 => o = some (k : Int) ∧ H4 = _) J3 ⟨k, rfl, rfl, rfl⟩) ?_
  rintro us s4 ⟨_, _, J4, ps, rfl, rfl⟩
  have J5 := J4.kept (t' := s4.toks) (h' := s4.heap.push { cls := .type "slice", data := .fields #[ul, uu, us] }) fun b ob z => Heap.get?_push_of_some _ z
  obtain ⟨its, r, ht, hz⟩ := J5.list hx
  have hlen := r.length
  refine tail_any (ops := [.ref b, .ref s4.heap.objs.size]) ht.isList.typeIs (PySem.slot_list_getitem.lookup) ?_ (by with_unfolding_all rfl)
  refine wpAny_getItem_list_slice ht.isList (Heap.IsSliceOf.new _ ul uu us) pl pu ps (fun h => by injection h with h; omega) ?_ (by
    rw [List.size_toArray]
    omega)
  rw [pick_stp hk]
  refine ⟨.ref _, _, J5.laid (t' := s4.toks) (o := .lst (stp a k xs)) (fun b ob z => Heap.get?_push_of_some _ z) (Nat.le_refl _) ?_, rfl, q _ (J5.hok.fresh (Nat.le_refl _))⟩
  have l := stp_len (a := a) (xs := xs) hk
  exact ⟨by omega, _, 0, stp_vals r, Heap.get?_push_size _ rfl⟩⟩
variable {c : Mc} {e : Expr} {m : M D} {j1 j2 : Nat} {q0 q1 q2 q3 : Pos}
def dStp (a k : Nat) : D → Option Sl
  | .lst ds => some (.ow (stp a k ds))
  | _ => none
theorem g_stp (a k : Nat) (hk : Nat.blt 0 k = true) (hK : c.K = X.K) (he : PE X e (tE c m)) : PE X (.Subscript e (.Slice (some (.Constant (.int (a : Int)) j1 q0)) none (some (.Constant (.int (k : Int)) j2 q1)) q2) q3) (tL c (bnd m fun d => opt (dStp a k d))) :=
  peI (pe_stp (by simpa using hk) he) fun σ H Q ⟨F, ρ, T, w, g⟩ => ⟨F, ρ, T, w, g.split.imp fun d ρ1 F1 H1 s1 g1 w1 v rv => by
    obtain ⟨s, hs, kk⟩ := g1.opt
    cases d with
    | lst ds =>
      obtain ⟨p0, vs, rfl, h1, h2⟩ := now_lst (now_of w1.sub rv)
      cases hs
      exact ⟨p0, vs, rfl, (by rw [← hK]; exact SqL.of h1), fun p hp => new_lst w1 hp (stp_reps h2) kk⟩
    | _ => cases hs⟩

/-! ### list(range(n)) -/
def nats (n : Nat) : List Int := (List.range n).map fun (i : Nat) => (i : Int)
def dLrg : D → Option Sl
  | .int n => if 0 ≤ n ∧ Nat.ble n.natAbs 100000 = true then some (.ow ((nats n.natAbs).map D.int)) else none
  | _ => none
theorem rgV_nats {n : Int} (h : 0 ≤ n) : rgV 0 n = (nats n.natAbs).map V.int := by
  unfold rgV nats
  rw [List.map_map, show (n - 0).toNat = n.natAbs by omega]
  congr 1
  funext i
  show V.int (0 + (i : Int)) = V.int (i : Int)
  rw [Int.zero_add]
theorem g_lrg {p p1 q0 pos : Pos} (hc : X.calm = true) (hg : Gl X "list") (hm : X.mg "list" = none) (hg1 : Gl X "range") (hm1 : X.mg "range" = none) (he : PE X e (tE c m)) (na : starEach [e] X.env = (false, eval e X.env) :: starEach [] X.env := by rfl) (nb : starEach [.Call (.Name "range" p1) [e] [] q0] X.env = (false, eval (.Call (.Name "range" p1) [e] [] q0) X.env) :: starEach [] X.env := by rfl) :
    PE X (.Call (.Name "list" p) [.Call (.Name "range" p1) [e] [] q0] [] pos) (tL c (bnd m fun d => opt (dLrg d))) :=
  peI (pe_listRg hc hg hm (prg_1 hg1 hm1 he na) nb) fun σ H Q ⟨F, ρ, T, w, g⟩ => ⟨F, ρ, T, w, g.split.imp fun d ρ1 F1 H1 s1 g1 w1 v rv => by
    obtain ⟨s, hs, k⟩ := g1.opt
    cases d with
    | int n =>
      cases rv
      change (if 0 ≤ n ∧ Nat.ble n.natAbs 100000 = true then some (Sl.ow ((nats n.natAbs).map D.int)) else none) = some s at hs
      by_cases hn : 0 ≤ n ∧ Nat.ble n.natAbs 100000 = true
      · rw [if_pos hn] at hs
        cases hs
        have h2 : n.natAbs ≤ 100000 := Nat.le_of_ble_eq_true hn.2
        exact ⟨n, rfl, RgOk.of_le (Int.le_refl _) (by omega) (by omega) hn.1, fun q hq => by rw [rgV_nats hn.1]; exact new_lst w1 hq (Reps.ints _) k⟩
      · rw [if_neg hn] at hs
        cases hs
    | _ => cases hs⟩
end
end Mir

namespace Mir
/-! ### shapes of goals: they say nothing, they sort -/
section
variable {α : Type} {m : M α} {ρ : En} {Q : α → En → Prop} {X : XP}
theorem gd_We (h : We m ρ Q X) : We m ρ Q X := h
theorem gd_opt {o : Option α} (h : We (opt o) ρ Q X) : We (opt o) ρ Q X := h
theorem gd_isN {d e : D} {Q : D → En → Prop} (h : We (opt (dIsN d e)) ρ Q X) : We (opt (dIsN d e)) ρ Q X := h
theorem gd_notN {d e : D} {Q : D → En → Prop} (h : We (opt (dNotN d e)) ρ Q X) : We (opt (dNotN d e)) ρ Q X := h
theorem gd_ix {d e : D} {Q : D → En → Prop} (h : We (opt (dIx d e)) ρ Q X) : We (opt (dIx d e)) ρ Q X := h
theorem gd_Wt {m : MS} {N B C : En → Prop} {R : Sl → En → Prop} (h : Wt m ρ N R B C X) : Wt m ρ N R B C X := h
theorem gd_ite {c : Prop} [Decidable c] {a b : Prop} (h : if c then a else b) : if c then a else b := h
end
end Mir

namespace Mir
open PySem PySem.Spec PyProof.Rows L2
/-! ### xs[k], y = a, b -/
/-- the first one into the list at i, the other one into j -/
def put2 (i : Nat) (k : Int) (j : Nat) (d : D) (s : Sl) : MS := fun ρ => match ρ[i]? with
  | some (some (.ow ds)) => (match ixN ds.length k with
    | some q => .nx ((ρ.set i (some (.ow (ds.set q d)))).set j (some s))
    | none => .no)
  | _ => .no
def parO (i : Nat) (k : Int) (j : Nat) (ms : M (List Sl)) : MS := thenS ms fun ss => match ss with
  | [.va d, s] => put2 i k j d s
  | _ => fun _ => .no
section
variable {X : Cx} {c : Mc} {F H : Hp} {σ : L2.St} {ρ : En} {T : Tm} {a b : Expr} {i j : Nat} {ms : M (List Sl)}
/-- an object that no name has -/
theorem Wd.more (w : Wd c F H σ ρ T) {p : Addr} (o : HO) (hp : H p = none) : Wd c F (upd H p o) σ ρ T :=
  w.pst0 (b := []) ⟨Same.refl _, fun q u hq => by
    rw [upd_ne (fun z => by rw [z, w.sub.free hp] at hq; cases hq)]
    exact w.sub q u hq, fun q h1 h2 => absurd h1 h2, fun q u _ hq => by
    rw [upd_ne (fun z => by rw [z, hp] at hq; cases hq)]
    exact hq, fun q h => by cases h⟩
theorem ms_parO {x y : Str} {px py pi ps pt pos : Pos} {k : Int} {kt k1 k2 : Nat} {pt2 : Pos} (hK : c.K = X.K) (hb : ∀ a, (j, a) ∉ c.bi) (hc : X.calm = true) (hN : X.N.Nodup) (hx : PE X (.Name x px) (tVar i)) (hj : X.N[j]? = some y) (hy : Loc X.env.scope y) (ha : PA X [a, b] (tLs c ms))
    (fy : X.fn y = true ∨ X.env.scope.names.lookup y = some .local := by first | exact .inl rfl | exact .inr rfl)
    (hs1 : ∀ v, assign (.Subscript (.Name x px) (.Constant (.int k) k1 pi) ps) X.env v = (do
      let ov ← holding [v] (eval (.Name x px) X.env)
      let iv ← holding [v, ov] (eval (.Constant (.int k) k1 pi) X.env)
      standAt ps
      holding [v, ov, iv] (setItem ov iv v)
      release [v, ov, iv] []) := by intro _; rfl)
    (hq1 : (assignEach [.Subscript (.Name x px) (.Constant (.int k) k1 pi) ps, .Name y py] X.env).map (·.2) = assign (.Subscript (.Name x px) (.Constant (.int k) k1 pi) ps) X.env :: (assignEach [.Name y py] X.env).map (·.2) := by rfl)
    (h2 : (assignEach [.Subscript (.Name x px) (.Constant (.int k) k1 pi) ps, .Name y py] X.env).length = 2 := by rfl) (h3 : (assignEach [.Subscript (.Name x px) (.Constant (.int k) k1 pi) ps, .Name y py] X.env).findIdx? (·.1) = none := by rfl)
    (hs : swapsWithSole [.Tuple [.Subscript (.Name x px) (.Constant (.int k) k1 pi) ps, .Name y py] kt pt] (.Tuple [a, b] k2 pt2) pos.line X.env = pure false := by rfl)
    (hw : swappedStores [.Tuple [.Subscript (.Name x px) (.Constant (.int k) k1 pi) ps, .Name y py] kt pt] (.Tuple [a, b] k2 pt2) X.env = pure none := by rfl) :
    PS X (.Assign [.Tuple [.Subscript (.Name x px) (.Constant (.int k) k1 pi) ps, .Name y py] kt pt] (.Tuple [a, b] k2 pt2) pos) (tS c (parO i k j ms)) := by
  refine psI (ps_asg (pe_tup ha) (pg_tup hc (pgs_cons (pg_sub hx pe_int set_list hs1) (pgs_cons (pg_name hN hj hy fy) pgs_nil) hq1) h2 h3) hs hw) fun E σ H ⟨F, ρ, T, w, g⟩ => ⟨F, ρ, T, w, g.split.imp fun ss ρ1 F1 H1 s1 g1 vs T' tk w1 => ?_⟩
  match ss, vs, tk, g1 with
  | [.va d, s], [v, u], .va rv tk2, g1 =>
    have g1 : GoS c F1 T (put2 i k j d s ρ1) E := g1
    unfold put2 at g1
    refine ⟨(show 2 ≤ sizeLine by decide), fun p hp => ⟨p, [v, u], rfl, .inl (.inl upd_same), rfl, v, [u], rfl, ?_⟩⟩
    have w2 := w1.more (.tup [v, u]) hp
    cases h : ρ1[i]? with
    | none => rw [h] at g1; exact g1.elim
    | some o =>
      rw [h] at g1
      cases o with
      | none => exact g1.elim
      | some z =>
        cases z with
        | va _ => exact g1.elim
        | ow ds =>
          obtain ⟨q, e1, ⟨e2, us, e3, e4⟩, _⟩ := w2.ow i ds h
          cases hq : ixN ds.length k with
          | none => simp only [hq] at g1; exact g1.elim
          | some n =>
            simp only [hq] at g1
            refine ⟨.ref q, e1, q, us, k, n, rfl, rfl, e3, by rw [e4.len]; exact hq, u, [], rfl, rfl, ?_⟩
            have w3 := w2.mut h e1 (e4.set rv n)
            have w4 := Wd.put (is := [j]) tk2 rfl (fun q hq => by rw [List.mem_singleton.mp hq]; exact hb) w3
            exact g1 _ F1 _ (Same.refl _) w4
  | [], _, _, g1 => exact g1.elim
  | [.va _], _, _, g1 => exact g1.elim
  | [.ow _], _, _, g1 => exact g1.elim
  | .ow _ :: _ :: _, _, _, g1 => exact g1.elim
  | .va _ :: _ :: _ :: _, _, _, g1 => exact g1.elim
end
end Mir

namespace Mir
open PySem PySem.Spec PyProof.Rows L2
/-! ### index of a text in a constant tuple of texts -/
def KwV (K : PySem.W.Frag) (mg : Str → Option Value) (x : Str) (ys : List Str) : Prop := ∃ p, mg x = some (.ref p) ∧ (∃ o, K.lookup p = some o ∧ o.cls = .type "tuple" ∧ o.dict = none) ∧ ∀ H, SqT K H p (ys.map V.str)
def idxC (ys : List Str) : D → Option D
  | .str z => (ys.findIdx? fun u => decide (u = z)).map fun j => .int (j : Nat)
  | _ => none
section
variable {X : Cx} {c : Mc} {me : M D} {e : Expr} {p pa pos : Pos}
theorem g_cidx {x : Str} {ys : List Str} (h : KwV X.K X.mg x ys) (hg : Gl X x) (hd : (x == ("__debug__" : Str)) = false := by decide)
    (hbase : attributeBase (.Name x p) "index" X.env (eval (.Name x p) X.env) = eval (.Name x p) X.env := by rfl) (hs : starEach [e] X.env = (false, eval e X.env) :: starEach [] X.env := by rfl)
    (hq : ∀ to, PE X (.Name x p) to → PE X (.Call (.Attribute (.Name x p) "index" pa) [e] [] pos) (tBM X.K "tuple" (fun x xs H Q => ∃ p, ∃ ys : List Str, ∃ z j, x = .ref p ∧ xs = [.str z] ∧ SqT X.K H p (ys.map V.str) ∧ ys[j]? = some z ∧ (∀ m, m < j → ys[m]? ≠ some z) ∧ Q (.int (j : Nat)) H) to (tCons (tE c me) tNil))) : PE X (.Call (.Attribute (.Name x p) "index" pa) [e] [] pos) (tE c (un (idxC ys) me)) := by
  obtain ⟨a, h1, h2, h3⟩ := h
  refine peI (hq _ (pe_glob (v := .ref a) hg h1 rfl hd)) fun σ H Q ⟨F, ρ, T, w, g⟩ => ⟨.inr (.inl ⟨rfl, h2⟩), F, ρ, T, w, g.split.imp fun y ρ1 F1 H1 s1 g1 w1 v rv => ?_⟩
  obtain ⟨d, hd, k⟩ := g1.opt
  cases y with
  | str z =>
    have hd : (ys.findIdx? fun u => decide (u = z)).map (fun j => D.int (j : Nat)) = some d := hd
    cases hf : ys.findIdx? fun u => decide (u = z) with
    | none => rw [hf] at hd; cases hd
    | some j =>
      rw [hf] at hd
      cases hd
      cases rv
      obtain ⟨hj, h1, h2⟩ := List.findIdx?_eq_some_iff_getElem.mp hf
      refine ⟨a, ys, z, j, rfl, rfl, h3 H1, by rw [List.getElem?_eq_getElem hj, of_decide_eq_true h1], fun m hm e => ?_, k F1 H1 (Same.refl _) w1 _ (.int _)⟩
      have hml : m < ys.length := by omega
      rw [List.getElem?_eq_getElem hml] at e
      have e : ys[m] = z := Option.some.inj e
      have := h2 m hm
      rw [e] at this
      simp at this
  | _ => cases hd
end
end Mir

namespace PySem
namespace OEB
open PySem.W PySem.Calls PyProof.Rows PySem.HandSPX
section
open Builtin Builtin.ObjectAttr
variable {prog : Program} {w : World} {A : Around} {E : Value → Shared → Prop} {R : Result → Shared → Prop} {hp : Heap} {g : Array GenState} {d : Drawn} {t : Nat} {os : OsState}
/-- the first field of an exception whose class's line of ancestors refuses nothing -/
theorem osaB {K : W.Frag} {nm : Str} {k : Tok} {u : Value} {e C : Addr} {fs : Array Value} {cd : ClassData} (I0 : K.In hp) (he : hp.get? e = some { cls := .ref C, data := .fields fs }) (hC : W.clsIn K C = some cd)
    (pass : ∀ s, refuseLoop s "__setattr__" cd.mro = pure ()) (ho : cd.mro.contains (.type "object") = true) (hn : cd.mro.isEmpty = false) (hdict : cd.hasDict = true) (free : W.findIn K (.ref C) nm = some none)
    (go : ∀ h1 k1 dx, (∀ b o, b ≠ e → hp.get? b = some o → h1.get? b = some o) → hp.objs.size ≤ dx → dx ≠ e → h1.get? e = some { cls := .ref C, dict := some dx, data := .fields fs } → h1.Ns1 dx (fun y => if y = nm then some u else none) → R (.ok (.ret .none)) ⟨h1, g, d, k1, os⟩) :
    codeAny (model prog w) A (.call (.builtin "object.__setattr__") ⟨[.ref e, .str nm k, u], []⟩) R ⟨hp, g, d, t, os⟩ := by
  have at1 : W.InstAt hp e { cls := .ref C, data := .fields fs } C none := ⟨he, rfl, rfl, trivial⟩
  have S := F.store_object
  have far : e ≠ hp.objs.size := Nat.ne_of_lt (Heap.lt_size he)
  have isO : W.Looks (model prog w) hp (isInstance (.ref e) (.type "object")) true := at1.type.andThen (W.looks_mroIn I0 (by unfold W.mroIn; rw [hC, Option.bind_some, if_neg (by rw [hn]; decide), ho]))
  refine codeAny_call_builtin S.slot.plain S.entry (@W.check_slot (model prog w) _ _ ⟨hp, g, d, t, os⟩ "object.__setattr__" "object" "__setattr__" (.ref e) [.str nm k, u] [] _ S.kind S.split isO (S.args (.ref e) (.str nm k) u) ?_)
  have lineC : W.Looks (model prog w) hp (mroOf (.ref C)) cd.mro := (W.looks_clsIn I0 hC).andThen .now
  have tk0 : W.Looks (model prog w) hp (storeTaker? none) none := .now
  have dataC : W.Looks (model prog w) hp (classData C) cd := W.looks_clsIn I0 hC
  rw [W.osa_eq, refuse_eq]
  refine wpAny_bind (wpAny_bind (at1.type.at (wpAny_bind (lineC.at ?_))))
  rw [pass]
  refine wpAny_pure (wpAny_bind (at1.type.at (wpAny_bind ((W.looks_findIn I0 free).at (wpAny_bind (tk0.at ?_))))))
  show wpAny _ _ (storeInOwnDict (.ref e) (.ref C) (.str nm k) nm u false) _ _ _
  obtain ⟨c1, c2, c3, c4, c5, c6, c7, c8, c9, c10, c11⟩ := cd
  dsimp only at hdict
  subst hdict
  unfold storeInOwnDict ownDictForStores
  repeat (first | with_reducible refine store_in_new ?_ ?_ | with_reducible refine wpAny_loadPart_at he ?_ | with_reducible refine dataC.at ?_ | wp_step)
  · exact ⟨_, #[], _, (Heap.get?_update_ne _ _ _ _ far.symm).trans (Heap.get?_push_at rfl rfl), rfl, fun a ha => absurd ha (by simp), fun _ => rfl⟩
  · intro h1 k1 hn1 hs1
    have e1 : (hp.push { cls := .type "dict", data := .dict #[] }).get? e = some { cls := .ref C, data := .fields fs } := Heap.get?_push_of_some _ he
    refine go h1 k1 hp.objs.size (fun b o hb h0 => ?_) (Nat.le_refl _) far.symm ?_ hn1
    · exact (hs1.2 b (Nat.ne_of_lt (Heap.lt_size h0))).trans ((Heap.get?_update_ne _ _ _ _ hb).trans (Heap.get?_push_of_some _ h0))
    · exact (hs1.2 e far).trans (Heap.get?_update_self _ e1 rfl)
end
end OEB
end PySem
namespace Mir
open PySem PySem.Spec PyProof.Rows L2
/-! ### own exception classes straight under another built-in class -/
structure OexB (K : PySem.W.Frag) (C : Addr) (B nw ini : String) (bm : List Value) : Prop where
  cls : ∃ nm q N bs sn sub ab col dd k0 k1 k2 k3 k5, K.lookup C = some (excClassObj nm q C N bs bm true sn sub ab col dd k0 k1 k2 k3 k5 nw)
  bf : ExcBaseFacts B nw ini bm
  sf : StoreFacts B bm "object.__setattr__" "object"
  sa : PySem.W.findIn K (.ref C) "__setattr__" = some (some (.builtin "object.__setattr__"))
  exC : PySem.W.subIn K (.ref C) (.type "BaseException") = some true
  tyC : PySem.W.typeIn K (.ref C) = some (.type "type")
  kC : PySem.W.keepIn K (.ref C) = true
section
variable {X : Cx} {pins : List (Addr × Obj)} {σ : L2.St} {H : Hp} {s : Shared} {a C : Addr} {f : Str} {y : V} {u : Value} {E : Value → Shared → Prop} {A : Around} {B nw ini : String} {bm : List Value}
theorem ostB {Q : Unit → Shared → Prop} (T : OexB X.K C B nw ini bm) (I : Inv X pins σ H s) (ea : H a = some (exo a C none)) (hno : PySem.W.findIn X.K (.ref C) f = some none) (ry : RelV y u)
    (go : ∀ dx s1, H dx = none → dx ≠ a → Inv X pins σ (upd (upd H dx (exd dx [(f, y)])) a (exo a C (some dx))) s1 → Q () s1) : wpAny (model X.prog X.w) A (setAttr (.ref a) f u) Q E s := by
  obtain ⟨nm, q, N, bs, sn, sub, ab, col, dd, k0, k1, k2, k3, k5, lC⟩ := T.cls
  have ci : PySem.W.clsIn X.K C = some { name := nm, bases := bs, mro := .ref C :: bm, ns := N, qualname := q, hasDict := true, slotNames := sn, subclasses := sub, abstract := ab, collection := col, hasDel := false } := by
    unfold PySem.W.clsIn
    rw [lC] <;> rfl
  obtain ⟨t1, oa⟩ := exo_at I.hok ea
  obtain ⟨hp, g, d, t, os⟩ := s
  refine PySem.W.set_plain I.kIn (ox := { cls := .ref C, dict := none, data := .fields #[.ref t1, .none, .none, .none, .bool false, .none] }) (od := none) ⟨oa, rfl, rfl, trivial⟩ T.sa ?_
  have hob : (Value.ref C :: bm).contains (.type "object") = true := by rw [List.contains_cons, T.sf.hasOwner, Bool.or_true]
  refine PySem.OEB.osaB I.kIn oa ci (fun z => (show refuseLoop z "__setattr__" (.ref C :: bm) = pure () by rw [refuseLoop_ref]; exact T.sf.passes z)) hob rfl rfl hno (fun h1 tk1 dx keep dn dne hx hns => ?_)
  have free : H dx = none := I.hok.fresh dn
  have ndx : ∀ {b : Addr} {o : Obj}, hp.get? b = some o → b ≠ dx := fun {b o} z => Nat.ne_of_lt (Nat.lt_of_lt_of_le (Heap.lt_size z) dn)
  have nea : ∀ {b : Addr}, H b = none → b ≠ a := fun {b} n z => by
    rw [z, ea] at n
    cases n
  have un : Un X.fs [] H (upd (upd H dx (exd dx [(f, y)])) a (exo a C (some dx))) hp h1 := {
    keep := fun b o z n _ _ => keep b o (nea n) z
    slot := fun b o z n _ _ => ⟨o.slots, keep b o (nea n) z⟩
    free := fun b o z n _ => by
      rw [upd_ne (nea n), upd_ne (ndx z)]
      exact n
    there := fun b o z _ => by
      by_cases hb : b = a
      · subst hb
        exact ⟨_, hx⟩
      · exact ⟨o, keep b o hb z⟩
    tups := fun b xs z => by
      rw [upd_ne (at_ne ea z exo_tup), upd_ne (ne_of_none z free)]
      exact z
    frzs := fun b o v z => by
      rw [upd_ne (at_ne ea z exo_frz), upd_ne (ne_of_none z free)]
      exact z
    tbls := fun b ps z => ⟨#[], by
      rw [upd_ne (at_ne ea z exo_tbl), upd_ne (ne_of_none z free), z]
      simp⟩ }
  refine go dx _ free dne (I.un (t' := tk1) un fun b o z => ?_)
  by_cases hb : b = a
  · subst hb
    rw [upd_same] at z
    cases z
    exact exo_ok hx
  rw [upd_ne hb] at z
  by_cases hd : b = dx
  · subst hd
    rw [upd_same] at z
    cases z
    exact exd_ok hns (relO_put (fs := []) ry fun _ => True.intro)
  rw [upd_ne hd] at z
  refine (I.hok b o z).stay (fun c v hc w => keep c v ?_ w) (fun c hc => ?_) (fun c xs hc => ?_)
  · rcases hc with hc | hc
    · rw [hc]; exact hb
    · exact at_ne ea hc exo_own
  · rw [upd_ne (at_ne ea hc exo_own), upd_ne (ne_of_none hc free)]; exact hc
  · rw [upd_ne (at_ne ea hc exo_tup), upd_ne (ne_of_none hc free)]; exact hc
/-- the built-in class's own __init__: nothing of it is told -/
theorem oinitB {us : List Value} {Q : Value → Shared → Prop} (T : OexB X.K C B nw ini bm) (I : Inv X pins σ H s) (ea : H a = some (exo a C none)) (hl : us.length ≤ sizeLine) (go : ∀ s1, Inv X pins σ H s1 → Q .none s1) :
    wpAny (model X.prog X.w) A (call (.builtin ini) (.ref a :: us)) Q E s := by
  obtain ⟨nm, q, N, bs, sn, sub, ab, col, dd, k0, k1, k2, k3, k5, lC⟩ := T.cls
  obtain ⟨t1, oa⟩ := exo_at I.hok ea
  obtain ⟨hp, g, d, t, os⟩ := s
  refine wpAny_call (PySem.HandSPX.init_base T.bf (fun Y => rfl) (I.kIn _ _ lC) oa hl fun h1 t2 keep hx => ?_)
  have J := I.write (t' := t) (x := a) (e := a) (o := exo a C none) (by rw [ea]; exact True.intro) (.inl rfl) keep ⟨_, hx⟩ (exo_ok hx)
  have back : upd H a (exo a C none) = H := by
    funext b
    by_cases hb : b = a
    · rw [hb, upd_same, ea]
    · rw [upd_ne hb]
  rw [back] at J
  exact go _ J
end
/-- B.__init__(self, ..) -/
def tBin (K : PySem.W.Frag) (B nw ini : String) (bm : List Value) (ta : TA) : TE := fun σ H Q => ta σ H fun vs H1 => ∃ (a C : Addr) (ws : List V), vs = .ref a :: ws ∧ ws.length ≤ 1000 ∧ OexB K C B nw ini bm ∧ H1 a = some (exo a C none) ∧ Q .non H1
/-- self.f = e, the one field -/
def tOs1 (K : PySem.W.Frag) (f : Str) (B nw ini : String) (bm : List Value) (to te : TE) : TS := fun D σ H => te σ H fun y H1 => to σ H1 fun x H2 => ∃ a C : Addr, x = .ref a ∧ OexB K C B nw ini bm ∧ PySem.W.findIn K (.ref C) f = some none ∧ H2 a = some (exo a C none) ∧
  ∀ dx, H2 dx = none → dx ≠ a → D.nx σ (upd (upd H2 dx (exd dx [(f, y)])) a (exo a C (some dx)))
section
variable {X : Cx} {o e : Expr} {es : List Expr} {to te : TE} {ta : TA} {f : Str} {p p' p1 p2 pos : Pos} {B nw ini : String} {bm : List Value} {xb : Str}
theorem pe_binit {pl : Sem Bool} (hg : Gl X xb) (hm : X.mg xb = none) (boot : bootBuiltins xb = some (.type B)) (ty : typeOf (.type B) = pure (.type "type")) (st : Manifest.isStub B = false) (hi : PySem.W.handedIn (.builtin ini) = true)
    (vB : PySem.W.findCls X.K (.type B) (.type "type") "__init__" = some (.val (.builtin ini))) (hn : xb ≠ ("__name__" : Str)) (hnd : (xb == ("__debug__" : Str)) = false) (ha : PA X (e :: es) ta)
    (hc : eval (.Call (.Attribute (.Name xb p1) "__init__" p2) (e :: es) [] pos) X.env = (do
      let ov ← eval (.Name xb p1) X.env
      standAt p2.atName
      let (f, first) ← holding [ov] (getMethod ov "__init__" pl)
      callWith pos f first (backTo pos (starEach (e :: es) X.env)) (backToKw pos (keywordEach [] X.env))) := by rfl)
    (he : starEach (e :: es) X.env = (false, eval e X.env) :: starEach es X.env := by rfl) (hpl : (backTo pos (starEach es X.env)).any (·.1) = false := by rfl) :
    PE X (.Call (.Attribute (.Name xb p1) "__init__" p2) (e :: es) [] pos) (tBin X.K B nw ini bm ta) := by
  refine ⟨fun pins s σ H Q I h => ?_⟩
  refine PySem.W.methodCall_KW (ld_blt I hg hm boot ?_ hn hnd) hc
  obtain ⟨m, fr⟩ := I.fr
  refine PySem.W.method_type fr I.ok.mod.kin ty st vB hi ?_
  show wpAny _ _ (callWith pos (Value.builtin ini) [] (backTo pos (starEach (e :: es) X.env)) []) _ _ _
  refine PyProof.Rows.callWith_method1 (thn (ha.run pos pins _ σ H _ (I.tok _) h) fun us s1 ⟨vs, H1, J, r1, a, C, ws, ev, hl, T, ea, q⟩ => ?_) he hpl
  subst ev
  cases r1 with
  | @cons _ u0 _ ur ra rw' =>
    obtain rfl : u0 = Value.ref a := ra
    exact oinitB T J ea (by rw [← Paired.length rw', sizeLine_eq]; omega) fun s2 J2 => ⟨.non, H1, J2, rfl, q⟩
theorem ps_os1 (ho : PE X o to) (he : PE X e te) (hs : swapsWith e (some (.Attribute o f p')) pos.line X.env = pure false := by rfl) : PS X (.Assign [.Attribute o f p'] e pos) (tOs1 X.K f B nw ini bm to te) := by
  refine ⟨fun pins s σ H D I h => ?_⟩
  refine plainObj_wpAny_Assign_Attribute (thn (he.run pins s σ H _ I h) fun v s1 ⟨y, H1, I1, r1, q1⟩ => thn (ho.run pins s1 σ H1 _ I1 q1) fun u s2 ⟨x, H2, I2, r2, a, C, ex, T, hno, ea, q⟩ => ?_) hs
  subst ex
  obtain rfl : u = Value.ref a := r2
  exact ostB T I2 ea hno r1 fun dx s3 n ne J => ⟨σ, _, J, q dx n ne⟩
/-- C(e, ..) of such a class -/
theorem pmk_oexB {CX : CXT} {x : Str} {C fI : Addr} {k : Nat} {fd : FuncData} {ps : List Str} {sp : Sp} {ds : List Value} {dvs : List V} (T : OexB X.K C B nw ini bm) (iC : PySem.W.findIn X.K (.ref C) "__init__" = some (some (.ref fI))) (tI : PySem.W.typeIn X.K (.ref fI) = some (.type "function"))
    (F1 : FnOk X.prog X.w X.K X.mg X.base CX k fI fd ps sp) (room : Room (k + 1) X.A) (bnd : Binds X.K fd ps ds) (hd : Vals dvs ds) (hx : Passes CX X (fun _ _ _ => False)) (hg : Gl X x) (hm : X.mg x = some (.ref C)) (ha : PA X (e :: es) ta)
    (hdb : (x == ("__debug__" : Str)) = false := by decide) (he : starEach (e :: es) X.env = (false, eval e X.env) :: starEach es X.env := by rfl) (hpl : (backTo pos (starEach es X.env)).any (·.1) = false := by rfl) :
    PMk X (.Call (.Name x p) (e :: es) [] pos) (tMkO C sp dvs ta) := by
  intro pins s σ H Q I h
  obtain ⟨nm, q, N, bs, sn, sub, ab, col, dd, k0, k1, k2, k3, k5, lC⟩ := T.cls
  refine wpAny_Call_Name_kw (ld_glob I hg hm ?_ hdb)
  refine PySem.W.callWith_K (h₀ := X.base) I.ok.mod.kin T.kC (thn (ha.run pos pins s σ H _ I h) fun us s1 ⟨vs, H1, I1, r1, hz, q1⟩ => ⟨I1.kIn, ?_⟩) he hpl
  show wpAny _ _ (call (.ref C) us) _ _ _
  obtain ⟨hp, g, dr, tk, os⟩ := s1
  have hsz : hp.objs.size ≤ hp.objs.size + 1 := Nat.le_succ _
  have hn : H1 (hp.objs.size + 1) = none := I1.hok.fresh hsz
  have hq := q1 (hp.objs.size + 1) hn
  have keep2 : ∀ b o, hp.get? b = some o → ((hp.push (PySem.W.kdv_tup us)).push (PySem.HandSPX.excO C hp.objs.size)).get? b = some o := fun b o z => Heap.get?_push_of_some _ (Heap.get?_push_of_some _ z)
  have made : ((hp.push (PySem.W.kdv_tup us)).push (PySem.HandSPX.excO C hp.objs.size)).get? (hp.objs.size + 1) = some (PySem.HandSPX.excO C hp.objs.size) := by heap_get
  have J2 : Inv X pins σ (upd H1 (hp.objs.size + 1) (exo (hp.objs.size + 1) C none)) ⟨(hp.push (PySem.W.kdv_tup us)).push (PySem.HandSPX.excO C hp.objs.size), g, dr, tk, os⟩ :=
    I1.laid (t' := tk) (a := hp.objs.size + 1) (o := exo (hp.objs.size + 1) C none) (h' := (hp.push (PySem.W.kdv_tup us)).push (PySem.HandSPX.excO C hp.objs.size)) keep2 hsz (exo_ok made)
  have rs : Vals (V.ref (hp.objs.size + 1) :: (vs ++ dvs)) (Value.ref (hp.objs.size + 1) :: (us ++ ds)) := .cons rfl (r1.append hd)
  have len : (Value.ref (hp.objs.size + 1) :: us ++ ds).length = ps.length := by
    have z := rs.length
    rw [F1.len _ _ _ _ hq] at z
    exact z.symm
  have few : us.length ≤ sizeLine := by
    rw [← Paired.length r1, sizeLine_eq]
    omega
  refine wpAny_call (PySem.HandSPX.call_own T.bf (fun Y => rfl) (I1.kIn _ _ lC) (PySem.W.looks_findIn I1.kIn iC) (fun self => PySem.W.bind_fn I1.kIn self tI) few
    (codeAny_mono (F1.run _ X.stack _ _ ⟨Value.ref (hp.objs.size + 1) :: us, []⟩ (Value.ref (hp.objs.size + 1) :: (us ++ ds)) _ _ (fun _ _ _ => False) (room.make C us []) (J2.env0.make C us []) (bnd _ (Value.ref (hp.objs.size + 1) :: us) J2.kIn len) rs hq) fun r s2 hr => ?_))
  cases r with
  | error er => exact hx pins σ _ _ er s2 J2 hr
  | ok fl =>
    cases fl with
    | ret u =>
      obtain ⟨v, H2, os2, bare2, un2, hok2, rv, ev, d, fs, ea, ed, hd1, q2⟩ := hr
      subst ev
      obtain ⟨h2, g2, d2, t2, os'⟩ := s2
      exact ⟨rv, mk_end (raises_own T.exC T.tyC) I1 hsz keep2 un2 hok2 os2 bare2 ea ed hd1 q2⟩
    | next => exact hr.elim
    | brk => exact hr.elim
    | cont => exact hr.elim
end
end Mir

namespace Mir
open PySem PySem.Spec PyProof.Rows L2
/-! ### raise C(e), C straight under another built-in class -/
/-- the numbers whose message may be written -/
def fitDn : D → Bool
  | .int i => decide (-1000000 ≤ i) && decide (i ≤ 1000000)
  | _ => false
def fitVn : V → Prop
  | .int i => -1000000 ≤ i ∧ i ≤ 1000000
  | _ => False
def spXIn (B : Addr) (f : Str) : Sp := fun vs H Q _ => ∃ (a : Addr) (v : V), vs = [.ref a, v] ∧ fitVn v ∧ H a = some (exo a B none) ∧ ∀ dx, H dx = none → dx ≠ a → Q .non (upd (upd H dx (exd dx [(f, v)])) a (exo a B (some dx)))
def raiseSn (x f : Str) (me : M D) : MS := thenS me fun d ρ => if fitDn d = true then .ex x f d ρ else .no
theorem fit_ofn {c : Mc} {F : Hp} {v : V} {d : D} (h : fitDn d = true) (r : c.rep F v d) : fitVn v := by
  cases d with
  | int i =>
    cases r
    simp only [fitDn, Bool.and_eq_true, decide_eq_true_eq] at h
    exact h
  | _ => cases h
theorem Ws_raisen {ρ : En} {P : Po} {x f : Str} {me : M D} : Ws (raiseSn x f me) ρ P = We me ρ (fun d ρ' => fitDn d = true ∧ P.ex x f d ρ') P.ex := by
  unfold raiseSn
  rw [Ws_then]
  congr 1
  funext d ρ'
  unfold Ws
  simp only []
  by_cases h : fitDn d = true
  · rw [if_pos h]; exact propext ⟨fun z => ⟨h, z⟩, fun z => z.2⟩
  · rw [if_neg h]; exact propext ⟨fun z => z.elim, fun z => h z.1⟩
theorem s_raisen {ρ : En} {N : En → Prop} {R : Sl → En → Prop} {B C : En → Prop} {X : XP} {x f : Str} {me : M D} (h : We me ρ (fun d ρ' => fitDn d = true ∧ X x f d ρ') X) : Wt (raiseSn x f me) ρ N R B C X := by unfold Wt; rw [Ws_raisen]; exact h
theorem fit_intn {i : Int} (h0 : -1000000 ≤ i) (h1 : i ≤ 1000000) : fitDn (.int i) = true := by simp [fitDn]; omega
structure RaB (P : Program) (w : World) (K : PySem.W.Frag) (mg : Str → Option Value) (base : Heap) (cl : Str → Addr) (x f : Str) : Prop where
  ex : ∃ (B nw ini : String) (bm : List Value) (fB : Addr) (fdB : FuncData), OexB K (cl x) B nw ini bm ∧ PySem.W.findIn K (.ref (cl x)) "__init__" = some (some (.ref fB)) ∧ PySem.W.typeIn K (.ref fB) = some (.type "function") ∧ FnOk P w K mg base CX0 1 fB fdB ["self", f] (spXIn (cl x) f) ∧ mg x = some (.ref (cl x)) ∧ Binds K fdB ["self", f] []
section
variable {X : Cx} {c : Mc} {cl : Str → Addr} {e : Expr} {p pos pos' : Pos} {x f : Str} {me : M D} {j : Nat}
theorem ms_raiseB (C : RaB X.prog X.w X.K X.mg X.base cl x f) (hcl : c.cl = cl) (tk : Takes X c.W) (hc : X.calm = true) (hr : Room j X.A) (hk : 2 ≤ j) (hg : Gl X x) (he : PE X e (tE c me)) (hdb : (x == ("__debug__" : Str)) = false := by decide)
    (hs : starEach [e] X.env = (false, eval e X.env) :: starEach [] X.env := by rfl) :
    PS X (.Raise (some (.Call (.Name x p) [e] [] pos)) none pos') (tS c (raiseSn x f me)) := by
  obtain ⟨B, nw, ini, bm, fB, fdB, OB, iB, tB, FB, hm, bB⟩ := C.ex
  subst hcl
  refine psI (ps_raise hc tk (pmk_oexB OB iB tB FB (hr.mono hk) bB .nil pass0 hg hm (pa_cons he pa_nil (hs := hs)) hdb hs)) fun E σ H ⟨F, ρ, T, w, g⟩ => ?_
  refine ⟨F, ρ, T, w, g.split.imp fun d ρ1 F1 H1 s1 g1 w1 v rv => ?_⟩
  by_cases hf : fitDn d = true
  · rw [if_pos hf] at g1
    refine ⟨by show 1 ≤ 1000; decide, fun a ha => ⟨a, v, rfl, fit_ofn hf rv, upd_same, fun dx hdx hne => ⟨rfl, dx, [(f, v)], upd_same, ?_, ?_, ?_⟩⟩⟩
    · rw [upd_ne hne, upd_same]
    · rw [upd_ne hne] at hdx; exact hdx
    · have h1 : H1 dx = none := by rw [upd_ne hne] at hdx; exact hdx
      have e1 : upd (del (upd (upd (upd H1 a (exo a (c.cl x) none)) dx (exd dx [(f, v)])) a (exo a (c.cl x) (some dx))) a) dx (.xd [(f, v)]) = upd H1 dx (.xd [(f, v)]) := by
        funext b
        by_cases z : b = dx
        · subst z; rw [upd_same, upd_same]
        · rw [upd_ne z, upd_ne z]
          by_cases y : b = a
          · subst y; rw [del_same, ha]
          · rw [del_ne y, upd_ne y, upd_ne z, upd_ne y]
      rw [e1]
      exact g1 dx v σ _ _ (same_upd (w1.sub.free h1)) (w1.lay _ h1) upd_same (rv.same (same_upd (w1.sub.free h1)))
  · rw [if_neg hf] at g1
    exact g1.elim
end
theorem typ_IndexError : typeOf (.type "IndexError") = pure (.type "type") := by kernel_rfl
theorem typ_LookupError : typeOf (.type "LookupError") = pure (.type "type") := by kernel_rfl
theorem typ_OverflowError : typeOf (.type "OverflowError") = pure (.type "type") := by kernel_rfl
end Mir

namespace My
open PySem PySem.Spec PyProof.Rows L2 Mir
def topS (i : Nat) : Stmt := PySem.Challenge.pw_cardlines_k06_runs_of_cards.main.body.getD i (.Pass ⟨0, 0, 0, 0⟩)
abbrev s_Place_eq : Stmt := inClass (topS 22) 3
theorem sc_Place_eq : FnScope ["self", "other"] ["self", "other"] (defScope s_Place_eq) := ⟨rfl, rfl, rfl, by decide +kernel, rfl, by decide +kernel, by decide +kernel⟩
abbrev s__wall : Stmt := topS 0
theorem sc__wall : FnScope ["k"] ["k"] (defScope s__wall) := ⟨rfl, rfl, rfl, by decide +kernel, rfl, by decide +kernel, by decide +kernel⟩
abbrev s_is_whole : Stmt := topS 15
theorem sc_is_whole : FnScope ["thing"] ["thing"] (defScope s_is_whole) := ⟨rfl, rfl, rfl, by decide +kernel, rfl, by decide +kernel, by decide +kernel⟩
abbrev s_is_number : Stmt := topS 16
theorem sc_is_number : FnScope ["thing", "low", "high"] ["thing", "low", "high"] (defScope s_is_number) := ⟨rfl, rfl, rfl, by decide +kernel, rfl, by decide +kernel, by decide +kernel⟩
abbrev s_wrong_columns : Stmt := topS 19
theorem sc_wrong_columns : FnScope ["begin", "end", "one_line", "low"] ["begin", "end", "one_line"] (defScope s_wrong_columns) := ⟨rfl, rfl, rfl, by decide +kernel, rfl, by decide +kernel, by decide +kernel⟩
abbrev s_wrong_of_nowhere : Stmt := topS 20
theorem sc_wrong_of_nowhere : FnScope ["last", "begin", "end", "word", "thing"] ["last", "begin", "end"] (defScope s_wrong_of_nowhere) := ⟨rfl, rfl, rfl, by decide +kernel, rfl, by decide +kernel, by decide +kernel⟩
abbrev s_wrong_part : Stmt := topS 21
theorem sc_wrong_part : FnScope ["line", "last", "begin", "end"] ["line", "last", "begin", "end"] (defScope s_wrong_part) := ⟨rfl, rfl, rfl, by decide +kernel, rfl, by decide +kernel, by decide +kernel⟩
abbrev s_runs_of : Stmt := topS 24
theorem sc_runs_of : FnScope ["places", "runs", "place"] ["places"] (defScope s_runs_of) := ⟨rfl, rfl, rfl, by decide +kernel, rfl, by decide +kernel, by decide +kernel⟩
abbrev s_places_of : Stmt := topS 25
theorem sc_places_of : FnScope ["runs", "places", "many", "place"] ["runs"] (defScope s_places_of) := ⟨rfl, rfl, rfl, by decide +kernel, rfl, by decide +kernel, by decide +kernel⟩
abbrev s_run_at : Stmt := topS 26
theorem sc_run_at : FnScope ["places", "card", "first", "last"] ["places", "card"] (defScope s_run_at) := ⟨rfl, rfl, rfl, by decide +kernel, rfl, by decide +kernel, by decide +kernel⟩
abbrev s_l_cell_at : Stmt := topS 28
theorem sc_l_cell_at : FnScope ["_law_script", "_law_k"] ["_law_script", "_law_k"] (defScope s_l_cell_at) := ⟨rfl, rfl, rfl, by decide +kernel, rfl, by decide +kernel, by decide +kernel⟩
abbrev s_l_box : Stmt := topS 29
theorem sc_l_box : FnScope ["_law_script", "_law_k", "_law_cell"] ["_law_script", "_law_k"] (defScope s_l_box) := ⟨rfl, rfl, rfl, by decide +kernel, rfl, by decide +kernel, by decide +kernel⟩
abbrev s_l_take : Stmt := topS 30
theorem sc_l_take : FnScope ["_law_box_here", "_law_many", "_law_found", "_law_once", "_law_twice"] ["_law_box_here", "_law_many"] (defScope s_l_take) := ⟨rfl, rfl, rfl, by decide +kernel, rfl, by decide +kernel, by decide +kernel⟩
abbrev s_l_spot : Stmt := topS 31
theorem sc_l_spot : FnScope ["_law_box_here", "_law_wide", "_law_way", "_law_first", "_law_left", "_law_below"] ["_law_box_here", "_law_wide"] (defScope s_l_spot) := ⟨rfl, rfl, rfl, by decide +kernel, rfl, by decide +kernel, by decide +kernel⟩
abbrev s_l_later : Stmt := topS 32
theorem sc_l_later : FnScope ["_law_own", "_law_step"] ["_law_own", "_law_step"] (defScope s_l_later) := ⟨rfl, rfl, rfl, by decide +kernel, rfl, by decide +kernel, by decide +kernel⟩
abbrev s_l_spots : Stmt := topS 33
theorem sc_l_spots : FnScope ["_law_box_here", "_law_many", "_law_wide", "_law_found", "_law_turn", "_law_way", "_law_spot_here"] ["_law_box_here", "_law_many", "_law_wide"] (defScope s_l_spots) := ⟨rfl, rfl, rfl, by decide +kernel, rfl, by decide +kernel, by decide +kernel⟩
abbrev s_l_place : Stmt := topS 34
theorem sc_l_place : FnScope ["_law_spot_here"] ["_law_spot_here"] (defScope s_l_place) := ⟨rfl, rfl, rfl, by decide +kernel, rfl, by decide +kernel, by decide +kernel⟩
abbrev s_l_same : Stmt := topS 35
theorem sc_l_same : FnScope ["_law_found", "_law_due_here", "_law_one", "_law_two"] ["_law_found", "_law_due_here"] (defScope s_l_same) := ⟨rfl, rfl, rfl, by decide +kernel, rfl, by decide +kernel, by decide +kernel⟩
abbrev s_l_seen : Stmt := topS 36
theorem sc_l_seen : FnScope ["_law_place_here"] ["_law_place_here"] (defScope s_l_seen) := ⟨rfl, rfl, rfl, by decide +kernel, rfl, by decide +kernel, by decide +kernel⟩
abbrev s_l_alone : Stmt := topS 37
theorem sc_l_alone : FnScope ["_law_error", "_law_own", "_law_some"] ["_law_error", "_law_own"] (defScope s_l_alone) := ⟨rfl, rfl, rfl, by decide +kernel, rfl, by decide +kernel, by decide +kernel⟩
abbrev s_l_runs : Stmt := topS 38
theorem sc_l_runs : FnScope ["_law_spots_here", "_law_found", "_law_spot_here"] ["_law_spots_here"] (defScope s_l_runs) := ⟨rfl, rfl, rfl, by decide +kernel, rfl, by decide +kernel, by decide +kernel⟩
abbrev s_l_told : Stmt := topS 39
theorem sc_l_told : FnScope ["_law_box_here", "_law_made", "_law_number", "_law_caught", "_law_found", "_law_error"] ["_law_box_here", "_law_made", "_law_number"] (defScope s_l_told) := ⟨rfl, rfl, rfl, by decide +kernel, rfl, by decide +kernel, by decide +kernel⟩
abbrev s_l_due : Stmt := topS 40
theorem sc_l_due : FnScope ["_law_spots_here", "_law_number", "_law_low", "_law_high"] ["_law_spots_here", "_law_number"] (defScope s_l_due) := ⟨rfl, rfl, rfl, by decide +kernel, rfl, by decide +kernel, by decide +kernel⟩
abbrev s_l_runs_right : Stmt := topS 41
theorem sc_l_runs_right : FnScope ["_law_box_here", "_law_spots_here", "_law_made", "_law_due_here", "_law_found", "_law_told_here", "_law_many", "_law_place_here", "_law_row", "_law_pieces", "_law_less", "_law_handed"] ["_law_box_here", "_law_spots_here", "_law_made"] (defScope s_l_runs_right) := ⟨rfl, rfl, rfl, by decide +kernel, rfl, by decide +kernel, by decide +kernel⟩
abbrev s_law : Stmt := topS 42
theorem sc_law : FnScope ["_law_script", "_law_k", "_law_box_here", "_law_size", "_law_spots_here", "_law_made", "_law_spot_here", "_law_number", "_law_turn", "_law_place_here"] ["_law_script"] (defScope s_law) := ⟨rfl, rfl, rfl, by decide +kernel, rfl, by decide +kernel, by decide +kernel⟩
abbrev s_Place_init : Stmt := inClass (topS 22) 0
theorem sc_Place_init : FnScope ["self", "line", "last", "begin", "end", "part"] ["self", "line", "last", "begin", "end"] (defScope s_Place_init) := ⟨rfl, rfl, rfl, by decide +kernel, rfl, by decide +kernel, by decide +kernel⟩
end My

namespace My
open PySem PySem.Spec PyProof.Rows L2 Mir
/-- is an exception of the class c one of e? -/
def xt (c : Str) (e : D) : Option Bool := if c = "NoCard" then (match e with | .cls n => if n ∈ (["BadPlace", "BadText", "BadRow", "Torn", "Broken", "BadEntry", "BadTurn", "NoCard", "NoDeed", "NoRoom"] : List Str) then some (decide (n = "NoCard")) else none | .raw (.ty t) => if t = "IndexError" then some true else if t = "ValueError" then some false else none | _ => none) else none
/-- which objects are of which classes -/
def io (c : Str) (e : D) : Option Bool := if c = "Place" then (match e with | .cls n => if n = "Place" then some true else none | .raw (.ty t) => if t = "list" then some false else if t = "tuple" then some false else if t = "int" then some false else if t = "str" then some false else if t = "bool" then some false else none | _ => none) else none
/-- the fields of the classes -/
def fl (c f : Str) : Bool := (decide (c = "Place") && decide (f ∈ (["line", "last", "begin", "end"] : List Str))) || false
def b_Place_eq : MS :=
  (retS (mVa (vAnd (cb (f2 (isiOD io)) (mCons (rdv 1) (mCons (ret (.cls "Place")) (ret [])))) (vAnd (bin dEq (un (dFld fl "line") (rdv 0)) (un (dFld fl "line") (rdv 1))) (vAnd (bin dEq (un (dFld fl "last") (rdv 0)) (un (dFld fl "last") (rdv 1))) (vAnd (bin dEq (un (dFld fl "begin") (rdv 0)) (un (dFld fl "begin") (rdv 1))) (bin dEq (un (dFld fl "end") (rdv 0)) (un (dFld fl "end") (rdv 1)))))))))
def f_Place_eq : List Sl → Ou := runDef 2 none b_Place_eq
def wt__wall_1 : M Bool :=
  (un truD (ret (.bl true)))
def w__wall_1 : MS :=
  Fl.nx
def b__wall : MS :=
  (whileS wt__wall_1 w__wall_1 1000)
def f__wall : List Sl → Ou := runDef 1 none b__wall
def b_is_whole : MS :=
  (retS (mVa (vAnd (cb (f2 isiD) (mCons (rdv 0) (mCons (ret (.raw (.ty "int"))) (ret [])))) (un dNot (cb (f2 isiD) (mCons (rdv 0) (mCons (ret (.raw (.ty "bool"))) (ret []))))))))
def f_is_whole : List Sl → Ou := runDef 1 none b_is_whole
def b_is_number : MS :=
  (retS (mVa (vAnd (mFz (callA f_is_whole none [.v] (mCons (rdv 0) (ret [])))) (chn dLe dLe (rdv 1) (rdv 0) (rdv 2)))))
def f_is_number : List Sl → Ou := runDef 3 none b_is_number
def b_wrong_columns : MS :=
  (sq (ifS (mAnd (un asB (bin dIsN (rdv 0) (ret .non))) (un truD (rdv 2))) (retS (mVa (mIf (un asB (bin dIsN (rdv 1) (ret .non))) (ret .non) (ret (.str "end"))))) Fl.nx)
    (sq (ifS (mNot (un truD (mFz (callA f_is_number none [.v, .v, .v] (mCons (rdv 0) (mCons (ret (.int 0)) (mCons (ret (.int 10000)) (ret [])))))))) (retS (mVa (ret (.str "begin")))) Fl.nx)
    (sq (asgS 3 (mVa (mIf (un truD (rdv 2)) (rdv 0) (ret (.int 0)))))
    (retS (mVa (mIf (un truD (mFz (callA f_is_number none [.v, .v, .v] (mCons (rdv 1) (mCons (rdv 3) (mCons (ret (.int 10000)) (ret []))))))) (ret .non) (ret (.str "end"))))))))
def f_wrong_columns : List Sl → Ou := runDef 4 none b_wrong_columns
def lp_wrong_of_nowhere_1 : MS :=
  (ifS (un asB (bin dNotN (rdv 4) (ret .non))) (retS (mVa (rdv 3))) Fl.nx)
def b_wrong_of_nowhere : MS :=
  (sq (forS (un seqD (cb dTup (mCons (cb dTup (mCons (ret (.str "last")) (mCons (rdv 0) (ret [])))) (mCons (cb dTup (mCons (ret (.str "begin")) (mCons (rdv 1) (ret [])))) (mCons (cb dTup (mCons (ret (.str "end")) (mCons (rdv 2) (ret [])))) (ret [])))))) (bT (bCons (bN 3) (bCons (bN 4) bNil))) lp_wrong_of_nowhere_1)
    (retS (mVa (ret .non))))
def f_wrong_of_nowhere : List Sl → Ou := runDef 5 none b_wrong_of_nowhere
def b_wrong_part : MS :=
  (sq (ifS (un asB (bin dIsN (rdv 0) (ret .non))) (retS (callA f_wrong_of_nowhere none [.v, .v, .v] (mCons (rdv 1) (mCons (rdv 2) (mCons (rdv 3) (ret [])))))) Fl.nx)
    (sq (ifS (mNot (un truD (mFz (callA f_is_number none [.v, .v, .v] (mCons (rdv 0) (mCons (ret (.int 1)) (mCons (ret (.int 1000000)) (ret [])))))))) (retS (mVa (ret (.str "line")))) Fl.nx)
    (sq (ifS (un asB (bin dIsN (rdv 1) (ret .non))) (retS (callA f_wrong_columns none [.v, .v, .v] (mCons (rdv 2) (mCons (rdv 3) (mCons (ret (.bl true)) (ret [])))))) Fl.nx)
    (sq (ifS (mNot (un truD (mFz (callA f_is_number none [.v, .v, .v] (mCons (rdv 1) (mCons (rdv 0) (mCons (cb (f2 minD) (mCons (mFz (bin dAdd (rdv 0) (ret (.int 99)))) (mCons (ret (.int 1000000)) (ret [])))) (ret [])))))))) (retS (mVa (ret (.str "last")))) Fl.nx)
    (retS (callA f_wrong_columns none [.v, .v, .v] (mCons (rdv 2) (mCons (rdv 3) (mCons (bin dEq (rdv 1) (rdv 0)) (ret []))))))))))
def f_wrong_part : List Sl → Ou := runDef 4 none b_wrong_part
def lp_runs_of_1 : MS :=
  (ifS (mAnd (un truD (pk 1)) (un asB (bin (dEqO f_Place_eq "Place" false) (bin dIx (binP dIx 1 (un dNeg (ret (.int 1)))) (ret (.int 1))) (rdv 2)))) (setS 1 (un dNeg (ret (.int 1))) (cb dTup (mCons (mFz (bin dAdd (bin dIx (binP dIx 1 (un dNeg (ret (.int 1)))) (ret (.int 0))) (ret (.int 1)))) (mCons (rdv 2) (ret []))))) (appS 1 (cb dTup (mCons (ret (.int 1)) (mCons (rdv 2) (ret []))))))
def b_runs_of : MS :=
  (sq (asgS 1 (cb dLst (ret [])))
    (sq (forS (un seqD (rdv 0)) (bN 2) lp_runs_of_1)
    (retS (giv 1))))
def f_runs_of : List Sl → Ou := runDef 3 none b_runs_of
def lp_places_of_1 : MS :=
  (extS 1 (mFz (bin dMul (mFz (cb dLst (mCons (rdv 3) (ret [])))) (rdv 2))))
def b_places_of : MS :=
  (sq (asgS 1 (cb dLst (ret [])))
    (sq (forS (un seqD (rdv 0)) (bT (bCons (bN 2) (bCons (bN 3) bNil))) lp_places_of_1)
    (retS (giv 1))))
def f_places_of : List Sl → Ou := runDef 4 none b_places_of
def wt_run_at_1 : M Bool :=
  (mAnd (un asB (bin dLt (mFz (bin dAdd (rdv 3) (ret (.int 1)))) (cb (f1 lenD) (mCons (rdv 0) (ret []))))) (un asB (bin (dEqO f_Place_eq "Place" false) (bin dIx (rdv 0) (mFz (bin dAdd (rdv 3) (ret (.int 1))))) (bin dIx (rdv 0) (rdv 1)))))
def w_run_at_1 : MS :=
  (augS 3 dAddI (ret (.int 1)))
def wt_run_at_2 : M Bool :=
  (mAnd (un asB (bin dGt (rdv 2) (ret (.int 0)))) (un asB (bin (dEqO f_Place_eq "Place" false) (bin dIx (rdv 0) (bin dSub (rdv 2) (ret (.int 1)))) (bin dIx (rdv 0) (rdv 1)))))
def w_run_at_2 : MS :=
  (augS 2 dSub (ret (.int 1)))
def b_run_at : MS :=
  (sq (ifS (mNot (un asB (chn dLe dLt (ret (.int 0)) (rdv 1) (cb (f1 lenD) (mCons (rdv 0) (ret [])))))) (raiseSn "NoCard" "card" (rdv 1)) Fl.nx)
    (sq (asgS 2 (mVa (rdv 1)))
    (sq (whileS wt_run_at_2 w_run_at_2 1000)
    (sq (asgS 3 (mVa (rdv 1)))
    (sq (whileS wt_run_at_1 w_run_at_1 1000)
    (retS (mVa (cb dTup (mCons (rdv 2) (mCons (rdv 3) (mCons (bin dIx (rdv 0) (rdv 1)) (ret []))))))))))))
def f_run_at : List Sl → Ou := runDef 4 none b_run_at
def b_l_cell_at : MS :=
  (sq (ifS (un asB (bin dLt (rdv 1) (cb (f1 lenD) (mCons (rdv 0) (ret []))))) (retS (mVa (bin dIx (rdv 0) (rdv 1)))) Fl.nx)
    (retS (mVa (ret (.int 0)))))
def f_l_cell_at : List Sl → Ou := runDef 2 none b_l_cell_at
def b_l_box : MS :=
  (sq (asgS 2 (mVa (mFz (callA f_l_cell_at none [.v, .v] (mCons (rdv 0) (mCons (rdv 1) (ret [])))))))
    (retS (cb dLst (mCons (mFz (bin dMul (cb (f1 absD) (mCons (rdv 2) (ret []))) (cb (f1 intD) (mCons (bin dGe (cb (f1 absD) (mCons (rdv 2) (ret []))) (bin dPow (ret (.int 10)) (ret (.int 18)))) (ret []))))) (mCons (mFz (bin dAdd (mFz (bin dAdd (bin dMod (rdv 2) (ret (.int 2305843009213693951))) (mFz (bin dMul (ret (.int 39373)) (rdv 1))))) (ret (.int 17)))) (mCons (ret (.int 0)) (ret [])))))))
def f_l_box : List Sl → Ou := runDef 3 none b_l_box
def b_l_take : MS :=
  (sq (ifS (un asB (bin dGt (binP dIx 0 (ret (.int 0))) (ret (.int 0)))) (sq (asgS 2 (mVa (bin dMod (binP dIx 0 (ret (.int 0))) (rdv 1))))
      (sq (setS 0 (ret (.int 0)) (bin dDiv (binP dIx 0 (ret (.int 0))) (rdv 1)))
      (retS (mVa (rdv 2))))) Fl.nx)
    (sq (setS 0 (ret (.int 2)) (mFz (bin dAdd (binP dIx 0 (ret (.int 2))) (ret (.int 1)))))
    (sq (asgS 3 (mVa (bin dMod (mFz (bin dMul (mFz (bin dAdd (binP dIx 0 (ret (.int 1))) (mFz (bin dMul (ret (.int 48271)) (binP dIx 0 (ret (.int 2))))))) (mFz (bin dAdd (ret (.int 39373)) (binP dIx 0 (ret (.int 2))))))) (ret (.int 2147483647)))))
    (sq (asgS 4 (mVa (bin dMod (mFz (bin dMul (mFz (bin dAdd (mFz (bin dAdd (rdv 3) (binP dIx 0 (ret (.int 2))))) (bin dDiv (binP dIx 0 (ret (.int 1))) (ret (.int 1000003))))) (mFz (bin dAdd (bin dMod (rdv 3) (ret (.int 40009))) (ret (.int 7)))))) (ret (.int 2147483629)))))
    (retS (mVa (bin dMod (bin dDiv (bin dMod (mFz (bin dAdd (mFz (bin dMul (rdv 4) (ret (.int 48271)))) (rdv 3))) (ret (.int 2147483587))) (ret (.int 64))) (rdv 1))))))))
def f_l_take : List Sl → Ou := runDef 5 (some 0) b_l_take
def b_l_spot : MS :=
  (sq (parS [2, 3] (lCons (mVa (mFz (callA f_l_take (some 0) [.o 0, .v] (hasM 0 (mCons (ret (.int 6)) (ret [])))))) (lCons (mVa (mFz (bin dAdd (ret (.int 1)) (mFz (callA f_l_take (some 0) [.o 0, .v] (hasM 0 (mCons (rdv 1) (ret [])))))))) (ret []))))
    (sq (ifS (un asB (bin dEq (rdv 2) (ret (.int 0)))) (retS (mVa (cb dTup (mCons (ret .non) (mCons (ret .non) (mCons (ret .non) (mCons (ret .non) (ret [])))))))) Fl.nx)
    (sq (ifS (un asB (bin dLt (rdv 2) (ret (.int 3)))) (retS (mVa (cb dTup (mCons (rdv 3) (mCons (rdv 3) (mCons (ret .non) (mCons (ret .non) (ret [])))))))) Fl.nx)
    (sq (asgS 4 (mVa (mFz (callA f_l_take (some 0) [.o 0, .v] (hasM 0 (mCons (bin dIx (mFz (cb dLst (mCons (ret (.int 4)) (mCons (ret (.int 60)) (mCons (mFz (bin dAdd (bin dPow (ret (.int 10)) (ret (.int 4))) (ret (.int 1)))) (ret [])))))) (mFz (callA f_l_take (some 0) [.o 0, .v] (hasM 0 (mCons (ret (.int 3)) (ret [])))))) (ret [])))))))
    (sq (ifS (un asB (bin dLt (rdv 2) (ret (.int 5)))) (retS (mVa (cb dTup (mCons (rdv 3) (mCons (rdv 3) (mCons (rdv 4) (mCons (cb (f2 minD) (mCons (bin dPow (ret (.int 10)) (ret (.int 4))) (mCons (mFz (bin dAdd (rdv 4) (mFz (callA f_l_take (some 0) [.o 0, .v] (hasM 0 (mCons (bin dIx (mFz (cb dLst (mCons (ret (.int 3)) (mCons (ret (.int 80)) (mCons (bin dPow (ret (.int 10)) (ret (.int 4))) (ret [])))))) (mFz (callA f_l_take (some 0) [.o 0, .v] (hasM 0 (mCons (ret (.int 3)) (ret [])))))) (ret []))))))) (ret [])))) (ret [])))))))) Fl.nx)
    (sq (asgS 5 (mVa (cb (f2 minD) (mCons (bin dPow (ret (.int 10)) (ret (.int 6))) (mCons (mFz (bin dAdd (mFz (bin dAdd (rdv 3) (ret (.int 1)))) (mFz (callA f_l_take (some 0) [.o 0, .v] (hasM 0 (mCons (bin dIx (mFz (cb dLst (mCons (ret (.int 2)) (mCons (ret (.int 99)) (ret []))))) (mFz (callA f_l_take (some 0) [.o 0, .v] (hasM 0 (mCons (ret (.int 2)) (ret [])))))) (ret []))))))) (ret []))))))
    (sq (ifS (un asB (bin dEq (rdv 5) (rdv 3))) (retS (mVa (cb dTup (mCons (rdv 3) (mCons (rdv 3) (mCons (ret .non) (mCons (ret .non) (ret [])))))))) Fl.nx)
    (retS (mVa (cb dTup (mCons (rdv 3) (mCons (rdv 5) (mCons (rdv 4) (mCons (mFz (callA f_l_take (some 0) [.o 0, .v] (hasM 0 (mCons (bin dIx (mFz (cb dLst (mCons (ret (.int 4)) (mCons (ret (.int 60)) (mCons (mFz (bin dAdd (bin dPow (ret (.int 10)) (ret (.int 4))) (ret (.int 1)))) (ret [])))))) (mFz (callA f_l_take (some 0) [.o 0, .v] (hasM 0 (mCons (ret (.int 3)) (ret [])))))) (ret []))))) (ret [])))))))))))))))
def f_l_spot : List Sl → Ou := runDef 6 (some 0) b_l_spot
def b_l_later : MS :=
  (retS (mIf (un asB (bin dIsN (bin dIx (rdv 0) (ret (.int 0))) (ret .non))) (mVa (rdv 0)) (bin dAdd (cb dTup (mCons (mFz (bin dAdd (bin dIx (rdv 0) (ret (.int 0))) (rdv 1))) (mCons (mFz (bin dAdd (bin dIx (rdv 0) (ret (.int 1))) (rdv 1))) (ret [])))) (mFz (slE (rdv 0) (un asI (ret (.int 2))) (ret none))))))
def f_l_later : List Sl → Ou := runDef 2 none b_l_later
def lp_l_spots_1 : MS :=
  (sq (asgS 5 (mVa (mFz (callA f_l_take (some 0) [.o 0, .v] (hasM 0 (mCons (ret (.int 7)) (ret [])))))))
      (sq (asgS 6 (mVa (mFz (callA f_l_spot (some 0) [.o 0, .v] (hasM 0 (mCons (rdv 2) (ret [])))))))
      (sq (ifS (mAnd (un asB (binP dNe 3 (mFz (cb dLst (ret []))))) (un asB (bin dLt (rdv 5) (ret (.int 2))))) (asgS 6 (mVa (binP dIx 3 (un dNeg (ret (.int 1)))))) Fl.nx)
      (sq (ifS (mAnd (un asB (binP dNe 3 (mFz (cb dLst (ret []))))) (un asB (bin (inD false) (rdv 5) (cb dTup (mCons (ret (.int 2)) (mCons (ret (.int 3)) (ret []))))))) (asgS 6 (mVa (mFz (callA f_l_later none [.v, .v] (mCons (binP dIx 3 (un dNeg (ret (.int 1)))) (mCons (bin dIx (mFz (cb dLst (mCons (ret (.int 1)) (mCons (ret (.int 1)) (mCons (ret (.int 2)) (mCons (ret (.int 0)) (ret []))))))) (mFz (callA f_l_take (some 0) [.o 0, .v] (hasM 0 (mCons (ret (.int 4)) (ret [])))))) (ret []))))))) Fl.nx)
      (sq (ifS (mAnd (un asB (bin dGt (un (fun d => (f1 lenD) [d]) (pk 3)) (ret (.int 2)))) (un asB (bin dEq (rdv 5) (ret (.int 4))))) (asgS 6 (mVa (mFz (callA f_l_later none [.v, .v] (mCons (binP dIx 3 (bin dSub (un dNeg (ret (.int 1))) (mFz (callA f_l_take (some 0) [.o 0, .v] (hasM 0 (mCons (cb (f2 minD) (mCons (un (fun d => (f1 lenD) [d]) (pk 3)) (mCons (ret (.int 6)) (ret [])))) (ret []))))))) (mCons (bin dIx (mFz (cb dLst (mCons (ret (.int 0)) (mCons (ret (.int 1)) (mCons (ret (.int 7)) (ret [])))))) (mFz (callA f_l_take (some 0) [.o 0, .v] (hasM 0 (mCons (ret (.int 3)) (ret [])))))) (ret []))))))) Fl.nx)
      (appS 3 (mIf (mOr (un asB (bin dIsN (bin dIx (rdv 6) (ret (.int 0))) (ret .non))) (mAnd (un asB (bin dLe (ret (.int 1)) (bin dIx (rdv 6) (ret (.int 0))))) (un asB (bin dLe (bin dIx (rdv 6) (ret (.int 1))) (bin dPow (ret (.int 10)) (ret (.int 6))))))) (rdv 6) (cb dTup (mCons (ret (.int 1)) (mCons (ret (.int 1)) (mCons (ret .non) (mCons (ret .non) (ret [])))))))))))))
def b_l_spots : MS :=
  (sq (asgS 3 (cb dLst (ret [])))
    (sq (forS (cb rng1 (mCons (rdv 1) (ret []))) (bN 4) lp_l_spots_1)
    (retS (giv 3))))
def f_l_spots : List Sl → Ou := runDef 7 (some 0) b_l_spots
/-- what Place(..) comes to -/
def f_Place_init (as : List Sl) : Ou := match as with
  | [.va ln, .va la, .va bg, .va en] => (match f_wrong_part [.va ln, .va la, .va bg, .va en] with
    | .ok (.va .non) _ => (match isN la with
      | some k => .ok (.va (.ob "Place" ["line", "last", "begin", "end"] [ln, if k = true then ln else la, bg, en])) []
      | none => .no)
    | .ok (.va (.str z)) _ => if fitD (.str z) = true then .ex "BadPlace" "part" (.str z) [] else .no
    | _ => .no)
  | _ => .no
def b_l_place : MS :=
  (sq (ifS (un asB (bin dIsN (bin dIx (rdv 0) (ret (.int 0))) (ret .non))) (retS (mkA f_Place_init "Place" ((fun (ds fs : List D) => match ds, fs with | [], [] => [.non, .non, .non, .non] | _, _ => []) [] []))) Fl.nx)
    (sq (ifS (un asB (bin dIsN (bin dIx (rdv 0) (ret (.int 2))) (ret .non))) (retS (mkP f_Place_init "Place" 1 0 (fun (ds fs : List D) => match ds, fs with | [r0], [] => [r0, .non, .non, .non] | _, _ => []) (mCons (bin dIx (rdv 0) (ret (.int 0))) (ret [])) (ret []))) Fl.nx)
    (retS (mkP f_Place_init "Place" 2 2 (fun (ds fs : List D) => match ds, fs with | [r0, r1], [q0, q1] => [r0, r1, q0, q1] | _, _ => []) (mCons (bin dIx (rdv 0) (ret (.int 0))) (mCons (bin dIx (rdv 0) (ret (.int 1))) (ret []))) (mCons (bin dIx (rdv 0) (ret (.int 2))) (mCons (bin dIx (rdv 0) (ret (.int 3))) (ret [])))))))
def f_l_place : List Sl → Ou := runDef 1 none b_l_place
def el_l_same_1 (self : List Sl → Ou) : M D :=
  (mFz (callA self none [.v, .v] (mCons (rdv 2) (mCons (rdv 3) (ret [])))))
def b_l_same (self : List Sl → Ou) : MS :=
  (sq (ifS (un truD (cb (f2 isiTD) (mCons (rdv 1) (mCons (cb dTup (mCons (ret (.raw (.ty "list"))) (mCons (ret (.raw (.ty "tuple"))) (ret [])))) (ret []))))) (sq (ifS (mOr (un asB (bin dNe (cb (f2 isiD) (mCons (rdv 0) (mCons (ret (.raw (.ty "list"))) (ret [])))) (cb (f2 isiD) (mCons (rdv 1) (mCons (ret (.raw (.ty "list"))) (ret [])))))) (un asB (bin dNe (cb (f2 isiD) (mCons (rdv 0) (mCons (ret (.raw (.ty "tuple"))) (ret [])))) (cb (f2 isiD) (mCons (rdv 1) (mCons (ret (.raw (.ty "tuple"))) (ret []))))))) (retS (mVa (ret (.bl false)))) Fl.nx)
      (retS (mVa (vAnd (bin dEq (cb (f1 lenD) (mCons (rdv 0) (ret []))) (cb (f1 lenD) (mCons (rdv 1) (ret [])))) (cb (f1 allD) (mCons (mFz (mLc (cb zpD (mCons (rdv 0) (mCons (rdv 1) (ret [])))) (bT (bCons (bN 2) (bCons (bN 3) bNil))) (ret true) (el_l_same_1 self) [2, 3])) (ret []))))))) Fl.nx)
    (sq (ifS (mOr (un asB (bin dIsN (rdv 1) (ret .non))) (un truD (cb (f2 isiD) (mCons (rdv 1) (mCons (ret (.raw (.ty "str"))) (ret [])))))) (retS (mVa (vAnd (bin dEq (cb (f2 isiD) (mCons (rdv 0) (mCons (ret (.raw (.ty "str"))) (ret [])))) (cb (f2 isiD) (mCons (rdv 1) (mCons (ret (.raw (.ty "str"))) (ret []))))) (bin dEq (rdv 0) (rdv 1))))) Fl.nx)
    (retS (mVa (vAnd (cb (f2 isiD) (mCons (rdv 0) (mCons (ret (.raw (.ty "int"))) (ret [])))) (vAnd (bin dEq (cb (f2 isiD) (mCons (rdv 0) (mCons (ret (.raw (.ty "bool"))) (ret [])))) (cb (f2 isiD) (mCons (rdv 1) (mCons (ret (.raw (.ty "bool"))) (ret []))))) (bin dEq (rdv 0) (rdv 1))))))))
def f_l_same : Nat → List Sl → Ou
  | 0 => fun _ => .no
  | n + 1 => runDef 4 none (b_l_same (f_l_same n))
def b_l_seen : MS :=
  (retS (mIf (un truD (cb (f2 (isiOD io)) (mCons (rdv 0) (mCons (ret (.cls "Place")) (ret []))))) (mVa (cb dTup (mCons (un (dFld fl "line") (rdv 0)) (mCons (un (dFld fl "last") (rdv 0)) (mCons (un (dFld fl "begin") (rdv 0)) (mCons (un (dFld fl "end") (rdv 0)) (ret []))))))) (cb dLst (mCons (rdv 0) (ret [])))))
def f_l_seen : List Sl → Ou := runDef 1 none b_l_seen
def b_l_alone : MS :=
  (sq (asgS 2 (mVa (mFz (cb dLst (mCons (cb (f2 (isxD xt)) (mCons (rdv 0) (mCons (ret (.cls "BadPlace")) (ret [])))) (mCons (cb (f2 (isxD xt)) (mCons (rdv 0) (mCons (ret (.cls "BadText")) (ret [])))) (mCons (cb (f2 (isxD xt)) (mCons (rdv 0) (mCons (ret (.cls "BadRow")) (ret [])))) (mCons (cb (f2 (isxD xt)) (mCons (rdv 0) (mCons (ret (.cls "Torn")) (ret [])))) (ret [])))))))))
    (sq (asgS 2 (mVa (mFz (bin dAdd (rdv 2) (mFz (cb dLst (mCons (cb (f2 (isxD xt)) (mCons (rdv 0) (mCons (ret (.cls "Broken")) (ret [])))) (mCons (cb (f2 (isxD xt)) (mCons (rdv 0) (mCons (ret (.cls "BadEntry")) (ret [])))) (mCons (cb (f2 (isxD xt)) (mCons (rdv 0) (mCons (ret (.cls "BadTurn")) (ret [])))) (ret []))))))))))
    (sq (asgS 2 (mVa (mFz (bin dAdd (rdv 2) (mFz (cb dLst (mCons (cb (f2 (isxD xt)) (mCons (rdv 0) (mCons (ret (.cls "NoCard")) (ret [])))) (mCons (cb (f2 (isxD xt)) (mCons (rdv 0) (mCons (ret (.cls "NoDeed")) (ret [])))) (mCons (cb (f2 (isxD xt)) (mCons (rdv 0) (mCons (ret (.cls "NoRoom")) (ret [])))) (ret []))))))))))
    (retS (mVa (vAnd (bin dEq (lstM cntD (rdv 2) (ret (.bl true))) (ret (.int 1))) (vAnd (bin dEq (lstM idxD (rdv 2) (ret (.bl true))) (rdv 1)) (bin dEq (cb (f2 (isxD xt)) (mCons (rdv 0) (mCons (ret (.raw (.ty "ValueError"))) (ret [])))) (bin dLt (rdv 1) (ret (.int 7)))))))))))
def f_l_alone : List Sl → Ou := runDef 3 none b_l_alone
def lp_l_runs_1 : MS :=
  (ifS (mAnd (un asB (binP dNe 1 (mFz (cb dLst (ret []))))) (un asB (bin dEq (bin dIx (binP dIx 1 (un dNeg (ret (.int 1)))) (ret (.int 1))) (rdv 2)))) (setS 1 (un dNeg (ret (.int 1))) (cb dTup (mCons (mFz (bin dAdd (bin dIx (binP dIx 1 (un dNeg (ret (.int 1)))) (ret (.int 0))) (ret (.int 1)))) (mCons (rdv 2) (ret []))))) (appS 1 (cb dTup (mCons (ret (.int 1)) (mCons (rdv 2) (ret []))))))
def b_l_runs : MS :=
  (sq (asgS 1 (cb dLst (ret [])))
    (sq (forS (un seqD (rdv 0)) (bN 2) lp_l_runs_1)
    (retS (giv 1))))
def f_l_runs : List Sl → Ou := runDef 3 none b_l_runs
def b_l_told : MS :=
  (sq (asgT (cb dTup (mCons (ret .non) (mCons (ret .non) (ret [])))) (bT (bCons (bN 3) (bCons (bN 4) bNil))))
    (sq (tryS (asgS 4 (mVa (mFz (mIf (un asB (bin dEq (mFz (callA f_l_take (some 0) [.o 0, .v] (hasM 0 (mCons (ret (.int 2)) (ret []))))) (ret (.int 0)))) (callA f_run_at none [.v, .v] (mCons (rdv 1) (mCons (rdv 2) (ret [])))) (callC f_run_at none [.v, .v] (fun ds fs => match ds, fs with | [], [q0, q1] => [q1, q0] | _, _ => []) (mCons (rdv 2) (mCons (cb (f1 tupleD) (mCons (rdv 1) (ret []))) (ret [])))))))) "NoCard" 5 3)
    (sq (ifS (un asB (bin dNotN (rdv 3) (ret .non))) (retS (mIf (un truD (mFz (callA f_l_alone none [.v, .v] (mCons (rdv 3) (mCons (ret (.int 7)) (ret [])))))) (cb dLst (mCons (ret (.str "refused")) (mCons (un (dXf "NoCard" "card") (rdv 3)) (ret [])))) (mVa (ret (.str "other"))))) Fl.nx)
    (sq (ifS (mOr (mNot (un truD (cb (f2 isiD) (mCons (rdv 4) (mCons (ret (.raw (.ty "tuple"))) (ret [])))))) (un asB (bin dNe (cb (f1 lenD) (mCons (rdv 4) (ret []))) (ret (.int 3))))) (retS (mVa (ret (.str "other")))) Fl.nx)
    (retS (bin dAdd (mFz (slE (rdv 4) (ret none) (un asI (ret (.int 2))))) (cb dTup (mCons (mFz (callA f_l_seen none [.v] (mCons (bin dIx (rdv 4) (ret (.int 2))) (ret [])))) (ret [])))))))))
def f_l_told : List Sl → Ou := runDef 6 (some 0) b_l_told
def wt_l_due_1 : M Bool :=
  (mAnd (un asB (bin dLt (mFz (bin dAdd (rdv 3) (ret (.int 1)))) (cb (f1 lenD) (mCons (rdv 0) (ret []))))) (un asB (bin dEq (bin dIx (rdv 0) (mFz (bin dAdd (rdv 3) (ret (.int 1))))) (bin dIx (rdv 0) (rdv 1)))))
def w_l_due_1 : MS :=
  (asgS 3 (mVa (mFz (bin dAdd (rdv 3) (ret (.int 1))))))
def wt_l_due_2 : M Bool :=
  (mAnd (un asB (bin dGt (rdv 2) (ret (.int 0)))) (un asB (bin dEq (bin dIx (rdv 0) (bin dSub (rdv 2) (ret (.int 1)))) (bin dIx (rdv 0) (rdv 1)))))
def w_l_due_2 : MS :=
  (asgS 2 (mVa (bin dSub (rdv 2) (ret (.int 1)))))
def b_l_due : MS :=
  (sq (ifS (mNot (un asB (chn dLe dLt (ret (.int 0)) (rdv 1) (cb (f1 lenD) (mCons (rdv 0) (ret [])))))) (retS (cb dLst (mCons (ret (.str "refused")) (mCons (rdv 1) (ret []))))) Fl.nx)
    (sq (parS [2, 3] (lCons (mVa (rdv 1)) (lCons (mVa (rdv 1)) (ret []))))
    (sq (whileS wt_l_due_2 w_l_due_2 1000)
    (sq (whileS wt_l_due_1 w_l_due_1 1000)
    (retS (mVa (cb dTup (mCons (rdv 2) (mCons (rdv 3) (mCons (bin dIx (rdv 0) (rdv 1)) (ret [])))))))))))
def f_l_due : List Sl → Ou := runDef 4 none b_l_due
def el_l_runs_right_1 : M D :=
  (cb dTup (mCons (rdv 6) (mCons (mFz (callA f_l_seen none [.v] (mCons (rdv 7) (ret [])))) (ret []))))
def el_l_runs_right_2 : M D :=
  (mFz (callA f_l_seen none [.v] (mCons (rdv 7) (ret []))))
def lp_l_runs_right_1 : MS :=
  (ifS (mNot (un truD (mFz (callA (f_l_same 4) none [.v, .v] (mCons (mFz (mLc (un seqD (mFz (callA f_places_of none [.v] (mCons (rdv 11) (ret []))))) (bN 7) (ret true) el_l_runs_right_2 [7])) (mCons (rdv 1) (ret []))))))) (retS (mVa (ret (.bl false)))) Fl.nx)
def lp_l_runs_right_2 : MS :=
  (sq (asgS 10 (mVa (mFz (callA f_l_take (some 0) [.o 0, .v] (hasM 0 (mCons (rdv 6) (ret [])))))))
      (extS 9 (mFz (bin dAdd (mFz (bin dMul (mFz (cb dLst (mCons (cb dTup (mCons (rdv 10) (mCons (rdv 7) (ret [])))) (ret [])))) (cb (f1 intD) (mCons (bin dGt (rdv 10) (ret (.int 0))) (ret []))))) (mFz (cb dLst (mCons (cb dTup (mCons (bin dSub (rdv 6) (rdv 10)) (mCons (rdv 7) (ret [])))) (ret []))))))))
def el_l_runs_right_3 : M D :=
  (cb (f2 isiD) (mCons (rdv 8) (mCons (ret (.raw (.ty "tuple"))) (ret []))))
def b_l_runs_right : MS :=
  (sq (parS [3, 4] (lCons (mVa (mFz (callA f_l_runs none [.v] (mCons (rdv 1) (ret []))))) (lCons (mVa (mFz (callA f_runs_of none [.v] (mCons (rdv 2) (ret []))))) (ret []))))
    (sq (asgS 5 (mVa (mFz (mLc (un seqD (rdv 4)) (bT (bCons (bN 6) (bCons (bN 7) bNil))) (ret true) el_l_runs_right_1 [6, 7]))))
    (sq (ifS (mOr (mNot (un truD (mFz (callA (f_l_same 4) none [.v, .v] (mCons (rdv 5) (mCons (rdv 3) (ret []))))))) (mNot (un truD (cb (f1 allD) (mCons (mFz (mLc (un seqD (rdv 4)) (bN 8) (ret true) el_l_runs_right_3 [8])) (ret [])))))) (retS (mVa (ret (.bl false)))) Fl.nx)
    (sq (asgS 9 (cb dLst (ret [])))
    (sq (forS (un seqD (rdv 4)) (bT (bCons (bN 6) (bCons (bN 7) bNil))) lp_l_runs_right_2)
    (sq (forS (un seqD (cb dTup (mCons (rdv 4) (mCons (cb (f1 tupleD) (mCons (rdv 4) (ret []))) (mCons (rdf 9) (ret [])))))) (bN 11) lp_l_runs_right_1)
    (retS (callA (f_l_same 4) none [.v, .v] (mCons (mFz (mLc (un seqD (mFz (callA f_runs_of none [.v] (mCons (cb (f1 tupleD) (mCons (rdv 2) (ret []))) (ret []))))) (bT (bCons (bN 6) (bCons (bN 7) bNil))) (ret true) el_l_runs_right_1 [6, 7])) (mCons (rdv 3) (ret [])))))))))))
def f_l_runs_right : List Sl → Ou := runDef 12 (some 0) b_l_runs_right
def el_law_1 : M D :=
  (mFz (callA f_l_seen none [.v] (mCons (rdv 9) (ret []))))
def el_law_2 : M D :=
  (mFz (callA f_l_take (some 0) [.o 2, .v] (hasM 2 (mCons (mFz (bin dAdd (rdv 3) (ret (.int 1)))) (ret [])))))
def lp_law_1 : MS :=
  (ifS (mNot (un truD (mFz (callA (f_l_same 4) none [.v, .v] (mCons (mFz (callA f_l_told (some 0) [.o 2, .v, .v] (hasM 2 (mCons (rdv 5) (mCons (rdv 7) (ret [])))))) (mCons (mFz (callA f_l_due none [.v, .v] (mCons (rdv 4) (mCons (rdv 7) (ret []))))) (ret []))))))) (retS (mVa (ret (.bl false)))) Fl.nx)
def el_law_3 : M D :=
  (mFz (callA f_l_place none [.v] (mCons (rdv 6) (ret []))))
def lp_law_2 : MS :=
  (sq (asgS 2 (callA f_l_box none [.v, .v] (mCons (rdv 0) (mCons (rdv 1) (ret [])))))
      (sq (asgS 3 (mVa (mFz (mIf (mAnd (un asB (bin dEq (rdv 1) (ret (.int 0)))) (un asB (bin dEq (mFz (callA f_l_take (some 0) [.o 2, .v] (hasM 2 (mCons (ret (.int 4)) (ret []))))) (ret (.int 0))))) (mVa (ret (.int 160))) (callA f_l_take (some 0) [.o 2, .v] (hasM 2 (mCons (ret (.int 25)) (ret []))))))))
      (sq (asgS 4 (mVa (mFz (callA f_l_spots (some 0) [.o 2, .v, .v] (hasM 2 (mCons (rdv 3) (mCons (bin dIx (mFz (cb dLst (mCons (ret (.int 3)) (mCons (ret (.int 60)) (mCons (bin dPow (ret (.int 10)) (ret (.int 6))) (ret [])))))) (mFz (callA f_l_take (some 0) [.o 2, .v] (hasM 2 (mCons (ret (.int 3)) (ret [])))))) (ret []))))))))
      (sq (asgS 5 (mVa (mFz (mLc (un seqD (rdv 4)) (bN 6) (ret true) el_law_3 [6]))))
      (sq (ifS (mNot (un truD (mFz (callA f_l_runs_right (some 0) [.o 2, .v, .v] (hasM 2 (mCons (rdv 4) (mCons (rdv 5) (ret [])))))))) (retS (mVa (ret (.bl false)))) Fl.nx)
      (sq (forS (un seqD (mFz (bin dAdd (mFz (cb dLst (mCons (ret (.int 0)) (mCons (bin dSub (rdv 3) (ret (.int 1))) (mCons (rdv 3) (mCons (un dNeg (ret (.int 1))) (mCons (bin dPow (ret (.int 10)) (ret (.int 6))) (ret [])))))))) (mFz (mLc (cb rng1 (mCons (ret (.int 6)) (ret []))) (bN 8) (ret true) el_law_2 [8]))))) (bN 7) lp_law_1)
      (ifS (un asB (bin dNe (mFz (mLc (un seqD (rdv 5)) (bN 9) (ret true) el_law_1 [9])) (rdv 4))) (retS (mVa (ret (.bl false)))) Fl.nx)))))))
def b_law : MS :=
  (sq (forS (cb rng1 (mCons (mFz (bin dAdd (ret (.int 1)) (cb (f2 minD) (mCons (ret (.int 7)) (mCons (cb (f1 lenD) (mCons (rdv 0) (ret []))) (ret [])))))) (ret []))) (bN 1) lp_law_2)
    (retS (mVa (ret (.bl true)))))
def f_law : List Sl → Ou := runDef 10 none b_law
end My

namespace My
open PySem PySem.Spec PyProof.Rows L2 Mir
section
variable {P : Program} {w : World} {K : PySem.W.Frag} {mg : Str → Option Value} {base : Heap} {cl : Str → Addr}

def txt (i : Int) : Str := Str.ofString (toString i)
theorem txt_len {i : Int} (h0 : -1000000 ≤ i) (h1 : i ≤ 1000000) : (txt i).length ≤ 8 := by
  unfold txt
  by_cases h : 0 ≤ i
  · exact Nat.le_trans (PyProof.Rows.toString_length_le (k := 7) h (by decide) (by omega)) (by decide)
  · rw [PyProof.Rows.len_text_neg (by omega)]
    have := PyProof.Rows.toString_length_le (v := 0 - i) (k := 7) (by omega) (by decide) (by omega)
    omega
theorem log_small {i : Int} (h0 : -1000000 ≤ i) (h1 : i ≤ 1000000) : i.natAbs.log2 < 1920 := by
  by_cases hz : i.natAbs = 0
  · rw [hz]; decide
  · exact (Nat.log2_lt hz).mpr (Nat.lt_of_lt_of_le (show i.natAbs < 2 ^ 20 by omega) (Nat.pow_le_pow_right (by decide) (by decide)))
theorem fits {z : Str} (h : z.length ≤ 1000) : z.length ≤ sizeLine := Nat.le_trans h (by rw [sizeLine_eq]; decide)
abbrev s_BadPlace_init : Stmt := inClass (topS 2) 0
theorem sc_BadPlace_init : FnScope ["self", "part"] ["self", "part"] (defScope s_BadPlace_init) := ⟨rfl, rfl, rfl, by decide +kernel, rfl, by decide +kernel, by decide +kernel⟩
theorem i_BadPlace {f B : Addr} {fd : FuncData} (F : Fun K "__init__" "BadPlace.__init__" s_BadPlace_init f fd) (OB : OexC K B) (hno : PySem.W.findIn K (.ref B) "part" = some none) (z_ValueError : mg "ValueError" = none) (vV : PySem.W.findCls K (.type "ValueError") (.type "type") "__init__" = some (.val (.builtin "ValueError.__init__"))) :
    FnOk P w K mg base CX0 1 f fd ["self", "part"] (spXI B "part") := by
  refine F.ok sc_BadPlace_init (fun vs H Q E h => ?_) (fun cdv A outer s H vs Q E hr h => ?_)
  · obtain ⟨a, _, rfl, _⟩ := h
    rfl
  · obtain ⟨a, v, rfl, hv, ha, q⟩ := h
    cases v with
    | int k =>
      obtain ⟨k0, k1⟩ := hv
      refine ⟨_, (pss_cons (ps_expr (pe_veinit (by rfl) z_ValueError vV (pa_cons (pv 0) (pa_cons (pe_joined (PJ.cons (pe_str) (PJ.cons (pe_fmt (pv 1)) PJ.nil))) pa_nil))))
        (pss_one (ps_ost (pv 0) (pv 1)))), ?_⟩
      have g0 : (Str.empty : Str).length = 0 := by decide +kernel
      have gt := txt_len (by omega) k1
      have g1 : ("no place has such a " : Str).length = 20 := by decide +kernel
      have L1 : (Str.empty ++ "no place has such a ").length ≤ 1000 := by simp only [Str.length_append, g0, g1]; omega
      have L2 : (Str.empty ++ "no place has such a " ++ txt k).length ≤ 1000 := by simp only [Str.length_append, g0, g1]; omega
      refine ⟨_, rfl, _, rfl, fits L1, _, rfl, .inr ⟨_, rfl, log_small (by omega) k1, _, rfl, fits L2, ?_⟩⟩
      refine ⟨a, B, _, rfl, (by show 1 ≤ 1000; decide), OB, ha, ?_⟩
      exact ⟨_, rfl, _, rfl, a, B, rfl, OB, hno, .inl ⟨ha, q⟩⟩
    | str z =>
      refine ⟨_, (pss_cons (ps_expr (pe_veinit (by rfl) z_ValueError vV (pa_cons (pv 0) (pa_cons (pe_joined (PJ.cons (pe_str) (PJ.cons (pe_fmt (pv 1)) PJ.nil))) pa_nil))))
        (pss_one (ps_ost (pv 0) (pv 1)))), ?_⟩
      have g0 : (Str.empty : Str).length = 0 := by decide +kernel
      have gt : z.length ≤ 100 := hv
      have g1 : ("no place has such a " : Str).length = 20 := by decide +kernel
      have L1 : (Str.empty ++ "no place has such a ").length ≤ 1000 := by simp only [Str.length_append, g0, g1]; omega
      have L2 : (Str.empty ++ "no place has such a " ++ z).length ≤ 1000 := by simp only [Str.length_append, g0, g1]; omega
      refine ⟨_, rfl, _, rfl, fits L1, _, rfl, .inl ⟨_, rfl, fits (by omega), _, rfl, fits L2, ?_⟩⟩
      refine ⟨a, B, _, rfl, (by show 1 ≤ 1000; decide), OB, ha, ?_⟩
      exact ⟨_, rfl, _, rfl, a, B, rfl, OB, hno, .inl ⟨ha, q⟩⟩
    | _ => exact hv.elim
abbrev s_NoCard_init : Stmt := inClass (topS 9) 0
theorem sc_NoCard_init : FnScope ["self", "card"] ["self", "card"] (defScope s_NoCard_init) := ⟨rfl, rfl, rfl, by decide +kernel, rfl, by decide +kernel, by decide +kernel⟩
theorem i_NoCard {f B : Addr} {fd : FuncData} (F : Fun K "__init__" "NoCard.__init__" s_NoCard_init f fd) (OB : OexB K B "IndexError" "IndexError.__new__" "IndexError.__init__" [.type "IndexError", .type "LookupError", .type "Exception", .type "BaseException", .type "object"]) (hno : PySem.W.findIn K (.ref B) "card" = some none) (z_IndexError : mg "IndexError" = none) (vV : PySem.W.findCls K (.type "IndexError") (.type "type") "__init__" = some (.val (.builtin "IndexError.__init__"))) :
    FnOk P w K mg base CX0 1 f fd ["self", "card"] (spXIn B "card") := by
  refine F.ok sc_NoCard_init (fun vs H Q E h => ?_) (fun cdv A outer s H vs Q E hr h => ?_)
  · obtain ⟨a, _, rfl, _⟩ := h
    rfl
  · obtain ⟨a, v, rfl, hv, ha, q⟩ := h
    cases v with
    | int k =>
      obtain ⟨k0, k1⟩ := hv
      refine ⟨_, (pss_cons (ps_expr (pe_binit (B := "IndexError") (nw := "IndexError.__new__") (ini := "IndexError.__init__") (bm := [.type "IndexError", .type "LookupError", .type "Exception", .type "BaseException", .type "object"]) (by rfl) z_IndexError PyProof.Rows.Boot.«IndexError» typ_IndexError (by decide +kernel) (by decide +kernel) vV (by decide) (by decide) (pa_cons (pv 0) (pa_cons (pe_joined (PJ.cons (pe_str) (PJ.cons (pe_fmt (pv 1)) PJ.nil))) pa_nil))))
        (pss_one (ps_os1 (B := "IndexError") (nw := "IndexError.__new__") (ini := "IndexError.__init__") (bm := [.type "IndexError", .type "LookupError", .type "Exception", .type "BaseException", .type "object"]) (pv 0) (pv 1)))), ?_⟩
      have g0 : (Str.empty : Str).length = 0 := by decide +kernel
      have gt := txt_len (by omega) k1
      have g1 : ("there is no card " : Str).length = 17 := by decide +kernel
      have L1 : (Str.empty ++ "there is no card ").length ≤ 1000 := by simp only [Str.length_append, g0, g1]; omega
      have L2 : (Str.empty ++ "there is no card " ++ txt k).length ≤ 1000 := by simp only [Str.length_append, g0, g1]; omega
      refine ⟨_, rfl, _, rfl, fits L1, _, rfl, .inr ⟨_, rfl, log_small (by omega) k1, _, rfl, fits L2, ?_⟩⟩
      refine ⟨a, B, _, rfl, (by show 1 ≤ 1000; decide), OB, ha, ?_⟩
      exact ⟨_, rfl, _, rfl, a, B, rfl, OB, hno, ha, q⟩
    | _ => exact hv.elim
theorem r_Place_eq {f : Addr} {fd : FuncData} (F : Fun K "__eq__" "Place.__eq__" s_Place_eq f fd) (z_isinstance : mg "isinstance" = none) (gx_Place : mg "Place" = some (.ref (cl "Place"))) (hio : IoOk K cl io) (hfl : FlOk K cl fl) : FnOk P w K mg base (L2.CX P w) 1 f fd ["self", "other"] (spM K cl 2 none f_Place_eq) :=
  ok_def (m := b_Place_eq) F sc_Place_eq fun cdv A outer s H E c hr hK hcl hbi hW => (ms_one (ms_ret (me_va (me_and hK (g_cb (o_isO hio hK hcl) (pe_callB call_isi (by rfl) z_isinstance (by decide +kernel) (md_cons (me_var 1) (md_cons (me_cls hcl (by rfl) gx_Place) md_nil)))) (me_and hK (g_bin (o_eq hK) (pe_cmpR (op_eqD hr.units) (me_fld hfl hcl (me_var 0)) (me_fld hfl hcl (me_var 1)) (nomark _))) (me_and hK (g_bin (o_eq hK) (pe_cmpR (op_eqD hr.units) (me_fld hfl hcl (me_var 0)) (me_fld hfl hcl (me_var 1)) (nomark _))) (me_and hK (g_bin (o_eq hK) (pe_cmpR (op_eqD hr.units) (me_fld hfl hcl (me_var 0)) (me_fld hfl hcl (me_var 1)) (nomark _))) (me_one (g_bin (o_eq hK) (pe_cmpR (op_eqD hr.units) (me_fld hfl hcl (me_var 0)) (me_fld hfl hcl (me_var 1)) (nomark _)))))))))))
theorem r__wall {f : Addr} {fd : FuncData} (F : Fun K "_wall" "_wall" s__wall f fd)  : FnOk P w K mg base (L2.CX P w) 1 f fd ["k"] (spM K cl 1 none f__wall) :=
  ok_def (m := b__wall) F sc__wall fun cdv A outer s H E c hr hK hcl hbi hW => (ms_one (ms_while 1000 (passes_of rfl) (mt_tru hK me_bl) (ms_one ms_pass)))
theorem r_is_whole {f : Addr} {fd : FuncData} (F : Fun K "is_whole" "is_whole" s_is_whole f fd) (z_bool : mg "bool" = none) (z_int : mg "int" = none) (z_isinstance : mg "isinstance" = none) : FnOk P w K mg base (L2.CX P w) 1 f fd ["thing"] (spM K cl 1 none f_is_whole) :=
  ok_def (m := b_is_whole) F sc_is_whole fun cdv A outer s H E c hr hK hcl hbi hW => (ms_one (ms_ret (me_va (me_and hK (g_cb (o_isi hK) (pe_callB call_isi (by rfl) z_isinstance (by decide +kernel) (md_cons (me_var 0) (md_cons (me_c (pe_bltn (v := .ty "int") (by rfl) z_int (by decide +kernel) rfl) (fun _ => .raw _)) md_nil)))) (me_one (me_not hK (g_cb (o_isi hK) (pe_callB call_isi (by rfl) z_isinstance (by decide +kernel) (md_cons (me_var 0) (md_cons (me_c (pe_bltn (v := .ty "bool") (by rfl) z_bool (by decide +kernel) rfl) (fun _ => .raw _)) md_nil))))))))))
theorem r_is_number {f : Addr} {fd : FuncData} (F : Fun K "is_number" "is_number" s_is_number f fd) (C_is_whole : Cm P w K mg base cl 1 "is_whole" ["thing"] none f_is_whole) : FnOk P w K mg base (L2.CX P w) 2 f fd ["thing", "low", "high"] (spM K cl 3 none f_is_number) :=
  ok_def (m := b_is_number) F sc_is_number fun cdv A outer s H E c hr hK hcl hbi hW => (ms_one (ms_ret (me_va (me_and hK (me_fz (ml_call (md := [.v]) C_is_whole hK hcl (takes_c hW (takes_of rfl rfl rfl rfl)) hr (by first | decide | exact Nat.le_refl _) (by rfl) (ma_v (me_var 0) ma_nil))) (me_one (me_chn o_le o_le (pe_chain op_le op_le (me_var 1) (me_var 0) (me_var 2))))))))
theorem r_wrong_columns {f : Addr} {fd : FuncData} (F : Fun K "wrong_columns" "wrong_columns" s_wrong_columns f fd) {t_LAST_COLUMN : Nat} (g_LAST_COLUMN : mg "LAST_COLUMN" = some (.int 10000 t_LAST_COLUMN)) (C_is_number : Cm P w K mg base cl 2 "is_number" ["thing", "low", "high"] none f_is_number) : FnOk P w K mg base (L2.CX P w) 3 f fd ["begin", "end", "one_line"] (spM K cl 3 none f_wrong_columns) :=
  ok_def (m := b_wrong_columns) F sc_wrong_columns fun cdv A outer s H E c hr hK hcl hbi hW => (ms_cons (ms_if (PW.pt (mw_and (t_bin o_isN (pt_cmpR op_isN (me_var 0) me_non (nomark _))) (mw_one (.inl rfl) (mt_tru hK (me_var 2))))) (ms_one (ms_ret (me_va (g_if (t_bin o_isN (pt_cmpR op_isN (me_var 1) me_non (nomark _))) me_non me_str)))) ms_nil)
    (ms_cons (ms_if (mt_not (mt_tru hK (me_fz (ml_call (md := [.v, .v, .v]) C_is_number hK hcl (takes_c hW (takes_of rfl rfl rfl rfl)) hr (by first | decide | exact Nat.le_refl _) (by rfl) (ma_v (me_var 0) (ma_v me_int (ma_v (me_gInt (i := 10000) (by rfl) g_LAST_COLUMN) ma_nil))))))) (ms_one (ms_ret (me_va me_str))) ms_nil)
    (ms_cons (ms_set (i := 3) (nb hbi (by decide)) sc_wrong_columns.nd rfl (Or.inl rfl) (me_va (g_if (mt_tru hK (me_var 2)) (me_var 0) me_int)))
    (ms_one (ms_ret (me_va (g_if (mt_tru hK (me_fz (ml_call (md := [.v, .v, .v]) C_is_number hK hcl (takes_c hW (takes_of rfl rfl rfl rfl)) hr (by first | decide | exact Nat.le_refl _) (by rfl) (ma_v (me_var 1) (ma_v (me_var 3) (ma_v (me_gInt (i := 10000) (by rfl) g_LAST_COLUMN) ma_nil)))))) me_non me_str)))))))
theorem r_wrong_of_nowhere {f : Addr} {fd : FuncData} (F : Fun K "wrong_of_nowhere" "wrong_of_nowhere" s_wrong_of_nowhere f fd)  : FnOk P w K mg base (L2.CX P w) 1 f fd ["last", "begin", "end"] (spM K cl 3 none f_wrong_of_nowhere) :=
  ok_def (m := b_wrong_of_nowhere) F sc_wrong_of_nowhere fun cdv A outer s H E c hr hK hcl hbi hW => (ms_cons (ms_for (passes_of rfl) rfl (mi_seq hK (me_tup (md_cons (me_tup (md_cons me_str (md_cons (me_var 0) md_nil))) (md_cons (me_tup (md_cons me_str (md_cons (me_var 1) md_nil))) (md_cons (me_tup (md_cons me_str (md_cons (me_var 2) md_nil))) md_nil))))) (mg_tup hK rfl (mgs_cons (mg_name (i := 3) (nb hbi (by decide)) sc_wrong_of_nowhere.nd rfl (Or.inl rfl)) (mgs_cons (mg_name (i := 4) (nb hbi (by decide)) sc_wrong_of_nowhere.nd rfl (Or.inl rfl)) mgs_nil)) (tgLen_cons (tgLen_cons tgLen_nil))) (ms_one (ms_if (t_bin o_notN (pt_cmpR op_notN (me_var 4) me_non (nomark _))) (ms_one (ms_ret (me_va (me_var 3)))) ms_nil)))
    (ms_one (ms_ret (me_va me_non))))
theorem r_wrong_part {f : Addr} {fd : FuncData} (F : Fun K "wrong_part" "wrong_part" s_wrong_part f fd) {t_LAST_LINE : Nat} (g_LAST_LINE : mg "LAST_LINE" = some (.int 1000000 t_LAST_LINE)) {t_MOST_LINES_BEHIND : Nat} (g_MOST_LINES_BEHIND : mg "MOST_LINES_BEHIND" = some (.int 99 t_MOST_LINES_BEHIND)) (z_min : mg "min" = none) (C_wrong_columns : Cm P w K mg base cl 3 "wrong_columns" ["begin", "end", "one_line"] none f_wrong_columns) (C_is_number : Cm P w K mg base cl 2 "is_number" ["thing", "low", "high"] none f_is_number) (C_wrong_of_nowhere : Cm P w K mg base cl 1 "wrong_of_nowhere" ["last", "begin", "end"] none f_wrong_of_nowhere) : FnOk P w K mg base (L2.CX P w) 4 f fd ["line", "last", "begin", "end"] (spM K cl 4 none f_wrong_part) :=
  ok_def (m := b_wrong_part) F sc_wrong_part fun cdv A outer s H E c hr hK hcl hbi hW => (ms_cons (ms_if (t_bin o_isN (pt_cmpR op_isN (me_var 0) me_non (nomark _))) (ms_one (ms_ret (ml_call (md := [.v, .v, .v]) C_wrong_of_nowhere hK hcl (takes_c hW (takes_of rfl rfl rfl rfl)) hr (by first | decide | exact Nat.le_refl _) (by rfl) (ma_v (me_var 1) (ma_v (me_var 2) (ma_v (me_var 3) ma_nil)))))) ms_nil)
    (ms_cons (ms_if (mt_not (mt_tru hK (me_fz (ml_call (md := [.v, .v, .v]) C_is_number hK hcl (takes_c hW (takes_of rfl rfl rfl rfl)) hr (by first | decide | exact Nat.le_refl _) (by rfl) (ma_v (me_var 0) (ma_v me_int (ma_v (me_gInt (i := 1000000) (by rfl) g_LAST_LINE) ma_nil))))))) (ms_one (ms_ret (me_va me_str))) ms_nil)
    (ms_cons (ms_if (t_bin o_isN (pt_cmpR op_isN (me_var 1) me_non (nomark _))) (ms_one (ms_ret (ml_call (md := [.v, .v, .v]) C_wrong_columns hK hcl (takes_c hW (takes_of rfl rfl rfl rfl)) hr (by first | decide | exact Nat.le_refl _) (by rfl) (ma_v (me_var 2) (ma_v (me_var 3) (ma_v me_bl ma_nil)))))) ms_nil)
    (ms_cons (ms_if (mt_not (mt_tru hK (me_fz (ml_call (md := [.v, .v, .v]) C_is_number hK hcl (takes_c hW (takes_of rfl rfl rfl rfl)) hr (by first | decide | exact Nat.le_refl _) (by rfl) (ma_v (me_var 1) (ma_v (me_var 0) (ma_v (g_cb o_min (pe_callB (call_min2 rfl) (by rfl) z_min (by decide +kernel) (md_cons (me_fz (g_bin (o_add hK) (pe_op op_addA (me_var 0) (me_gInt (i := 99) (by rfl) g_MOST_LINES_BEHIND)))) (md_cons (me_gInt (i := 1000000) (by rfl) g_LAST_LINE) md_nil)))) ma_nil))))))) (ms_one (ms_ret (me_va me_str))) ms_nil)
    (ms_one (ms_ret (ml_call (md := [.v, .v, .v]) C_wrong_columns hK hcl (takes_c hW (takes_of rfl rfl rfl rfl)) hr (by first | decide | exact Nat.le_refl _) (by rfl) (ma_v (me_var 2) (ma_v (me_var 3) (ma_v (g_bin (o_eq hK) (pe_cmpR (op_eqD hr.units) (me_var 1) (me_var 0) (nomark _))) ma_nil))))))))))
theorem r_runs_of {f : Addr} {fd : FuncData} (F : Fun K "runs_of" "runs_of" s_runs_of f fd) (OM_Place : OwnM P w K mg base cl 1 "Place" f_Place_eq) : FnOk P w K mg base (L2.CX P w) 3 f fd ["places"] (spM K cl 1 none f_runs_of) :=
  ok_def (m := b_runs_of) F sc_runs_of fun cdv A outer s H E c hr hK hcl hbi hW => (ms_cons (ms_set (i := 1) (nb hbi (by decide)) sc_runs_of.nd rfl (Or.inl rfl) (ml_lst md_nil))
    (ms_cons (ms_for (passes_of rfl) rfl (mi_seq hK (me_var 0)) (mg_name (i := 2) (nb hbi (by decide)) sc_runs_of.nd rfl (Or.inl rfl)) (ms_one (ms_if (PW.pt (mw_and (mt_truP hK (pv 1)) (mw_one (.inl rfl) (t_bin (o_eqU (f := f_Place_eq) (cn := "Place") hK hcl) (pt_cmpR (op_eqU OM_Place.e hr (by first | decide | exact Nat.le_refl _) hr.units) (g_bin (o_ix hK) (pe_ix ix_seq (g_binP (o_ix hK) (pe_ix ix_seq (pv 1) (g_un o_neg (pe_un un_neg me_int)) (fun _ _ => rfl))) me_int (fun _ _ => rfl))) (me_var 2) (nomark _)))))) (ms_one (ms_sub (ps_asg (me_tup (md_cons (me_fz (g_bin (o_add hK) (pe_op op_addA (g_bin (o_ix hK) (pe_ix ix_seq (g_binP (o_ix hK) (pe_ix ix_seq (pv 1) (g_un o_neg (pe_un un_neg me_int)) (fun _ _ => rfl))) me_int (fun _ _ => rfl))) me_int))) (md_cons (me_var 2) md_nil))) (pg_sub (pv 1) (g_un o_neg (pe_un un_neg me_int)) set_list)))) (ms_one (ms_app (ps_expr (pe_bm PySem.F.plainAttrs_list PySem.F.slot_list_append PySem.F.type_list_append mt_append (pv 1) (pa_cons (me_tup (md_cons me_int (md_cons (me_var 2) md_nil))) pa_nil))))))))
    (ms_one (ms_ret (me_giv 1 (nb hbi (by decide)))))))
theorem r_places_of {f : Addr} {fd : FuncData} (F : Fun K "places_of" "places_of" s_places_of f fd)  : FnOk P w K mg base (L2.CX P w) 1 f fd ["runs"] (spM K cl 1 none f_places_of) :=
  ok_def (m := b_places_of) F sc_places_of fun cdv A outer s H E c hr hK hcl hbi hW => (ms_cons (ms_set (i := 1) (nb hbi (by decide)) sc_places_of.nd rfl (Or.inl rfl) (ml_lst md_nil))
    (ms_cons (ms_for (passes_of rfl) rfl (mi_seq hK (me_var 0)) (mg_tup hK rfl (mgs_cons (mg_name (i := 2) (nb hbi (by decide)) sc_places_of.nd rfl (Or.inl rfl)) (mgs_cons (mg_name (i := 3) (nb hbi (by decide)) sc_places_of.nd rfl (Or.inl rfl)) mgs_nil)) (tgLen_cons (tgLen_cons tgLen_nil))) (ms_one (ms_ext (ps_expr (pe_bm PySem.F.plainAttrs_list PySem.F.slot_list_extend PySem.F.type_list_extend mt_extend (pv 1) (pa_cons (me_fz (g_bin o_mul (pe_op op_mulA (me_fz (ml_lst (md_cons (me_var 3) md_nil))) (me_var 2)))) pa_nil))))))
    (ms_one (ms_ret (me_giv 1 (nb hbi (by decide)))))))
theorem r_run_at {f : Addr} {fd : FuncData} (F : Fun K "run_at" "run_at" s_run_at f fd) (z_len : mg "len" = none) (X_NoCard : RaB P w K mg base cl "NoCard" "card") (OM_Place : OwnM P w K mg base cl 1 "Place" f_Place_eq) : FnOk P w K mg base (L2.CX P w) 3 f fd ["places", "card"] (spM K cl 2 none f_run_at) :=
  ok_def (m := b_run_at) F sc_run_at fun cdv A outer s H E c hr hK hcl hbi hW => (ms_cons (ms_if (mt_not (t_chn o_le o_lt (pt_chain op_le op_lt me_int (me_var 1) (g_cb (o_len hK) (pe_callB call_len (by rfl) z_len (by decide +kernel) (md_cons (me_var 0) md_nil)))))) (ms_one (ms_raiseB X_NoCard hcl (takes_c hW (takes_of rfl rfl rfl rfl)) rfl hr (by decide) (by rfl) (me_var 1))) ms_nil)
    (ms_cons (ms_set (i := 2) (nb hbi (by decide)) sc_run_at.nd rfl (Or.inl rfl) (me_va (me_var 1)))
    (ms_cons (ms_while 1000 (passes_of rfl) (PW.pt (mw_and (t_bin o_gt (pt_cmpR op_gt (me_var 2) me_int (nomark _))) (mw_one (.inl rfl) (t_bin (o_eqU (f := f_Place_eq) (cn := "Place") hK hcl) (pt_cmpR (op_eqU OM_Place.e hr (by first | decide | exact Nat.le_refl _) hr.units) (g_bin (o_ix hK) (pe_ix ix_seq (me_var 0) (g_bin o_sub (pe_op op_sub (me_var 2) me_int)) (fun _ _ => rfl))) (g_bin (o_ix hK) (pe_ix ix_seq (me_var 0) (me_var 1) (fun _ _ => rfl))) (nomark _)))))) (ms_one (ms_aug (nb hbi (by decide)) o_sub (ps_aug (i := 2) sc_run_at.nd rfl (Or.inl rfl) me_int iop_sub))))
    (ms_cons (ms_set (i := 3) (nb hbi (by decide)) sc_run_at.nd rfl (Or.inl rfl) (me_va (me_var 1)))
    (ms_cons (ms_while 1000 (passes_of rfl) (PW.pt (mw_and (t_bin o_lt (pt_cmpR op_lt (me_fz (g_bin (o_add hK) (pe_op op_addA (me_var 3) me_int))) (g_cb (o_len hK) (pe_callB call_len (by rfl) z_len (by decide +kernel) (md_cons (me_var 0) md_nil))) (nomark _))) (mw_one (.inl rfl) (t_bin (o_eqU (f := f_Place_eq) (cn := "Place") hK hcl) (pt_cmpR (op_eqU OM_Place.e hr (by first | decide | exact Nat.le_refl _) hr.units) (g_bin (o_ix hK) (pe_ix ix_seq (me_var 0) (me_fz (g_bin (o_add hK) (pe_op op_addA (me_var 3) me_int))) (fun _ _ => rfl))) (g_bin (o_ix hK) (pe_ix ix_seq (me_var 0) (me_var 1) (fun _ _ => rfl))) (nomark _)))))) (ms_one (ms_aug (nb hbi (by decide)) o_addI (ps_aug (i := 3) sc_run_at.nd rfl (Or.inl rfl) me_int iop_add))))
    (ms_one (ms_ret (me_va (me_tup (md_cons (me_var 2) (md_cons (me_var 3) (md_cons (g_bin (o_ix hK) (pe_ix ix_seq (me_var 0) (me_var 1) (fun _ _ => rfl))) md_nil))))))))))))
theorem r_l_cell_at {f : Addr} {fd : FuncData} (F : Fun K "_law_cell_at" "_law_cell_at" s_l_cell_at f fd) (z_len : mg "len" = none) : FnOk P w K mg base (L2.CX P w) 1 f fd ["_law_script", "_law_k"] (spM K cl 2 none f_l_cell_at) :=
  ok_def (m := b_l_cell_at) F sc_l_cell_at fun cdv A outer s H E c hr hK hcl hbi hW => (ms_cons (ms_if (t_bin o_lt (pt_cmpR op_lt (me_var 1) (g_cb (o_len hK) (pe_callB call_len (by rfl) z_len (by decide +kernel) (md_cons (me_var 0) md_nil))) (nomark _))) (ms_one (ms_ret (me_va (g_bin (o_ix hK) (pe_ix ix_seq (me_var 0) (me_var 1) (fun _ _ => rfl)))))) ms_nil)
    (ms_one (ms_ret (me_va me_int))))
theorem r_l_box {f : Addr} {fd : FuncData} (F : Fun K "_law_box" "_law_box" s_l_box f fd) (z_abs : mg "abs" = none) (z_int : mg "int" = none) (C_l_cell_at : Cm P w K mg base cl 1 "_law_cell_at" ["_law_script", "_law_k"] none f_l_cell_at) : FnOk P w K mg base (L2.CX P w) 2 f fd ["_law_script", "_law_k"] (spM K cl 2 none f_l_box) :=
  ok_def (m := b_l_box) F sc_l_box fun cdv A outer s H E c hr hK hcl hbi hW => (ms_cons (ms_set (i := 2) (nb hbi (by decide)) sc_l_box.nd rfl (Or.inl rfl) (me_va (me_fz (ml_call (md := [.v, .v]) C_l_cell_at hK hcl (takes_c hW (takes_of rfl rfl rfl rfl)) hr (by first | decide | exact Nat.le_refl _) (by rfl) (ma_v (me_var 0) (ma_v (me_var 1) ma_nil))))))
    (ms_one (ms_ret (ml_lst (md_cons (me_fz (g_bin o_mul (pe_op op_mulA (g_cb o_abs (pe_callB call_abs (by rfl) z_abs (by decide +kernel) (md_cons (me_var 2) md_nil))) (g_cb o_int (pe_callTy call_int1 (by rfl) z_int (by decide +kernel) (md_cons (g_bin o_ge (pe_cmpR op_ge (g_cb o_abs (pe_callB call_abs (by rfl) z_abs (by decide +kernel) (md_cons (me_var 2) md_nil))) (g_bin o_pow (pe_op op_pow me_int me_int)) (nomark _))) md_nil)))))) (md_cons (me_fz (g_bin (o_add hK) (pe_op op_addA (me_fz (g_bin (o_add hK) (pe_op op_addA (g_bin o_mod (pe_op op_mod (me_var 2) me_int)) (me_fz (g_bin o_mul (pe_op op_mulA me_int (me_var 1))))))) me_int))) (md_cons me_int md_nil)))))))
theorem r_l_take {f : Addr} {fd : FuncData} (F : Fun K "_law_take" "_law_take" s_l_take f fd)  : FnOk P w K mg base (L2.CX P w) 1 f fd ["_law_box_here", "_law_many"] (spM K cl 2 (some 0) f_l_take) :=
  ok_def (m := b_l_take) F sc_l_take fun cdv A outer s H E c hr hK hcl hbi hW => (ms_cons (ms_if (t_bin o_gt (pt_cmpR op_gt (g_binP (o_ix hK) (pe_ix ix_seq (pv 0) me_int (fun _ _ => rfl))) me_int (nomark _))) (ms_cons (ms_set (i := 2) (nb hbi (by decide)) sc_l_take.nd rfl (Or.inl rfl) (me_va (g_bin o_mod (pe_op op_mod (g_binP (o_ix hK) (pe_ix ix_seq (pv 0) me_int (fun _ _ => rfl))) (me_var 1)))))
      (ms_cons (ms_sub (ps_asg (g_bin o_div (pe_op op_fdiv (g_binP (o_ix hK) (pe_ix ix_seq (pv 0) me_int (fun _ _ => rfl))) (me_var 1))) (pg_sub (pv 0) me_int set_list)))
      (ms_one (ms_ret (me_va (me_var 2)))))) ms_nil)
    (ms_cons (ms_sub (ps_asg (me_fz (g_bin (o_add hK) (pe_op op_addA (g_binP (o_ix hK) (pe_ix ix_seq (pv 0) me_int (fun _ _ => rfl))) me_int))) (pg_sub (pv 0) me_int set_list)))
    (ms_cons (ms_set (i := 3) (nb hbi (by decide)) sc_l_take.nd rfl (Or.inl rfl) (me_va (g_bin o_mod (pe_op op_mod (me_fz (g_bin o_mul (pe_op op_mulA (me_fz (g_bin (o_add hK) (pe_op op_addA (g_binP (o_ix hK) (pe_ix ix_seq (pv 0) me_int (fun _ _ => rfl))) (me_fz (g_bin o_mul (pe_op op_mulA me_int (g_binP (o_ix hK) (pe_ix ix_seq (pv 0) me_int (fun _ _ => rfl))))))))) (me_fz (g_bin (o_add hK) (pe_op op_addA me_int (g_binP (o_ix hK) (pe_ix ix_seq (pv 0) me_int (fun _ _ => rfl))))))))) me_int))))
    (ms_cons (ms_set (i := 4) (nb hbi (by decide)) sc_l_take.nd rfl (Or.inl rfl) (me_va (g_bin o_mod (pe_op op_mod (me_fz (g_bin o_mul (pe_op op_mulA (me_fz (g_bin (o_add hK) (pe_op op_addA (me_fz (g_bin (o_add hK) (pe_op op_addA (me_var 3) (g_binP (o_ix hK) (pe_ix ix_seq (pv 0) me_int (fun _ _ => rfl)))))) (g_bin o_div (pe_op op_fdiv (g_binP (o_ix hK) (pe_ix ix_seq (pv 0) me_int (fun _ _ => rfl))) me_int))))) (me_fz (g_bin (o_add hK) (pe_op op_addA (g_bin o_mod (pe_op op_mod (me_var 3) me_int)) me_int)))))) me_int))))
    (ms_one (ms_ret (me_va (g_bin o_mod (pe_op op_mod (g_bin o_div (pe_op op_fdiv (g_bin o_mod (pe_op op_mod (me_fz (g_bin (o_add hK) (pe_op op_addA (me_fz (g_bin o_mul (pe_op op_mulA (me_var 4) me_int))) (me_var 3)))) me_int)) me_int)) (me_var 1))))))))))
theorem r_l_spot {f : Addr} {fd : FuncData} (F : Fun K "_law_spot" "_law_spot" s_l_spot f fd) (z_min : mg "min" = none) (C_l_take : Cm P w K mg base cl 1 "_law_take" ["_law_box_here", "_law_many"] (some 0) f_l_take) : FnOk P w K mg base (L2.CX P w) 2 f fd ["_law_box_here", "_law_wide"] (spM K cl 2 (some 0) f_l_spot) :=
  ok_def (m := b_l_spot) F sc_l_spot fun cdv A outer s H E c hr hK hcl hbi hW => (ms_cons (ms_par (i := 2) (j := 3) (nbs hbi (by decide)) rfl sc_l_spot.nd rfl rfl (by decide) rfl rfl (mls_cons (me_va (me_fz (ml_call (md := [.o 0, .v]) C_l_take hK hcl (takes_c hW (takes_of rfl rfl rfl rfl)) hr (by first | decide | exact Nat.le_refl _) (by rfl) (ma_o (pv 0) (ma_v me_int ma_nil))))) (mls_cons (me_va (me_fz (g_bin (o_add hK) (pe_op op_addA me_int (me_fz (ml_call (md := [.o 0, .v]) C_l_take hK hcl (takes_c hW (takes_of rfl rfl rfl rfl)) hr (by first | decide | exact Nat.le_refl _) (by rfl) (ma_o (pv 0) (ma_v (me_var 1) ma_nil)))))))) mls_nil)) (by rfl))
    (ms_cons (ms_if (t_bin (o_eq hK) (pt_cmpR (op_eqD hr.units) (me_var 2) me_int (nomark _))) (ms_one (ms_ret (me_va (me_tup (md_cons me_non (md_cons me_non (md_cons me_non (md_cons me_non md_nil)))))))) ms_nil)
    (ms_cons (ms_if (t_bin o_lt (pt_cmpR op_lt (me_var 2) me_int (nomark _))) (ms_one (ms_ret (me_va (me_tup (md_cons (me_var 3) (md_cons (me_var 3) (md_cons me_non (md_cons me_non md_nil)))))))) ms_nil)
    (ms_cons (ms_set (i := 4) (nb hbi (by decide)) sc_l_spot.nd rfl (Or.inl rfl) (me_va (me_fz (ml_call (md := [.o 0, .v]) C_l_take hK hcl (takes_c hW (takes_of rfl rfl rfl rfl)) hr (by first | decide | exact Nat.le_refl _) (by rfl) (ma_o (pv 0) (ma_v (g_bin (o_ix hK) (pe_ix ix_seq (me_fz (ml_lst (md_cons me_int (md_cons me_int (md_cons (me_fz (g_bin (o_add hK) (pe_op op_addA (g_bin o_pow (pe_op op_pow me_int me_int)) me_int))) md_nil))))) (me_fz (ml_call (md := [.o 0, .v]) C_l_take hK hcl (takes_c hW (takes_of rfl rfl rfl rfl)) hr (by first | decide | exact Nat.le_refl _) (by rfl) (ma_o (pv 0) (ma_v me_int ma_nil)))) (fun _ _ => rfl))) ma_nil))))))
    (ms_cons (ms_if (t_bin o_lt (pt_cmpR op_lt (me_var 2) me_int (nomark _))) (ms_one (ms_ret (me_va (me_tup (md_cons (me_var 3) (md_cons (me_var 3) (md_cons (me_var 4) (md_cons (g_cb o_min (pe_callB (call_min2 rfl) (by rfl) z_min (by decide +kernel) (md_cons (g_bin o_pow (pe_op op_pow me_int me_int)) (md_cons (me_fz (g_bin (o_add hK) (pe_op op_addA (me_var 4) (me_fz (ml_call (md := [.o 0, .v]) C_l_take hK hcl (takes_c hW (takes_of rfl rfl rfl rfl)) hr (by first | decide | exact Nat.le_refl _) (by rfl) (ma_o (pv 0) (ma_v (g_bin (o_ix hK) (pe_ix ix_seq (me_fz (ml_lst (md_cons me_int (md_cons me_int (md_cons (g_bin o_pow (pe_op op_pow me_int me_int)) md_nil))))) (me_fz (ml_call (md := [.o 0, .v]) C_l_take hK hcl (takes_c hW (takes_of rfl rfl rfl rfl)) hr (by first | decide | exact Nat.le_refl _) (by rfl) (ma_o (pv 0) (ma_v me_int ma_nil)))) (fun _ _ => rfl))) ma_nil))))))) md_nil)))) md_nil)))))))) ms_nil)
    (ms_cons (ms_set (i := 5) (nb hbi (by decide)) sc_l_spot.nd rfl (Or.inl rfl) (me_va (g_cb o_min (pe_callB (call_min2 rfl) (by rfl) z_min (by decide +kernel) (md_cons (g_bin o_pow (pe_op op_pow me_int me_int)) (md_cons (me_fz (g_bin (o_add hK) (pe_op op_addA (me_fz (g_bin (o_add hK) (pe_op op_addA (me_var 3) me_int))) (me_fz (ml_call (md := [.o 0, .v]) C_l_take hK hcl (takes_c hW (takes_of rfl rfl rfl rfl)) hr (by first | decide | exact Nat.le_refl _) (by rfl) (ma_o (pv 0) (ma_v (g_bin (o_ix hK) (pe_ix ix_seq (me_fz (ml_lst (md_cons me_int (md_cons me_int md_nil)))) (me_fz (ml_call (md := [.o 0, .v]) C_l_take hK hcl (takes_c hW (takes_of rfl rfl rfl rfl)) hr (by first | decide | exact Nat.le_refl _) (by rfl) (ma_o (pv 0) (ma_v me_int ma_nil)))) (fun _ _ => rfl))) ma_nil))))))) md_nil))))))
    (ms_cons (ms_if (t_bin (o_eq hK) (pt_cmpR (op_eqD hr.units) (me_var 5) (me_var 3) (nomark _))) (ms_one (ms_ret (me_va (me_tup (md_cons (me_var 3) (md_cons (me_var 3) (md_cons me_non (md_cons me_non md_nil)))))))) ms_nil)
    (ms_one (ms_ret (me_va (me_tup (md_cons (me_var 3) (md_cons (me_var 5) (md_cons (me_var 4) (md_cons (me_fz (ml_call (md := [.o 0, .v]) C_l_take hK hcl (takes_c hW (takes_of rfl rfl rfl rfl)) hr (by first | decide | exact Nat.le_refl _) (by rfl) (ma_o (pv 0) (ma_v (g_bin (o_ix hK) (pe_ix ix_seq (me_fz (ml_lst (md_cons me_int (md_cons me_int (md_cons (me_fz (g_bin (o_add hK) (pe_op op_addA (g_bin o_pow (pe_op op_pow me_int me_int)) me_int))) md_nil))))) (me_fz (ml_call (md := [.o 0, .v]) C_l_take hK hcl (takes_c hW (takes_of rfl rfl rfl rfl)) hr (by first | decide | exact Nat.le_refl _) (by rfl) (ma_o (pv 0) (ma_v me_int ma_nil)))) (fun _ _ => rfl))) ma_nil)))) md_nil)))))))))))))))
theorem r_l_later {f : Addr} {fd : FuncData} (F : Fun K "_law_later" "_law_later" s_l_later f fd)  : FnOk P w K mg base (L2.CX P w) 1 f fd ["_law_own", "_law_step"] (spM K cl 2 none f_l_later) :=
  ok_def (m := b_l_later) F sc_l_later fun cdv A outer s H E c hr hK hcl hbi hW => (ms_one (ms_ret (g_if (t_bin o_isN (pt_cmpR op_isN (g_bin (o_ix hK) (pe_ix ix_seq (me_var 0) me_int (fun _ _ => rfl))) me_non (nomark _))) (me_va (me_var 0)) (g_bin (o_add hK) (pe_op op_addA (me_tup (md_cons (me_fz (g_bin (o_add hK) (pe_op op_addA (g_bin (o_ix hK) (pe_ix ix_seq (me_var 0) me_int (fun _ _ => rfl))) (me_var 1)))) (md_cons (me_fz (g_bin (o_add hK) (pe_op op_addA (g_bin (o_ix hK) (pe_ix ix_seq (me_var 0) me_int (fun _ _ => rfl))) (me_var 1)))) md_nil))) (me_fz (g_sl hK (me_var 0) (mo_some me_int) mo_none)))))))
theorem r_l_spots {f : Addr} {fd : FuncData} (F : Fun K "_law_spots" "_law_spots" s_l_spots f fd) (z_len : mg "len" = none) (z_min : mg "min" = none) (z_range : mg "range" = none) (C_l_take : Cm P w K mg base cl 1 "_law_take" ["_law_box_here", "_law_many"] (some 0) f_l_take) (C_l_later : Cm P w K mg base cl 1 "_law_later" ["_law_own", "_law_step"] none f_l_later) (C_l_spot : Cm P w K mg base cl 2 "_law_spot" ["_law_box_here", "_law_wide"] (some 0) f_l_spot) : FnOk P w K mg base (L2.CX P w) 3 f fd ["_law_box_here", "_law_many", "_law_wide"] (spM K cl 3 (some 0) f_l_spots) :=
  ok_def (m := b_l_spots) F sc_l_spots fun cdv A outer s H E c hr hK hcl hbi hW => (ms_cons (ms_set (i := 3) (nb hbi (by decide)) sc_l_spots.nd rfl (Or.inl rfl) (ml_lst md_nil))
    (ms_cons (ms_for (passes_of rfl) rfl (mi_rng1 (by rfl) z_range (md_cons (me_var 1) md_nil)) (mg_name (i := 4) (nb hbi (by decide)) sc_l_spots.nd rfl (Or.inl rfl)) (ms_cons (ms_set (i := 5) (nb hbi (by decide)) sc_l_spots.nd rfl (Or.inl rfl) (me_va (me_fz (ml_call (md := [.o 0, .v]) C_l_take hK hcl (takes_c hW (takes_of rfl rfl rfl rfl)) hr (by first | decide | exact Nat.le_refl _) (by rfl) (ma_o (pv 0) (ma_v me_int ma_nil))))))
      (ms_cons (ms_set (i := 6) (nb hbi (by decide)) sc_l_spots.nd rfl (Or.inl rfl) (me_va (me_fz (ml_call (md := [.o 0, .v]) C_l_spot hK hcl (takes_c hW (takes_of rfl rfl rfl rfl)) hr (by first | decide | exact Nat.le_refl _) (by rfl) (ma_o (pv 0) (ma_v (me_var 2) ma_nil))))))
      (ms_cons (ms_if (PW.pt (mw_and (t_binP (o_ne hK) (pt_cmpR (op_neD hr.units) (pv 3) (me_fz (ml_lst md_nil)) (nomark _))) (mw_one (.inl rfl) (t_bin o_lt (pt_cmpR op_lt (me_var 5) me_int (nomark _)))))) (ms_one (ms_set (i := 6) (nb hbi (by decide)) sc_l_spots.nd rfl (Or.inl rfl) (me_va (g_binP (o_ix hK) (pe_ix ix_seq (pv 3) (g_un o_neg (pe_un un_neg me_int)) (fun _ _ => rfl)))))) ms_nil)
      (ms_cons (ms_if (PW.pt (mw_and (t_binP (o_ne hK) (pt_cmpR (op_neD hr.units) (pv 3) (me_fz (ml_lst md_nil)) (nomark _))) (mw_one (.inl rfl) (t_bin (o_in hK) (pt_cmpR op_in_seq (me_var 5) (me_tup (md_cons me_int (md_cons me_int md_nil))) (by rfl)))))) (ms_one (ms_set (i := 6) (nb hbi (by decide)) sc_l_spots.nd rfl (Or.inl rfl) (me_va (me_fz (ml_call (md := [.v, .v]) C_l_later hK hcl (takes_c hW (takes_of rfl rfl rfl rfl)) hr (by first | decide | exact Nat.le_refl _) (by rfl) (ma_v (g_binP (o_ix hK) (pe_ix ix_seq (pv 3) (g_un o_neg (pe_un un_neg me_int)) (fun _ _ => rfl))) (ma_v (g_bin (o_ix hK) (pe_ix ix_seq (me_fz (ml_lst (md_cons me_int (md_cons me_int (md_cons me_int (md_cons me_int md_nil)))))) (me_fz (ml_call (md := [.o 0, .v]) C_l_take hK hcl (takes_c hW (takes_of rfl rfl rfl rfl)) hr (by first | decide | exact Nat.le_refl _) (by rfl) (ma_o (pv 0) (ma_v me_int ma_nil)))) (fun _ _ => rfl))) ma_nil))))))) ms_nil)
      (ms_cons (ms_if (PW.pt (mw_and (t_bin o_gt (pt_cmpR op_gt (g_cbP (o_len hK) (pe_callB call_len (by rfl) z_len (by decide +kernel) (pa_cons (pv 3) pa_nil))) me_int (nomark _))) (mw_one (.inl rfl) (t_bin (o_eq hK) (pt_cmpR (op_eqD hr.units) (me_var 5) me_int (nomark _)))))) (ms_one (ms_set (i := 6) (nb hbi (by decide)) sc_l_spots.nd rfl (Or.inl rfl) (me_va (me_fz (ml_call (md := [.v, .v]) C_l_later hK hcl (takes_c hW (takes_of rfl rfl rfl rfl)) hr (by first | decide | exact Nat.le_refl _) (by rfl) (ma_v (g_binP (o_ix hK) (pe_ix ix_seq (pv 3) (g_bin o_sub (pe_op op_sub (g_un o_neg (pe_un un_neg me_int)) (me_fz (ml_call (md := [.o 0, .v]) C_l_take hK hcl (takes_c hW (takes_of rfl rfl rfl rfl)) hr (by first | decide | exact Nat.le_refl _) (by rfl) (ma_o (pv 0) (ma_v (g_cb o_min (pe_callB (call_min2 rfl) (by rfl) z_min (by decide +kernel) (md_cons (g_cbP (o_len hK) (pe_callB call_len (by rfl) z_len (by decide +kernel) (pa_cons (pv 3) pa_nil))) (md_cons me_int md_nil)))) ma_nil)))))) (fun _ _ => rfl))) (ma_v (g_bin (o_ix hK) (pe_ix ix_seq (me_fz (ml_lst (md_cons me_int (md_cons me_int (md_cons me_int md_nil))))) (me_fz (ml_call (md := [.o 0, .v]) C_l_take hK hcl (takes_c hW (takes_of rfl rfl rfl rfl)) hr (by first | decide | exact Nat.le_refl _) (by rfl) (ma_o (pv 0) (ma_v me_int ma_nil)))) (fun _ _ => rfl))) ma_nil))))))) ms_nil)
      (ms_one (ms_app (ps_expr (pe_bm PySem.F.plainAttrs_list PySem.F.slot_list_append PySem.F.type_list_append mt_append (pv 3) (pa_cons (g_if (PW.pt (mw_or (t_bin o_isN (pt_cmpR op_isN (g_bin (o_ix hK) (pe_ix ix_seq (me_var 6) me_int (fun _ _ => rfl))) me_non (nomark _))) (mw_one (.inr rfl) (PW.pt (mw_and (t_bin o_le (pt_cmpR op_le me_int (g_bin (o_ix hK) (pe_ix ix_seq (me_var 6) me_int (fun _ _ => rfl))) (nomark _))) (mw_one (.inl rfl) (t_bin o_le (pt_cmpR op_le (g_bin (o_ix hK) (pe_ix ix_seq (me_var 6) me_int (fun _ _ => rfl))) (g_bin o_pow (pe_op op_pow me_int me_int)) (nomark _))))))))) (me_var 6) (me_tup (md_cons me_int (md_cons me_int (md_cons me_non (md_cons me_non md_nil)))))) pa_nil)))))))))))
    (ms_one (ms_ret (me_giv 3 (nb hbi (by decide)))))))
theorem r_Place_init {f : Addr} {fd : FuncData} (F : FunD K "__init__" "Place.__init__" (defArgs s_Place_init) (defBody s_Place_init) (defScope s_Place_init) [.non, .non] [("begin", .non), ("end", .non)] f fd) (hfl : FlOk K cl fl) (X_BadPlace : RaC P w K mg base cl "BadPlace" "part") (C_wrong_part : Cm P w K mg base cl 4 "wrong_part" ["line", "last", "begin", "end"] none f_wrong_part) :
    FnOk P w K mg base (L2.CX P w) 5 f fd ["self", "line", "last", "begin", "end"] (spMk K cl "Place" 4 f_Place_init) := by
  refine F.ok sc_Place_init (fun vs H Q E h => h.1) (fun cdv A outer s H vs Q E hr h => ?_)
  obtain ⟨hn, p, dx, us, F0, ds, rfl, hp, f0, sm, hs, g⟩ := h
  match us, ds, hs, hn with
  | [v1, v2, v3, v4], [d1, d2, d3, d4], .cons r1 (.cons r2 (.cons r3 (.cons r4 .nil))), _ =>
  obtain ⟨c, hc⟩ : ∃ c : Mc, c = ⟨K, cl, F0, H, [], fun cls d _ H => E cls d H⟩ := ⟨_, rfl⟩
  have hK : c.K = K := by rw [hc]
  have hcl : c.cl = cl := by rw [hc]
  have hbi : ∀ i a, (i, a) ∈ c.bi → (none : Option Nat) = some i := by rw [hc]; intro i a z; cases z
  have hW : c.W = fun cls d _ H => E cls d H := by rw [hc]
  have W0 : Wd c F0 H [some (.ref p), some v1, some v2, some v3, some v4, none] [some (.va (.raw (.ref p))), some (.va d1), some (.va d2), some (.va d3), some (.va d4), none] [] := by
    rw [hc]
    have A : Argm K cl F0 H none none [.ref p, v1, v2, v3, v4] [.va (.raw (.ref p)), .va d1, .va d2, .va d3, .va d4] := ⟨rfl, (fun j d hj => by
      match j, hj with
      | 0, hj => cases hj; exact ⟨_, rfl, .raw _⟩
      | 1, hj => cases hj; exact ⟨_, rfl, r1⟩
      | 2, hj => cases hj; exact ⟨_, rfl, r2⟩
      | 3, hj => cases hj; exact ⟨_, rfl, r3⟩
      | 4, hj => cases hj; exact ⟨_, rfl, r4⟩
      | j + 5, hj => cases hj), (fun j es hj => by
      match j, hj with
      | 0, hj => cases hj
      | 1, hj => cases hj
      | 2, hj => cases hj
      | 3, hj => cases hj
      | 4, hj => cases hj
      | j + 5, hj => cases hj), (fun j hj => by cases hj), fun _ => rfl⟩
    exact A.start sm (n := 6)
  refine ⟨_, (pss_cons (ms_set (i := 5) (nb hbi (by decide)) sc_Place_init.nd rfl (Or.inl rfl) (me_va (me_fz (ml_call (md := [.v, .v, .v, .v]) C_wrong_part hK hcl (takes_c hW (takes_of rfl rfl rfl rfl)) hr (by first | decide | exact Nat.le_refl _) (by rfl) (ma_v (me_var 1) (ma_v (me_var 2) (ma_v (me_var 3) (ma_v (me_var 4) ma_nil))))))))
      (pss_cons (ms_if (t_bin o_notN (pt_cmpR op_notN (me_var 5) me_non (nomark _))) (ms_one (ms_raise X_BadPlace hcl (takes_c hW (takes_of rfl rfl rfl rfl)) rfl hr (by decide) (by rfl) (me_var 5))) ms_nil)
      (pss_cons (ps_fld (pv 0) (pv 1) rfl)
      (pss_cons (ps_fld (pv 0) (pe_ifExp (pt_cmpR (op_isN) (pv 2) (pe_non) (nomark _)) (pv 1) (pv 2)) rfl)
      (pss_cons (ps_fld (pv 0) (pv 3) rfl)
      (pss_one (ps_fld (pv 0) (pv 4) rfl))))))), ?_⟩
  refine ⟨F0, _, [], W0, ?_⟩
  have nB : ∀ a, a ∉ c.B := by rw [hc]; intro a z; cases z
  have h0 : c.H0 = H := by rw [hc]
  have f00 : c.F0 = F0 := by rw [hc]
  have no : ∀ {F' H' : Hp} {σ' : L2.St} {ρ' : En}, Wd c F' H' σ' ρ' [] → F' p = none := fun {F' H' σ' ρ'} w' => by
    cases z : F' p with
    | none => rfl
    | some o =>
      have := w'.new p (by rw [f00]; exact f0) (by rw [z]; exact fun y => by cases y)
      rw [h0, hp] at this
      cases this
  have kp : ∀ {F' H' : Hp} {σ' : L2.St} {ρ' : En}, Wd c F' H' σ' ρ' [] → ∀ a o, H a = some o → H' a = some o := fun {F' H' σ' ρ'} w' a o ha => w'.keep a o (nB a) (by rw [h0]; exact ha)
  have nw : ∀ {F' H' : Hp} {σ' : L2.St} {ρ' : En}, Wd c F' H' σ' ρ' [] → ∀ q, F0 q = none → F' q ≠ none → H q = none := fun {F' H' σ' ρ'} w' q q1 q2 => by
    have := w'.new q (by rw [f00]; exact q1) q2
    rw [h0] at this
    exact this
  cases hf : f_wrong_part [.va d1, .va d2, .va d3, .va d4] with
  | no => simp [f_Place_init, hf] at g
  | ex _ _ _ _ => simp [f_Place_init, hf] at g
  | ok r b =>
    cases r with
    | ow _ => simp [f_Place_init, hf] at g
    | va dd =>
      have e1 : ((asgS 5 (mVa (mFz (callA f_wrong_part none [.v, .v, .v, .v] (mCons (rdv 1) (mCons (rdv 2) (mCons (rdv 3) (mCons (rdv 4) (ret [])))))))))) [some (.va (.raw (.ref p))), some (.va d1), some (.va d2), some (.va d3), some (.va d4), none] = .nx [some (.va (.raw (.ref p))), some (.va d1), some (.va d2), some (.va d3), some (.va d4), some (.va dd)] := by
        simp [Mir.bnd, Mir.ret, Mir.opt, Mir.rdv, Mir.mVa, Mir.mFz, Mir.un, Mir.bin, Mir.dNotN, Mir.isN, Mir.thenS, Mir.ifS, Mir.asgS, Mir.mCons, Mir.callA, Mir.callM, Mir.sls, Mir.outE, Mir.hasB, Mir.asB, Mir.raiseS, hf]
      rw [e1]
      intro σ1 F1 H1 s1 w1
      refine ⟨F1, _, [], w1, ?_⟩
      cases dd with
      | non =>
        have e2 : ((ifS (un asB (bin dNotN (rdv 5) (ret .non))) (raiseS "BadPlace" "part" (rdv 5)) Fl.nx)) [some (.va (.raw (.ref p))), some (.va d1), some (.va d2), some (.va d3), some (.va d4), some (.va .non)] = .nx [some (.va (.raw (.ref p))), some (.va d1), some (.va d2), some (.va d3), some (.va d4), some (.va .non)] := by
          simp [Mir.bnd, Mir.ret, Mir.opt, Mir.rdv, Mir.mVa, Mir.mFz, Mir.un, Mir.bin, Mir.dNotN, Mir.isN, Mir.thenS, Mir.ifS, Mir.asgS, Mir.mCons, Mir.callA, Mir.callM, Mir.sls, Mir.outE, Mir.hasB, Mir.asB, Mir.raiseS]
        rw [e2]
        intro σ2 F2 H2 s2 w2
        obtain ⟨u0, a0, q0⟩ := w2.va 0 (.raw (.ref p)) rfl
        obtain ⟨u1, a1, q1⟩ := w2.va 1 d1 rfl
        obtain ⟨u2, a2, q2⟩ := w2.va 2 d2 rfl
        obtain ⟨u3, a3, q3⟩ := w2.va 3 d3 rfl
        obtain ⟨u4, a4, q4⟩ := w2.va 4 d4 rfl
        cases q0
        have hx := kp w2 p _ hp
        have tL := hfl "Place" "line" (by decide +kernel)
        have tA := hfl "Place" "last" (by decide +kernel)
        have tB := hfl "Place" "begin" (by decide +kernel)
        have tE := hfl "Place" "end" (by decide +kernel)
        cases hk : isN d2 with
        | none => simp [f_Place_init, hf, hk] at g
        | some k =>
        simp only [f_Place_init, List.map_cons, List.map_nil, hf, hk] at g
        obtain ⟨_, g⟩ := g
        have hd := isN_ok (c := c) (now_of w2.sub q2) hk
        have p1 : putF "line" u1 [] = ([("line", u1)] : List (Str × V)) := rfl
        have p2 : ∀ y : V, putF "last" y [("line", u1)] = ([("line", u1), ("last", y)] : List (Str × V)) := fun y => by
          unfold putF
          rw [if_neg (by decide +kernel)]
          rfl
        have p3 : ∀ y : V, putF "begin" u3 [("line", u1), ("last", y)] = ([("line", u1), ("last", y), ("begin", u3)] : List (Str × V)) := fun y => by
          unfold putF
          rw [if_neg (by decide +kernel)]
          unfold putF
          rw [if_neg (by decide +kernel)]
          rfl
        have p4 : ∀ y : V, putF "end" u4 [("line", u1), ("last", y), ("begin", u3)] = ([("line", u1), ("last", y), ("begin", u3), ("end", u4)] : List (Str × V)) := fun y => by
          unfold putF
          rw [if_neg (by decide +kernel)]
          unfold putF
          rw [if_neg (by decide +kernel)]
          unfold putF
          rw [if_neg (by decide +kernel)]
          rfl
        have fin : ∀ y : V, c.rep F2 y (if k = true then d1 else d2) → Q .non (upd (upd (upd (upd H2 p (.ins (cl "Place") dx [("line", u1)])) p (.ins (cl "Place") dx [("line", u1), ("last", y)])) p (.ins (cl "Place") dx [("line", u1), ("last", y), ("begin", u3)])) p (.ins (cl "Place") dx [("line", u1), ("last", y), ("begin", u3), ("end", u4)])) := fun y ry => by
          refine g F2 _ [u1, y, u3, u4] ⟨s1.trans s2, fun a o ha => ?_, nw w2, fun a o na ha => ?_, no w2⟩ upd_same rfl ?_
          · have na : a ≠ p := fun z => by rw [z, no w2] at ha; cases ha
            rw [upd_ne na, upd_ne na, upd_ne na, upd_ne na]
            exact w2.sub a o ha
          · rw [upd_ne na, upd_ne na, upd_ne na, upd_ne na]
            exact kp w2 a o ha
          · rw [hc] at q1 q3 q4 ry
            exact .cons q1 (.cons ry (.cons q3 (.cons q4 .nil)))
        refine ⟨u1, a1, _, a0, p, _, dx, _, rfl, hx, tL.1, tL.2, by decide, ?_⟩
        rw [p1]
        refine ⟨u2, a2, rfl, _, rfl, ite2 (fun z => ?_) (fun z => ?_)⟩
        · rw [hd] at z
          subst z
          refine ⟨u1, a1, _, a0, p, _, dx, _, rfl, upd_same, tA.1, tA.2, (by show 1 < 1000; decide), ?_⟩
          rw [p2]
          refine ⟨u3, a3, _, a0, p, _, dx, _, rfl, upd_same, tB.1, tB.2, (by show 2 < 1000; decide), ?_⟩
          rw [p3]
          refine ⟨u4, a4, _, a0, p, _, dx, _, rfl, upd_same, tE.1, tE.2, (by show 3 < 1000; decide), ?_⟩
          rw [p4]
          exact fin _ q1
        · rw [hd] at z
          have zk : k = false := by cases k <;> first | rfl | exact absurd rfl z
          subst zk
          refine ⟨u2, a2, _, a0, p, _, dx, _, rfl, upd_same, tA.1, tA.2, (by show 1 < 1000; decide), ?_⟩
          rw [p2]
          refine ⟨u3, a3, _, a0, p, _, dx, _, rfl, upd_same, tB.1, tB.2, (by show 2 < 1000; decide), ?_⟩
          rw [p3]
          refine ⟨u4, a4, _, a0, p, _, dx, _, rfl, upd_same, tE.1, tE.2, (by show 3 < 1000; decide), ?_⟩
          rw [p4]
          exact fin _ q2
      | str z =>
        by_cases fz : fitD (.str z) = true
        · have e2 : ((ifS (un asB (bin dNotN (rdv 5) (ret .non))) (raiseS "BadPlace" "part" (rdv 5)) Fl.nx)) [some (.va (.raw (.ref p))), some (.va d1), some (.va d2), some (.va d3), some (.va d4), some (.va (.str z))] = .ex "BadPlace" "part" (.str z) [some (.va (.raw (.ref p))), some (.va d1), some (.va d2), some (.va d3), some (.va d4), some (.va (.str z))] := by
            simp [Mir.bnd, Mir.ret, Mir.opt, Mir.rdv, Mir.mVa, Mir.mFz, Mir.un, Mir.bin, Mir.dNotN, Mir.isN, Mir.thenS, Mir.ifS, Mir.asgS, Mir.mCons, Mir.callA, Mir.callM, Mir.sls, Mir.outE, Mir.hasB, Mir.asB, Mir.raiseS, fz]
          rw [e2]
          simp only [f_Place_init, List.map_cons, List.map_nil, hf, if_pos fz] at g
          intro x' w' σ' F' H' s' wd hx rw'
          rw [hW, hcl]
          have rw2 : Rep K cl F' w' (.str z) := by rw [← hK, ← hcl]; exact rw'
          exact g x' w' F' H' ⟨s1.trans s', wd.sub, nw wd, fun a o _ ha => kp wd a o ha, no wd⟩ hx rw2
        · simp [f_Place_init, hf, fz] at g
      | _ => simp [f_Place_init, hf] at g
theorem r_l_place {f : Addr} {fd : FuncData} (F : Fun K "_law_place" "_law_place" s_l_place f fd) (MK_Place_2_begin_end : Mkm P w K mg base cl 5 "Place" 2 ["begin", "end"] (fun (vs zs : List V) => [vs.getD 0 .non, vs.getD 1 .non, vs.getD 2 .non, zs.getD 0 .non, zs.getD 1 .non]) 4 f_Place_init) (MK_Place_1 : Mkm P w K mg base cl 5 "Place" 1 [] (fun (vs zs : List V) => [vs.getD 0 .non, vs.getD 1 .non, .non, .non, .non]) 4 f_Place_init) (MK_Place_0 : Mkm P w K mg base cl 5 "Place" 0 [] (fun (vs zs : List V) => [vs.getD 0 .non, .non, .non, .non, .non]) 4 f_Place_init) : FnOk P w K mg base (L2.CX P w) 7 f fd ["_law_spot_here"] (spM K cl 1 none f_l_place) :=
  ok_def (m := b_l_place) F sc_l_place fun cdv A outer s H E c hr hK hcl hbi hW => (ms_cons (ms_if (t_bin o_isN (pt_cmpR op_isN (g_bin (o_ix hK) (pe_ix ix_seq (me_var 0) me_int (fun _ _ => rfl))) me_non (nomark _))) (ms_one (ms_ret (ml_mkN (fun (ds fs : List D) => match ds, fs with | [], [] => [.non, .non, .non, .non] | _, _ => []) MK_Place_0 (by exact (fun (F : Hp) (a : Addr) (vs : List V) (ds : List D) (zs : List V) (fs : List D) l1 l2 h1 h2 => match vs, l1, zs, l2, ds, fs, h1, h2 with | [], _, [], _, _, _, .nil, .nil => ⟨_, rfl, rfl, .cons .non (.cons .non (.cons .non (.cons .non .nil)))⟩)) hK hcl (takes_c hW (takes_of rfl rfl rfl rfl)) hr (by first | decide | exact Nat.le_refl _) (by rfl)))) ms_nil)
    (ms_cons (ms_if (t_bin o_isN (pt_cmpR op_isN (g_bin (o_ix hK) (pe_ix ix_seq (me_var 0) me_int (fun _ _ => rfl))) me_non (nomark _))) (ms_one (ms_ret (ml_mk (fun (ds fs : List D) => match ds, fs with | [r0], [] => [r0, .non, .non, .non] | _, _ => []) MK_Place_1 (by exact (fun (F : Hp) (a : Addr) (vs : List V) (ds : List D) (zs : List V) (fs : List D) l1 l2 h1 h2 => match vs, l1, zs, l2, ds, fs, h1, h2 with | [_], _, [], _, _, _, .cons r0 .nil, .nil => ⟨_, rfl, rfl, .cons r0 (.cons .non (.cons .non (.cons .non .nil)))⟩)) hK hcl (takes_c hW (takes_of rfl rfl rfl rfl)) hr (by first | decide | exact Nat.le_refl _) (by rfl) (md_cons (g_bin (o_ix hK) (pe_ix ix_seq (me_var 0) me_int (fun _ _ => rfl))) md_nil) kd_nil))) ms_nil)
    (ms_one (ms_ret (ml_mk (fun (ds fs : List D) => match ds, fs with | [r0, r1], [q0, q1] => [r0, r1, q0, q1] | _, _ => []) MK_Place_2_begin_end (by exact (fun (F : Hp) (a : Addr) (vs : List V) (ds : List D) (zs : List V) (fs : List D) l1 l2 h1 h2 => match vs, l1, zs, l2, ds, fs, h1, h2 with | [_, _], _, [_, _], _, _, _, .cons r0 (.cons r1 .nil), .cons q0 (.cons q1 .nil) => ⟨_, rfl, rfl, .cons r0 (.cons r1 (.cons q0 (.cons q1 .nil)))⟩)) hK hcl (takes_c hW (takes_of rfl rfl rfl rfl)) hr (by first | decide | exact Nat.le_refl _) (by rfl) (md_cons (g_bin (o_ix hK) (pe_ix ix_seq (me_var 0) me_int (fun _ _ => rfl))) (md_cons (g_bin (o_ix hK) (pe_ix ix_seq (me_var 0) me_int (fun _ _ => rfl))) md_nil)) (kd_cons (g_bin (o_ix hK) (pe_ix ix_seq (me_var 0) me_int (fun _ _ => rfl))) (kd_cons (g_bin (o_ix hK) (pe_ix ix_seq (me_var 0) me_int (fun _ _ => rfl))) kd_nil)))))))
theorem r_l_same {n : Nat} {f : Addr} {fd : FuncData} (F : Fun K "_law_same" "_law_same" s_l_same f fd) (z_all : mg "all" = none) (z_bool : mg "bool" = none) (z_int : mg "int" = none) (z_isinstance : mg "isinstance" = none) (z_len : mg "len" = none) (z_list : mg "list" = none) (z_str : mg "str" = none) (z_tuple : mg "tuple" = none) (z_zip : mg "zip" = none) (C_l_same : Cm P w K mg base cl (0 + n) "_law_same" ["_law_found", "_law_due_here"] none (f_l_same n)) : FnOk P w K mg base (L2.CX P w) (0 + n + 1) f fd ["_law_found", "_law_due_here"] (spM K cl 2 none (f_l_same (n + 1))) :=
  ok_def (m := b_l_same (f_l_same n)) F sc_l_same fun cdv A outer s H E c hr hK hcl hbi hW => (ms_cons (ms_if (mt_tru hK (g_cb (o_isiT hK) (pe_callB call_isiA (by rfl) z_isinstance (by decide +kernel) (md_cons (me_var 1) (md_cons (me_tup (md_cons (me_c (pe_bltn (v := .ty "list") (by rfl) z_list (by decide +kernel) rfl) (fun _ => .raw _)) (md_cons (me_c (pe_bltn (v := .ty "tuple") (by rfl) z_tuple (by decide +kernel) rfl) (fun _ => .raw _)) md_nil))) md_nil))))) (ms_cons (ms_if (PW.pt (mw_or (t_bin (o_ne hK) (pt_cmpR (op_neD hr.units) (g_cb (o_isi hK) (pe_callB call_isi (by rfl) z_isinstance (by decide +kernel) (md_cons (me_var 0) (md_cons (me_c (pe_bltn (v := .ty "list") (by rfl) z_list (by decide +kernel) rfl) (fun _ => .raw _)) md_nil)))) (g_cb (o_isi hK) (pe_callB call_isi (by rfl) z_isinstance (by decide +kernel) (md_cons (me_var 1) (md_cons (me_c (pe_bltn (v := .ty "list") (by rfl) z_list (by decide +kernel) rfl) (fun _ => .raw _)) md_nil)))) (nomark _))) (mw_one (.inr rfl) (t_bin (o_ne hK) (pt_cmpR (op_neD hr.units) (g_cb (o_isi hK) (pe_callB call_isi (by rfl) z_isinstance (by decide +kernel) (md_cons (me_var 0) (md_cons (me_c (pe_bltn (v := .ty "tuple") (by rfl) z_tuple (by decide +kernel) rfl) (fun _ => .raw _)) md_nil)))) (g_cb (o_isi hK) (pe_callB call_isi (by rfl) z_isinstance (by decide +kernel) (md_cons (me_var 1) (md_cons (me_c (pe_bltn (v := .ty "tuple") (by rfl) z_tuple (by decide +kernel) rfl) (fun _ => .raw _)) md_nil)))) (nomark _)))))) (ms_one (ms_ret (me_va me_bl))) ms_nil)
      (ms_one (ms_ret (me_va (me_and hK (g_bin (o_eq hK) (pe_cmpR (op_eqD hr.units) (g_cb (o_len hK) (pe_callB call_len (by rfl) z_len (by decide +kernel) (md_cons (me_var 0) md_nil))) (g_cb (o_len hK) (pe_callB call_len (by rfl) z_len (by decide +kernel) (md_cons (me_var 1) md_nil))) (nomark _))) (me_one (g_cb (o_all hK) (pe_callB (cr_all rfl) (by rfl) z_all (by decide +kernel) (md_cons (me_fz (ml_lc (own := [("_law_one", 2), ("_law_two", 3)]) (t := (bT (bCons (bN 2) (bCons (bN 3) bNil)))) (ts := ([2] ++ ([3] ++ []))) (nbs hbi (by decide)) (by decide) rfl sc_l_same.nd (mi_zip hK (by rfl) z_zip (md_cons (me_var 0) (md_cons (me_var 1) md_nil))) (blkOk_by (own := [("_law_one", 2), ("_law_two", 3)]) (N := ["_law_found", "_law_due_here", "_law_one", "_law_two"]) (sc := defScope s_l_same) (by decide +kernel)) (fun _ _ _ _ _ => (mg_tup (hKc hK) rfl (mgs_cons (mg_name (i := 2) (nb hbi (by decide)) sc_l_same.nd rfl (Or.inl rfl)) (mgs_cons (mg_name (i := 3) (nb hbi (by decide)) sc_l_same.nd rfl (Or.inl rfl)) mgs_nil)) (tgLen_cons (tgLen_cons tgLen_nil)))) (fun _ _ _ _ _ => mts_nil) (fun _ _ _ _ _ => (me_fz (ml_call (md := [.v, .v]) C_l_same (hKc hK) (hclc hcl) takes0 hr (by first | decide | exact Nat.le_refl _) (by rfl) (ma_v (me_var 2) (ma_v (me_var 3) ma_nil))))))) md_nil))))))))) ms_nil)
    (ms_cons (ms_if (PW.pt (mw_or (t_bin o_isN (pt_cmpR op_isN (me_var 1) me_non (nomark _))) (mw_one (.inr rfl) (mt_tru hK (g_cb (o_isi hK) (pe_callB call_isi (by rfl) z_isinstance (by decide +kernel) (md_cons (me_var 1) (md_cons (me_c (pe_bltn (v := .ty "str") (by rfl) z_str (by decide +kernel) rfl) (fun _ => .raw _)) md_nil)))))))) (ms_one (ms_ret (me_va (me_and hK (g_bin (o_eq hK) (pe_cmpR (op_eqD hr.units) (g_cb (o_isi hK) (pe_callB call_isi (by rfl) z_isinstance (by decide +kernel) (md_cons (me_var 0) (md_cons (me_c (pe_bltn (v := .ty "str") (by rfl) z_str (by decide +kernel) rfl) (fun _ => .raw _)) md_nil)))) (g_cb (o_isi hK) (pe_callB call_isi (by rfl) z_isinstance (by decide +kernel) (md_cons (me_var 1) (md_cons (me_c (pe_bltn (v := .ty "str") (by rfl) z_str (by decide +kernel) rfl) (fun _ => .raw _)) md_nil)))) (nomark _))) (me_one (g_bin (o_eq hK) (pe_cmpR (op_eqD hr.units) (me_var 0) (me_var 1) (nomark _)))))))) ms_nil)
    (ms_one (ms_ret (me_va (me_and hK (g_cb (o_isi hK) (pe_callB call_isi (by rfl) z_isinstance (by decide +kernel) (md_cons (me_var 0) (md_cons (me_c (pe_bltn (v := .ty "int") (by rfl) z_int (by decide +kernel) rfl) (fun _ => .raw _)) md_nil)))) (me_and hK (g_bin (o_eq hK) (pe_cmpR (op_eqD hr.units) (g_cb (o_isi hK) (pe_callB call_isi (by rfl) z_isinstance (by decide +kernel) (md_cons (me_var 0) (md_cons (me_c (pe_bltn (v := .ty "bool") (by rfl) z_bool (by decide +kernel) rfl) (fun _ => .raw _)) md_nil)))) (g_cb (o_isi hK) (pe_callB call_isi (by rfl) z_isinstance (by decide +kernel) (md_cons (me_var 1) (md_cons (me_c (pe_bltn (v := .ty "bool") (by rfl) z_bool (by decide +kernel) rfl) (fun _ => .raw _)) md_nil)))) (nomark _))) (me_one (g_bin (o_eq hK) (pe_cmpR (op_eqD hr.units) (me_var 0) (me_var 1) (nomark _)))))))))))
theorem r_l_seen {f : Addr} {fd : FuncData} (F : Fun K "_law_seen" "_law_seen" s_l_seen f fd) (z_isinstance : mg "isinstance" = none) (gx_Place : mg "Place" = some (.ref (cl "Place"))) (hio : IoOk K cl io) (hfl : FlOk K cl fl) : FnOk P w K mg base (L2.CX P w) 1 f fd ["_law_place_here"] (spM K cl 1 none f_l_seen) :=
  ok_def (m := b_l_seen) F sc_l_seen fun cdv A outer s H E c hr hK hcl hbi hW => (ms_one (ms_ret (g_if (mt_tru hK (g_cb (o_isO hio hK hcl) (pe_callB call_isi (by rfl) z_isinstance (by decide +kernel) (md_cons (me_var 0) (md_cons (me_cls hcl (by rfl) gx_Place) md_nil))))) (me_va (me_tup (md_cons (me_fld hfl hcl (me_var 0)) (md_cons (me_fld hfl hcl (me_var 0)) (md_cons (me_fld hfl hcl (me_var 0)) (md_cons (me_fld hfl hcl (me_var 0)) md_nil)))))) (ml_lst (md_cons (me_var 0) md_nil)))))
theorem r_l_alone {f : Addr} {fd : FuncData} (F : Fun K "_law_alone" "_law_alone" s_l_alone f fd) (z_ValueError : mg "ValueError" = none) (z_isinstance : mg "isinstance" = none) (gx_BadEntry : mg "BadEntry" = some (.ref (cl "BadEntry"))) (gx_BadPlace : mg "BadPlace" = some (.ref (cl "BadPlace"))) (gx_BadRow : mg "BadRow" = some (.ref (cl "BadRow"))) (gx_BadText : mg "BadText" = some (.ref (cl "BadText"))) (gx_BadTurn : mg "BadTurn" = some (.ref (cl "BadTurn"))) (gx_Broken : mg "Broken" = some (.ref (cl "Broken"))) (gx_NoCard : mg "NoCard" = some (.ref (cl "NoCard"))) (gx_NoDeed : mg "NoDeed" = some (.ref (cl "NoDeed"))) (gx_NoRoom : mg "NoRoom" = some (.ref (cl "NoRoom"))) (gx_Torn : mg "Torn" = some (.ref (cl "Torn"))) (hxt : XtOk K cl xt) : FnOk P w K mg base (L2.CX P w) 1 f fd ["_law_error", "_law_own"] (spM K cl 2 none f_l_alone) :=
  ok_def (m := b_l_alone) F sc_l_alone fun cdv A outer s H E c hr hK hcl hbi hW => (ms_cons (ms_set (i := 2) (nb hbi (by decide)) sc_l_alone.nd rfl (Or.inl rfl) (me_va (me_fz (ml_lst (md_cons (g_cb (o_isx hxt hK hcl) (pe_callB My.call_isX (by rfl) z_isinstance (by decide +kernel) (md_cons (me_var 0) (md_cons (me_cls hcl (by rfl) gx_BadPlace) md_nil)))) (md_cons (g_cb (o_isx hxt hK hcl) (pe_callB My.call_isX (by rfl) z_isinstance (by decide +kernel) (md_cons (me_var 0) (md_cons (me_cls hcl (by rfl) gx_BadText) md_nil)))) (md_cons (g_cb (o_isx hxt hK hcl) (pe_callB My.call_isX (by rfl) z_isinstance (by decide +kernel) (md_cons (me_var 0) (md_cons (me_cls hcl (by rfl) gx_BadRow) md_nil)))) (md_cons (g_cb (o_isx hxt hK hcl) (pe_callB My.call_isX (by rfl) z_isinstance (by decide +kernel) (md_cons (me_var 0) (md_cons (me_cls hcl (by rfl) gx_Torn) md_nil)))) md_nil))))))))
    (ms_cons (ms_set (i := 2) (nb hbi (by decide)) sc_l_alone.nd rfl (Or.inl rfl) (me_va (me_fz (g_bin (o_add hK) (pe_op op_addA (me_var 2) (me_fz (ml_lst (md_cons (g_cb (o_isx hxt hK hcl) (pe_callB My.call_isX (by rfl) z_isinstance (by decide +kernel) (md_cons (me_var 0) (md_cons (me_cls hcl (by rfl) gx_Broken) md_nil)))) (md_cons (g_cb (o_isx hxt hK hcl) (pe_callB My.call_isX (by rfl) z_isinstance (by decide +kernel) (md_cons (me_var 0) (md_cons (me_cls hcl (by rfl) gx_BadEntry) md_nil)))) (md_cons (g_cb (o_isx hxt hK hcl) (pe_callB My.call_isX (by rfl) z_isinstance (by decide +kernel) (md_cons (me_var 0) (md_cons (me_cls hcl (by rfl) gx_BadTurn) md_nil)))) md_nil))))))))))
    (ms_cons (ms_set (i := 2) (nb hbi (by decide)) sc_l_alone.nd rfl (Or.inl rfl) (me_va (me_fz (g_bin (o_add hK) (pe_op op_addA (me_var 2) (me_fz (ml_lst (md_cons (g_cb (o_isx hxt hK hcl) (pe_callB My.call_isX (by rfl) z_isinstance (by decide +kernel) (md_cons (me_var 0) (md_cons (me_cls hcl (by rfl) gx_NoCard) md_nil)))) (md_cons (g_cb (o_isx hxt hK hcl) (pe_callB My.call_isX (by rfl) z_isinstance (by decide +kernel) (md_cons (me_var 0) (md_cons (me_cls hcl (by rfl) gx_NoDeed) md_nil)))) (md_cons (g_cb (o_isx hxt hK hcl) (pe_callB My.call_isX (by rfl) z_isinstance (by decide +kernel) (md_cons (me_var 0) (md_cons (me_cls hcl (by rfl) gx_NoRoom) md_nil)))) md_nil))))))))))
    (ms_one (ms_ret (me_va (me_and hK (g_bin (o_eq hK) (pe_cmpR (op_eqD hr.units) (g_cnt hK (pe_bm PySem.F.plainAttrs_list PySem.F.slot_list_count PySem.F.type_list_count mt_cntL (me_var 2) (pa_cons me_bl pa_nil))) me_int (nomark _))) (me_and hK (g_bin (o_eq hK) (pe_cmpR (op_eqD hr.units) (g_idx hK (pe_bm PySem.F.plainAttrs_list PySem.F.slot_list_index PySem.F.type_list_index mt_index (me_var 2) (pa_cons me_bl pa_nil))) (me_var 1) (nomark _))) (me_one (g_bin (o_eq hK) (pe_cmpR (op_eqD hr.units) (g_cb (o_isx hxt hK hcl) (pe_callB My.call_isX (by rfl) z_isinstance (by decide +kernel) (md_cons (me_var 0) (md_cons (me_c (pe_bltn (v := .ty "ValueError") (by rfl) z_ValueError (by decide +kernel) rfl) (fun _ => .raw _)) md_nil)))) (g_bin o_lt (pe_cmpR op_lt (me_var 1) me_int (nomark _))) (nomark _))))))))))))
theorem r_l_runs {f : Addr} {fd : FuncData} (F : Fun K "_law_runs" "_law_runs" s_l_runs f fd)  : FnOk P w K mg base (L2.CX P w) 1 f fd ["_law_spots_here"] (spM K cl 1 none f_l_runs) :=
  ok_def (m := b_l_runs) F sc_l_runs fun cdv A outer s H E c hr hK hcl hbi hW => (ms_cons (ms_set (i := 1) (nb hbi (by decide)) sc_l_runs.nd rfl (Or.inl rfl) (ml_lst md_nil))
    (ms_cons (ms_for (passes_of rfl) rfl (mi_seq hK (me_var 0)) (mg_name (i := 2) (nb hbi (by decide)) sc_l_runs.nd rfl (Or.inl rfl)) (ms_one (ms_if (PW.pt (mw_and (t_binP (o_ne hK) (pt_cmpR (op_neD hr.units) (pv 1) (me_fz (ml_lst md_nil)) (nomark _))) (mw_one (.inl rfl) (t_bin (o_eq hK) (pt_cmpR (op_eqD hr.units) (g_bin (o_ix hK) (pe_ix ix_seq (g_binP (o_ix hK) (pe_ix ix_seq (pv 1) (g_un o_neg (pe_un un_neg me_int)) (fun _ _ => rfl))) me_int (fun _ _ => rfl))) (me_var 2) (nomark _)))))) (ms_one (ms_sub (ps_asg (me_tup (md_cons (me_fz (g_bin (o_add hK) (pe_op op_addA (g_bin (o_ix hK) (pe_ix ix_seq (g_binP (o_ix hK) (pe_ix ix_seq (pv 1) (g_un o_neg (pe_un un_neg me_int)) (fun _ _ => rfl))) me_int (fun _ _ => rfl))) me_int))) (md_cons (me_var 2) md_nil))) (pg_sub (pv 1) (g_un o_neg (pe_un un_neg me_int)) set_list)))) (ms_one (ms_app (ps_expr (pe_bm PySem.F.plainAttrs_list PySem.F.slot_list_append PySem.F.type_list_append mt_append (pv 1) (pa_cons (me_tup (md_cons me_int (md_cons (me_var 2) md_nil))) pa_nil))))))))
    (ms_one (ms_ret (me_giv 1 (nb hbi (by decide)))))))
theorem r_l_told {f : Addr} {fd : FuncData} (F : Fun K "_law_told" "_law_told" s_l_told f fd) (z_isinstance : mg "isinstance" = none) (z_len : mg "len" = none) (z_tuple : mg "tuple" = none) (gx_NoCard : mg "NoCard" = some (.ref (cl "NoCard"))) (mx_NoCard : PySem.W.exmOne K (.ref (cl "NoCard")) (.ref (cl "NoCard")) = some true) (xf_NoCard : XfC K (cl "NoCard")) (nf_NoCard_card : PySem.W.findIn K (.ref (cl "NoCard")) "card" = some none) (C_l_seen : Cm P w K mg base cl 1 "_law_seen" ["_law_place_here"] none f_l_seen) (C_l_alone : Cm P w K mg base cl 1 "_law_alone" ["_law_error", "_law_own"] none f_l_alone) (C_l_take : Cm P w K mg base cl 1 "_law_take" ["_law_box_here", "_law_many"] (some 0) f_l_take) (C_run_at : Cm P w K mg base cl 3 "run_at" ["places", "card"] none f_run_at) (CK_run_at_0_card_places : CmK P w K mg base cl 3 "run_at" ["places", "card"] none 0 ["card", "places"] (fun vs zs => match vs, zs with | [], [q0, q1] => [q1, q0] | _, _ => []) f_run_at) : FnOk P w K mg base (L2.CX P w) 4 f fd ["_law_box_here", "_law_made", "_law_number"] (spM K cl 3 (some 0) f_l_told) :=
  ok_def (m := b_l_told) F sc_l_told fun cdv A outer s H E c hr hK hcl hbi hW => (ms_cons (ms_asg (me_tup (md_cons me_non (md_cons me_non md_nil))) (mg_tup hK rfl (mgs_cons (mg_name (i := 3) (nb hbi (by decide)) sc_l_told.nd rfl (Or.inl rfl)) (mgs_cons (mg_name (i := 4) (nb hbi (by decide)) sc_l_told.nd rfl (Or.inl rfl)) mgs_nil)) (tgLen_cons (tgLen_cons tgLen_nil))))
    (ms_cons (ms_try (ie := 5) (iy := 3) hcl rfl rfl rfl sc_l_told.nd rfl rfl ⟨by rfl, by decide, .inl gx_NoCard⟩ (takes_c hW (takes_of rfl rfl rfl rfl)) hK mx_NoCard (nb hbi (by decide)) (nb hbi (by decide)) (by decide) (fun W pn xe tw po => (ms_one (ms_set (i := 4) (nb hbi (by decide)) sc_l_told.nd rfl (Or.inl rfl) (me_va (me_fz (g_if (t_bin (o_eq hK) (pt_cmpR (op_eqD hr.units) (me_fz (ml_call (md := [.o 0, .v]) C_l_take hK hcl tw hr (by first | decide | exact Nat.le_refl _) (by rfl) (ma_o (pv 0) (ma_v me_int ma_nil)))) me_int (nomark _))) (ml_call (md := [.v, .v]) C_run_at hK hcl tw hr (by first | decide | exact Nat.le_refl _) (by rfl) (ma_v (me_var 1) (ma_v (me_var 2) ma_nil))) (ml_callK0 (md2 := [.v, .v]) [.v, .v] (fun ds fs => match ds, fs with | [], [q0, q1] => [q1, q0] | _, _ => []) CK_run_at_0_card_places (fun _ _ _ _ _ _ h1 h2 => match h1, h2 with | .nil, .v q0 (.v q1 .nil) => .v q1 (.v q0 .nil)) hK hcl tw hr (by first | decide | exact Nat.le_refl _) (by rfl) (mk_v (me_var 2) (mk_v (g_cb (o_tuple hK) (pe_callTy call_tuple_of (by rfl) z_tuple (by decide +kernel) (md_cons (me_var 1) md_nil))) mk_nil))))))))) (fun a oe pn => (pss_one (ps_set (i := 3) sc_l_told.nd rfl (Or.inl rfl) (pv 5)))))
    (ms_cons (ms_if (t_bin o_notN (pt_cmpR op_notN (me_var 3) me_non (nomark _))) (ms_one (ms_ret (g_if (mt_tru hK (me_fz (ml_call (md := [.v, .v]) C_l_alone hK hcl (takes_c hW (takes_of rfl rfl rfl rfl)) hr (by first | decide | exact Nat.le_refl _) (by rfl) (ma_v (me_var 3) (ma_v me_int ma_nil))))) (ml_lst (md_cons me_str (md_cons (me_xk hcl xf_NoCard nf_NoCard_card (me_var 3)) md_nil))) (me_va me_str)))) ms_nil)
    (ms_cons (ms_if (PW.pt (mw_or (mt_not (mt_tru hK (g_cb (o_isi hK) (pe_callB call_isi (by rfl) z_isinstance (by decide +kernel) (md_cons (me_var 4) (md_cons (me_c (pe_bltn (v := .ty "tuple") (by rfl) z_tuple (by decide +kernel) rfl) (fun _ => .raw _)) md_nil)))))) (mw_one (.inr rfl) (t_bin (o_ne hK) (pt_cmpR (op_neD hr.units) (g_cb (o_len hK) (pe_callB call_len (by rfl) z_len (by decide +kernel) (md_cons (me_var 4) md_nil))) me_int (nomark _)))))) (ms_one (ms_ret (me_va me_str))) ms_nil)
    (ms_one (ms_ret (g_bin (o_add hK) (pe_op op_addA (me_fz (g_sl hK (me_var 4) mo_none (mo_some me_int))) (me_tup (md_cons (me_fz (ml_call (md := [.v]) C_l_seen hK hcl (takes_c hW (takes_of rfl rfl rfl rfl)) hr (by first | decide | exact Nat.le_refl _) (by rfl) (ma_v (g_bin (o_ix hK) (pe_ix ix_seq (me_var 4) me_int (fun _ _ => rfl))) ma_nil))) md_nil))))))))))
theorem r_l_due {f : Addr} {fd : FuncData} (F : Fun K "_law_due" "_law_due" s_l_due f fd) (z_len : mg "len" = none) : FnOk P w K mg base (L2.CX P w) 1 f fd ["_law_spots_here", "_law_number"] (spM K cl 2 none f_l_due) :=
  ok_def (m := b_l_due) F sc_l_due fun cdv A outer s H E c hr hK hcl hbi hW => (ms_cons (ms_if (mt_not (t_chn o_le o_lt (pt_chain op_le op_lt me_int (me_var 1) (g_cb (o_len hK) (pe_callB call_len (by rfl) z_len (by decide +kernel) (md_cons (me_var 0) md_nil)))))) (ms_one (ms_ret (ml_lst (md_cons me_str (md_cons (me_var 1) md_nil))))) ms_nil)
    (ms_cons (ms_par (i := 2) (j := 3) (nbs hbi (by decide)) rfl sc_l_due.nd rfl rfl (by decide) rfl rfl (mls_cons (me_va (me_var 1)) (mls_cons (me_va (me_var 1)) mls_nil)) (by rfl))
    (ms_cons (ms_while 1000 (passes_of rfl) (PW.pt (mw_and (t_bin o_gt (pt_cmpR op_gt (me_var 2) me_int (nomark _))) (mw_one (.inl rfl) (t_bin (o_eq hK) (pt_cmpR (op_eqD hr.units) (g_bin (o_ix hK) (pe_ix ix_seq (me_var 0) (g_bin o_sub (pe_op op_sub (me_var 2) me_int)) (fun _ _ => rfl))) (g_bin (o_ix hK) (pe_ix ix_seq (me_var 0) (me_var 1) (fun _ _ => rfl))) (nomark _)))))) (ms_one (ms_set (i := 2) (nb hbi (by decide)) sc_l_due.nd rfl (Or.inl rfl) (me_va (g_bin o_sub (pe_op op_sub (me_var 2) me_int))))))
    (ms_cons (ms_while 1000 (passes_of rfl) (PW.pt (mw_and (t_bin o_lt (pt_cmpR op_lt (me_fz (g_bin (o_add hK) (pe_op op_addA (me_var 3) me_int))) (g_cb (o_len hK) (pe_callB call_len (by rfl) z_len (by decide +kernel) (md_cons (me_var 0) md_nil))) (nomark _))) (mw_one (.inl rfl) (t_bin (o_eq hK) (pt_cmpR (op_eqD hr.units) (g_bin (o_ix hK) (pe_ix ix_seq (me_var 0) (me_fz (g_bin (o_add hK) (pe_op op_addA (me_var 3) me_int))) (fun _ _ => rfl))) (g_bin (o_ix hK) (pe_ix ix_seq (me_var 0) (me_var 1) (fun _ _ => rfl))) (nomark _)))))) (ms_one (ms_set (i := 3) (nb hbi (by decide)) sc_l_due.nd rfl (Or.inl rfl) (me_va (me_fz (g_bin (o_add hK) (pe_op op_addA (me_var 3) me_int)))))))
    (ms_one (ms_ret (me_va (me_tup (md_cons (me_var 2) (md_cons (me_var 3) (md_cons (g_bin (o_ix hK) (pe_ix ix_seq (me_var 0) (me_var 1) (fun _ _ => rfl))) md_nil)))))))))))
theorem r_l_runs_right {f : Addr} {fd : FuncData} (F : Fun K "_law_runs_right" "_law_runs_right" s_l_runs_right f fd) (z_all : mg "all" = none) (z_int : mg "int" = none) (z_isinstance : mg "isinstance" = none) (z_tuple : mg "tuple" = none) (C_runs_of : Cm P w K mg base cl 3 "runs_of" ["places"] none f_runs_of) (C_l_seen : Cm P w K mg base cl 1 "_law_seen" ["_law_place_here"] none f_l_seen) (C_l_same : Cm P w K mg base cl 4 "_law_same" ["_law_found", "_law_due_here"] none (f_l_same 4)) (C_places_of : Cm P w K mg base cl 1 "places_of" ["runs"] none f_places_of) (C_l_take : Cm P w K mg base cl 1 "_law_take" ["_law_box_here", "_law_many"] (some 0) f_l_take) (C_l_runs : Cm P w K mg base cl 1 "_law_runs" ["_law_spots_here"] none f_l_runs) : FnOk P w K mg base (L2.CX P w) 5 f fd ["_law_box_here", "_law_spots_here", "_law_made"] (spM K cl 3 (some 0) f_l_runs_right) :=
  ok_def (m := b_l_runs_right) F sc_l_runs_right fun cdv A outer s H E c hr hK hcl hbi hW => (ms_cons (ms_par (i := 3) (j := 4) (nbs hbi (by decide)) rfl sc_l_runs_right.nd rfl rfl (by decide) rfl rfl (mls_cons (me_va (me_fz (ml_call (md := [.v]) C_l_runs hK hcl (takes_c hW (takes_of rfl rfl rfl rfl)) hr (by first | decide | exact Nat.le_refl _) (by rfl) (ma_v (me_var 1) ma_nil)))) (mls_cons (me_va (me_fz (ml_call (md := [.v]) C_runs_of hK hcl (takes_c hW (takes_of rfl rfl rfl rfl)) hr (by first | decide | exact Nat.le_refl _) (by rfl) (ma_v (me_var 2) ma_nil)))) mls_nil)) (by rfl))
    (ms_cons (ms_setLcF (i := 5) (own := [("_law_many", 6), ("_law_place_here", 7)]) (t := (bT (bCons (bN 6) (bCons (bN 7) bNil)))) (ts := ([6] ++ ([7] ++ []))) (nb hbi (by decide)) (nbs hbi (by decide)) (by decide) rfl sc_l_runs_right.nd rfl rfl (sw_true rfl rfl rfl (by decide +kernel)) (mi_seq hK (me_var 4)) (blkOk_by (own := [("_law_many", 6), ("_law_place_here", 7)]) (N := ["_law_box_here", "_law_spots_here", "_law_made", "_law_due_here", "_law_found", "_law_told_here", "_law_many", "_law_place_here", "_law_row", "_law_pieces", "_law_less", "_law_handed"]) (sc := defScope s_l_runs_right) (by decide +kernel)) (fun _ _ _ _ _ => (mg_tup (hKc hK) rfl (mgs_cons (mg_name (i := 6) (nb hbi (by decide)) sc_l_runs_right.nd rfl (Or.inl rfl)) (mgs_cons (mg_name (i := 7) (nb hbi (by decide)) sc_l_runs_right.nd rfl (Or.inl rfl)) mgs_nil)) (tgLen_cons (tgLen_cons tgLen_nil)))) (fun _ _ _ _ _ => mts_nil) (fun _ _ _ _ _ => (me_tup (md_cons (me_var 6) (md_cons (me_fz (ml_call (md := [.v]) C_l_seen (hKc hK) (hclc hcl) takes0 hr (by first | decide | exact Nat.le_refl _) (by rfl) (ma_v (me_var 7) ma_nil))) md_nil)))))
    (ms_cons (ms_if (PW.pt (mw_or (mt_not (mt_tru hK (me_fz (ml_call (md := [.v, .v]) C_l_same hK hcl (takes_c hW (takes_of rfl rfl rfl rfl)) hr (by first | decide | exact Nat.le_refl _) (by rfl) (ma_v (me_var 5) (ma_v (me_var 3) ma_nil)))))) (mw_one (.inr rfl) (mt_not (mt_tru hK (g_cb (o_all hK) (pe_callB (cr_all rfl) (by rfl) z_all (by decide +kernel) (md_cons (me_fz (ml_lc (own := [("_law_row", 8)]) (t := (bN 8)) (ts := [8]) (nbs hbi (by decide)) (by decide) rfl sc_l_runs_right.nd (mi_seq hK (me_var 4)) (blkOk_by (own := [("_law_row", 8)]) (N := ["_law_box_here", "_law_spots_here", "_law_made", "_law_due_here", "_law_found", "_law_told_here", "_law_many", "_law_place_here", "_law_row", "_law_pieces", "_law_less", "_law_handed"]) (sc := defScope s_l_runs_right) (by decide +kernel)) (fun _ _ _ _ _ => (mg_name (i := 8) (nb hbi (by decide)) sc_l_runs_right.nd rfl (Or.inl rfl))) (fun _ _ _ _ _ => mts_nil) (fun _ _ _ _ _ => (g_cb (o_isi (hKc hK)) (pe_callB call_isi (by rfl) z_isinstance (by decide +kernel) (md_cons (me_var 8) (md_cons (me_c (pe_bltn (v := .ty "tuple") (by rfl) z_tuple (by decide +kernel) rfl) (fun _ => .raw _)) md_nil))))))) md_nil)))))))) (ms_one (ms_ret (me_va me_bl))) ms_nil)
    (ms_cons (ms_set (i := 9) (nb hbi (by decide)) sc_l_runs_right.nd rfl (Or.inl rfl) (ml_lst md_nil))
    (ms_cons (ms_for (passes_of rfl) rfl (mi_seq hK (me_var 4)) (mg_tup hK rfl (mgs_cons (mg_name (i := 6) (nb hbi (by decide)) sc_l_runs_right.nd rfl (Or.inl rfl)) (mgs_cons (mg_name (i := 7) (nb hbi (by decide)) sc_l_runs_right.nd rfl (Or.inl rfl)) mgs_nil)) (tgLen_cons (tgLen_cons tgLen_nil))) (ms_cons (ms_set (i := 10) (nb hbi (by decide)) sc_l_runs_right.nd rfl (Or.inl rfl) (me_va (me_fz (ml_call (md := [.o 0, .v]) C_l_take hK hcl (takes_c hW (takes_of rfl rfl rfl rfl)) hr (by first | decide | exact Nat.le_refl _) (by rfl) (ma_o (pv 0) (ma_v (me_var 6) ma_nil))))))
      (ms_one (ms_ext (ps_expr (pe_bm PySem.F.plainAttrs_list PySem.F.slot_list_extend PySem.F.type_list_extend mt_extend (pv 9) (pa_cons (me_fz (g_bin (o_add hK) (pe_op op_addA (me_fz (g_bin o_mul (pe_op op_mulA (me_fz (ml_lst (md_cons (me_tup (md_cons (me_var 10) (md_cons (me_var 7) md_nil))) md_nil))) (g_cb o_int (pe_callTy call_int1 (by rfl) z_int (by decide +kernel) (md_cons (g_bin o_gt (pe_cmpR op_gt (me_var 10) me_int (nomark _))) md_nil)))))) (me_fz (ml_lst (md_cons (me_tup (md_cons (g_bin o_sub (pe_op op_sub (me_var 6) (me_var 10))) (md_cons (me_var 7) md_nil))) md_nil)))))) pa_nil)))))))
    (ms_cons (ms_for (passes_of rfl) rfl (mi_seq hK (me_tup (md_cons (me_var 4) (md_cons (g_cb (o_tuple hK) (pe_callTy call_tuple_of (by rfl) z_tuple (by decide +kernel) (md_cons (me_var 4) md_nil))) (md_cons (me_frz 9 (nb hbi (by decide))) md_nil))))) (mg_name (i := 11) (nb hbi (by decide)) sc_l_runs_right.nd rfl (Or.inl rfl)) (ms_one (ms_if (mt_not (mt_tru hK (me_fz (ml_call (md := [.v, .v]) C_l_same hK hcl (takes_c hW (takes_of rfl rfl rfl rfl)) hr (by first | decide | exact Nat.le_refl _) (by rfl) (ma_v (me_fz (ml_lc (own := [("_law_place_here", 7)]) (t := (bN 7)) (ts := [7]) (nbs hbi (by decide)) (by decide) rfl sc_l_runs_right.nd (mi_seq hK (me_fz (ml_call (md := [.v]) C_places_of hK hcl (takes_c hW (takes_of rfl rfl rfl rfl)) hr (by first | decide | exact Nat.le_refl _) (by rfl) (ma_v (me_var 11) ma_nil)))) (blkOk_by (own := [("_law_place_here", 7)]) (N := ["_law_box_here", "_law_spots_here", "_law_made", "_law_due_here", "_law_found", "_law_told_here", "_law_many", "_law_place_here", "_law_row", "_law_pieces", "_law_less", "_law_handed"]) (sc := defScope s_l_runs_right) (by decide +kernel)) (fun _ _ _ _ _ => (mg_name (i := 7) (nb hbi (by decide)) sc_l_runs_right.nd rfl (Or.inl rfl))) (fun _ _ _ _ _ => mts_nil) (fun _ _ _ _ _ => (me_fz (ml_call (md := [.v]) C_l_seen (hKc hK) (hclc hcl) takes0 hr (by first | decide | exact Nat.le_refl _) (by rfl) (ma_v (me_var 7) ma_nil)))))) (ma_v (me_var 1) ma_nil)))))) (ms_one (ms_ret (me_va me_bl))) ms_nil)))
    (ms_one (ms_ret (ml_call (md := [.v, .v]) C_l_same hK hcl (takes_c hW (takes_of rfl rfl rfl rfl)) hr (by first | decide | exact Nat.le_refl _) (by rfl) (ma_v (me_fz (ml_lc (own := [("_law_many", 6), ("_law_place_here", 7)]) (t := (bT (bCons (bN 6) (bCons (bN 7) bNil)))) (ts := ([6] ++ ([7] ++ []))) (nbs hbi (by decide)) (by decide) rfl sc_l_runs_right.nd (mi_seq hK (me_fz (ml_call (md := [.v]) C_runs_of hK hcl (takes_c hW (takes_of rfl rfl rfl rfl)) hr (by first | decide | exact Nat.le_refl _) (by rfl) (ma_v (g_cb (o_tuple hK) (pe_callTy call_tuple_of (by rfl) z_tuple (by decide +kernel) (md_cons (me_var 2) md_nil))) ma_nil)))) (blkOk_by (own := [("_law_many", 6), ("_law_place_here", 7)]) (N := ["_law_box_here", "_law_spots_here", "_law_made", "_law_due_here", "_law_found", "_law_told_here", "_law_many", "_law_place_here", "_law_row", "_law_pieces", "_law_less", "_law_handed"]) (sc := defScope s_l_runs_right) (by decide +kernel)) (fun _ _ _ _ _ => (mg_tup (hKc hK) rfl (mgs_cons (mg_name (i := 6) (nb hbi (by decide)) sc_l_runs_right.nd rfl (Or.inl rfl)) (mgs_cons (mg_name (i := 7) (nb hbi (by decide)) sc_l_runs_right.nd rfl (Or.inl rfl)) mgs_nil)) (tgLen_cons (tgLen_cons tgLen_nil)))) (fun _ _ _ _ _ => mts_nil) (fun _ _ _ _ _ => (me_tup (md_cons (me_var 6) (md_cons (me_fz (ml_call (md := [.v]) C_l_seen (hKc hK) (hclc hcl) takes0 hr (by first | decide | exact Nat.le_refl _) (by rfl) (ma_v (me_var 7) ma_nil))) md_nil)))))) (ma_v (me_var 3) ma_nil)))))))))))
theorem r_law {f : Addr} {fd : FuncData} (F : Fun K "law" "law" s_law f fd) (z_len : mg "len" = none) (z_min : mg "min" = none) (z_range : mg "range" = none) (C_l_seen : Cm P w K mg base cl 1 "_law_seen" ["_law_place_here"] none f_l_seen) (C_l_take : Cm P w K mg base cl 1 "_law_take" ["_law_box_here", "_law_many"] (some 0) f_l_take) (C_l_due : Cm P w K mg base cl 1 "_law_due" ["_law_spots_here", "_law_number"] none f_l_due) (C_l_told : Cm P w K mg base cl 4 "_law_told" ["_law_box_here", "_law_made", "_law_number"] (some 0) f_l_told) (C_l_same : Cm P w K mg base cl 4 "_law_same" ["_law_found", "_law_due_here"] none (f_l_same 4)) (C_l_runs_right : Cm P w K mg base cl 5 "_law_runs_right" ["_law_box_here", "_law_spots_here", "_law_made"] (some 0) f_l_runs_right) (C_l_place : Cm P w K mg base cl 7 "_law_place" ["_law_spot_here"] none f_l_place) (C_l_spots : Cm P w K mg base cl 3 "_law_spots" ["_law_box_here", "_law_many", "_law_wide"] (some 0) f_l_spots) (C_l_box : Cm P w K mg base cl 2 "_law_box" ["_law_script", "_law_k"] none f_l_box) : FnOk P w K mg base (L2.CX P w) 8 f fd ["_law_script"] (spM K cl 1 none f_law) :=
  ok_def (m := b_law) F sc_law fun cdv A outer s H E c hr hK hcl hbi hW => (ms_cons (ms_for (passes_of rfl) rfl (mi_rng1 (by rfl) z_range (md_cons (me_fz (g_bin (o_add hK) (pe_op op_addA me_int (g_cb o_min (pe_callB (call_min2 rfl) (by rfl) z_min (by decide +kernel) (md_cons me_int (md_cons (g_cb (o_len hK) (pe_callB call_len (by rfl) z_len (by decide +kernel) (md_cons (me_var 0) md_nil))) md_nil))))))) md_nil)) (mg_name (i := 1) (nb hbi (by decide)) sc_law.nd rfl (Or.inl rfl)) (ms_cons (ms_set (i := 2) (nb hbi (by decide)) sc_law.nd rfl (Or.inr rfl) (ml_call (md := [.v, .v]) C_l_box hK hcl (takes_c hW (takes_of rfl rfl rfl rfl)) hr (by first | decide | exact Nat.le_refl _) (by rfl) (ma_v (me_var 0) (ma_v (me_var 1) ma_nil))))
      (ms_cons (ms_set (i := 3) (nb hbi (by decide)) sc_law.nd rfl (Or.inr rfl) (me_va (me_fz (g_if (PW.pt (mw_and (t_bin (o_eq hK) (pt_cmpR (op_eqD hr.units) (me_var 1) me_int (nomark _))) (mw_one (.inl rfl) (t_bin (o_eq hK) (pt_cmpR (op_eqD hr.units) (me_fz (ml_call (md := [.o 2, .v]) C_l_take hK hcl (takes_c hW (takes_of rfl rfl rfl rfl)) hr (by first | decide | exact Nat.le_refl _) (by rfl) (ma_o (pv 2) (ma_v me_int ma_nil)))) me_int (nomark _)))))) (me_va me_int) (ml_call (md := [.o 2, .v]) C_l_take hK hcl (takes_c hW (takes_of rfl rfl rfl rfl)) hr (by first | decide | exact Nat.le_refl _) (by rfl) (ma_o (pv 2) (ma_v me_int ma_nil)))))))
      (ms_cons (ms_set (i := 4) (nb hbi (by decide)) sc_law.nd rfl (Or.inl rfl) (me_va (me_fz (ml_call (md := [.o 2, .v, .v]) C_l_spots hK hcl (takes_c hW (takes_of rfl rfl rfl rfl)) hr (by first | decide | exact Nat.le_refl _) (by rfl) (ma_o (pv 2) (ma_v (me_var 3) (ma_v (g_bin (o_ix hK) (pe_ix ix_seq (me_fz (ml_lst (md_cons me_int (md_cons me_int (md_cons (g_bin o_pow (pe_op op_pow me_int me_int)) md_nil))))) (me_fz (ml_call (md := [.o 2, .v]) C_l_take hK hcl (takes_c hW (takes_of rfl rfl rfl rfl)) hr (by first | decide | exact Nat.le_refl _) (by rfl) (ma_o (pv 2) (ma_v me_int ma_nil)))) (fun _ _ => rfl))) ma_nil)))))))
      (ms_cons (ms_setLcF (i := 5) (own := [("_law_spot_here", 6)]) (t := (bN 6)) (ts := [6]) (nb hbi (by decide)) (nbs hbi (by decide)) (by decide) rfl sc_law.nd rfl rfl (sw_true rfl rfl rfl (by decide +kernel)) (mi_seq hK (me_var 4)) (blkOk_by (own := [("_law_spot_here", 6)]) (N := ["_law_script", "_law_k", "_law_box_here", "_law_size", "_law_spots_here", "_law_made", "_law_spot_here", "_law_number", "_law_turn", "_law_place_here"]) (sc := defScope s_law) (by decide +kernel)) (fun _ _ _ _ _ => (mg_name (i := 6) (nb hbi (by decide)) sc_law.nd rfl (Or.inl rfl))) (fun _ _ _ _ _ => mts_nil) (fun _ _ _ _ _ => (me_fz (ml_call (md := [.v]) C_l_place (hKc hK) (hclc hcl) takes0 hr (by first | decide | exact Nat.le_refl _) (by rfl) (ma_v (me_var 6) ma_nil)))))
      (ms_cons (ms_if (mt_not (mt_tru hK (me_fz (ml_call (md := [.o 2, .v, .v]) C_l_runs_right hK hcl (takes_c hW (takes_of rfl rfl rfl rfl)) hr (by first | decide | exact Nat.le_refl _) (by rfl) (ma_o (pv 2) (ma_v (me_var 4) (ma_v (me_var 5) ma_nil))))))) (ms_one (ms_ret (me_va me_bl))) ms_nil)
      (ms_cons (ms_for (passes_of rfl) rfl (mi_seq hK (me_fz (g_bin (o_add hK) (pe_op op_addA (me_fz (ml_lst (md_cons me_int (md_cons (g_bin o_sub (pe_op op_sub (me_var 3) me_int)) (md_cons (me_var 3) (md_cons (g_un o_neg (pe_un un_neg me_int)) (md_cons (g_bin o_pow (pe_op op_pow me_int me_int)) md_nil))))))) (me_fz (ml_lc (own := [("_law_turn", 8)]) (t := (bN 8)) (ts := [8]) (nbs hbi (by decide)) (by decide) rfl sc_law.nd (mi_rng1 (by rfl) z_range (md_cons me_int md_nil)) (blkOk_by (own := [("_law_turn", 8)]) (N := ["_law_script", "_law_k", "_law_box_here", "_law_size", "_law_spots_here", "_law_made", "_law_spot_here", "_law_number", "_law_turn", "_law_place_here"]) (sc := defScope s_law) (by decide +kernel)) (fun _ _ _ _ _ => (mg_name (i := 8) (nb hbi (by decide)) sc_law.nd rfl (Or.inl rfl))) (fun _ _ _ _ _ => mts_nil) (fun _ _ _ _ _ => (me_fz (ml_call (md := [.o 2, .v]) C_l_take (hKc hK) (hclc hcl) takes0 hr (by first | decide | exact Nat.le_refl _) (by rfl) (ma_o (pv 2) (ma_v (me_fz (g_bin (o_add (hKc hK)) (pe_op op_addA (me_var 3) me_int))) ma_nil))))))))))) (mg_name (i := 7) (nb hbi (by decide)) sc_law.nd rfl (Or.inl rfl)) (ms_one (ms_if (mt_not (mt_tru hK (me_fz (ml_call (md := [.v, .v]) C_l_same hK hcl (takes_c hW (takes_of rfl rfl rfl rfl)) hr (by first | decide | exact Nat.le_refl _) (by rfl) (ma_v (me_fz (ml_call (md := [.o 2, .v, .v]) C_l_told hK hcl (takes_c hW (takes_of rfl rfl rfl rfl)) hr (by first | decide | exact Nat.le_refl _) (by rfl) (ma_o (pv 2) (ma_v (me_var 5) (ma_v (me_var 7) ma_nil))))) (ma_v (me_fz (ml_call (md := [.v, .v]) C_l_due hK hcl (takes_c hW (takes_of rfl rfl rfl rfl)) hr (by first | decide | exact Nat.le_refl _) (by rfl) (ma_v (me_var 4) (ma_v (me_var 7) ma_nil)))) ma_nil)))))) (ms_one (ms_ret (me_va me_bl))) ms_nil)))
      (ms_one (ms_if (t_bin (o_ne hK) (pt_cmpR (op_neD hr.units) (me_fz (ml_lc (own := [("_law_place_here", 9)]) (t := (bN 9)) (ts := [9]) (nbs hbi (by decide)) (by decide) rfl sc_law.nd (mi_seq hK (me_var 5)) (blkOk_by (own := [("_law_place_here", 9)]) (N := ["_law_script", "_law_k", "_law_box_here", "_law_size", "_law_spots_here", "_law_made", "_law_spot_here", "_law_number", "_law_turn", "_law_place_here"]) (sc := defScope s_law) (by decide +kernel)) (fun _ _ _ _ _ => (mg_name (i := 9) (nb hbi (by decide)) sc_law.nd rfl (Or.inl rfl))) (fun _ _ _ _ _ => mts_nil) (fun _ _ _ _ _ => (me_fz (ml_call (md := [.v]) C_l_seen (hKc hK) (hclc hcl) takes0 hr (by first | decide | exact Nat.le_refl _) (by rfl) (ma_v (me_var 9) ma_nil)))))) (me_var 4) (nomark _))) (ms_one (ms_ret (me_va me_bl))) ms_nil)))))))))
    (ms_one (ms_ret (me_va me_bl))))
end
end My

namespace My
open PySem PySem.Spec PyProof.Rows L2 Mir
/-! ### _law_same of a thing and itself -/
theorem same_refl : ∀ (n : Nat) {d : D}, Pl n d → f_l_same n [.va d, .va d] = .ok (.va (.bl true)) []
  | n + 1, _, .non _ => by simp [f_l_same, b_l_same, Mir.bnd, Mir.ret, Mir.opt, Mir.rdv, Mir.rdf, Mir.giv, Mir.mVa, Mir.mFz, Mir.un, Mir.bin, Mir.binP, Mir.binQ, Mir.binPQ, Mir.pk, Mir.iI, Mir.iB, Mir.cT, Mir.dSub, Mir.dMulI, Mir.dDiv, Mir.dMod, Mir.dPow, Mir.dLt, Mir.dLe, Mir.dGt, Mir.dGe, Mir.dAdd, Mir.dMul, Mir.dAddI, Mir.dEq, Mir.dNe, Mir.dIsN, Mir.dNotN, Mir.isN, Mir.dIx, Mir.dNeg, Mir.dNot, Mir.thenS, Mir.sq, Mir.ifS, Mir.retS, Mir.asgS, Mir.asgT, Mir.dropS, Mir.forS, Mir.parS, Mir.putE, Mir.hasO, Mir.hasM, Mir.updO, Mir.appS, Mir.extS, Mir.revS, Mir.clrS, Mir.setS, Mir.augS, Mir.mCons, Mir.lCons, Mir.cb, Mir.f1, Mir.f2, Mir.lenD, Mir.absD, Mir.intD, Mir.maxD, Mir.minD, Mir.dTup, Mir.dLst, Mir.callA, Mir.callB, Mir.callC, Mir.callT, Mir.callM, Mir.sls, Mir.outE, Mir.hasB, Mir.lfR, Mir.runDef, Mir.fin, Mir.ownAt, Mir.mIf, Mir.mAnd, Mir.mOr, Mir.mNot, Mir.vAnd, Mir.vOr, Mir.truD, Mir.asB, Mir.asI, Mir.bN, Mir.bT, Mir.bCons, Mir.bNil, Mir.slE, Mir.slP, Mir.dSl, Mir.seqD, Mir.listD, Mir.tupleD, Mir.sumD, Mir.allD, Mir.anyD, Mir.isiD, Mir.isi1, Mir.isiTD, Mir.tyN, Mir.clsN, Mir.anyK, Mir.isiOD]
  | n + 1, _, .bl _ b => by simp [f_l_same, b_l_same, Mir.bnd, Mir.ret, Mir.opt, Mir.rdv, Mir.rdf, Mir.giv, Mir.mVa, Mir.mFz, Mir.un, Mir.bin, Mir.binP, Mir.binQ, Mir.binPQ, Mir.pk, Mir.iI, Mir.iB, Mir.cT, Mir.dSub, Mir.dMulI, Mir.dDiv, Mir.dMod, Mir.dPow, Mir.dLt, Mir.dLe, Mir.dGt, Mir.dGe, Mir.dAdd, Mir.dMul, Mir.dAddI, Mir.dEq, Mir.dNe, Mir.dIsN, Mir.dNotN, Mir.isN, Mir.dIx, Mir.dNeg, Mir.dNot, Mir.thenS, Mir.sq, Mir.ifS, Mir.retS, Mir.asgS, Mir.asgT, Mir.dropS, Mir.forS, Mir.parS, Mir.putE, Mir.hasO, Mir.hasM, Mir.updO, Mir.appS, Mir.extS, Mir.revS, Mir.clrS, Mir.setS, Mir.augS, Mir.mCons, Mir.lCons, Mir.cb, Mir.f1, Mir.f2, Mir.lenD, Mir.absD, Mir.intD, Mir.maxD, Mir.minD, Mir.dTup, Mir.dLst, Mir.callA, Mir.callB, Mir.callC, Mir.callT, Mir.callM, Mir.sls, Mir.outE, Mir.hasB, Mir.lfR, Mir.runDef, Mir.fin, Mir.ownAt, Mir.mIf, Mir.mAnd, Mir.mOr, Mir.mNot, Mir.vAnd, Mir.vOr, Mir.truD, Mir.asB, Mir.asI, Mir.bN, Mir.bT, Mir.bCons, Mir.bNil, Mir.slE, Mir.slP, Mir.dSl, Mir.seqD, Mir.listD, Mir.tupleD, Mir.sumD, Mir.allD, Mir.anyD, Mir.isiD, Mir.isi1, Mir.isiTD, Mir.tyN, Mir.clsN, Mir.anyK, Mir.isiOD]
  | n + 1, _, .int _ i => by simp [f_l_same, b_l_same, Mir.bnd, Mir.ret, Mir.opt, Mir.rdv, Mir.rdf, Mir.giv, Mir.mVa, Mir.mFz, Mir.un, Mir.bin, Mir.binP, Mir.binQ, Mir.binPQ, Mir.pk, Mir.iI, Mir.iB, Mir.cT, Mir.dSub, Mir.dMulI, Mir.dDiv, Mir.dMod, Mir.dPow, Mir.dLt, Mir.dLe, Mir.dGt, Mir.dGe, Mir.dAdd, Mir.dMul, Mir.dAddI, Mir.dEq, Mir.dNe, Mir.dIsN, Mir.dNotN, Mir.isN, Mir.dIx, Mir.dNeg, Mir.dNot, Mir.thenS, Mir.sq, Mir.ifS, Mir.retS, Mir.asgS, Mir.asgT, Mir.dropS, Mir.forS, Mir.parS, Mir.putE, Mir.hasO, Mir.hasM, Mir.updO, Mir.appS, Mir.extS, Mir.revS, Mir.clrS, Mir.setS, Mir.augS, Mir.mCons, Mir.lCons, Mir.cb, Mir.f1, Mir.f2, Mir.lenD, Mir.absD, Mir.intD, Mir.maxD, Mir.minD, Mir.dTup, Mir.dLst, Mir.callA, Mir.callB, Mir.callC, Mir.callT, Mir.callM, Mir.sls, Mir.outE, Mir.hasB, Mir.lfR, Mir.runDef, Mir.fin, Mir.ownAt, Mir.mIf, Mir.mAnd, Mir.mOr, Mir.mNot, Mir.vAnd, Mir.vOr, Mir.truD, Mir.asB, Mir.asI, Mir.bN, Mir.bT, Mir.bCons, Mir.bNil, Mir.slE, Mir.slP, Mir.dSl, Mir.seqD, Mir.listD, Mir.tupleD, Mir.sumD, Mir.allD, Mir.anyD, Mir.isiD, Mir.isi1, Mir.isiTD, Mir.tyN, Mir.clsN, Mir.anyK, Mir.isiOD]
  | n + 1, _, .str _ z h => by simp [f_l_same, b_l_same, Mir.bnd, Mir.ret, Mir.opt, Mir.rdv, Mir.rdf, Mir.giv, Mir.mVa, Mir.mFz, Mir.un, Mir.bin, Mir.binP, Mir.binQ, Mir.binPQ, Mir.pk, Mir.iI, Mir.iB, Mir.cT, Mir.dSub, Mir.dMulI, Mir.dDiv, Mir.dMod, Mir.dPow, Mir.dLt, Mir.dLe, Mir.dGt, Mir.dGe, Mir.dAdd, Mir.dMul, Mir.dAddI, Mir.dEq, Mir.dNe, Mir.dIsN, Mir.dNotN, Mir.isN, Mir.dIx, Mir.dNeg, Mir.dNot, Mir.thenS, Mir.sq, Mir.ifS, Mir.retS, Mir.asgS, Mir.asgT, Mir.dropS, Mir.forS, Mir.parS, Mir.putE, Mir.hasO, Mir.hasM, Mir.updO, Mir.appS, Mir.extS, Mir.revS, Mir.clrS, Mir.setS, Mir.augS, Mir.mCons, Mir.lCons, Mir.cb, Mir.f1, Mir.f2, Mir.lenD, Mir.absD, Mir.intD, Mir.maxD, Mir.minD, Mir.dTup, Mir.dLst, Mir.callA, Mir.callB, Mir.callC, Mir.callT, Mir.callM, Mir.sls, Mir.outE, Mir.hasB, Mir.lfR, Mir.runDef, Mir.fin, Mir.ownAt, Mir.mIf, Mir.mAnd, Mir.mOr, Mir.mNot, Mir.vAnd, Mir.vOr, Mir.truD, Mir.asB, Mir.asI, Mir.bN, Mir.bT, Mir.bCons, Mir.bNil, Mir.slE, Mir.slP, Mir.dSl, Mir.seqD, Mir.listD, Mir.tupleD, Mir.sumD, Mir.allD, Mir.anyD, Mir.isiD, Mir.isi1, Mir.isiTD, Mir.tyN, Mir.clsN, Mir.anyK, Mir.isiOD, eqD_str h]
  | n + 1, _, .lst (ds := ds) h hl => by
    have lc := runLc_map (t := bT (bCons (bN 2) (bCons (bN 3) bNil))) (tt := Mir.ret true) (me := el_l_same_1 (f_l_same n)) (vs := [2, 3]) (g := fun _ => .bl true) (ρ := [some (.va (.lst ds)), some (.va (.lst ds)), none, none]) (ds := zipF ds ds) (acc := []) (by
      intro d hd
      rw [zip_self] at hd
      obtain ⟨e, he, rfl⟩ := List.mem_map.mp hd
      have q := same_refl n (h e he)
      refine ⟨_, [some (.va (.lst ds)), some (.va (.lst ds)), some (.va e), some (.va e)], _, rfl, rfl, (?_ : _ = Oc.ok (D.bl true) [some (.va (.lst ds)), some (.va (.lst ds)), some (.va e), some (.va e)]), rfl⟩
      simp [el_l_same_1, Mir.bnd, Mir.ret, Mir.opt, Mir.rdv, Mir.rdf, Mir.giv, Mir.mVa, Mir.mFz, Mir.un, Mir.bin, Mir.binP, Mir.binQ, Mir.binPQ, Mir.pk, Mir.iI, Mir.iB, Mir.cT, Mir.dSub, Mir.dMulI, Mir.dDiv, Mir.dMod, Mir.dPow, Mir.dLt, Mir.dLe, Mir.dGt, Mir.dGe, Mir.dAdd, Mir.dMul, Mir.dAddI, Mir.dEq, Mir.dNe, Mir.dIsN, Mir.dNotN, Mir.isN, Mir.dIx, Mir.dNeg, Mir.dNot, Mir.thenS, Mir.sq, Mir.ifS, Mir.retS, Mir.asgS, Mir.asgT, Mir.dropS, Mir.forS, Mir.parS, Mir.putE, Mir.hasO, Mir.hasM, Mir.updO, Mir.appS, Mir.extS, Mir.revS, Mir.clrS, Mir.setS, Mir.augS, Mir.mCons, Mir.lCons, Mir.cb, Mir.f1, Mir.f2, Mir.lenD, Mir.absD, Mir.intD, Mir.maxD, Mir.minD, Mir.dTup, Mir.dLst, Mir.callA, Mir.callB, Mir.callC, Mir.callT, Mir.callM, Mir.sls, Mir.outE, Mir.hasB, Mir.lfR, Mir.runDef, Mir.fin, Mir.ownAt, Mir.mIf, Mir.mAnd, Mir.mOr, Mir.mNot, Mir.vAnd, Mir.vOr, Mir.truD, Mir.asB, Mir.asI, Mir.bN, Mir.bT, Mir.bCons, Mir.bNil, Mir.slE, Mir.slP, Mir.dSl, Mir.seqD, Mir.listD, Mir.tupleD, Mir.sumD, Mir.allD, Mir.anyD, Mir.isiD, Mir.isi1, Mir.isiTD, Mir.tyN, Mir.clsN, Mir.anyK, q]) (by rw [zipF_len]; simp; omega)
    have e1 : (zipF ds ds).map (fun _ => D.bl true) = (List.replicate ds.length true).map .bl := zip_true ds
    rw [e1] at lc
    have e3 : Mir.blsD (List.replicate ds.length (D.bl true)) = some (List.replicate ds.length true) := by rw [← List.map_replicate]; exact Mir.bls_map _
    rw [f_l_same]
    simp only [List.nil_append] at lc
    simp [b_l_same, Mir.bnd, Mir.ret, Mir.opt, Mir.rdv, Mir.rdf, Mir.giv, Mir.mVa, Mir.mFz, Mir.un, Mir.bin, Mir.binP, Mir.binQ, Mir.binPQ, Mir.pk, Mir.iI, Mir.iB, Mir.cT, Mir.dSub, Mir.dMulI, Mir.dDiv, Mir.dMod, Mir.dPow, Mir.dLt, Mir.dLe, Mir.dGt, Mir.dGe, Mir.dAdd, Mir.dMul, Mir.dAddI, Mir.dEq, Mir.dNe, Mir.dIsN, Mir.dNotN, Mir.isN, Mir.dIx, Mir.dNeg, Mir.dNot, Mir.thenS, Mir.sq, Mir.ifS, Mir.retS, Mir.asgS, Mir.asgT, Mir.dropS, Mir.forS, Mir.parS, Mir.putE, Mir.hasO, Mir.hasM, Mir.updO, Mir.appS, Mir.extS, Mir.revS, Mir.clrS, Mir.setS, Mir.augS, Mir.mCons, Mir.lCons, Mir.cb, Mir.f1, Mir.f2, Mir.lenD, Mir.absD, Mir.intD, Mir.maxD, Mir.minD, Mir.dTup, Mir.dLst, Mir.callA, Mir.callB, Mir.callC, Mir.callT, Mir.callM, Mir.sls, Mir.outE, Mir.hasB, Mir.lfR, Mir.runDef, Mir.fin, Mir.ownAt, Mir.mIf, Mir.mAnd, Mir.mOr, Mir.mNot, Mir.vAnd, Mir.vOr, Mir.truD, Mir.asB, Mir.asI, Mir.bN, Mir.bT, Mir.bCons, Mir.bNil, Mir.slE, Mir.slP, Mir.dSl, Mir.seqD, Mir.listD, Mir.tupleD, Mir.sumD, Mir.allD, Mir.anyD, Mir.isiD, Mir.isi1, Mir.isiTD, Mir.tyN, Mir.clsN, Mir.anyK, Mir.isiOD, Mir.zpD, Mir.mLc, Mir.clearE, Mir.wipeE, Mir.back, lc, e3]
  | n + 1, _, .tup (ds := ds) h hl => by
    have lc := runLc_map (t := bT (bCons (bN 2) (bCons (bN 3) bNil))) (tt := Mir.ret true) (me := el_l_same_1 (f_l_same n)) (vs := [2, 3]) (g := fun _ => .bl true) (ρ := [some (.va (.tup ds)), some (.va (.tup ds)), none, none]) (ds := zipF ds ds) (acc := []) (by
      intro d hd
      rw [zip_self] at hd
      obtain ⟨e, he, rfl⟩ := List.mem_map.mp hd
      have q := same_refl n (h e he)
      refine ⟨_, [some (.va (.tup ds)), some (.va (.tup ds)), some (.va e), some (.va e)], _, rfl, rfl, (?_ : _ = Oc.ok (D.bl true) [some (.va (.tup ds)), some (.va (.tup ds)), some (.va e), some (.va e)]), rfl⟩
      simp [el_l_same_1, Mir.bnd, Mir.ret, Mir.opt, Mir.rdv, Mir.rdf, Mir.giv, Mir.mVa, Mir.mFz, Mir.un, Mir.bin, Mir.binP, Mir.binQ, Mir.binPQ, Mir.pk, Mir.iI, Mir.iB, Mir.cT, Mir.dSub, Mir.dMulI, Mir.dDiv, Mir.dMod, Mir.dPow, Mir.dLt, Mir.dLe, Mir.dGt, Mir.dGe, Mir.dAdd, Mir.dMul, Mir.dAddI, Mir.dEq, Mir.dNe, Mir.dIsN, Mir.dNotN, Mir.isN, Mir.dIx, Mir.dNeg, Mir.dNot, Mir.thenS, Mir.sq, Mir.ifS, Mir.retS, Mir.asgS, Mir.asgT, Mir.dropS, Mir.forS, Mir.parS, Mir.putE, Mir.hasO, Mir.hasM, Mir.updO, Mir.appS, Mir.extS, Mir.revS, Mir.clrS, Mir.setS, Mir.augS, Mir.mCons, Mir.lCons, Mir.cb, Mir.f1, Mir.f2, Mir.lenD, Mir.absD, Mir.intD, Mir.maxD, Mir.minD, Mir.dTup, Mir.dLst, Mir.callA, Mir.callB, Mir.callC, Mir.callT, Mir.callM, Mir.sls, Mir.outE, Mir.hasB, Mir.lfR, Mir.runDef, Mir.fin, Mir.ownAt, Mir.mIf, Mir.mAnd, Mir.mOr, Mir.mNot, Mir.vAnd, Mir.vOr, Mir.truD, Mir.asB, Mir.asI, Mir.bN, Mir.bT, Mir.bCons, Mir.bNil, Mir.slE, Mir.slP, Mir.dSl, Mir.seqD, Mir.listD, Mir.tupleD, Mir.sumD, Mir.allD, Mir.anyD, Mir.isiD, Mir.isi1, Mir.isiTD, Mir.tyN, Mir.clsN, Mir.anyK, q]) (by rw [zipF_len]; simp; omega)
    have e1 : (zipF ds ds).map (fun _ => D.bl true) = (List.replicate ds.length true).map .bl := zip_true ds
    rw [e1] at lc
    have e3 : Mir.blsD (List.replicate ds.length (D.bl true)) = some (List.replicate ds.length true) := by rw [← List.map_replicate]; exact Mir.bls_map _
    rw [f_l_same]
    simp only [List.nil_append] at lc
    simp [b_l_same, Mir.bnd, Mir.ret, Mir.opt, Mir.rdv, Mir.rdf, Mir.giv, Mir.mVa, Mir.mFz, Mir.un, Mir.bin, Mir.binP, Mir.binQ, Mir.binPQ, Mir.pk, Mir.iI, Mir.iB, Mir.cT, Mir.dSub, Mir.dMulI, Mir.dDiv, Mir.dMod, Mir.dPow, Mir.dLt, Mir.dLe, Mir.dGt, Mir.dGe, Mir.dAdd, Mir.dMul, Mir.dAddI, Mir.dEq, Mir.dNe, Mir.dIsN, Mir.dNotN, Mir.isN, Mir.dIx, Mir.dNeg, Mir.dNot, Mir.thenS, Mir.sq, Mir.ifS, Mir.retS, Mir.asgS, Mir.asgT, Mir.dropS, Mir.forS, Mir.parS, Mir.putE, Mir.hasO, Mir.hasM, Mir.updO, Mir.appS, Mir.extS, Mir.revS, Mir.clrS, Mir.setS, Mir.augS, Mir.mCons, Mir.lCons, Mir.cb, Mir.f1, Mir.f2, Mir.lenD, Mir.absD, Mir.intD, Mir.maxD, Mir.minD, Mir.dTup, Mir.dLst, Mir.callA, Mir.callB, Mir.callC, Mir.callT, Mir.callM, Mir.sls, Mir.outE, Mir.hasB, Mir.lfR, Mir.runDef, Mir.fin, Mir.ownAt, Mir.mIf, Mir.mAnd, Mir.mOr, Mir.mNot, Mir.vAnd, Mir.vOr, Mir.truD, Mir.asB, Mir.asI, Mir.bN, Mir.bT, Mir.bCons, Mir.bNil, Mir.slE, Mir.slP, Mir.dSl, Mir.seqD, Mir.listD, Mir.tupleD, Mir.sumD, Mir.allD, Mir.anyD, Mir.isiD, Mir.isi1, Mir.isiTD, Mir.tyN, Mir.clsN, Mir.anyK, Mir.isiOD, Mir.zpD, Mir.mLc, Mir.clearE, Mir.wipeE, Mir.back, lc, e3]
end My

namespace My
open PySem PySem.Spec PyProof.Rows L2 Mir
/-! ### the box -/
structure Box where
  x : Int
  y : Int
  z : Int
def Box.ds (b : Box) : List D := [.int b.x, .int b.y, .int b.z]
/-- asked n times at most -/
def Box.ok (b : Box) (n : Nat) : Prop := 0 ≤ b.y ∧ b.y < 2 ^ 62 ∧ 0 ≤ b.z ∧ b.z ≤ n
theorem Box.ok.mono {b : Box} {n m : Nat} (h : b.ok n) (l : n ≤ m) : b.ok m := ⟨h.1, h.2.1, h.2.2.1, by have := h.2.2.2; omega⟩
theorem take_eq {b : Box} {n : Nat} {k : Int} (hb : b.ok n) (hn : n ≤ 1000000) (h1 : 0 < k) (h2 : k < 1073741824) : ∃ (v : Int) (b' : Box), f_l_take [.ow b.ds, .va (.int k)] = .ok (.va (.int v)) b'.ds ∧ 0 ≤ v ∧ v < k ∧ b'.ok (n + 1) := by
  obtain ⟨x, y, z⟩ := b
  obtain ⟨y1, y2, z1, z2⟩ := hb
  simp only at y1 y2 z1 z2
  by_cases hx : 0 < x
  · refine ⟨x % k, ⟨x / k, y, z⟩, ?_, Int.emod_nonneg _ (by omega), Int.emod_lt_of_pos _ h1, y1, y2, z1, by show z ≤ _; omega⟩
    simp [f_l_take, b_l_take, Box.ds, Mir.bnd, Mir.ret, Mir.opt, Mir.rdv, Mir.rdf, Mir.giv, Mir.mVa, Mir.mFz, Mir.un, Mir.bin, Mir.binP, Mir.binQ, Mir.binPQ, Mir.pk, Mir.iI, Mir.iB, Mir.cT, Mir.dSub, Mir.dMulI, Mir.dDiv, Mir.dMod, Mir.dPow, Mir.dLt, Mir.dLe, Mir.dGt, Mir.dGe, Mir.dAdd, Mir.dMul, Mir.dAddI, Mir.dEq, Mir.dNe, Mir.dIsN, Mir.dNotN, Mir.isN, Mir.dIx, Mir.dNeg, Mir.dNot, Mir.thenS, Mir.sq, Mir.ifS, Mir.retS, Mir.asgS, Mir.asgT, Mir.dropS, Mir.forS, Mir.parS, Mir.putE, Mir.hasO, Mir.hasM, Mir.updO, Mir.appS, Mir.extS, Mir.revS, Mir.clrS, Mir.setS, Mir.augS, Mir.mCons, Mir.lCons, Mir.cb, Mir.f1, Mir.f2, Mir.lenD, Mir.absD, Mir.intD, Mir.maxD, Mir.minD, Mir.dTup, Mir.dLst, Mir.callA, Mir.callB, Mir.callC, Mir.callT, Mir.callM, Mir.sls, Mir.outE, Mir.hasB, Mir.lfR, Mir.runDef, Mir.fin, Mir.ownAt, Mir.mIf, Mir.mAnd, Mir.mOr, Mir.mNot, Mir.vAnd, Mir.vOr, Mir.truD, Mir.asB, Mir.asI, Mir.bN, Mir.bT, Mir.bCons, Mir.bNil, Mir.slE, Mir.slP, Mir.dSl, Mir.seqD, Mir.listD, Mir.tupleD, Mir.sumD, Mir.allD, Mir.anyD, Mir.isiD, Mir.isi1, Mir.isiTD, Mir.tyN, Mir.clsN, Mir.anyK, atI, ixN, hx, h1, h2]
  · generalize e1 : (y + 48271 * (z + 1)) * (39373 + (z + 1)) % 2147483647 = once
    have o1 : 0 ≤ once := by rw [← e1]; exact Int.emod_nonneg _ (by decide)
    have o2 : once < 2147483647 := by rw [← e1]; exact Int.emod_lt_of_pos _ (by decide)
    generalize e2 : (once + (z + 1) + y / 1000003) * (once % 40009 + 7) % 2147483629 = twice
    have t1 : 0 ≤ twice := by rw [← e2]; exact Int.emod_nonneg _ (by decide)
    have t2 : twice < 2147483629 := by rw [← e2]; exact Int.emod_lt_of_pos _ (by decide)
    refine ⟨(twice * 48271 + once) % 2147483587 / 64 % k, ⟨x, y, z + 1⟩, ?_, Int.emod_nonneg _ (by omega), Int.emod_lt_of_pos _ h1, y1, y2, by show 0 ≤ z + 1; omega, by show z + 1 ≤ _; omega⟩
    have m1 : cMul (y + 48271 * (z + 1)) (39373 + (z + 1)) = true := cMul_r (by omega) (by omega)
    have m2 : cMul (once + (z + 1) + y / 1000003) (once % 40009 + 7) = true := cMul_r (by omega) (by omega)
    have m3 : cMul twice 48271 = true := cMul_r (by omega) (by omega)
    have m0 : cMul 48271 (z + 1) = true := cMul_l (by omega) (by omega)
    simp [f_l_take, b_l_take, Box.ds, Mir.bnd, Mir.ret, Mir.opt, Mir.rdv, Mir.rdf, Mir.giv, Mir.mVa, Mir.mFz, Mir.un, Mir.bin, Mir.binP, Mir.binQ, Mir.binPQ, Mir.pk, Mir.iI, Mir.iB, Mir.cT, Mir.dSub, Mir.dMulI, Mir.dDiv, Mir.dMod, Mir.dPow, Mir.dLt, Mir.dLe, Mir.dGt, Mir.dGe, Mir.dAdd, Mir.dMul, Mir.dAddI, Mir.dEq, Mir.dNe, Mir.dIsN, Mir.dNotN, Mir.isN, Mir.dIx, Mir.dNeg, Mir.dNot, Mir.thenS, Mir.sq, Mir.ifS, Mir.retS, Mir.asgS, Mir.asgT, Mir.dropS, Mir.forS, Mir.parS, Mir.putE, Mir.hasO, Mir.hasM, Mir.updO, Mir.appS, Mir.extS, Mir.revS, Mir.clrS, Mir.setS, Mir.augS, Mir.mCons, Mir.lCons, Mir.cb, Mir.f1, Mir.f2, Mir.lenD, Mir.absD, Mir.intD, Mir.maxD, Mir.minD, Mir.dTup, Mir.dLst, Mir.callA, Mir.callB, Mir.callC, Mir.callT, Mir.callM, Mir.sls, Mir.outE, Mir.hasB, Mir.lfR, Mir.runDef, Mir.fin, Mir.ownAt, Mir.mIf, Mir.mAnd, Mir.mOr, Mir.mNot, Mir.vAnd, Mir.vOr, Mir.truD, Mir.asB, Mir.asI, Mir.bN, Mir.bT, Mir.bCons, Mir.bNil, Mir.slE, Mir.slP, Mir.dSl, Mir.seqD, Mir.listD, Mir.tupleD, Mir.sumD, Mir.allD, Mir.anyD, Mir.isiD, Mir.isi1, Mir.isiTD, Mir.tyN, Mir.clsN, Mir.anyK, atI, ixN, hx, h1, h2, m0, m1, m2, m3, e1, e2]
/-! ### the law's own draws -/
def By (ns : List Int) : Prop := ∀ n ∈ ns, 0 ≤ n ∧ n < 256
theorem cell_eq {ns : List Int} {k : Nat} : ∃ v : Int, f_l_cell_at [.va (.scr ns), .va (.int k)] = .ok (.va (.int v)) [] := by
  by_cases h : k < ns.length
  · refine ⟨ns[k], ?_⟩
    have h' : (k : Int) < (ns.length : Int) := by omega
    simp [f_l_cell_at, b_l_cell_at, Mir.bnd, Mir.ret, Mir.opt, Mir.rdv, Mir.rdf, Mir.giv, Mir.mVa, Mir.mFz, Mir.un, Mir.bin, Mir.binP, Mir.binQ, Mir.binPQ, Mir.pk, Mir.iI, Mir.iB, Mir.cT, Mir.dSub, Mir.dMulI, Mir.dDiv, Mir.dMod, Mir.dPow, Mir.dLt, Mir.dLe, Mir.dGt, Mir.dGe, Mir.dAdd, Mir.dMul, Mir.dAddI, Mir.dEq, Mir.dNe, Mir.dIsN, Mir.dNotN, Mir.isN, Mir.dIx, Mir.dNeg, Mir.dNot, Mir.thenS, Mir.sq, Mir.ifS, Mir.retS, Mir.asgS, Mir.asgT, Mir.dropS, Mir.forS, Mir.parS, Mir.putE, Mir.hasO, Mir.hasM, Mir.updO, Mir.appS, Mir.extS, Mir.revS, Mir.clrS, Mir.setS, Mir.augS, Mir.mCons, Mir.lCons, Mir.cb, Mir.f1, Mir.f2, Mir.lenD, Mir.absD, Mir.intD, Mir.maxD, Mir.minD, Mir.dTup, Mir.dLst, Mir.callA, Mir.callB, Mir.callC, Mir.callT, Mir.callM, Mir.sls, Mir.outE, Mir.hasB, Mir.lfR, Mir.runDef, Mir.fin, Mir.ownAt, Mir.mIf, Mir.mAnd, Mir.mOr, Mir.mNot, Mir.vAnd, Mir.vOr, Mir.truD, Mir.asB, Mir.asI, Mir.bN, Mir.bT, Mir.bCons, Mir.bNil, Mir.slE, Mir.slP, Mir.dSl, Mir.seqD, Mir.listD, Mir.tupleD, Mir.sumD, Mir.allD, Mir.anyD, Mir.isiD, Mir.isi1, Mir.isiTD, Mir.tyN, Mir.clsN, Mir.anyK, h', atI_cast, h]
  · refine ⟨0, ?_⟩
    have h' : ¬ (k : Int) < (ns.length : Int) := by omega
    simp [f_l_cell_at, b_l_cell_at, Mir.bnd, Mir.ret, Mir.opt, Mir.rdv, Mir.rdf, Mir.giv, Mir.mVa, Mir.mFz, Mir.un, Mir.bin, Mir.binP, Mir.binQ, Mir.binPQ, Mir.pk, Mir.iI, Mir.iB, Mir.cT, Mir.dSub, Mir.dMulI, Mir.dDiv, Mir.dMod, Mir.dPow, Mir.dLt, Mir.dLe, Mir.dGt, Mir.dGe, Mir.dAdd, Mir.dMul, Mir.dAddI, Mir.dEq, Mir.dNe, Mir.dIsN, Mir.dNotN, Mir.isN, Mir.dIx, Mir.dNeg, Mir.dNot, Mir.thenS, Mir.sq, Mir.ifS, Mir.retS, Mir.asgS, Mir.asgT, Mir.dropS, Mir.forS, Mir.parS, Mir.putE, Mir.hasO, Mir.hasM, Mir.updO, Mir.appS, Mir.extS, Mir.revS, Mir.clrS, Mir.setS, Mir.augS, Mir.mCons, Mir.lCons, Mir.cb, Mir.f1, Mir.f2, Mir.lenD, Mir.absD, Mir.intD, Mir.maxD, Mir.minD, Mir.dTup, Mir.dLst, Mir.callA, Mir.callB, Mir.callC, Mir.callT, Mir.callM, Mir.sls, Mir.outE, Mir.hasB, Mir.lfR, Mir.runDef, Mir.fin, Mir.ownAt, Mir.mIf, Mir.mAnd, Mir.mOr, Mir.mNot, Mir.vAnd, Mir.vOr, Mir.truD, Mir.asB, Mir.asI, Mir.bN, Mir.bT, Mir.bCons, Mir.bNil, Mir.slE, Mir.slP, Mir.dSl, Mir.seqD, Mir.listD, Mir.tupleD, Mir.sumD, Mir.allD, Mir.anyD, Mir.isiD, Mir.isi1, Mir.isiTD, Mir.tyN, Mir.clsN, Mir.anyK, h']
theorem box_eq {ns : List Int} {k : Nat} (hk : k ≤ 63) : ∃ b : Box, f_l_box [.va (.scr ns), .va (.int k)] = .ok (.ow b.ds) [] ∧ b.ok 0 := by
  obtain ⟨v, hv⟩ := cell_eq (ns := ns) (k := k)
  generalize ea : (if v < 0 then -v else v) = a
  have m1 : ∀ q : Bool, cMul a (if q = true then 1 else 0) = true := fun q => cMul_r (by split <;> omega) (by split <;> omega)
  have m2 : cMul 39373 (k : Int) = true := cMul_l (by omega) (by omega)
  have h1 := Int.emod_nonneg v (show (2305843009213693951 : Int) ≠ 0 by decide)
  have h2 := Int.emod_lt_of_pos v (show (0 : Int) < 2305843009213693951 by decide)
  refine ⟨⟨a * (if decide ((1000000000000000000 : Int) ≤ a) = true then 1 else 0), v % 2305843009213693951 + 39373 * k + 17, 0⟩, ?_, by show 0 ≤ v % 2305843009213693951 + 39373 * (k : Int) + 17; omega, by show v % 2305843009213693951 + 39373 * (k : Int) + 17 < _; omega, Int.le_refl _, Int.le_refl _⟩
  have m1' := m1 (decide ((1000000000000000000 : Int) ≤ a))
  simp only [decide_eq_true_eq] at m1'
  simp [f_l_box, b_l_box, Box.ds, Mir.bnd, Mir.ret, Mir.opt, Mir.rdv, Mir.rdf, Mir.giv, Mir.mVa, Mir.mFz, Mir.un, Mir.bin, Mir.binP, Mir.binQ, Mir.binPQ, Mir.pk, Mir.iI, Mir.iB, Mir.cT, Mir.dSub, Mir.dMulI, Mir.dDiv, Mir.dMod, Mir.dPow, Mir.dLt, Mir.dLe, Mir.dGt, Mir.dGe, Mir.dAdd, Mir.dMul, Mir.dAddI, Mir.dEq, Mir.dNe, Mir.dIsN, Mir.dNotN, Mir.isN, Mir.dIx, Mir.dNeg, Mir.dNot, Mir.thenS, Mir.sq, Mir.ifS, Mir.retS, Mir.asgS, Mir.asgT, Mir.dropS, Mir.forS, Mir.parS, Mir.putE, Mir.hasO, Mir.hasM, Mir.updO, Mir.appS, Mir.extS, Mir.revS, Mir.clrS, Mir.setS, Mir.augS, Mir.mCons, Mir.lCons, Mir.cb, Mir.f1, Mir.f2, Mir.lenD, Mir.absD, Mir.intD, Mir.maxD, Mir.minD, Mir.dTup, Mir.dLst, Mir.callA, Mir.callB, Mir.callC, Mir.callT, Mir.callM, Mir.sls, Mir.outE, Mir.hasB, Mir.lfR, Mir.runDef, Mir.fin, Mir.ownAt, Mir.mIf, Mir.mAnd, Mir.mOr, Mir.mNot, Mir.vAnd, Mir.vOr, Mir.truD, Mir.asB, Mir.asI, Mir.bN, Mir.bT, Mir.bCons, Mir.bNil, Mir.slE, Mir.slP, Mir.dSl, Mir.seqD, Mir.listD, Mir.tupleD, Mir.sumD, Mir.allD, Mir.anyD, Mir.isiD, Mir.isi1, Mir.isiTD, Mir.tyN, Mir.clsN, Mir.anyK, hv, ea, m1', m2]
end My

namespace My
open PySem PySem.Spec PyProof.Rows L2 Mir
theorem take_w {b : Box} {n : Nat} {k : Int} {Q : Sl → List D → Prop} {X : XB} (hb : b.ok n) (hn : n ≤ 1000000) (h1 : 0 < k) (h2 : k < 1073741824) (q : ∀ (v : Int) (b' : Box), 0 ≤ v → v < k → b'.ok (n + 1) → Q (.va (.int v)) b'.ds) : Wf (f_l_take [.ow b.ds, .va (.int k)]) Q X := by
  obtain ⟨v, b', e, h3, h4, h5⟩ := take_eq hb hn h1 h2
  rw [e]
  exact q v b' h3 h4 h5
theorem box_w {ns : List Int} {k : Nat} {Q : Sl → List D → Prop} {X : XB} (hk : k ≤ 63) (q : ∀ b : Box, b.ok 0 → Q (.ow b.ds) []) : Wf (f_l_box [.va (.scr ns), .va (.int k)]) Q X := by
  obtain ⟨b, e, h⟩ := box_eq (ns := ns) hk
  rw [e]
  exact q b h
end My

namespace My
open PySem PySem.Spec PyProof.Rows L2 Mir
/-! ### places -/
inductive Spt where
  | no | li (l : Int) | pa (l m b e : Int)
def Spt.fs : Spt → List D
  | .no => [.non, .non, .non, .non]
  | .li l => [.int l, .int l, .non, .non]
  | .pa l m b e => [.int l, .int m, .int b, .int e]
def plD (s : Spt) : D := .ob "Place" ["line", "last", "begin", "end"] s.fs
def spD (s : Spt) : D := .tup s.fs
/-- within the lines there are -/
def Spt.rg : Spt → Bool
  | .no => true
  | .li l => decide (1 ≤ l) && decide (l ≤ 1000000)
  | .pa l m _ _ => decide (1 ≤ l) && decide (m ≤ 1000000)
/-- so many lines, such columns -/
def Spt.shp : Spt → Prop
  | .pa l m b e => l ≤ m ∧ m ≤ l + 99 ∧ 0 ≤ b ∧ b ≤ 10000 ∧ 0 ≤ e ∧ e ≤ 10000 ∧ (l = m → b ≤ e)
  | _ => True
def Spt.sh (k : Int) : Spt → Spt
  | .no => .no
  | .li l => .li (l + k)
  | .pa l m b e => .pa (l + k) (m + k) b e
theorem Spt.shp.sh {s : Spt} (h : s.shp) (k : Int) : (s.sh k).shp := by
  cases s with
  | no => trivial
  | li l => trivial
  | pa l m b e =>
    obtain ⟨h1, h2, h3, h4, h5, h6, h7⟩ := h
    exact ⟨by omega, by omega, h3, h4, h5, h6, fun z => h7 (by omega)⟩
theorem lf_pl (s : Spt) : Mir.lf (plD s) = true := by cases s <;> simp [plD, Spt.fs, Mir.lf, Mir.lfs]
theorem lfs_pl : ∀ ss : List Spt, Mir.lfs (ss.map plD) = true
  | [] => by simp [Mir.lfs]
  | s :: ss => by simp [Mir.lfs, lf_pl, lfs_pl ss]
@[simp] theorem fld_line (s : Spt) : dFld fl "line" (plD s) = some (s.fs.getD 0 .non) := by cases s <;> rfl
@[simp] theorem fld_last (s : Spt) : dFld fl "last" (plD s) = some (s.fs.getD 1 .non) := by cases s <;> rfl
@[simp] theorem fld_begin (s : Spt) : dFld fl "begin" (plD s) = some (s.fs.getD 2 .non) := by cases s <;> rfl
@[simp] theorem fld_end (s : Spt) : dFld fl "end" (plD s) = some (s.fs.getD 3 .non) := by cases s <;> rfl
theorem whole_int (i : Int) : f_is_whole [.va (.int i)] = .ok (.va (.bl true)) [] := by
  simp [f_is_whole, b_is_whole, Mir.bnd, Mir.ret, Mir.opt, Mir.rdv, Mir.rdf, Mir.giv, Mir.mVa, Mir.mFz, Mir.un, Mir.bin, Mir.binP, Mir.binQ, Mir.binPQ, Mir.pk, Mir.iI, Mir.iB, Mir.cT, Mir.dSub, Mir.dMulI, Mir.dDiv, Mir.dMod, Mir.dPow, Mir.dLt, Mir.dLe, Mir.dGt, Mir.dGe, Mir.dAdd, Mir.dMul, Mir.dAddI, Mir.dEq, Mir.dNe, Mir.dIsN, Mir.dNotN, Mir.isN, Mir.dIx, Mir.dNeg, Mir.dNot, Mir.thenS, Mir.sq, Mir.ifS, Mir.retS, Mir.asgS, Mir.asgT, Mir.dropS, Mir.forS, Mir.parS, Mir.putE, Mir.hasO, Mir.hasM, Mir.updO, Mir.appS, Mir.extS, Mir.revS, Mir.clrS, Mir.setS, Mir.augS, Mir.mCons, Mir.lCons, Mir.cb, Mir.f1, Mir.f2, Mir.lenD, Mir.absD, Mir.intD, Mir.maxD, Mir.minD, Mir.dTup, Mir.dLst, Mir.callA, Mir.callB, Mir.callC, Mir.callT, Mir.callM, Mir.sls, Mir.outE, Mir.hasB, Mir.lfR, Mir.runDef, Mir.fin, Mir.ownAt, Mir.mIf, Mir.mAnd, Mir.mOr, Mir.mNot, Mir.vAnd, Mir.vOr, Mir.truD, Mir.asB, Mir.asI, Mir.bN, Mir.bT, Mir.bCons, Mir.bNil, Mir.slE, Mir.slP, Mir.dSl, Mir.seqD, Mir.listD, Mir.tupleD, Mir.sumD, Mir.allD, Mir.anyD, Mir.isiD, Mir.isi1, Mir.isiTD, Mir.tyN, Mir.clsN, Mir.anyK, Mir.isiOD]
theorem num_int (i lo hi : Int) : f_is_number [.va (.int i), .va (.int lo), .va (.int hi)] = .ok (.va (.bl (decide (lo ≤ i ∧ i ≤ hi)))) [] := by
  by_cases h : lo ≤ i
  · simp [f_is_number, b_is_number, Mir.bnd, Mir.ret, Mir.opt, Mir.rdv, Mir.rdf, Mir.giv, Mir.mVa, Mir.mFz, Mir.un, Mir.bin, Mir.binP, Mir.binQ, Mir.binPQ, Mir.pk, Mir.iI, Mir.iB, Mir.cT, Mir.dSub, Mir.dMulI, Mir.dDiv, Mir.dMod, Mir.dPow, Mir.dLt, Mir.dLe, Mir.dGt, Mir.dGe, Mir.dAdd, Mir.dMul, Mir.dAddI, Mir.dEq, Mir.dNe, Mir.dIsN, Mir.dNotN, Mir.isN, Mir.dIx, Mir.dNeg, Mir.dNot, Mir.thenS, Mir.sq, Mir.ifS, Mir.retS, Mir.asgS, Mir.asgT, Mir.dropS, Mir.forS, Mir.parS, Mir.putE, Mir.hasO, Mir.hasM, Mir.updO, Mir.appS, Mir.extS, Mir.revS, Mir.clrS, Mir.setS, Mir.augS, Mir.mCons, Mir.lCons, Mir.cb, Mir.f1, Mir.f2, Mir.lenD, Mir.absD, Mir.intD, Mir.maxD, Mir.minD, Mir.dTup, Mir.dLst, Mir.callA, Mir.callB, Mir.callC, Mir.callT, Mir.callM, Mir.sls, Mir.outE, Mir.hasB, Mir.lfR, Mir.runDef, Mir.fin, Mir.ownAt, Mir.mIf, Mir.mAnd, Mir.mOr, Mir.mNot, Mir.vAnd, Mir.vOr, Mir.truD, Mir.asB, Mir.asI, Mir.bN, Mir.bT, Mir.bCons, Mir.bNil, Mir.slE, Mir.slP, Mir.dSl, Mir.seqD, Mir.listD, Mir.tupleD, Mir.sumD, Mir.allD, Mir.anyD, Mir.isiD, Mir.isi1, Mir.isiTD, Mir.tyN, Mir.clsN, Mir.anyK, Mir.chn, whole_int, h]
  · simp [f_is_number, b_is_number, Mir.bnd, Mir.ret, Mir.opt, Mir.rdv, Mir.rdf, Mir.giv, Mir.mVa, Mir.mFz, Mir.un, Mir.bin, Mir.binP, Mir.binQ, Mir.binPQ, Mir.pk, Mir.iI, Mir.iB, Mir.cT, Mir.dSub, Mir.dMulI, Mir.dDiv, Mir.dMod, Mir.dPow, Mir.dLt, Mir.dLe, Mir.dGt, Mir.dGe, Mir.dAdd, Mir.dMul, Mir.dAddI, Mir.dEq, Mir.dNe, Mir.dIsN, Mir.dNotN, Mir.isN, Mir.dIx, Mir.dNeg, Mir.dNot, Mir.thenS, Mir.sq, Mir.ifS, Mir.retS, Mir.asgS, Mir.asgT, Mir.dropS, Mir.forS, Mir.parS, Mir.putE, Mir.hasO, Mir.hasM, Mir.updO, Mir.appS, Mir.extS, Mir.revS, Mir.clrS, Mir.setS, Mir.augS, Mir.mCons, Mir.lCons, Mir.cb, Mir.f1, Mir.f2, Mir.lenD, Mir.absD, Mir.intD, Mir.maxD, Mir.minD, Mir.dTup, Mir.dLst, Mir.callA, Mir.callB, Mir.callC, Mir.callT, Mir.callM, Mir.sls, Mir.outE, Mir.hasB, Mir.lfR, Mir.runDef, Mir.fin, Mir.ownAt, Mir.mIf, Mir.mAnd, Mir.mOr, Mir.mNot, Mir.vAnd, Mir.vOr, Mir.truD, Mir.asB, Mir.asI, Mir.bN, Mir.bT, Mir.bCons, Mir.bNil, Mir.slE, Mir.slP, Mir.dSl, Mir.seqD, Mir.listD, Mir.tupleD, Mir.sumD, Mir.allD, Mir.anyD, Mir.isiD, Mir.isi1, Mir.isiTD, Mir.tyN, Mir.clsN, Mir.anyK, Mir.chn, whole_int, h]
theorem cols_nn : f_wrong_columns [.va .non, .va .non, .va (.bl true)] = .ok (.va .non) [] := by
  simp [f_wrong_columns, b_wrong_columns, Mir.bnd, Mir.ret, Mir.opt, Mir.rdv, Mir.rdf, Mir.giv, Mir.mVa, Mir.mFz, Mir.un, Mir.bin, Mir.binP, Mir.binQ, Mir.binPQ, Mir.pk, Mir.iI, Mir.iB, Mir.cT, Mir.dSub, Mir.dMulI, Mir.dDiv, Mir.dMod, Mir.dPow, Mir.dLt, Mir.dLe, Mir.dGt, Mir.dGe, Mir.dAdd, Mir.dMul, Mir.dAddI, Mir.dEq, Mir.dNe, Mir.dIsN, Mir.dNotN, Mir.isN, Mir.dIx, Mir.dNeg, Mir.dNot, Mir.thenS, Mir.sq, Mir.ifS, Mir.retS, Mir.asgS, Mir.asgT, Mir.dropS, Mir.forS, Mir.parS, Mir.putE, Mir.hasO, Mir.hasM, Mir.updO, Mir.appS, Mir.extS, Mir.revS, Mir.clrS, Mir.setS, Mir.augS, Mir.mCons, Mir.lCons, Mir.cb, Mir.f1, Mir.f2, Mir.lenD, Mir.absD, Mir.intD, Mir.maxD, Mir.minD, Mir.dTup, Mir.dLst, Mir.callA, Mir.callB, Mir.callC, Mir.callT, Mir.callM, Mir.sls, Mir.outE, Mir.hasB, Mir.lfR, Mir.runDef, Mir.fin, Mir.ownAt, Mir.mIf, Mir.mAnd, Mir.mOr, Mir.mNot, Mir.vAnd, Mir.vOr, Mir.truD, Mir.asB, Mir.asI, Mir.bN, Mir.bT, Mir.bCons, Mir.bNil, Mir.slE, Mir.slP, Mir.dSl, Mir.seqD, Mir.listD, Mir.tupleD, Mir.sumD, Mir.allD, Mir.anyD, Mir.isiD, Mir.isi1, Mir.isiTD, Mir.tyN, Mir.clsN, Mir.anyK]
theorem cols_ii (b e : Int) (t : Bool) : f_wrong_columns [.va (.int b), .va (.int e), .va (.bl t)] = .ok (.va (if 0 ≤ b ∧ b ≤ 10000 then (if (if t = true then b else 0) ≤ e ∧ e ≤ 10000 then .non else .str "end") else .str "begin")) [] := by
  have n1 := num_int b 0 10000
  have n2 := num_int e (if t = true then b else 0) 10000
  by_cases h1 : 0 ≤ b ∧ b ≤ 10000
  · rw [decide_eq_true h1] at n1
    rw [if_pos h1]
    by_cases h2 : (if t = true then b else 0) ≤ e ∧ e ≤ 10000
    · rw [decide_eq_true h2] at n2
      rw [if_pos h2]
      cases t
      · simp at n2
        simp [f_wrong_columns, b_wrong_columns, Mir.bnd, Mir.ret, Mir.opt, Mir.rdv, Mir.rdf, Mir.giv, Mir.mVa, Mir.mFz, Mir.un, Mir.bin, Mir.binP, Mir.binQ, Mir.binPQ, Mir.pk, Mir.iI, Mir.iB, Mir.cT, Mir.dSub, Mir.dMulI, Mir.dDiv, Mir.dMod, Mir.dPow, Mir.dLt, Mir.dLe, Mir.dGt, Mir.dGe, Mir.dAdd, Mir.dMul, Mir.dAddI, Mir.dEq, Mir.dNe, Mir.dIsN, Mir.dNotN, Mir.isN, Mir.dIx, Mir.dNeg, Mir.dNot, Mir.thenS, Mir.sq, Mir.ifS, Mir.retS, Mir.asgS, Mir.asgT, Mir.dropS, Mir.forS, Mir.parS, Mir.putE, Mir.hasO, Mir.hasM, Mir.updO, Mir.appS, Mir.extS, Mir.revS, Mir.clrS, Mir.setS, Mir.augS, Mir.mCons, Mir.lCons, Mir.cb, Mir.f1, Mir.f2, Mir.lenD, Mir.absD, Mir.intD, Mir.maxD, Mir.minD, Mir.dTup, Mir.dLst, Mir.callA, Mir.callB, Mir.callC, Mir.callT, Mir.callM, Mir.sls, Mir.outE, Mir.hasB, Mir.lfR, Mir.runDef, Mir.fin, Mir.ownAt, Mir.mIf, Mir.mAnd, Mir.mOr, Mir.mNot, Mir.vAnd, Mir.vOr, Mir.truD, Mir.asB, Mir.asI, Mir.bN, Mir.bT, Mir.bCons, Mir.bNil, Mir.slE, Mir.slP, Mir.dSl, Mir.seqD, Mir.listD, Mir.tupleD, Mir.sumD, Mir.allD, Mir.anyD, Mir.isiD, Mir.isi1, Mir.isiTD, Mir.tyN, Mir.clsN, Mir.anyK, n1, n2]
      · simp at n2
        simp [f_wrong_columns, b_wrong_columns, Mir.bnd, Mir.ret, Mir.opt, Mir.rdv, Mir.rdf, Mir.giv, Mir.mVa, Mir.mFz, Mir.un, Mir.bin, Mir.binP, Mir.binQ, Mir.binPQ, Mir.pk, Mir.iI, Mir.iB, Mir.cT, Mir.dSub, Mir.dMulI, Mir.dDiv, Mir.dMod, Mir.dPow, Mir.dLt, Mir.dLe, Mir.dGt, Mir.dGe, Mir.dAdd, Mir.dMul, Mir.dAddI, Mir.dEq, Mir.dNe, Mir.dIsN, Mir.dNotN, Mir.isN, Mir.dIx, Mir.dNeg, Mir.dNot, Mir.thenS, Mir.sq, Mir.ifS, Mir.retS, Mir.asgS, Mir.asgT, Mir.dropS, Mir.forS, Mir.parS, Mir.putE, Mir.hasO, Mir.hasM, Mir.updO, Mir.appS, Mir.extS, Mir.revS, Mir.clrS, Mir.setS, Mir.augS, Mir.mCons, Mir.lCons, Mir.cb, Mir.f1, Mir.f2, Mir.lenD, Mir.absD, Mir.intD, Mir.maxD, Mir.minD, Mir.dTup, Mir.dLst, Mir.callA, Mir.callB, Mir.callC, Mir.callT, Mir.callM, Mir.sls, Mir.outE, Mir.hasB, Mir.lfR, Mir.runDef, Mir.fin, Mir.ownAt, Mir.mIf, Mir.mAnd, Mir.mOr, Mir.mNot, Mir.vAnd, Mir.vOr, Mir.truD, Mir.asB, Mir.asI, Mir.bN, Mir.bT, Mir.bCons, Mir.bNil, Mir.slE, Mir.slP, Mir.dSl, Mir.seqD, Mir.listD, Mir.tupleD, Mir.sumD, Mir.allD, Mir.anyD, Mir.isiD, Mir.isi1, Mir.isiTD, Mir.tyN, Mir.clsN, Mir.anyK, n1, n2]
    · rw [decide_eq_false h2] at n2
      rw [if_neg h2]
      cases t
      · simp at n2
        simp [f_wrong_columns, b_wrong_columns, Mir.bnd, Mir.ret, Mir.opt, Mir.rdv, Mir.rdf, Mir.giv, Mir.mVa, Mir.mFz, Mir.un, Mir.bin, Mir.binP, Mir.binQ, Mir.binPQ, Mir.pk, Mir.iI, Mir.iB, Mir.cT, Mir.dSub, Mir.dMulI, Mir.dDiv, Mir.dMod, Mir.dPow, Mir.dLt, Mir.dLe, Mir.dGt, Mir.dGe, Mir.dAdd, Mir.dMul, Mir.dAddI, Mir.dEq, Mir.dNe, Mir.dIsN, Mir.dNotN, Mir.isN, Mir.dIx, Mir.dNeg, Mir.dNot, Mir.thenS, Mir.sq, Mir.ifS, Mir.retS, Mir.asgS, Mir.asgT, Mir.dropS, Mir.forS, Mir.parS, Mir.putE, Mir.hasO, Mir.hasM, Mir.updO, Mir.appS, Mir.extS, Mir.revS, Mir.clrS, Mir.setS, Mir.augS, Mir.mCons, Mir.lCons, Mir.cb, Mir.f1, Mir.f2, Mir.lenD, Mir.absD, Mir.intD, Mir.maxD, Mir.minD, Mir.dTup, Mir.dLst, Mir.callA, Mir.callB, Mir.callC, Mir.callT, Mir.callM, Mir.sls, Mir.outE, Mir.hasB, Mir.lfR, Mir.runDef, Mir.fin, Mir.ownAt, Mir.mIf, Mir.mAnd, Mir.mOr, Mir.mNot, Mir.vAnd, Mir.vOr, Mir.truD, Mir.asB, Mir.asI, Mir.bN, Mir.bT, Mir.bCons, Mir.bNil, Mir.slE, Mir.slP, Mir.dSl, Mir.seqD, Mir.listD, Mir.tupleD, Mir.sumD, Mir.allD, Mir.anyD, Mir.isiD, Mir.isi1, Mir.isiTD, Mir.tyN, Mir.clsN, Mir.anyK, n1, n2]
      · simp at n2
        simp [f_wrong_columns, b_wrong_columns, Mir.bnd, Mir.ret, Mir.opt, Mir.rdv, Mir.rdf, Mir.giv, Mir.mVa, Mir.mFz, Mir.un, Mir.bin, Mir.binP, Mir.binQ, Mir.binPQ, Mir.pk, Mir.iI, Mir.iB, Mir.cT, Mir.dSub, Mir.dMulI, Mir.dDiv, Mir.dMod, Mir.dPow, Mir.dLt, Mir.dLe, Mir.dGt, Mir.dGe, Mir.dAdd, Mir.dMul, Mir.dAddI, Mir.dEq, Mir.dNe, Mir.dIsN, Mir.dNotN, Mir.isN, Mir.dIx, Mir.dNeg, Mir.dNot, Mir.thenS, Mir.sq, Mir.ifS, Mir.retS, Mir.asgS, Mir.asgT, Mir.dropS, Mir.forS, Mir.parS, Mir.putE, Mir.hasO, Mir.hasM, Mir.updO, Mir.appS, Mir.extS, Mir.revS, Mir.clrS, Mir.setS, Mir.augS, Mir.mCons, Mir.lCons, Mir.cb, Mir.f1, Mir.f2, Mir.lenD, Mir.absD, Mir.intD, Mir.maxD, Mir.minD, Mir.dTup, Mir.dLst, Mir.callA, Mir.callB, Mir.callC, Mir.callT, Mir.callM, Mir.sls, Mir.outE, Mir.hasB, Mir.lfR, Mir.runDef, Mir.fin, Mir.ownAt, Mir.mIf, Mir.mAnd, Mir.mOr, Mir.mNot, Mir.vAnd, Mir.vOr, Mir.truD, Mir.asB, Mir.asI, Mir.bN, Mir.bT, Mir.bCons, Mir.bNil, Mir.slE, Mir.slP, Mir.dSl, Mir.seqD, Mir.listD, Mir.tupleD, Mir.sumD, Mir.allD, Mir.anyD, Mir.isiD, Mir.isi1, Mir.isiTD, Mir.tyN, Mir.clsN, Mir.anyK, n1, n2]
  · rw [decide_eq_false h1] at n1
    rw [if_neg h1]
    simp [f_wrong_columns, b_wrong_columns, Mir.bnd, Mir.ret, Mir.opt, Mir.rdv, Mir.rdf, Mir.giv, Mir.mVa, Mir.mFz, Mir.un, Mir.bin, Mir.binP, Mir.binQ, Mir.binPQ, Mir.pk, Mir.iI, Mir.iB, Mir.cT, Mir.dSub, Mir.dMulI, Mir.dDiv, Mir.dMod, Mir.dPow, Mir.dLt, Mir.dLe, Mir.dGt, Mir.dGe, Mir.dAdd, Mir.dMul, Mir.dAddI, Mir.dEq, Mir.dNe, Mir.dIsN, Mir.dNotN, Mir.isN, Mir.dIx, Mir.dNeg, Mir.dNot, Mir.thenS, Mir.sq, Mir.ifS, Mir.retS, Mir.asgS, Mir.asgT, Mir.dropS, Mir.forS, Mir.parS, Mir.putE, Mir.hasO, Mir.hasM, Mir.updO, Mir.appS, Mir.extS, Mir.revS, Mir.clrS, Mir.setS, Mir.augS, Mir.mCons, Mir.lCons, Mir.cb, Mir.f1, Mir.f2, Mir.lenD, Mir.absD, Mir.intD, Mir.maxD, Mir.minD, Mir.dTup, Mir.dLst, Mir.callA, Mir.callB, Mir.callC, Mir.callT, Mir.callM, Mir.sls, Mir.outE, Mir.hasB, Mir.lfR, Mir.runDef, Mir.fin, Mir.ownAt, Mir.mIf, Mir.mAnd, Mir.mOr, Mir.mNot, Mir.vAnd, Mir.vOr, Mir.truD, Mir.asB, Mir.asI, Mir.bN, Mir.bT, Mir.bCons, Mir.bNil, Mir.slE, Mir.slP, Mir.dSl, Mir.seqD, Mir.listD, Mir.tupleD, Mir.sumD, Mir.allD, Mir.anyD, Mir.isiD, Mir.isi1, Mir.isiTD, Mir.tyN, Mir.clsN, Mir.anyK, n1]
theorem part_no : f_wrong_part [.va .non, .va .non, .va .non, .va .non] = .ok (.va .non) [] := by
  simp [f_wrong_part, b_wrong_part, f_wrong_of_nowhere, b_wrong_of_nowhere, lp_wrong_of_nowhere_1, loopS, Mir.bnd, Mir.ret, Mir.opt, Mir.rdv, Mir.rdf, Mir.giv, Mir.mVa, Mir.mFz, Mir.un, Mir.bin, Mir.binP, Mir.binQ, Mir.binPQ, Mir.pk, Mir.iI, Mir.iB, Mir.cT, Mir.dSub, Mir.dMulI, Mir.dDiv, Mir.dMod, Mir.dPow, Mir.dLt, Mir.dLe, Mir.dGt, Mir.dGe, Mir.dAdd, Mir.dMul, Mir.dAddI, Mir.dEq, Mir.dNe, Mir.dIsN, Mir.dNotN, Mir.isN, Mir.dIx, Mir.dNeg, Mir.dNot, Mir.thenS, Mir.sq, Mir.ifS, Mir.retS, Mir.asgS, Mir.asgT, Mir.dropS, Mir.forS, Mir.parS, Mir.putE, Mir.hasO, Mir.hasM, Mir.updO, Mir.appS, Mir.extS, Mir.revS, Mir.clrS, Mir.setS, Mir.augS, Mir.mCons, Mir.lCons, Mir.cb, Mir.f1, Mir.f2, Mir.lenD, Mir.absD, Mir.intD, Mir.maxD, Mir.minD, Mir.dTup, Mir.dLst, Mir.callA, Mir.callB, Mir.callC, Mir.callT, Mir.callM, Mir.sls, Mir.outE, Mir.hasB, Mir.lfR, Mir.runDef, Mir.fin, Mir.ownAt, Mir.mIf, Mir.mAnd, Mir.mOr, Mir.mNot, Mir.vAnd, Mir.vOr, Mir.truD, Mir.asB, Mir.asI, Mir.bN, Mir.bT, Mir.bCons, Mir.bNil, Mir.slE, Mir.slP, Mir.dSl, Mir.seqD, Mir.listD, Mir.tupleD, Mir.sumD, Mir.allD, Mir.anyD, Mir.isiD, Mir.isi1, Mir.isiTD, Mir.tyN, Mir.clsN, Mir.anyK]
theorem fit_end : fitD (.str "end") = true := by decide +kernel
theorem fit_begin : fitD (.str "begin") = true := by decide +kernel
theorem fit_line : fitD (.str "line") = true := by decide +kernel
theorem fit_last : fitD (.str "last") = true := by decide +kernel
theorem mk_no : f_Place_init [.va .non, .va .non, .va .non, .va .non] = .ok (.va (plD .no)) [] := by
  simp [f_Place_init, part_no, isN, plD, Spt.fs]
theorem mk_li (l : Int) : (1 ≤ l ∧ l ≤ 1000000 → f_Place_init [.va (.int l), .va .non, .va .non, .va .non] = .ok (.va (plD (.li l))) []) ∧ (¬ (1 ≤ l ∧ l ≤ 1000000) → f_Place_init [.va (.int l), .va .non, .va .non, .va .non] = .ex "BadPlace" "part" (.str "line") []) := by
  have n1 := num_int l 1 1000000
  constructor
  · intro h
    rw [decide_eq_true h] at n1
    have e : f_wrong_part [.va (.int l), .va .non, .va .non, .va .non] = .ok (.va .non) [] := by
      simp [f_wrong_part, b_wrong_part, Mir.bnd, Mir.ret, Mir.opt, Mir.rdv, Mir.rdf, Mir.giv, Mir.mVa, Mir.mFz, Mir.un, Mir.bin, Mir.binP, Mir.binQ, Mir.binPQ, Mir.pk, Mir.iI, Mir.iB, Mir.cT, Mir.dSub, Mir.dMulI, Mir.dDiv, Mir.dMod, Mir.dPow, Mir.dLt, Mir.dLe, Mir.dGt, Mir.dGe, Mir.dAdd, Mir.dMul, Mir.dAddI, Mir.dEq, Mir.dNe, Mir.dIsN, Mir.dNotN, Mir.isN, Mir.dIx, Mir.dNeg, Mir.dNot, Mir.thenS, Mir.sq, Mir.ifS, Mir.retS, Mir.asgS, Mir.asgT, Mir.dropS, Mir.forS, Mir.parS, Mir.putE, Mir.hasO, Mir.hasM, Mir.updO, Mir.appS, Mir.extS, Mir.revS, Mir.clrS, Mir.setS, Mir.augS, Mir.mCons, Mir.lCons, Mir.cb, Mir.f1, Mir.f2, Mir.lenD, Mir.absD, Mir.intD, Mir.maxD, Mir.minD, Mir.dTup, Mir.dLst, Mir.callA, Mir.callB, Mir.callC, Mir.callT, Mir.callM, Mir.sls, Mir.outE, Mir.hasB, Mir.lfR, Mir.runDef, Mir.fin, Mir.ownAt, Mir.mIf, Mir.mAnd, Mir.mOr, Mir.mNot, Mir.vAnd, Mir.vOr, Mir.truD, Mir.asB, Mir.asI, Mir.bN, Mir.bT, Mir.bCons, Mir.bNil, Mir.slE, Mir.slP, Mir.dSl, Mir.seqD, Mir.listD, Mir.tupleD, Mir.sumD, Mir.allD, Mir.anyD, Mir.isiD, Mir.isi1, Mir.isiTD, Mir.tyN, Mir.clsN, Mir.anyK, n1, cols_nn]
    simp [f_Place_init, e, isN, plD, Spt.fs]
  · intro h
    rw [decide_eq_false h] at n1
    have e : f_wrong_part [.va (.int l), .va .non, .va .non, .va .non] = .ok (.va (.str "line")) [] := by
      simp [f_wrong_part, b_wrong_part, Mir.bnd, Mir.ret, Mir.opt, Mir.rdv, Mir.rdf, Mir.giv, Mir.mVa, Mir.mFz, Mir.un, Mir.bin, Mir.binP, Mir.binQ, Mir.binPQ, Mir.pk, Mir.iI, Mir.iB, Mir.cT, Mir.dSub, Mir.dMulI, Mir.dDiv, Mir.dMod, Mir.dPow, Mir.dLt, Mir.dLe, Mir.dGt, Mir.dGe, Mir.dAdd, Mir.dMul, Mir.dAddI, Mir.dEq, Mir.dNe, Mir.dIsN, Mir.dNotN, Mir.isN, Mir.dIx, Mir.dNeg, Mir.dNot, Mir.thenS, Mir.sq, Mir.ifS, Mir.retS, Mir.asgS, Mir.asgT, Mir.dropS, Mir.forS, Mir.parS, Mir.putE, Mir.hasO, Mir.hasM, Mir.updO, Mir.appS, Mir.extS, Mir.revS, Mir.clrS, Mir.setS, Mir.augS, Mir.mCons, Mir.lCons, Mir.cb, Mir.f1, Mir.f2, Mir.lenD, Mir.absD, Mir.intD, Mir.maxD, Mir.minD, Mir.dTup, Mir.dLst, Mir.callA, Mir.callB, Mir.callC, Mir.callT, Mir.callM, Mir.sls, Mir.outE, Mir.hasB, Mir.lfR, Mir.runDef, Mir.fin, Mir.ownAt, Mir.mIf, Mir.mAnd, Mir.mOr, Mir.mNot, Mir.vAnd, Mir.vOr, Mir.truD, Mir.asB, Mir.asI, Mir.bN, Mir.bT, Mir.bCons, Mir.bNil, Mir.slE, Mir.slP, Mir.dSl, Mir.seqD, Mir.listD, Mir.tupleD, Mir.sumD, Mir.allD, Mir.anyD, Mir.isiD, Mir.isi1, Mir.isiTD, Mir.tyN, Mir.clsN, Mir.anyK, n1]
    simp [f_Place_init, e, fit_line]
theorem mk_p1 (l b e : Int) (hb : 0 ≤ b ∧ b ≤ 10000) (he : b ≤ e ∧ e ≤ 10000) : (1 ≤ l ∧ l ≤ 1000000 → f_Place_init [.va (.int l), .va .non, .va (.int b), .va (.int e)] = .ok (.va (plD (.pa l l b e))) []) ∧ (¬ (1 ≤ l ∧ l ≤ 1000000) → f_Place_init [.va (.int l), .va .non, .va (.int b), .va (.int e)] = .ex "BadPlace" "part" (.str "line") []) := by
  have n1 := num_int l 1 1000000
  have c1 := cols_ii b e true
  rw [if_pos hb, if_pos rfl, if_pos he] at c1
  constructor
  · intro h
    rw [decide_eq_true h] at n1
    have e : f_wrong_part [.va (.int l), .va .non, .va (.int b), .va (.int e)] = .ok (.va .non) [] := by
      simp [f_wrong_part, b_wrong_part, Mir.bnd, Mir.ret, Mir.opt, Mir.rdv, Mir.rdf, Mir.giv, Mir.mVa, Mir.mFz, Mir.un, Mir.bin, Mir.binP, Mir.binQ, Mir.binPQ, Mir.pk, Mir.iI, Mir.iB, Mir.cT, Mir.dSub, Mir.dMulI, Mir.dDiv, Mir.dMod, Mir.dPow, Mir.dLt, Mir.dLe, Mir.dGt, Mir.dGe, Mir.dAdd, Mir.dMul, Mir.dAddI, Mir.dEq, Mir.dNe, Mir.dIsN, Mir.dNotN, Mir.isN, Mir.dIx, Mir.dNeg, Mir.dNot, Mir.thenS, Mir.sq, Mir.ifS, Mir.retS, Mir.asgS, Mir.asgT, Mir.dropS, Mir.forS, Mir.parS, Mir.putE, Mir.hasO, Mir.hasM, Mir.updO, Mir.appS, Mir.extS, Mir.revS, Mir.clrS, Mir.setS, Mir.augS, Mir.mCons, Mir.lCons, Mir.cb, Mir.f1, Mir.f2, Mir.lenD, Mir.absD, Mir.intD, Mir.maxD, Mir.minD, Mir.dTup, Mir.dLst, Mir.callA, Mir.callB, Mir.callC, Mir.callT, Mir.callM, Mir.sls, Mir.outE, Mir.hasB, Mir.lfR, Mir.runDef, Mir.fin, Mir.ownAt, Mir.mIf, Mir.mAnd, Mir.mOr, Mir.mNot, Mir.vAnd, Mir.vOr, Mir.truD, Mir.asB, Mir.asI, Mir.bN, Mir.bT, Mir.bCons, Mir.bNil, Mir.slE, Mir.slP, Mir.dSl, Mir.seqD, Mir.listD, Mir.tupleD, Mir.sumD, Mir.allD, Mir.anyD, Mir.isiD, Mir.isi1, Mir.isiTD, Mir.tyN, Mir.clsN, Mir.anyK, n1, c1]
    simp [f_Place_init, e, isN, plD, Spt.fs]
  · intro h
    rw [decide_eq_false h] at n1
    have e : f_wrong_part [.va (.int l), .va .non, .va (.int b), .va (.int e)] = .ok (.va (.str "line")) [] := by
      simp [f_wrong_part, b_wrong_part, Mir.bnd, Mir.ret, Mir.opt, Mir.rdv, Mir.rdf, Mir.giv, Mir.mVa, Mir.mFz, Mir.un, Mir.bin, Mir.binP, Mir.binQ, Mir.binPQ, Mir.pk, Mir.iI, Mir.iB, Mir.cT, Mir.dSub, Mir.dMulI, Mir.dDiv, Mir.dMod, Mir.dPow, Mir.dLt, Mir.dLe, Mir.dGt, Mir.dGe, Mir.dAdd, Mir.dMul, Mir.dAddI, Mir.dEq, Mir.dNe, Mir.dIsN, Mir.dNotN, Mir.isN, Mir.dIx, Mir.dNeg, Mir.dNot, Mir.thenS, Mir.sq, Mir.ifS, Mir.retS, Mir.asgS, Mir.asgT, Mir.dropS, Mir.forS, Mir.parS, Mir.putE, Mir.hasO, Mir.hasM, Mir.updO, Mir.appS, Mir.extS, Mir.revS, Mir.clrS, Mir.setS, Mir.augS, Mir.mCons, Mir.lCons, Mir.cb, Mir.f1, Mir.f2, Mir.lenD, Mir.absD, Mir.intD, Mir.maxD, Mir.minD, Mir.dTup, Mir.dLst, Mir.callA, Mir.callB, Mir.callC, Mir.callT, Mir.callM, Mir.sls, Mir.outE, Mir.hasB, Mir.lfR, Mir.runDef, Mir.fin, Mir.ownAt, Mir.mIf, Mir.mAnd, Mir.mOr, Mir.mNot, Mir.vAnd, Mir.vOr, Mir.truD, Mir.asB, Mir.asI, Mir.bN, Mir.bT, Mir.bCons, Mir.bNil, Mir.slE, Mir.slP, Mir.dSl, Mir.seqD, Mir.listD, Mir.tupleD, Mir.sumD, Mir.allD, Mir.anyD, Mir.isiD, Mir.isi1, Mir.isiTD, Mir.tyN, Mir.clsN, Mir.anyK, n1]
    simp [f_Place_init, e, fit_line]
/-- both lines told, the columns fine or none -/
theorem part_two {l m : Int} {bg en : D} {k : Bool} (hm : l ≤ m ∧ m ≤ l + 99) (hc : f_wrong_columns [.va bg, .va en, .va (.bl (decide (m = l)))] = .ok (.va .non) []) :
    (1 ≤ l ∧ m ≤ 1000000 → f_wrong_part [.va (.int l), .va (.int m), .va bg, .va en] = .ok (.va .non) []) ∧ (¬ (1 ≤ l ∧ m ≤ 1000000) → ∃ z, (z = ("line" : Str) ∨ z = ("last" : Str)) ∧ f_wrong_part [.va (.int l), .va (.int m), .va bg, .va en] = .ok (.va (.str z)) []) := by
  have n1 := num_int l 1 1000000
  generalize em : (if (1000000 : Int) < l + 99 then 1000000 else l + 99) = mn
  have n2 := num_int m l mn
  constructor
  · intro h
    have h1 : 1 ≤ l ∧ l ≤ 1000000 := by omega
    have h2 : l ≤ m ∧ m ≤ mn := by subst em; split <;> omega
    rw [decide_eq_true h1] at n1
    rw [decide_eq_true h2] at n2
    simp [f_wrong_part, b_wrong_part, Mir.bnd, Mir.ret, Mir.opt, Mir.rdv, Mir.rdf, Mir.giv, Mir.mVa, Mir.mFz, Mir.un, Mir.bin, Mir.binP, Mir.binQ, Mir.binPQ, Mir.pk, Mir.iI, Mir.iB, Mir.cT, Mir.dSub, Mir.dMulI, Mir.dDiv, Mir.dMod, Mir.dPow, Mir.dLt, Mir.dLe, Mir.dGt, Mir.dGe, Mir.dAdd, Mir.dMul, Mir.dAddI, Mir.dEq, Mir.dNe, Mir.dIsN, Mir.dNotN, Mir.isN, Mir.dIx, Mir.dNeg, Mir.dNot, Mir.thenS, Mir.sq, Mir.ifS, Mir.retS, Mir.asgS, Mir.asgT, Mir.dropS, Mir.forS, Mir.parS, Mir.putE, Mir.hasO, Mir.hasM, Mir.updO, Mir.appS, Mir.extS, Mir.revS, Mir.clrS, Mir.setS, Mir.augS, Mir.mCons, Mir.lCons, Mir.cb, Mir.f1, Mir.f2, Mir.lenD, Mir.absD, Mir.intD, Mir.maxD, Mir.minD, Mir.dTup, Mir.dLst, Mir.callA, Mir.callB, Mir.callC, Mir.callT, Mir.callM, Mir.sls, Mir.outE, Mir.hasB, Mir.lfR, Mir.runDef, Mir.fin, Mir.ownAt, Mir.mIf, Mir.mAnd, Mir.mOr, Mir.mNot, Mir.vAnd, Mir.vOr, Mir.truD, Mir.asB, Mir.asI, Mir.bN, Mir.bT, Mir.bCons, Mir.bNil, Mir.slE, Mir.slP, Mir.dSl, Mir.seqD, Mir.listD, Mir.tupleD, Mir.sumD, Mir.allD, Mir.anyD, Mir.isiD, Mir.isi1, Mir.isiTD, Mir.tyN, Mir.clsN, Mir.anyK, n1, em, n2, hc]
  · intro h
    by_cases h1 : 1 ≤ l ∧ l ≤ 1000000
    · have h2 : ¬ (l ≤ m ∧ m ≤ mn) := by subst em; split <;> omega
      rw [decide_eq_true h1] at n1
      rw [decide_eq_false h2] at n2
      exact ⟨"last", .inr rfl, by simp [f_wrong_part, b_wrong_part, Mir.bnd, Mir.ret, Mir.opt, Mir.rdv, Mir.rdf, Mir.giv, Mir.mVa, Mir.mFz, Mir.un, Mir.bin, Mir.binP, Mir.binQ, Mir.binPQ, Mir.pk, Mir.iI, Mir.iB, Mir.cT, Mir.dSub, Mir.dMulI, Mir.dDiv, Mir.dMod, Mir.dPow, Mir.dLt, Mir.dLe, Mir.dGt, Mir.dGe, Mir.dAdd, Mir.dMul, Mir.dAddI, Mir.dEq, Mir.dNe, Mir.dIsN, Mir.dNotN, Mir.isN, Mir.dIx, Mir.dNeg, Mir.dNot, Mir.thenS, Mir.sq, Mir.ifS, Mir.retS, Mir.asgS, Mir.asgT, Mir.dropS, Mir.forS, Mir.parS, Mir.putE, Mir.hasO, Mir.hasM, Mir.updO, Mir.appS, Mir.extS, Mir.revS, Mir.clrS, Mir.setS, Mir.augS, Mir.mCons, Mir.lCons, Mir.cb, Mir.f1, Mir.f2, Mir.lenD, Mir.absD, Mir.intD, Mir.maxD, Mir.minD, Mir.dTup, Mir.dLst, Mir.callA, Mir.callB, Mir.callC, Mir.callT, Mir.callM, Mir.sls, Mir.outE, Mir.hasB, Mir.lfR, Mir.runDef, Mir.fin, Mir.ownAt, Mir.mIf, Mir.mAnd, Mir.mOr, Mir.mNot, Mir.vAnd, Mir.vOr, Mir.truD, Mir.asB, Mir.asI, Mir.bN, Mir.bT, Mir.bCons, Mir.bNil, Mir.slE, Mir.slP, Mir.dSl, Mir.seqD, Mir.listD, Mir.tupleD, Mir.sumD, Mir.allD, Mir.anyD, Mir.isiD, Mir.isi1, Mir.isiTD, Mir.tyN, Mir.clsN, Mir.anyK, n1, em, n2]⟩
    · rw [decide_eq_false h1] at n1
      exact ⟨"line", .inl rfl, by simp [f_wrong_part, b_wrong_part, Mir.bnd, Mir.ret, Mir.opt, Mir.rdv, Mir.rdf, Mir.giv, Mir.mVa, Mir.mFz, Mir.un, Mir.bin, Mir.binP, Mir.binQ, Mir.binPQ, Mir.pk, Mir.iI, Mir.iB, Mir.cT, Mir.dSub, Mir.dMulI, Mir.dDiv, Mir.dMod, Mir.dPow, Mir.dLt, Mir.dLe, Mir.dGt, Mir.dGe, Mir.dAdd, Mir.dMul, Mir.dAddI, Mir.dEq, Mir.dNe, Mir.dIsN, Mir.dNotN, Mir.isN, Mir.dIx, Mir.dNeg, Mir.dNot, Mir.thenS, Mir.sq, Mir.ifS, Mir.retS, Mir.asgS, Mir.asgT, Mir.dropS, Mir.forS, Mir.parS, Mir.putE, Mir.hasO, Mir.hasM, Mir.updO, Mir.appS, Mir.extS, Mir.revS, Mir.clrS, Mir.setS, Mir.augS, Mir.mCons, Mir.lCons, Mir.cb, Mir.f1, Mir.f2, Mir.lenD, Mir.absD, Mir.intD, Mir.maxD, Mir.minD, Mir.dTup, Mir.dLst, Mir.callA, Mir.callB, Mir.callC, Mir.callT, Mir.callM, Mir.sls, Mir.outE, Mir.hasB, Mir.lfR, Mir.runDef, Mir.fin, Mir.ownAt, Mir.mIf, Mir.mAnd, Mir.mOr, Mir.mNot, Mir.vAnd, Mir.vOr, Mir.truD, Mir.asB, Mir.asI, Mir.bN, Mir.bT, Mir.bCons, Mir.bNil, Mir.slE, Mir.slP, Mir.dSl, Mir.seqD, Mir.listD, Mir.tupleD, Mir.sumD, Mir.allD, Mir.anyD, Mir.isiD, Mir.isi1, Mir.isiTD, Mir.tyN, Mir.clsN, Mir.anyK, n1]⟩
theorem mk_pa (l m b e : Int) (h : (Spt.pa l m b e).shp) : (1 ≤ l ∧ m ≤ 1000000 → f_Place_init [.va (.int l), .va (.int m), .va (.int b), .va (.int e)] = .ok (.va (plD (.pa l m b e))) []) ∧ (¬ (1 ≤ l ∧ m ≤ 1000000) → ∃ z, f_Place_init [.va (.int l), .va (.int m), .va (.int b), .va (.int e)] = .ex "BadPlace" "part" (.str z) []) := by
  obtain ⟨h1, h2, h3, h4, h5, h6, h7⟩ := h
  have c1 := cols_ii b e (decide (m = l))
  rw [if_pos ⟨h3, h4⟩, if_pos (by
    by_cases z : m = l
    · rw [decide_eq_true z, if_pos rfl]; exact ⟨h7 z.symm, h6⟩
    · rw [decide_eq_false z]; simp; omega)] at c1
  obtain ⟨p1, p2⟩ := part_two (k := true) ⟨h1, h2⟩ c1
  constructor
  · intro h
    simp [f_Place_init, p1 h, isN, plD, Spt.fs]
  · intro h
    obtain ⟨z, hz, p⟩ := p2 h
    refine ⟨z, ?_⟩
    rcases hz with rfl | rfl
    · simp [f_Place_init, p, fit_line]
    · simp [f_Place_init, p, fit_last]
end My

namespace My
open PySem PySem.Spec PyProof.Rows L2 Mir
local macro_rules | `(tactic| decreasing_trivial_pre_omega) => `(tactic| repeat' (with_reducible first | (refine gd_We ?_; first | refine e_bnd ?_ | refine e_ret ?_ | refine e_rdv (by with_unfolding_all rfl) ?_ | refine e_mVa ?_ | (refine gd_opt ?_; first | refine e_opt (by assumption) ?_ | (refine gd_isN ?_; first | refine d_isN_non ?_ | refine d_isN_int ?_ | refine d_isN_lst ?_ | refine d_isN_tup ?_ | refine d_isN_str ?_ | refine d_isN_ob ?_ | refine d_isN_exn ?_ | refine d_isN_bl ?_ | fail) | (refine gd_notN ?_; first | refine d_notN_non ?_ | refine d_notN_int ?_ | refine d_notN_lst ?_ | refine d_notN_tup ?_ | refine d_notN_str ?_ | refine d_notN_ob ?_ | refine d_notN_exn ?_ | refine d_notN_bl ?_ | fail) | (refine gd_ix ?_; first | (refine d_ix2 (by omega) (by omega) (fun v hv => ?_)) | (refine d_ix3 (by omega) (by omega) (fun v hv => ?_)) | (refine d_ix4 (by omega) (by omega) (fun v hv => ?_)) | (refine d_ix5 (by omega) (by omega) (fun v hv => ?_)) | (refine d_ix6 (by omega) (by omega) (fun v hv => ?_)) | (refine d_ix7 (by omega) (by omega) (fun v hv => ?_)) | (refine d_ix8 (by omega) (by omega) (fun v hv => ?_)) | (refine d_ix9 (by omega) (by omega) (fun v hv => ?_)) | (refine d_ix10 (by omega) (by omega) (fun v hv => ?_)) | (refine d_ix11 (by omega) (by omega) (fun v hv => ?_)) | (refine d_ix12 (by omega) (by omega) (fun v hv => ?_)) | (refine d_ix13 (by omega) (by omega) (fun v hv => ?_)) | fail) | refine d_sub ?_ | refine d_add ?_ | refine d_addI ?_ | refine d_addL (by first | decide | (simp; done) | (simp; omega)) ?_ | refine d_addT (by first | decide | (simp; done) | (simp; omega)) ?_ | refine d_mul (by first | exact cMul_r (by omega) (by omega) | exact cMul_l (by omega) (by omega)) ?_ | refine d_mulI (by first | exact cMul_r (by omega) (by omega) | exact cMul_l (by omega) (by omega)) ?_ | refine d_rep (by omega) (by omega) ?_ | refine d_div (by omega) (by omega) ?_ | refine d_mod (by omega) ?_ | refine d_pow6 ?_ | refine d_pow4 ?_ | refine d_pow18 ?_ | refine d_neg ?_ | refine d_lt ?_ | refine d_le ?_ | refine d_gt ?_ | refine d_ge ?_ | refine d_eq ?_ | refine d_ne ?_ | refine d_eqB ?_ | refine d_neB ?_ | refine d_asB ?_ | refine d_asB2 ?_ | refine d_clt ?_ | refine d_cle ?_ | refine d_cgt ?_ | refine d_cge ?_ | refine d_ceq ?_ | refine d_truB ?_ | refine d_truI ?_ | refine d_truL ?_ | refine d_truN ?_ | refine d_notD ?_ | refine d_asI ?_ | refine d_lenL ?_ | refine d_lenT ?_ | refine d_lenS ?_ | refine d_lenL1 ?_ | refine d_lenT1 ?_ | refine d_abs ?_ | refine d_int ?_ | refine d_intB ?_ | refine d_min ?_ | refine d_max ?_ | refine d_tup (by first | (with_unfolding_all exact Nat.le_of_ble_eq_true rfl) | (simp; done)) ?_ | refine d_lst (by first | (with_unfolding_all exact Nat.le_of_ble_eq_true rfl) | (simp; done)) ?_ | refine d_seqL ?_ | refine d_seqT ?_ | refine d_listL ?_ | refine d_listT ?_ | refine d_tupL ?_ | refine d_tupT ?_ | refine d_rng1 (by omega) (by omega) ?_ | refine d_rng2 (by omega) (by omega) (by omega) (by omega) ?_ | refine d_slLo (by omega) ?_ | refine d_slHi (by omega) ?_ | refine d_slLoT (by omega) ?_ | refine d_slHiT (by omega) ?_ | refine d_str (by omega) (by omega) ?_ | refine d_pow30 ?_ | refine d_kt (by first | assumption | rfl) ?_ | refine d_divmod (by omega) (by omega) ?_ | refine d_revL ?_ | refine d_xor ?_ | refine e_opt (by assumption) ?_ | fail) | refine e_mFz ?_ | refine e_mCons ?_ | refine e_lCons ?_ | refine e_givV (by with_unfolding_all rfl) ?_ | refine e_givO (by with_unfolding_all rfl) (by (simp only [List.set_cons_succ, List.set_cons_zero]; with_unfolding_all rfl)) ?_ | refine e_rdfV (by with_unfolding_all rfl) ?_ | refine e_rdfO (by with_unfolding_all rfl) (by (simp only [List.set_cons_succ, List.set_cons_zero]; with_unfolding_all rfl)) ?_ | refine e_pkV (by with_unfolding_all rfl) ?_ | refine e_pkO (by with_unfolding_all rfl) ?_ | refine e_hasV (by with_unfolding_all rfl) ?_ | refine e_hasO (by with_unfolding_all rfl) ?_ | refine e_binPO (by with_unfolding_all rfl) ?_ | refine e_binPV (by with_unfolding_all rfl) ?_ | refine e_mIf ?_ | refine e_mAnd ?_ | refine e_mOr ?_ | refine e_mNot ?_ | refine e_vAnd ?_ | refine e_vOr ?_ | refine e_chn ?_ | refine e_callN (by first | (simp only [sls, List.getElem?_cons_zero, List.getElem?_cons_succ, Option.map_some]; with_unfolding_all rfl) | with_unfolding_all rfl) (by with_unfolding_all rfl) ?_ | refine e_callO (by first | (simp only [sls, List.set_cons_succ, List.set_cons_zero, List.getElem?_cons_zero, List.getElem?_cons_succ, Option.map_some]; with_unfolding_all rfl) | with_unfolding_all rfl) (by with_unfolding_all rfl) (by with_unfolding_all rfl) ?_ | refine e_callB (by first | (simp only [sls, List.getElem?_cons_zero, List.getElem?_cons_succ, Option.map_some]; with_unfolding_all rfl) | with_unfolding_all rfl) ?_ | refine e_lc ?_ | refine e_mk (by first | (simp only [List.map_cons, List.map_nil]; with_unfolding_all rfl) | with_unfolding_all rfl) ?_ | refine e_mth ?_ | refine e_mth0 ?_ | refine e_lst ?_ | refine e_iteT (by with_unfolding_all (first | exact ⟨rfl, rfl⟩ | exact rfl)) ?_ | refine e_star ?_ | refine e_chn3 ?_ | refine e_lc2 ?_ | refine e_slP ?_ | fail) | (refine gd_Wt ?_; first | refine s_sq ?_ | refine s_nx ?_ | refine s_ct ?_ | refine s_bk ?_ | refine s_if ?_ | refine s_ret ?_ | refine s_asg ?_ | refine s_drop ?_ | refine s_asgT ?_ | refine s_par ?_ | refine s_app (by with_unfolding_all rfl) ?_ | refine s_ext (by with_unfolding_all rfl) ?_ | refine s_aug (by with_unfolding_all rfl) ?_ | refine s_for ?_ | refine s_raise ?_ | refine s_try ?_ | refine s_set ?_ | refine s_tryO ?_ | refine s_tryR ?_ | refine s_tryA ?_ | refine s_rev (by with_unfolding_all rfl) (by (simp only [List.set_cons_succ, List.set_cons_zero]; with_unfolding_all rfl)) ?_ | refine s_clr (by with_unfolding_all rfl) (by (simp only [List.set_cons_succ, List.set_cons_zero]; with_unfolding_all rfl)) ?_ | fail) | (refine gd_ite ?_; first | refine i_true ?_ | refine i_false ?_ | refine i_decT (by omega) ?_ | refine i_decF (by omega) ?_ | (refine i_dec (fun hc => ?_) (fun hc => ?_)) | refine i_ndecT (by omega) ?_ | refine i_ndecF (by omega) ?_ | (refine i_ndec (fun hc => ?_) (fun hc => ?_)) | refine i_not ?_ | fail) | refine k_va ?_ | refine k_ow ?_ | refine k_st (by (simp only [List.set_cons_succ, List.set_cons_zero]; with_unfolding_all rfl)) ?_ | refine k_tg (by first | (simp only [bT, bCons, bNil, bN, Option.bind_some, List.set_cons_succ, List.set_cons_zero]; with_unfolding_all rfl) | with_unfolding_all rfl) ?_ | refine k_par (by with_unfolding_all rfl) (by first | (simp only [putE, List.set_cons_succ, List.set_cons_zero]; with_unfolding_all rfl) | with_unfolding_all rfl) ?_ | refine k_app (by with_unfolding_all rfl) (by first | (simp; done) | (simp; omega) | omega) (by (simp only [List.set_cons_succ, List.set_cons_zero]; with_unfolding_all rfl)) ?_ | refine k_ext (by with_unfolding_all rfl) (by first | (simp; done) | (simp; omega) | omega) (by (simp only [List.set_cons_succ, List.set_cons_zero]; with_unfolding_all rfl)) ?_ | refine k_augA (by (simp only [List.set_cons_succ, List.set_cons_zero]; with_unfolding_all rfl)) ?_ | refine k_augS (by (simp only [List.set_cons_succ, List.set_cons_zero]; with_unfolding_all rfl)) ?_ | refine k_set1 (by with_unfolding_all rfl) ?_ | refine k_set2 (by with_unfolding_all rfl) (by omega) (by omega) (by (simp only [List.set_cons_succ, List.set_cons_zero]; with_unfolding_all rfl)) ?_ | refine k_bk (by simp only [back, List.getD_cons_zero, List.getD_cons_succ, List.set_cons_zero, List.set_cons_succ]; with_unfolding_all rfl) ?_ | refine k_lc (by with_unfolding_all rfl) (by simp only [wipeE, List.set_cons_zero, List.set_cons_succ]; with_unfolding_all rfl) ?_ | refine f_ok (by assumption) ?_ | refine f_ex (by assumption) ?_ | refine k_mk ?_ | refine k_lsW ?_ | refine k_ob (by first | assumption | with_unfolding_all rfl) ?_ | refine k_lc2 (by with_unfolding_all rfl) (by simp only [wipeE, List.set_cons_zero, List.set_cons_succ]; with_unfolding_all rfl) ?_ | refine k_augM (by first | exact cMul_r (by omega) (by omega) | exact cMul_l (by omega) (by omega)) (by (simp only [List.set_cons_succ, List.set_cons_zero]; with_unfolding_all rfl)) ?_ | refine k_augD (by omega) (by omega) (by (simp only [List.set_cons_succ, List.set_cons_zero]; with_unfolding_all rfl)) ?_ | refine take_w (by assumption) (by omega) (by omega) (by omega) (fun v b hv1 hv2 hb => ?_) | fail))
local macro_rules | `(tactic| decreasing_trivial) => `(tactic| repeat' (with_reducible first | (refine gd_We ?_; first | refine e_bnd ?_ | refine e_ret ?_ | refine e_rdv (by with_unfolding_all rfl) ?_ | refine e_mVa ?_ | (refine gd_opt ?_; first | refine e_opt (by assumption) ?_ | (refine gd_isN ?_; first | refine d_isN_non ?_ | refine d_isN_int ?_ | refine d_isN_lst ?_ | refine d_isN_tup ?_ | refine d_isN_str ?_ | refine d_isN_ob ?_ | refine d_isN_exn ?_ | refine d_isN_bl ?_ | fail) | (refine gd_notN ?_; first | refine d_notN_non ?_ | refine d_notN_int ?_ | refine d_notN_lst ?_ | refine d_notN_tup ?_ | refine d_notN_str ?_ | refine d_notN_ob ?_ | refine d_notN_exn ?_ | refine d_notN_bl ?_ | fail) | (refine gd_ix ?_; first | (refine d_ix2 (by omega) (by omega) (fun v hv => ?_)) | (refine d_ix3 (by omega) (by omega) (fun v hv => ?_)) | (refine d_ix4 (by omega) (by omega) (fun v hv => ?_)) | (refine d_ix5 (by omega) (by omega) (fun v hv => ?_)) | (refine d_ix6 (by omega) (by omega) (fun v hv => ?_)) | (refine d_ix7 (by omega) (by omega) (fun v hv => ?_)) | (refine d_ix8 (by omega) (by omega) (fun v hv => ?_)) | (refine d_ix9 (by omega) (by omega) (fun v hv => ?_)) | (refine d_ix10 (by omega) (by omega) (fun v hv => ?_)) | (refine d_ix11 (by omega) (by omega) (fun v hv => ?_)) | (refine d_ix12 (by omega) (by omega) (fun v hv => ?_)) | (refine d_ix13 (by omega) (by omega) (fun v hv => ?_)) | fail) | refine d_sub ?_ | refine d_add ?_ | refine d_addI ?_ | refine d_addL (by first | decide | (simp; done) | (simp; omega)) ?_ | refine d_addT (by first | decide | (simp; done) | (simp; omega)) ?_ | refine d_mul (by first | exact cMul_r (by omega) (by omega) | exact cMul_l (by omega) (by omega)) ?_ | refine d_mulI (by first | exact cMul_r (by omega) (by omega) | exact cMul_l (by omega) (by omega)) ?_ | refine d_rep (by omega) (by omega) ?_ | refine d_div (by omega) (by omega) ?_ | refine d_mod (by omega) ?_ | refine d_pow6 ?_ | refine d_pow4 ?_ | refine d_pow18 ?_ | refine d_neg ?_ | refine d_lt ?_ | refine d_le ?_ | refine d_gt ?_ | refine d_ge ?_ | refine d_eq ?_ | refine d_ne ?_ | refine d_eqB ?_ | refine d_neB ?_ | refine d_asB ?_ | refine d_asB2 ?_ | refine d_clt ?_ | refine d_cle ?_ | refine d_cgt ?_ | refine d_cge ?_ | refine d_ceq ?_ | refine d_truB ?_ | refine d_truI ?_ | refine d_truL ?_ | refine d_truN ?_ | refine d_notD ?_ | refine d_asI ?_ | refine d_lenL ?_ | refine d_lenT ?_ | refine d_lenS ?_ | refine d_lenL1 ?_ | refine d_lenT1 ?_ | refine d_abs ?_ | refine d_int ?_ | refine d_intB ?_ | refine d_min ?_ | refine d_max ?_ | refine d_tup (by first | (with_unfolding_all exact Nat.le_of_ble_eq_true rfl) | (simp; done)) ?_ | refine d_lst (by first | (with_unfolding_all exact Nat.le_of_ble_eq_true rfl) | (simp; done)) ?_ | refine d_seqL ?_ | refine d_seqT ?_ | refine d_listL ?_ | refine d_listT ?_ | refine d_tupL ?_ | refine d_tupT ?_ | refine d_rng1 (by omega) (by omega) ?_ | refine d_rng2 (by omega) (by omega) (by omega) (by omega) ?_ | refine d_slLo (by omega) ?_ | refine d_slHi (by omega) ?_ | refine d_slLoT (by omega) ?_ | refine d_slHiT (by omega) ?_ | refine d_str (by omega) (by omega) ?_ | refine d_pow30 ?_ | refine d_kt (by first | assumption | rfl) ?_ | refine d_divmod (by omega) (by omega) ?_ | refine d_revL ?_ | refine d_xor ?_ | refine e_opt (by assumption) ?_ | fail) | refine e_mFz ?_ | refine e_mCons ?_ | refine e_lCons ?_ | refine e_givV (by with_unfolding_all rfl) ?_ | refine e_givO (by with_unfolding_all rfl) (by (simp only [List.set_cons_succ, List.set_cons_zero]; with_unfolding_all rfl)) ?_ | refine e_rdfV (by with_unfolding_all rfl) ?_ | refine e_rdfO (by with_unfolding_all rfl) (by (simp only [List.set_cons_succ, List.set_cons_zero]; with_unfolding_all rfl)) ?_ | refine e_pkV (by with_unfolding_all rfl) ?_ | refine e_pkO (by with_unfolding_all rfl) ?_ | refine e_hasV (by with_unfolding_all rfl) ?_ | refine e_hasO (by with_unfolding_all rfl) ?_ | refine e_binPO (by with_unfolding_all rfl) ?_ | refine e_binPV (by with_unfolding_all rfl) ?_ | refine e_mIf ?_ | refine e_mAnd ?_ | refine e_mOr ?_ | refine e_mNot ?_ | refine e_vAnd ?_ | refine e_vOr ?_ | refine e_chn ?_ | refine e_callN (by first | (simp only [sls, List.getElem?_cons_zero, List.getElem?_cons_succ, Option.map_some]; with_unfolding_all rfl) | with_unfolding_all rfl) (by with_unfolding_all rfl) ?_ | refine e_callO (by first | (simp only [sls, List.set_cons_succ, List.set_cons_zero, List.getElem?_cons_zero, List.getElem?_cons_succ, Option.map_some]; with_unfolding_all rfl) | with_unfolding_all rfl) (by with_unfolding_all rfl) (by with_unfolding_all rfl) ?_ | refine e_callB (by first | (simp only [sls, List.getElem?_cons_zero, List.getElem?_cons_succ, Option.map_some]; with_unfolding_all rfl) | with_unfolding_all rfl) ?_ | refine e_lc ?_ | refine e_mk (by first | (simp only [List.map_cons, List.map_nil]; with_unfolding_all rfl) | with_unfolding_all rfl) ?_ | refine e_mth ?_ | refine e_mth0 ?_ | refine e_lst ?_ | refine e_iteT (by with_unfolding_all (first | exact ⟨rfl, rfl⟩ | exact rfl)) ?_ | refine e_star ?_ | refine e_chn3 ?_ | refine e_lc2 ?_ | refine e_slP ?_ | fail) | (refine gd_Wt ?_; first | refine s_nx ?_ | refine s_ct ?_ | refine s_bk ?_ | refine s_if ?_ | refine s_ret ?_ | refine s_asg ?_ | refine s_drop ?_ | refine s_asgT ?_ | refine s_par ?_ | refine s_app (by with_unfolding_all rfl) ?_ | refine s_ext (by with_unfolding_all rfl) ?_ | refine s_aug (by with_unfolding_all rfl) ?_ | refine s_for ?_ | refine s_raise ?_ | refine s_try ?_ | refine s_set ?_ | refine s_tryO ?_ | refine s_tryR ?_ | refine s_tryA ?_ | refine s_rev (by with_unfolding_all rfl) (by (simp only [List.set_cons_succ, List.set_cons_zero]; with_unfolding_all rfl)) ?_ | refine s_clr (by with_unfolding_all rfl) (by (simp only [List.set_cons_succ, List.set_cons_zero]; with_unfolding_all rfl)) ?_ | fail) | (refine gd_ite ?_; first | refine i_true ?_ | refine i_false ?_ | refine i_decT (by omega) ?_ | refine i_decF (by omega) ?_ | (refine i_dec (fun hc => ?_) (fun hc => ?_)) | refine i_ndecT (by omega) ?_ | refine i_ndecF (by omega) ?_ | (refine i_ndec (fun hc => ?_) (fun hc => ?_)) | refine i_not ?_ | fail) | refine k_va ?_ | refine k_ow ?_ | refine k_st (by (simp only [List.set_cons_succ, List.set_cons_zero]; with_unfolding_all rfl)) ?_ | refine k_tg (by first | (simp only [bT, bCons, bNil, bN, Option.bind_some, List.set_cons_succ, List.set_cons_zero]; with_unfolding_all rfl) | with_unfolding_all rfl) ?_ | refine k_par (by with_unfolding_all rfl) (by first | (simp only [putE, List.set_cons_succ, List.set_cons_zero]; with_unfolding_all rfl) | with_unfolding_all rfl) ?_ | refine k_app (by with_unfolding_all rfl) (by first | (simp; done) | (simp; omega) | omega) (by (simp only [List.set_cons_succ, List.set_cons_zero]; with_unfolding_all rfl)) ?_ | refine k_ext (by with_unfolding_all rfl) (by first | (simp; done) | (simp; omega) | omega) (by (simp only [List.set_cons_succ, List.set_cons_zero]; with_unfolding_all rfl)) ?_ | refine k_augA (by (simp only [List.set_cons_succ, List.set_cons_zero]; with_unfolding_all rfl)) ?_ | refine k_augS (by (simp only [List.set_cons_succ, List.set_cons_zero]; with_unfolding_all rfl)) ?_ | refine k_set1 (by with_unfolding_all rfl) ?_ | refine k_set2 (by with_unfolding_all rfl) (by omega) (by omega) (by (simp only [List.set_cons_succ, List.set_cons_zero]; with_unfolding_all rfl)) ?_ | refine k_bk (by simp only [back, List.getD_cons_zero, List.getD_cons_succ, List.set_cons_zero, List.set_cons_succ]; with_unfolding_all rfl) ?_ | refine k_lc (by with_unfolding_all rfl) (by simp only [wipeE, List.set_cons_zero, List.set_cons_succ]; with_unfolding_all rfl) ?_ | refine f_ok (by assumption) ?_ | refine f_ex (by assumption) ?_ | refine k_mk ?_ | refine k_lsW ?_ | refine k_ob (by first | assumption | with_unfolding_all rfl) ?_ | refine k_lc2 (by with_unfolding_all rfl) (by simp only [wipeE, List.set_cons_zero, List.set_cons_succ]; with_unfolding_all rfl) ?_ | refine k_augM (by first | exact cMul_r (by omega) (by omega) | exact cMul_l (by omega) (by omega)) (by (simp only [List.set_cons_succ, List.set_cons_zero]; with_unfolding_all rfl)) ?_ | refine k_augD (by omega) (by omega) (by (simp only [List.set_cons_succ, List.set_cons_zero]; with_unfolding_all rfl)) ?_ | refine take_w (by assumption) (by omega) (by omega) (by omega) (fun v b hv1 hv2 hb => ?_) | fail))
def Spt.gd (s : Spt) : Prop := s.shp ∧ s.rg = true
theorem gd_li {l : Int} (h0 : 1 ≤ l) (h1 : l ≤ 1000000) : (Spt.li l).gd := ⟨trivial, by simp [Spt.rg]; omega⟩
theorem gd_pa {l m b e : Int} (h0 : 1 ≤ l) (h1 : l ≤ m) (h2 : m ≤ l + 99) (h3 : m ≤ 1000000) (h4 : 0 ≤ b) (h5 : b ≤ 10000) (h6 : 0 ≤ e) (h7 : e ≤ 10000) (h8 : l = m → b ≤ e) : (Spt.pa l m b e).gd := ⟨⟨h1, h2, h4, h5, h6, h7, h8⟩, by simp [Spt.rg]; omega⟩
theorem seen_w {s : Spt} {Q : Sl → List D → Prop} {X : XB} (q : Q (.va (spD s)) []) : Wf (f_l_seen [.va (plD s)]) Q X := by
  have g4 : f2 (isiOD io) [plD s, .cls "Place"] = some (.bl true) := rfl
  have g0 := fld_line s
  have g1 := fld_last s
  have g2 := fld_begin s
  have g3 := fld_end s
  have e : spD s = .tup [s.fs.getD 0 .non, s.fs.getD 1 .non, s.fs.getD 2 .non, s.fs.getD 3 .non] := by cases s <;> rfl
  rw [e] at q
  generalize plD s = p at *
  refine f_def (by simp only [List.map_cons, List.map_nil, List.length_cons, List.length_nil, Nat.reduceAdd, Nat.reduceSub, List.replicate_succ, List.replicate_zero, List.cons_append, List.nil_append, List.append_nil]; rfl) ?_
  unfold b_l_seen
  decreasing_trivial_pre_omega
  exact q
theorem place_w {s : Spt} (h : s.gd) {Q : Sl → List D → Prop} {X : XB} (q : Q (.va (plD s)) []) : Wf (f_l_place [.va (spD s)]) Q X := by
  cases s with
  | no =>
    have mn := mk_no
    have i0 : dIx (spD .no) (.int 0) = some .non := rfl
    generalize spD .no = p at *
    unfold plD at mn q
    refine f_def (by simp only [List.map_cons, List.map_nil, List.length_cons, List.length_nil, Nat.reduceAdd, Nat.reduceSub, List.replicate_succ, List.replicate_zero, List.cons_append, List.nil_append, List.append_nil]; rfl) ?_
    unfold b_l_place
    decreasing_trivial_pre_omega
    exact q
  | li l =>
    have hr : 1 ≤ l ∧ l ≤ 1000000 := by have := h.2; simpa [Spt.rg] using this
    have mn := (mk_li l).1 hr
    have i0 : dIx (spD (.li l)) (.int 0) = some (.int l) := rfl
    have i2 : dIx (spD (.li l)) (.int 2) = some .non := rfl
    generalize spD (.li l) = p at *
    unfold plD at mn q
    refine f_def (by simp only [List.map_cons, List.map_nil, List.length_cons, List.length_nil, Nat.reduceAdd, Nat.reduceSub, List.replicate_succ, List.replicate_zero, List.cons_append, List.nil_append, List.append_nil]; rfl) ?_
    unfold b_l_place
    decreasing_trivial_pre_omega
    exact q
  | pa l m b e =>
    have hr : 1 ≤ l ∧ m ≤ 1000000 := by have := h.2; simpa [Spt.rg] using this
    have mn := (mk_pa l m b e h.1).1 hr
    have i0 : dIx (spD (.pa l m b e)) (.int 0) = some (.int l) := rfl
    have i1 : dIx (spD (.pa l m b e)) (.int 1) = some (.int m) := rfl
    have i2 : dIx (spD (.pa l m b e)) (.int 2) = some (.int b) := rfl
    have i3 : dIx (spD (.pa l m b e)) (.int 3) = some (.int e) := rfl
    generalize spD (.pa l m b e) = p at *
    unfold plD at mn q
    refine f_def (by simp only [List.map_cons, List.map_nil, List.length_cons, List.length_nil, Nat.reduceAdd, Nat.reduceSub, List.replicate_succ, List.replicate_zero, List.cons_append, List.nil_append, List.append_nil]; rfl) ?_
    unfold b_l_place
    decreasing_trivial_pre_omega
    exact q
theorem spot_w {b : Box} {n : Nat} {wide : Int} {Q : Sl → List D → Prop} {X : XB} (hb : b.ok n) (hn : n ≤ 900000) (h1 : 0 < wide) (h2 : wide ≤ 1000000)
    (q : ∀ (s : Spt) (b' : Box), s.gd → b'.ok (n + 10) → Q (.va (spD s)) b'.ds) : Wf (f_l_spot [.ow b.ds, .va (.int wide)]) Q X := by
  have q0 : ∀ b' : Box, b'.ok (n + 10) → Q (.va (.tup [.non, .non, .non, .non])) b'.ds := fun b' h => q .no b' ⟨trivial, rfl⟩ h
  have q1 : ∀ (l : Int) (b' : Box), 1 ≤ l → l ≤ 1000000 → b'.ok (n + 10) → Q (.va (.tup [.int l, .int l, .non, .non])) b'.ds := fun l b' g0 g1 h => q (.li l) b' (gd_li g0 g1) h
  have q2 : ∀ (l m x y : Int) (b' : Box), 1 ≤ l → l ≤ m → m ≤ l + 99 → m ≤ 1000000 → 0 ≤ x → x ≤ 10000 → 0 ≤ y → y ≤ 10000 → (l = m → x ≤ y) → b'.ok (n + 10) → Q (.va (.tup [.int l, .int m, .int x, .int y])) b'.ds := fun l m x y b' g0 g1 g2 g3 g4 g5 g6 g7 g8 h => q (.pa l m x y) b' (gd_pa g0 g1 g2 g3 g4 g5 g6 g7 g8) h
  clear q
  refine f_def (by simp only [List.map_cons, List.map_nil, List.length_cons, List.length_nil, Nat.reduceAdd, Nat.reduceSub, List.replicate_succ, List.replicate_zero, List.cons_append, List.nil_append, List.append_nil]; rfl) ?_
  unfold b_l_spot
  decreasing_trivial_pre_omega
  all_goals first
    | exact q0 _ (Box.ok.mono (by assumption) (by omega))
    | exact q1 _ _ (by omega) (by omega) (Box.ok.mono (by assumption) (by omega))
    | exact q2 _ _ _ _ _ (by omega) (by omega) (by omega) (by omega) (by omega) (by omega) (by omega) (by omega) (by omega) (Box.ok.mono (by assumption) (by omega))
theorem later_w {s : Spt} {k : Int} {Q : Sl → List D → Prop} {X : XB} (q : Q (.va (spD (s.sh k))) []) : Wf (f_l_later [.va (spD s), .va (.int k)]) Q X := by
  cases s with
  | no =>
    unfold spD Spt.fs at *
    refine f_def (by simp only [List.map_cons, List.map_nil, List.length_cons, List.length_nil, Nat.reduceAdd, Nat.reduceSub, List.replicate_succ, List.replicate_zero, List.cons_append, List.nil_append, List.append_nil]; rfl) ?_
    unfold b_l_later
    decreasing_trivial_pre_omega
    exact q
  | li l =>
    unfold spD Spt.fs at *
    refine f_def (by simp only [List.map_cons, List.map_nil, List.length_cons, List.length_nil, Nat.reduceAdd, Nat.reduceSub, List.replicate_succ, List.replicate_zero, List.cons_append, List.nil_append, List.append_nil]; rfl) ?_
    unfold b_l_later
    decreasing_trivial_pre_omega
    exact q
  | pa l m x y =>
    unfold spD Spt.fs at *
    refine f_def (by simp only [List.map_cons, List.map_nil, List.length_cons, List.length_nil, Nat.reduceAdd, Nat.reduceSub, List.replicate_succ, List.replicate_zero, List.cons_append, List.nil_append, List.append_nil]; rfl) ?_
    unfold b_l_later
    decreasing_trivial_pre_omega
    exact q
end My

namespace My
open PySem PySem.Spec PyProof.Rows L2 Mir
local macro_rules | `(tactic| decreasing_trivial_pre_omega) => `(tactic| repeat' (with_reducible first | (refine gd_We ?_; first | refine e_bnd ?_ | refine e_ret ?_ | refine e_rdv (by with_unfolding_all rfl) ?_ | refine e_mVa ?_ | (refine gd_opt ?_; first | refine e_opt (by assumption) ?_ | (refine gd_isN ?_; first | refine d_isN_non ?_ | refine d_isN_int ?_ | refine d_isN_lst ?_ | refine d_isN_tup ?_ | refine d_isN_str ?_ | refine d_isN_ob ?_ | refine d_isN_exn ?_ | refine d_isN_bl ?_ | fail) | (refine gd_notN ?_; first | refine d_notN_non ?_ | refine d_notN_int ?_ | refine d_notN_lst ?_ | refine d_notN_tup ?_ | refine d_notN_str ?_ | refine d_notN_ob ?_ | refine d_notN_exn ?_ | refine d_notN_bl ?_ | fail) | (refine gd_ix ?_; first | (refine d_ix2 (by omega) (by omega) (fun v hv => ?_)) | (refine d_ix3 (by omega) (by omega) (fun v hv => ?_)) | (refine d_ix4 (by omega) (by omega) (fun v hv => ?_)) | (refine d_ix5 (by omega) (by omega) (fun v hv => ?_)) | (refine d_ix6 (by omega) (by omega) (fun v hv => ?_)) | (refine d_ix7 (by omega) (by omega) (fun v hv => ?_)) | (refine d_ix8 (by omega) (by omega) (fun v hv => ?_)) | (refine d_ix9 (by omega) (by omega) (fun v hv => ?_)) | (refine d_ix10 (by omega) (by omega) (fun v hv => ?_)) | (refine d_ix11 (by omega) (by omega) (fun v hv => ?_)) | (refine d_ix12 (by omega) (by omega) (fun v hv => ?_)) | (refine d_ix13 (by omega) (by omega) (fun v hv => ?_)) | fail) | refine d_sub ?_ | refine d_add ?_ | refine d_addI ?_ | refine d_addL (by first | decide | (simp; done) | (simp; omega)) ?_ | refine d_addT (by first | decide | (simp; done) | (simp; omega)) ?_ | refine d_mul (by first | exact cMul_r (by omega) (by omega) | exact cMul_l (by omega) (by omega)) ?_ | refine d_mulI (by first | exact cMul_r (by omega) (by omega) | exact cMul_l (by omega) (by omega)) ?_ | refine d_rep (by omega) (by omega) ?_ | refine d_div (by omega) (by omega) ?_ | refine d_mod (by omega) ?_ | refine d_pow6 ?_ | refine d_pow4 ?_ | refine d_pow18 ?_ | refine d_neg ?_ | refine d_lt ?_ | refine d_le ?_ | refine d_gt ?_ | refine d_ge ?_ | refine d_eq ?_ | refine d_ne ?_ | refine d_eqB ?_ | refine d_neB ?_ | refine d_asB ?_ | refine d_asB2 ?_ | refine d_clt ?_ | refine d_cle ?_ | refine d_cgt ?_ | refine d_cge ?_ | refine d_ceq ?_ | refine d_truB ?_ | refine d_truI ?_ | refine d_truL ?_ | refine d_truN ?_ | refine d_notD ?_ | refine d_asI ?_ | refine d_lenL ?_ | refine d_lenT ?_ | refine d_lenS ?_ | refine d_lenL1 ?_ | refine d_lenT1 ?_ | refine d_abs ?_ | refine d_int ?_ | refine d_intB ?_ | refine d_min ?_ | refine d_max ?_ | refine d_tup (by first | (with_unfolding_all exact Nat.le_of_ble_eq_true rfl) | (simp; done)) ?_ | refine d_lst (by first | (with_unfolding_all exact Nat.le_of_ble_eq_true rfl) | (simp; done)) ?_ | refine d_seqL ?_ | refine d_seqT ?_ | refine d_listL ?_ | refine d_listT ?_ | refine d_tupL ?_ | refine d_tupT ?_ | refine d_rng1 (by omega) (by omega) ?_ | refine d_rng2 (by omega) (by omega) (by omega) (by omega) ?_ | refine d_slLo (by omega) ?_ | refine d_slHi (by omega) ?_ | refine d_slLoT (by omega) ?_ | refine d_slHiT (by omega) ?_ | refine d_str (by omega) (by omega) ?_ | refine d_pow30 ?_ | refine d_kt (by first | assumption | rfl) ?_ | refine d_divmod (by omega) (by omega) ?_ | refine d_revL ?_ | refine d_xor ?_ | refine e_opt (by assumption) ?_ | fail) | refine e_mFz ?_ | refine e_mCons ?_ | refine e_lCons ?_ | refine e_givV (by with_unfolding_all rfl) ?_ | refine e_givO (by with_unfolding_all rfl) (by (simp only [List.set_cons_succ, List.set_cons_zero]; with_unfolding_all rfl)) ?_ | refine e_rdfV (by with_unfolding_all rfl) ?_ | refine e_rdfO (by with_unfolding_all rfl) (by (simp only [List.set_cons_succ, List.set_cons_zero]; with_unfolding_all rfl)) ?_ | refine e_pkV (by with_unfolding_all rfl) ?_ | refine e_pkO (by with_unfolding_all rfl) ?_ | refine e_hasV (by with_unfolding_all rfl) ?_ | refine e_hasO (by with_unfolding_all rfl) ?_ | refine e_binPO (by with_unfolding_all rfl) ?_ | refine e_binPV (by with_unfolding_all rfl) ?_ | refine e_mIf ?_ | refine e_mAnd ?_ | refine e_mOr ?_ | refine e_mNot ?_ | refine e_vAnd ?_ | refine e_vOr ?_ | refine e_chn ?_ | refine e_callN (by first | (simp only [sls, List.getElem?_cons_zero, List.getElem?_cons_succ, Option.map_some]; with_unfolding_all rfl) | with_unfolding_all rfl) (by with_unfolding_all rfl) ?_ | refine e_callO (by first | (simp only [sls, List.set_cons_succ, List.set_cons_zero, List.getElem?_cons_zero, List.getElem?_cons_succ, Option.map_some]; with_unfolding_all rfl) | with_unfolding_all rfl) (by with_unfolding_all rfl) (by with_unfolding_all rfl) ?_ | refine e_callB (by first | (simp only [sls, List.getElem?_cons_zero, List.getElem?_cons_succ, Option.map_some]; with_unfolding_all rfl) | with_unfolding_all rfl) ?_ | refine e_lc ?_ | refine e_mk (by first | (simp only [List.map_cons, List.map_nil]; with_unfolding_all rfl) | with_unfolding_all rfl) ?_ | refine e_mth ?_ | refine e_mth0 ?_ | refine e_lst ?_ | refine e_iteT (by with_unfolding_all (first | exact ⟨rfl, rfl⟩ | exact rfl)) ?_ | refine e_star ?_ | refine e_chn3 ?_ | refine e_lc2 ?_ | refine e_slP ?_ | fail) | (refine gd_Wt ?_; first | refine s_sq ?_ | refine s_nx ?_ | refine s_ct ?_ | refine s_bk ?_ | refine s_if ?_ | refine s_ret ?_ | refine s_asg ?_ | refine s_drop ?_ | refine s_asgT ?_ | refine s_par ?_ | refine s_app (by with_unfolding_all rfl) ?_ | refine s_ext (by with_unfolding_all rfl) ?_ | refine s_aug (by with_unfolding_all rfl) ?_ | refine s_for ?_ | refine s_raise ?_ | refine s_try ?_ | refine s_set ?_ | refine s_tryO ?_ | refine s_tryR ?_ | refine s_tryA ?_ | refine s_rev (by with_unfolding_all rfl) (by (simp only [List.set_cons_succ, List.set_cons_zero]; with_unfolding_all rfl)) ?_ | refine s_clr (by with_unfolding_all rfl) (by (simp only [List.set_cons_succ, List.set_cons_zero]; with_unfolding_all rfl)) ?_ | fail) | (refine gd_ite ?_; first | refine i_true ?_ | refine i_false ?_ | refine i_decT (by omega) ?_ | refine i_decF (by omega) ?_ | (refine i_dec (fun hc => ?_) (fun hc => ?_)) | refine i_ndecT (by omega) ?_ | refine i_ndecF (by omega) ?_ | (refine i_ndec (fun hc => ?_) (fun hc => ?_)) | refine i_not ?_ | fail) | refine k_va ?_ | refine k_ow ?_ | refine k_st (by (simp only [List.set_cons_succ, List.set_cons_zero]; with_unfolding_all rfl)) ?_ | refine k_tg (by first | (simp only [bT, bCons, bNil, bN, Option.bind_some, List.set_cons_succ, List.set_cons_zero]; with_unfolding_all rfl) | with_unfolding_all rfl) ?_ | refine k_par (by with_unfolding_all rfl) (by first | (simp only [putE, List.set_cons_succ, List.set_cons_zero]; with_unfolding_all rfl) | with_unfolding_all rfl) ?_ | refine k_app (by with_unfolding_all rfl) (by first | (simp; done) | (simp; omega) | omega) (by (simp only [List.set_cons_succ, List.set_cons_zero]; with_unfolding_all rfl)) ?_ | refine k_ext (by with_unfolding_all rfl) (by first | (simp; done) | (simp; omega) | omega) (by (simp only [List.set_cons_succ, List.set_cons_zero]; with_unfolding_all rfl)) ?_ | refine k_augA (by (simp only [List.set_cons_succ, List.set_cons_zero]; with_unfolding_all rfl)) ?_ | refine k_augS (by (simp only [List.set_cons_succ, List.set_cons_zero]; with_unfolding_all rfl)) ?_ | refine k_set1 (by with_unfolding_all rfl) ?_ | refine k_set2 (by with_unfolding_all rfl) (by omega) (by omega) (by (simp only [List.set_cons_succ, List.set_cons_zero]; with_unfolding_all rfl)) ?_ | refine k_bk (by simp only [back, List.getD_cons_zero, List.getD_cons_succ, List.set_cons_zero, List.set_cons_succ]; with_unfolding_all rfl) ?_ | refine k_lc (by with_unfolding_all rfl) (by simp only [wipeE, List.set_cons_zero, List.set_cons_succ]; with_unfolding_all rfl) ?_ | refine f_ok (by assumption) ?_ | refine f_ex (by assumption) ?_ | refine k_mk ?_ | refine k_lsW ?_ | refine k_ob (by first | assumption | with_unfolding_all rfl) ?_ | refine k_lc2 (by with_unfolding_all rfl) (by simp only [wipeE, List.set_cons_zero, List.set_cons_succ]; with_unfolding_all rfl) ?_ | refine k_augM (by first | exact cMul_r (by omega) (by omega) | exact cMul_l (by omega) (by omega)) (by (simp only [List.set_cons_succ, List.set_cons_zero]; with_unfolding_all rfl)) ?_ | refine k_augD (by omega) (by omega) (by (simp only [List.set_cons_succ, List.set_cons_zero]; with_unfolding_all rfl)) ?_ | refine take_w (by assumption) (by omega) (by omega) (by omega) (fun v b hv1 hv2 hb => ?_) | fail))
local macro_rules | `(tactic| decreasing_trivial) => `(tactic| repeat' (with_reducible first | (refine gd_We ?_; first | refine e_bnd ?_ | refine e_ret ?_ | refine e_rdv (by with_unfolding_all rfl) ?_ | refine e_mVa ?_ | (refine gd_opt ?_; first | refine e_opt (by assumption) ?_ | (refine gd_isN ?_; first | refine d_isN_non ?_ | refine d_isN_int ?_ | refine d_isN_lst ?_ | refine d_isN_tup ?_ | refine d_isN_str ?_ | refine d_isN_ob ?_ | refine d_isN_exn ?_ | refine d_isN_bl ?_ | fail) | (refine gd_notN ?_; first | refine d_notN_non ?_ | refine d_notN_int ?_ | refine d_notN_lst ?_ | refine d_notN_tup ?_ | refine d_notN_str ?_ | refine d_notN_ob ?_ | refine d_notN_exn ?_ | refine d_notN_bl ?_ | fail) | (refine gd_ix ?_; first | (refine d_ix2 (by omega) (by omega) (fun v hv => ?_)) | (refine d_ix3 (by omega) (by omega) (fun v hv => ?_)) | (refine d_ix4 (by omega) (by omega) (fun v hv => ?_)) | (refine d_ix5 (by omega) (by omega) (fun v hv => ?_)) | (refine d_ix6 (by omega) (by omega) (fun v hv => ?_)) | (refine d_ix7 (by omega) (by omega) (fun v hv => ?_)) | (refine d_ix8 (by omega) (by omega) (fun v hv => ?_)) | (refine d_ix9 (by omega) (by omega) (fun v hv => ?_)) | (refine d_ix10 (by omega) (by omega) (fun v hv => ?_)) | (refine d_ix11 (by omega) (by omega) (fun v hv => ?_)) | (refine d_ix12 (by omega) (by omega) (fun v hv => ?_)) | (refine d_ix13 (by omega) (by omega) (fun v hv => ?_)) | fail) | refine d_sub ?_ | refine d_add ?_ | refine d_addI ?_ | refine d_addL (by first | decide | (simp; done) | (simp; omega)) ?_ | refine d_addT (by first | decide | (simp; done) | (simp; omega)) ?_ | refine d_mul (by first | exact cMul_r (by omega) (by omega) | exact cMul_l (by omega) (by omega)) ?_ | refine d_mulI (by first | exact cMul_r (by omega) (by omega) | exact cMul_l (by omega) (by omega)) ?_ | refine d_rep (by omega) (by omega) ?_ | refine d_div (by omega) (by omega) ?_ | refine d_mod (by omega) ?_ | refine d_pow6 ?_ | refine d_pow4 ?_ | refine d_pow18 ?_ | refine d_neg ?_ | refine d_lt ?_ | refine d_le ?_ | refine d_gt ?_ | refine d_ge ?_ | refine d_eq ?_ | refine d_ne ?_ | refine d_eqB ?_ | refine d_neB ?_ | refine d_asB ?_ | refine d_asB2 ?_ | refine d_clt ?_ | refine d_cle ?_ | refine d_cgt ?_ | refine d_cge ?_ | refine d_ceq ?_ | refine d_truB ?_ | refine d_truI ?_ | refine d_truL ?_ | refine d_truN ?_ | refine d_notD ?_ | refine d_asI ?_ | refine d_lenL ?_ | refine d_lenT ?_ | refine d_lenS ?_ | refine d_lenL1 ?_ | refine d_lenT1 ?_ | refine d_abs ?_ | refine d_int ?_ | refine d_intB ?_ | refine d_min ?_ | refine d_max ?_ | refine d_tup (by first | (with_unfolding_all exact Nat.le_of_ble_eq_true rfl) | (simp; done)) ?_ | refine d_lst (by first | (with_unfolding_all exact Nat.le_of_ble_eq_true rfl) | (simp; done)) ?_ | refine d_seqL ?_ | refine d_seqT ?_ | refine d_listL ?_ | refine d_listT ?_ | refine d_tupL ?_ | refine d_tupT ?_ | refine d_rng1 (by omega) (by omega) ?_ | refine d_rng2 (by omega) (by omega) (by omega) (by omega) ?_ | refine d_slLo (by omega) ?_ | refine d_slHi (by omega) ?_ | refine d_slLoT (by omega) ?_ | refine d_slHiT (by omega) ?_ | refine d_str (by omega) (by omega) ?_ | refine d_pow30 ?_ | refine d_kt (by first | assumption | rfl) ?_ | refine d_divmod (by omega) (by omega) ?_ | refine d_revL ?_ | refine d_xor ?_ | refine e_opt (by assumption) ?_ | fail) | refine e_mFz ?_ | refine e_mCons ?_ | refine e_lCons ?_ | refine e_givV (by with_unfolding_all rfl) ?_ | refine e_givO (by with_unfolding_all rfl) (by (simp only [List.set_cons_succ, List.set_cons_zero]; with_unfolding_all rfl)) ?_ | refine e_rdfV (by with_unfolding_all rfl) ?_ | refine e_rdfO (by with_unfolding_all rfl) (by (simp only [List.set_cons_succ, List.set_cons_zero]; with_unfolding_all rfl)) ?_ | refine e_pkV (by with_unfolding_all rfl) ?_ | refine e_pkO (by with_unfolding_all rfl) ?_ | refine e_hasV (by with_unfolding_all rfl) ?_ | refine e_hasO (by with_unfolding_all rfl) ?_ | refine e_binPO (by with_unfolding_all rfl) ?_ | refine e_binPV (by with_unfolding_all rfl) ?_ | refine e_mIf ?_ | refine e_mAnd ?_ | refine e_mOr ?_ | refine e_mNot ?_ | refine e_vAnd ?_ | refine e_vOr ?_ | refine e_chn ?_ | refine e_callN (by first | (simp only [sls, List.getElem?_cons_zero, List.getElem?_cons_succ, Option.map_some]; with_unfolding_all rfl) | with_unfolding_all rfl) (by with_unfolding_all rfl) ?_ | refine e_callO (by first | (simp only [sls, List.set_cons_succ, List.set_cons_zero, List.getElem?_cons_zero, List.getElem?_cons_succ, Option.map_some]; with_unfolding_all rfl) | with_unfolding_all rfl) (by with_unfolding_all rfl) (by with_unfolding_all rfl) ?_ | refine e_callB (by first | (simp only [sls, List.getElem?_cons_zero, List.getElem?_cons_succ, Option.map_some]; with_unfolding_all rfl) | with_unfolding_all rfl) ?_ | refine e_lc ?_ | refine e_mk (by first | (simp only [List.map_cons, List.map_nil]; with_unfolding_all rfl) | with_unfolding_all rfl) ?_ | refine e_mth ?_ | refine e_mth0 ?_ | refine e_lst ?_ | refine e_iteT (by with_unfolding_all (first | exact ⟨rfl, rfl⟩ | exact rfl)) ?_ | refine e_star ?_ | refine e_chn3 ?_ | refine e_lc2 ?_ | refine e_slP ?_ | fail) | (refine gd_Wt ?_; first | refine s_nx ?_ | refine s_ct ?_ | refine s_bk ?_ | refine s_if ?_ | refine s_ret ?_ | refine s_asg ?_ | refine s_drop ?_ | refine s_asgT ?_ | refine s_par ?_ | refine s_app (by with_unfolding_all rfl) ?_ | refine s_ext (by with_unfolding_all rfl) ?_ | refine s_aug (by with_unfolding_all rfl) ?_ | refine s_for ?_ | refine s_raise ?_ | refine s_try ?_ | refine s_set ?_ | refine s_tryO ?_ | refine s_tryR ?_ | refine s_tryA ?_ | refine s_rev (by with_unfolding_all rfl) (by (simp only [List.set_cons_succ, List.set_cons_zero]; with_unfolding_all rfl)) ?_ | refine s_clr (by with_unfolding_all rfl) (by (simp only [List.set_cons_succ, List.set_cons_zero]; with_unfolding_all rfl)) ?_ | fail) | (refine gd_ite ?_; first | refine i_true ?_ | refine i_false ?_ | refine i_decT (by omega) ?_ | refine i_decF (by omega) ?_ | (refine i_dec (fun hc => ?_) (fun hc => ?_)) | refine i_ndecT (by omega) ?_ | refine i_ndecF (by omega) ?_ | (refine i_ndec (fun hc => ?_) (fun hc => ?_)) | refine i_not ?_ | fail) | refine k_va ?_ | refine k_ow ?_ | refine k_st (by (simp only [List.set_cons_succ, List.set_cons_zero]; with_unfolding_all rfl)) ?_ | refine k_tg (by first | (simp only [bT, bCons, bNil, bN, Option.bind_some, List.set_cons_succ, List.set_cons_zero]; with_unfolding_all rfl) | with_unfolding_all rfl) ?_ | refine k_par (by with_unfolding_all rfl) (by first | (simp only [putE, List.set_cons_succ, List.set_cons_zero]; with_unfolding_all rfl) | with_unfolding_all rfl) ?_ | refine k_app (by with_unfolding_all rfl) (by first | (simp; done) | (simp; omega) | omega) (by (simp only [List.set_cons_succ, List.set_cons_zero]; with_unfolding_all rfl)) ?_ | refine k_ext (by with_unfolding_all rfl) (by first | (simp; done) | (simp; omega) | omega) (by (simp only [List.set_cons_succ, List.set_cons_zero]; with_unfolding_all rfl)) ?_ | refine k_augA (by (simp only [List.set_cons_succ, List.set_cons_zero]; with_unfolding_all rfl)) ?_ | refine k_augS (by (simp only [List.set_cons_succ, List.set_cons_zero]; with_unfolding_all rfl)) ?_ | refine k_set1 (by with_unfolding_all rfl) ?_ | refine k_set2 (by with_unfolding_all rfl) (by omega) (by omega) (by (simp only [List.set_cons_succ, List.set_cons_zero]; with_unfolding_all rfl)) ?_ | refine k_bk (by simp only [back, List.getD_cons_zero, List.getD_cons_succ, List.set_cons_zero, List.set_cons_succ]; with_unfolding_all rfl) ?_ | refine k_lc (by with_unfolding_all rfl) (by simp only [wipeE, List.set_cons_zero, List.set_cons_succ]; with_unfolding_all rfl) ?_ | refine f_ok (by assumption) ?_ | refine f_ex (by assumption) ?_ | refine k_mk ?_ | refine k_lsW ?_ | refine k_ob (by first | assumption | with_unfolding_all rfl) ?_ | refine k_lc2 (by with_unfolding_all rfl) (by simp only [wipeE, List.set_cons_zero, List.set_cons_succ]; with_unfolding_all rfl) ?_ | refine k_augM (by first | exact cMul_r (by omega) (by omega) | exact cMul_l (by omega) (by omega)) (by (simp only [List.set_cons_succ, List.set_cons_zero]; with_unfolding_all rfl)) ?_ | refine k_augD (by omega) (by omega) (by (simp only [List.set_cons_succ, List.set_cons_zero]; with_unfolding_all rfl)) ?_ | refine take_w (by assumption) (by omega) (by omega) (by omega) (fun v b hv1 hv2 hb => ?_) | fail))
theorem lf_sp (s : Spt) : Pl 2 (spD s) := by
  refine .tup (fun d hd => ?_) ?_
  · cases s <;> simp only [Spt.fs, List.mem_cons, List.not_mem_nil, or_false] at hd <;> rcases hd with rfl | rfl | rfl | rfl <;> first | exact .non _ | exact .int _ _
  · cases s <;> simp [Spt.fs]
theorem pl_sps {ss : List Spt} (h : ss.length ≤ 5000) : Pl 3 (.lst (ss.map spD)) := .lst (fun d hd => by obtain ⟨s, _, rfl⟩ := List.mem_map.mp hd; exact lf_sp s) (by rw [List.length_map]; omega)
theorem ne_nil {ss : List Spt} (h : ss.length ≤ 5000) : dNe (.lst (ss.map spD)) (.lst []) = some (.bl (!ss.isEmpty)) := by
  have := eqD_nil (n := 3) (ds := ss.map spD) (pl_sps h) (by decide)
  unfold dNe
  rw [this]
  cases ss <;> rfl
theorem at_last {α : Type} {l : List α} {x : α} (h : l.getLast? = some x) : atI l (-1) = some x := by
  have : 0 < l.length := by
    cases l with
    | nil => cases h
    | cons => simp
  rw [show (-1 : Int) = -((1 : Nat) : Int) from rfl, atI_neg (by decide) (by omega), ← h, List.getLast?_eq_getElem?]
theorem neg_at {ρ : En} {ss : List Spt} {v : Int} {Q : D → En → Prop} {X : XP} (h0 : 0 ≤ v) (h1 : v < ss.length) (h : ∀ t, t ∈ ss → Q (spD t) ρ) : We (opt (dIx (.lst (ss.map spD)) (.int (-1 - v)))) ρ Q X := by
  have e : dIx (.lst (ss.map spD)) (.int (-1 - v)) = some (spD (ss[ss.length - (v.toNat + 1)]'(by omega))) := by
    show atI _ _ = _
    rw [show (-1 - v : Int) = -((v.toNat + 1 : Nat) : Int) by omega, atI_neg (by omega) (by rw [List.length_map]; omega), List.length_map, List.getElem?_map, List.getElem?_eq_getElem (by omega)]
    rfl
  rw [e]
  exact h _ (List.getElem_mem _)
def JJ (ss : List Spt) (many wide : Int) (c : Nat) : En → Prop := fun ρ => ∃ (b' : Box) (x4 : Option Sl) (w : Int) (s : Spt), ρ = [some (.ow b'.ds), some (.va (.int many)), some (.va (.int wide)), some (.ow (ss.map spD)), x4, some (.va (.int w)), some (.va (spD s))] ∧ s.shp ∧ b'.ok c
theorem in23 (w : Int) : inD false (.int w) (.tup [.int 2, .int 3]) = some (.bl (decide (w = 2 ∨ w = 3))) := by
  have h : flatD (.int w) = true ∧ [D.int 2, D.int 3].all flatD = true := ⟨rfl, rfl⟩
  have g : ([D.int 2, D.int 3].any fun z => eqF z (.int w)) = decide (w = 2 ∨ w = 3) := by
    by_cases c : w = 2
    · subst c; rfl
    · by_cases c2 : w = 3
      · subst c2; rfl
      · rw [decide_eq_false (by omega)]
        simp [eqF, Ne.symm c, Ne.symm c2]
  unfold inD
  simp only [if_pos h, g]
  rfl
theorem fin_app {ss : List Spt} {s : Spt} (h : ∀ t ∈ ss, t.gd) (g : s.gd) : ∀ t ∈ ss ++ [s], t.gd := fun t ht => by
  rcases List.mem_append.mp ht with ht | ht
  · exact h t ht
  · rw [List.mem_singleton.mp ht]; exact g
def lastS : MS := (appS 3 (mIf (mOr (un asB (Mir.bin dIsN (Mir.bin dIx (rdv 6) (Mir.ret (.int 0))) (Mir.ret .non))) (mAnd (un asB (Mir.bin dLe (Mir.ret (.int 1)) (Mir.bin dIx (rdv 6) (Mir.ret (.int 0))))) (un asB (Mir.bin dLe (Mir.bin dIx (rdv 6) (Mir.ret (.int 1))) (Mir.bin dPow (Mir.ret (.int 10)) (Mir.ret (.int 6))))))) (rdv 6) (cb dTup (mCons (Mir.ret (.int 1)) (mCons (Mir.ret (.int 1)) (mCons (Mir.ret .non) (mCons (Mir.ret .non) (Mir.ret []))))))))
theorem last_w {ss : List Spt} {b : Box} {x0 x1 x2 x4 w : Option Sl} {s : Spt} {N B C : En → Prop} {R : Sl → En → Prop} {X : XP} (hs : ss.length ≤ 5000) (gs : s.shp) (h : ∀ t : Spt, t.gd → N [x0, x1, x2, some (.ow ((ss ++ [t]).map spD)), x4, w, some (.va (spD s))]) :
    Wt lastS [x0, x1, x2, some (.ow (ss.map spD)), x4, w, some (.va (spD s))] N R B C X := by
  unfold lastS
  have hl : (ss.map spD).length < 100000 := by rw [List.length_map]; omega
  have h' : ∀ t : Spt, t.gd → N [x0, x1, x2, some (.ow (ss.map spD ++ [spD t])), x4, w, some (.va (spD s))] := fun t ht => by
    have := h t ht
    rw [List.map_append] at this
    exact this
  cases s with
  | no =>
    have z : spD .no = .tup [.non, .non, .non, .non] := rfl
    have := h' .no ⟨trivial, rfl⟩
    rw [z] at this ⊢
    decreasing_trivial_pre_omega
    all_goals first | omega | exact ⟨hl, this⟩ | exact this
  | li l =>
    have z : spD (.li l) = .tup [.int l, .int l, .non, .non] := rfl
    have i0 : dIx (.tup [.int l, .int l, .non, .non]) (.int 0) = some (.int l) := rfl
    have i1 : dIx (.tup [.int l, .int l, .non, .non]) (.int 1) = some (.int l) := rfl
    have one := h' (.li 1) (gd_li (by omega) (by omega))
    by_cases c : 1 ≤ l ∧ l ≤ 1000000
    · have := h' (.li l) (gd_li c.1 c.2)
      rw [z] at this ⊢
      decreasing_trivial_pre_omega
      all_goals first | omega | exact ⟨hl, this⟩ | exact this
    · rw [z] at one ⊢
      decreasing_trivial_pre_omega
      all_goals first | omega | exact ⟨hl, one⟩ | exact one
  | pa l m x y =>
    have z : spD (.pa l m x y) = .tup [.int l, .int m, .int x, .int y] := rfl
    have i0 : dIx (.tup [.int l, .int m, .int x, .int y]) (.int 0) = some (.int l) := rfl
    have i1 : dIx (.tup [.int l, .int m, .int x, .int y]) (.int 1) = some (.int m) := rfl
    have one := h' (.li 1) (gd_li (by omega) (by omega))
    obtain ⟨e1, e2, e3, e4, e5, e6, e7⟩ := gs
    by_cases c : 1 ≤ l ∧ m ≤ 1000000
    · have := h' (.pa l m x y) (gd_pa c.1 e1 e2 c.2 e3 e4 e5 e6 e7)
      rw [z] at this ⊢
      decreasing_trivial_pre_omega
      all_goals first | omega | exact ⟨hl, this⟩ | exact this
    · rw [z] at one ⊢
      decreasing_trivial_pre_omega
      all_goals first | omega | exact ⟨hl, one⟩ | exact one
theorem spots_w {b : Box} {n : Nat} {many wide : Int} {Q : Sl → List D → Prop} {X : XB} (hb : b.ok n) (hn : n ≤ 100000) (h0 : 0 ≤ many) (hm : many ≤ 200) (h1 : 0 < wide) (h2 : wide ≤ 1000000)
    (q : ∀ (ss : List Spt) (b' : Box), (∀ s ∈ ss, s.gd) → (ss.length : Int) = many → b'.ok (n + 4000) → Q (.ow (ss.map spD)) b'.ds) : Wf (f_l_spots [.ow b.ds, .va (.int many), .va (.int wide)]) Q X := by
  refine f_def (by simp only [List.map_cons, List.map_nil, List.length_cons, List.length_nil, Nat.reduceAdd, Nat.reduceSub, List.replicate_succ, List.replicate_zero, List.cons_append, List.nil_append, List.append_nil]; rfl) ?_
  unfold b_l_spots
  decreasing_trivial_pre_omega
  refine Wv_by (fun i ρ => ∃ (ss : List Spt) (b' : Box) (x4 x5 x6 : Option Sl), ρ = [some (.ow b'.ds), some (.va (.int many)), some (.va (.int wide)), some (.ow (ss.map spD)), x4, x5, x6] ∧ (∀ s ∈ ss, s.gd) ∧ ss.length = i ∧ b'.ok (n + 20 * i)) ?_ ?_ ?_
  · exact ⟨[], b, _, _, _, rfl, (fun n h => by cases h), rfl, hb⟩
  · rintro i d ρ hd ⟨ss, b', x4, x5, x6, rfl, g1, g2, g3⟩
    obtain ⟨hi, rfl⟩ := upto_get hd
    refine ⟨_, rfl, ?_⟩
    unfold lp_l_spots_1
    have nn := ne_nil (ss := ss) (by omega)
    have ln : ((ss.map spD).length : Int) = ss.length := by simp
    refine s_sq ?_
    decreasing_trivial
    refine s_sq ?_
    decreasing_trivial
    refine spot_w (by assumption) (by omega) h1 h2 fun s b2 gs hb2 => ?_
    decreasing_trivial
    have k2 := hb2.mono (m := n + 20 * i + 12) (by omega)
    have gs2 := gs.1
    clear hb2 gs
    have pos : ss.isEmpty = false → 1 ≤ ss.length := fun z => by cases ss with | nil => cases z | cons => simp
    have zer : ss.isEmpty = true → ss.length = 0 := fun z => by cases ss with | nil => rfl | cons => cases z
    have lst : ss.isEmpty = false → ∃ t, ss.getLast? = some t := fun z => by
      cases hg : ss.getLast? with
      | none => rw [List.getLast?_eq_none_iff.mp hg] at z; cases z
      | some t => exact ⟨t, rfl⟩
    cases he : ss.isEmpty with
    | true =>
      rw [he] at nn
      have zz := zer he
      refine s_mid (JJ ss many wide (n + 20 * i + 12)) ?_ ?_
      · decreasing_trivial_pre_omega
        all_goals exact ⟨_, _, _, _, rfl, by assumption, by assumption⟩
      clear gs2 k2
      rintro ρ ⟨b2, x4, w, s, rfl, gs, k2⟩
      refine s_mid (JJ ss many wide (n + 20 * i + 12)) ?_ ?_
      · decreasing_trivial_pre_omega
        all_goals exact ⟨_, _, _, _, rfl, by assumption, by assumption⟩
      clear gs k2
      rintro ρ ⟨b2, x4, w, s, rfl, gs, k2⟩
      refine s_mid (JJ ss many wide (n + 20 * i + 12)) ?_ ?_
      · decreasing_trivial_pre_omega
        all_goals first | omega | exact ⟨_, _, _, _, rfl, by assumption, by assumption⟩
      clear gs k2
      rintro ρ ⟨b2, x4, w, s, rfl, gs, k2⟩
      exact last_w (b := b2) (by omega) gs fun t ht => ⟨ss ++ [t], _, _, _, _, rfl, fin_app g1 ht, by simp; omega, k2.mono (by omega)⟩
    | false =>
      rw [he] at nn
      have pos := pos he
      obtain ⟨t, hg⟩ := lst he
      have a1 : dIx (.lst (ss.map spD)) (.int (-1)) = some (spD t) := at_last (by rw [List.getLast?_map, hg]; rfl)
      have tg := (g1 t (List.mem_of_getLast? hg)).1
      refine s_mid (JJ ss many wide (n + 20 * i + 13)) ?_ ?_
      · decreasing_trivial_pre_omega
        all_goals exact ⟨_, _, _, _, rfl, by assumption, Box.ok.mono (by assumption) (by omega)⟩
      clear gs2 k2
      rintro ρ ⟨b2, x4, w, s, rfl, gs, k2⟩
      refine s_mid (JJ ss many wide (n + 20 * i + 14)) ?_ ?_
      · have inx := in23 w
        generalize decide (w = 2 ∨ w = 3) = kk at inx
        cases kk <;> decreasing_trivial_pre_omega
        all_goals try (refine later_w ?_; decreasing_trivial_pre_omega)
        all_goals first | exact ⟨_, _, _, _, rfl, by assumption, Box.ok.mono (by assumption) (by omega)⟩ | exact ⟨_, _, _, _, rfl, tg.sh _, Box.ok.mono (by assumption) (by omega)⟩
      clear gs k2
      rintro ρ ⟨b2, x4, w, s, rfl, gs, k2⟩
      refine s_mid (JJ ss many wide (n + 20 * i + 17)) ?_ ?_
      · decreasing_trivial_pre_omega
        all_goals try (refine neg_at (by omega) (by omega) fun t2 ht2 => ?_; decreasing_trivial_pre_omega)
        all_goals try (refine later_w ?_; decreasing_trivial_pre_omega)
        all_goals first | exact ⟨_, _, _, _, rfl, by assumption, Box.ok.mono (by assumption) (by omega)⟩ | exact ⟨_, _, _, _, rfl, (g1 _ (by assumption)).1.sh _, Box.ok.mono (by assumption) (by omega)⟩
      clear gs k2
      rintro ρ ⟨b2, x4, w, s, rfl, gs, k2⟩
      exact last_w (b := b2) (by omega) gs fun t ht => ⟨ss ++ [t], _, _, _, _, rfl, fin_app g1 ht, by simp; omega, k2.mono (by omega)⟩
  · rintro ρ ⟨ss, b', x4, x5, x6, rfl, g1, g2, g3⟩
    rw [upto_len] at g2 g3
    decreasing_trivial_pre_omega
    exact q ss b' g1 (by omega) (g3.mono (by omega))
end My

namespace My
open PySem PySem.Spec PyProof.Rows L2 Mir
local macro_rules | `(tactic| decreasing_trivial_pre_omega) => `(tactic| repeat' (with_reducible first | (refine gd_We ?_; first | refine e_bnd ?_ | refine e_ret ?_ | refine e_rdv (by with_unfolding_all rfl) ?_ | refine e_mVa ?_ | (refine gd_opt ?_; first | refine e_opt (by assumption) ?_ | (refine gd_isN ?_; first | refine d_isN_non ?_ | refine d_isN_int ?_ | refine d_isN_lst ?_ | refine d_isN_tup ?_ | refine d_isN_str ?_ | refine d_isN_ob ?_ | refine d_isN_exn ?_ | refine d_isN_bl ?_ | fail) | (refine gd_notN ?_; first | refine d_notN_non ?_ | refine d_notN_int ?_ | refine d_notN_lst ?_ | refine d_notN_tup ?_ | refine d_notN_str ?_ | refine d_notN_ob ?_ | refine d_notN_exn ?_ | refine d_notN_bl ?_ | fail) | (refine gd_ix ?_; first | (refine d_ix2 (by omega) (by omega) (fun v hv => ?_)) | (refine d_ix3 (by omega) (by omega) (fun v hv => ?_)) | (refine d_ix4 (by omega) (by omega) (fun v hv => ?_)) | (refine d_ix5 (by omega) (by omega) (fun v hv => ?_)) | (refine d_ix6 (by omega) (by omega) (fun v hv => ?_)) | (refine d_ix7 (by omega) (by omega) (fun v hv => ?_)) | (refine d_ix8 (by omega) (by omega) (fun v hv => ?_)) | (refine d_ix9 (by omega) (by omega) (fun v hv => ?_)) | (refine d_ix10 (by omega) (by omega) (fun v hv => ?_)) | (refine d_ix11 (by omega) (by omega) (fun v hv => ?_)) | (refine d_ix12 (by omega) (by omega) (fun v hv => ?_)) | (refine d_ix13 (by omega) (by omega) (fun v hv => ?_)) | fail) | refine d_sub ?_ | refine d_add ?_ | refine d_addI ?_ | refine d_addL (by first | decide | (simp; done) | (simp; omega)) ?_ | refine d_addT (by first | decide | (simp; done) | (simp; omega)) ?_ | refine d_mul (by first | exact cMul_r (by omega) (by omega) | exact cMul_l (by omega) (by omega)) ?_ | refine d_mulI (by first | exact cMul_r (by omega) (by omega) | exact cMul_l (by omega) (by omega)) ?_ | refine d_rep (by omega) (by omega) ?_ | refine d_div (by omega) (by omega) ?_ | refine d_mod (by omega) ?_ | refine d_pow6 ?_ | refine d_pow4 ?_ | refine d_pow18 ?_ | refine d_neg ?_ | refine d_lt ?_ | refine d_le ?_ | refine d_gt ?_ | refine d_ge ?_ | refine d_eq ?_ | refine d_ne ?_ | refine d_eqB ?_ | refine d_neB ?_ | refine d_asB ?_ | refine d_asB2 ?_ | refine d_clt ?_ | refine d_cle ?_ | refine d_cgt ?_ | refine d_cge ?_ | refine d_ceq ?_ | refine d_truB ?_ | refine d_truI ?_ | refine d_truL ?_ | refine d_truN ?_ | refine d_notD ?_ | refine d_asI ?_ | refine d_lenL ?_ | refine d_lenT ?_ | refine d_lenS ?_ | refine d_lenL1 ?_ | refine d_lenT1 ?_ | refine d_abs ?_ | refine d_int ?_ | refine d_intB ?_ | refine d_min ?_ | refine d_max ?_ | refine d_tup (by first | (with_unfolding_all exact Nat.le_of_ble_eq_true rfl) | (simp; done)) ?_ | refine d_lst (by first | (with_unfolding_all exact Nat.le_of_ble_eq_true rfl) | (simp; done)) ?_ | refine d_seqL ?_ | refine d_seqT ?_ | refine d_listL ?_ | refine d_listT ?_ | refine d_tupL ?_ | refine d_tupT ?_ | refine d_rng1 (by omega) (by omega) ?_ | refine d_rng2 (by omega) (by omega) (by omega) (by omega) ?_ | refine d_slLo (by omega) ?_ | refine d_slHi (by omega) ?_ | refine d_slLoT (by omega) ?_ | refine d_slHiT (by omega) ?_ | refine d_str (by omega) (by omega) ?_ | refine d_pow30 ?_ | refine d_kt (by first | assumption | rfl) ?_ | refine d_divmod (by omega) (by omega) ?_ | refine d_revL ?_ | refine d_xor ?_ | refine e_opt (by assumption) ?_ | fail) | refine e_mFz ?_ | refine e_mCons ?_ | refine e_lCons ?_ | refine e_givV (by with_unfolding_all rfl) ?_ | refine e_givO (by with_unfolding_all rfl) (by (simp only [List.set_cons_succ, List.set_cons_zero]; with_unfolding_all rfl)) ?_ | refine e_rdfV (by with_unfolding_all rfl) ?_ | refine e_rdfO (by with_unfolding_all rfl) (by (simp only [List.set_cons_succ, List.set_cons_zero]; with_unfolding_all rfl)) ?_ | refine e_pkV (by with_unfolding_all rfl) ?_ | refine e_pkO (by with_unfolding_all rfl) ?_ | refine e_hasV (by with_unfolding_all rfl) ?_ | refine e_hasO (by with_unfolding_all rfl) ?_ | refine e_binPO (by with_unfolding_all rfl) ?_ | refine e_binPV (by with_unfolding_all rfl) ?_ | refine e_mIf ?_ | refine e_mAnd ?_ | refine e_mOr ?_ | refine e_mNot ?_ | refine e_vAnd ?_ | refine e_vOr ?_ | refine e_chn ?_ | refine e_callN (by first | (simp only [sls, List.getElem?_cons_zero, List.getElem?_cons_succ, Option.map_some]; with_unfolding_all rfl) | with_unfolding_all rfl) (by with_unfolding_all rfl) ?_ | refine e_callO (by first | (simp only [sls, List.set_cons_succ, List.set_cons_zero, List.getElem?_cons_zero, List.getElem?_cons_succ, Option.map_some]; with_unfolding_all rfl) | with_unfolding_all rfl) (by with_unfolding_all rfl) (by with_unfolding_all rfl) ?_ | refine e_callB (by first | (simp only [sls, List.getElem?_cons_zero, List.getElem?_cons_succ, Option.map_some]; with_unfolding_all rfl) | with_unfolding_all rfl) ?_ | refine e_lc ?_ | refine e_mk (by first | (simp only [List.map_cons, List.map_nil]; with_unfolding_all rfl) | with_unfolding_all rfl) ?_ | refine e_mth ?_ | refine e_mth0 ?_ | refine e_lst ?_ | refine e_iteT (by with_unfolding_all (first | exact ⟨rfl, rfl⟩ | exact rfl)) ?_ | refine e_star ?_ | refine e_chn3 ?_ | refine e_lc2 ?_ | refine e_slP ?_ | fail) | (refine gd_Wt ?_; first | refine s_sq ?_ | refine s_nx ?_ | refine s_ct ?_ | refine s_bk ?_ | refine s_if ?_ | refine s_ret ?_ | refine s_asg ?_ | refine s_drop ?_ | refine s_asgT ?_ | refine s_par ?_ | refine s_app (by with_unfolding_all rfl) ?_ | refine s_ext (by with_unfolding_all rfl) ?_ | refine s_aug (by with_unfolding_all rfl) ?_ | refine s_for ?_ | refine s_raise ?_ | refine s_try ?_ | refine s_set ?_ | refine s_tryO ?_ | refine s_tryR ?_ | refine s_tryA ?_ | refine s_rev (by with_unfolding_all rfl) (by (simp only [List.set_cons_succ, List.set_cons_zero]; with_unfolding_all rfl)) ?_ | refine s_clr (by with_unfolding_all rfl) (by (simp only [List.set_cons_succ, List.set_cons_zero]; with_unfolding_all rfl)) ?_ | fail) | (refine gd_ite ?_; first | refine i_true ?_ | refine i_false ?_ | refine i_decT (by omega) ?_ | refine i_decF (by omega) ?_ | (refine i_dec (fun hc => ?_) (fun hc => ?_)) | refine i_ndecT (by omega) ?_ | refine i_ndecF (by omega) ?_ | (refine i_ndec (fun hc => ?_) (fun hc => ?_)) | refine i_not ?_ | fail) | refine k_va ?_ | refine k_ow ?_ | refine k_st (by (simp only [List.set_cons_succ, List.set_cons_zero]; with_unfolding_all rfl)) ?_ | refine k_tg (by first | (simp only [bT, bCons, bNil, bN, Option.bind_some, List.set_cons_succ, List.set_cons_zero]; with_unfolding_all rfl) | with_unfolding_all rfl) ?_ | refine k_par (by with_unfolding_all rfl) (by first | (simp only [putE, List.set_cons_succ, List.set_cons_zero]; with_unfolding_all rfl) | with_unfolding_all rfl) ?_ | refine k_app (by with_unfolding_all rfl) (by first | (simp; done) | (simp; omega) | omega) (by (simp only [List.set_cons_succ, List.set_cons_zero]; with_unfolding_all rfl)) ?_ | refine k_ext (by with_unfolding_all rfl) (by first | (simp; done) | (simp; omega) | omega) (by (simp only [List.set_cons_succ, List.set_cons_zero]; with_unfolding_all rfl)) ?_ | refine k_augA (by (simp only [List.set_cons_succ, List.set_cons_zero]; with_unfolding_all rfl)) ?_ | refine k_augS (by (simp only [List.set_cons_succ, List.set_cons_zero]; with_unfolding_all rfl)) ?_ | refine k_set1 (by with_unfolding_all rfl) ?_ | refine k_set2 (by with_unfolding_all rfl) (by omega) (by omega) (by (simp only [List.set_cons_succ, List.set_cons_zero]; with_unfolding_all rfl)) ?_ | refine k_bk (by simp only [back, List.getD_cons_zero, List.getD_cons_succ, List.set_cons_zero, List.set_cons_succ]; with_unfolding_all rfl) ?_ | refine k_lc (by with_unfolding_all rfl) (by simp only [wipeE, List.set_cons_zero, List.set_cons_succ]; with_unfolding_all rfl) ?_ | refine f_ok (by assumption) ?_ | refine f_ex (by assumption) ?_ | refine k_mk ?_ | refine k_lsW ?_ | refine k_ob (by first | assumption | with_unfolding_all rfl) ?_ | refine k_lc2 (by with_unfolding_all rfl) (by simp only [wipeE, List.set_cons_zero, List.set_cons_succ]; with_unfolding_all rfl) ?_ | refine k_augM (by first | exact cMul_r (by omega) (by omega) | exact cMul_l (by omega) (by omega)) (by (simp only [List.set_cons_succ, List.set_cons_zero]; with_unfolding_all rfl)) ?_ | refine k_augD (by omega) (by omega) (by (simp only [List.set_cons_succ, List.set_cons_zero]; with_unfolding_all rfl)) ?_ | refine take_w (by assumption) (by omega) (by omega) (by omega) (fun v b hv1 hv2 hb => ?_) | fail))
local macro_rules | `(tactic| decreasing_trivial) => `(tactic| repeat' (with_reducible first | (refine gd_We ?_; first | refine e_bnd ?_ | refine e_ret ?_ | refine e_rdv (by with_unfolding_all rfl) ?_ | refine e_mVa ?_ | (refine gd_opt ?_; first | refine e_opt (by assumption) ?_ | (refine gd_isN ?_; first | refine d_isN_non ?_ | refine d_isN_int ?_ | refine d_isN_lst ?_ | refine d_isN_tup ?_ | refine d_isN_str ?_ | refine d_isN_ob ?_ | refine d_isN_exn ?_ | refine d_isN_bl ?_ | fail) | (refine gd_notN ?_; first | refine d_notN_non ?_ | refine d_notN_int ?_ | refine d_notN_lst ?_ | refine d_notN_tup ?_ | refine d_notN_str ?_ | refine d_notN_ob ?_ | refine d_notN_exn ?_ | refine d_notN_bl ?_ | fail) | (refine gd_ix ?_; first | (refine d_ix2 (by omega) (by omega) (fun v hv => ?_)) | (refine d_ix3 (by omega) (by omega) (fun v hv => ?_)) | (refine d_ix4 (by omega) (by omega) (fun v hv => ?_)) | (refine d_ix5 (by omega) (by omega) (fun v hv => ?_)) | (refine d_ix6 (by omega) (by omega) (fun v hv => ?_)) | (refine d_ix7 (by omega) (by omega) (fun v hv => ?_)) | (refine d_ix8 (by omega) (by omega) (fun v hv => ?_)) | (refine d_ix9 (by omega) (by omega) (fun v hv => ?_)) | (refine d_ix10 (by omega) (by omega) (fun v hv => ?_)) | (refine d_ix11 (by omega) (by omega) (fun v hv => ?_)) | (refine d_ix12 (by omega) (by omega) (fun v hv => ?_)) | (refine d_ix13 (by omega) (by omega) (fun v hv => ?_)) | fail) | refine d_sub ?_ | refine d_add ?_ | refine d_addI ?_ | refine d_addL (by first | decide | (simp; done) | (simp; omega)) ?_ | refine d_addT (by first | decide | (simp; done) | (simp; omega)) ?_ | refine d_mul (by first | exact cMul_r (by omega) (by omega) | exact cMul_l (by omega) (by omega)) ?_ | refine d_mulI (by first | exact cMul_r (by omega) (by omega) | exact cMul_l (by omega) (by omega)) ?_ | refine d_rep (by omega) (by omega) ?_ | refine d_div (by omega) (by omega) ?_ | refine d_mod (by omega) ?_ | refine d_pow6 ?_ | refine d_pow4 ?_ | refine d_pow18 ?_ | refine d_neg ?_ | refine d_lt ?_ | refine d_le ?_ | refine d_gt ?_ | refine d_ge ?_ | refine d_eq ?_ | refine d_ne ?_ | refine d_eqB ?_ | refine d_neB ?_ | refine d_asB ?_ | refine d_asB2 ?_ | refine d_clt ?_ | refine d_cle ?_ | refine d_cgt ?_ | refine d_cge ?_ | refine d_ceq ?_ | refine d_truB ?_ | refine d_truI ?_ | refine d_truL ?_ | refine d_truN ?_ | refine d_notD ?_ | refine d_asI ?_ | refine d_lenL ?_ | refine d_lenT ?_ | refine d_lenS ?_ | refine d_lenL1 ?_ | refine d_lenT1 ?_ | refine d_abs ?_ | refine d_int ?_ | refine d_intB ?_ | refine d_min ?_ | refine d_max ?_ | refine d_tup (by first | (with_unfolding_all exact Nat.le_of_ble_eq_true rfl) | (simp; done)) ?_ | refine d_lst (by first | (with_unfolding_all exact Nat.le_of_ble_eq_true rfl) | (simp; done)) ?_ | refine d_seqL ?_ | refine d_seqT ?_ | refine d_listL ?_ | refine d_listT ?_ | refine d_tupL ?_ | refine d_tupT ?_ | refine d_rng1 (by omega) (by omega) ?_ | refine d_rng2 (by omega) (by omega) (by omega) (by omega) ?_ | refine d_slLo (by omega) ?_ | refine d_slHi (by omega) ?_ | refine d_slLoT (by omega) ?_ | refine d_slHiT (by omega) ?_ | refine d_str (by omega) (by omega) ?_ | refine d_pow30 ?_ | refine d_kt (by first | assumption | rfl) ?_ | refine d_divmod (by omega) (by omega) ?_ | refine d_revL ?_ | refine d_xor ?_ | refine e_opt (by assumption) ?_ | fail) | refine e_mFz ?_ | refine e_mCons ?_ | refine e_lCons ?_ | refine e_givV (by with_unfolding_all rfl) ?_ | refine e_givO (by with_unfolding_all rfl) (by (simp only [List.set_cons_succ, List.set_cons_zero]; with_unfolding_all rfl)) ?_ | refine e_rdfV (by with_unfolding_all rfl) ?_ | refine e_rdfO (by with_unfolding_all rfl) (by (simp only [List.set_cons_succ, List.set_cons_zero]; with_unfolding_all rfl)) ?_ | refine e_pkV (by with_unfolding_all rfl) ?_ | refine e_pkO (by with_unfolding_all rfl) ?_ | refine e_hasV (by with_unfolding_all rfl) ?_ | refine e_hasO (by with_unfolding_all rfl) ?_ | refine e_binPO (by with_unfolding_all rfl) ?_ | refine e_binPV (by with_unfolding_all rfl) ?_ | refine e_mIf ?_ | refine e_mAnd ?_ | refine e_mOr ?_ | refine e_mNot ?_ | refine e_vAnd ?_ | refine e_vOr ?_ | refine e_chn ?_ | refine e_callN (by first | (simp only [sls, List.getElem?_cons_zero, List.getElem?_cons_succ, Option.map_some]; with_unfolding_all rfl) | with_unfolding_all rfl) (by with_unfolding_all rfl) ?_ | refine e_callO (by first | (simp only [sls, List.set_cons_succ, List.set_cons_zero, List.getElem?_cons_zero, List.getElem?_cons_succ, Option.map_some]; with_unfolding_all rfl) | with_unfolding_all rfl) (by with_unfolding_all rfl) (by with_unfolding_all rfl) ?_ | refine e_callB (by first | (simp only [sls, List.getElem?_cons_zero, List.getElem?_cons_succ, Option.map_some]; with_unfolding_all rfl) | with_unfolding_all rfl) ?_ | refine e_lc ?_ | refine e_mk (by first | (simp only [List.map_cons, List.map_nil]; with_unfolding_all rfl) | with_unfolding_all rfl) ?_ | refine e_mth ?_ | refine e_mth0 ?_ | refine e_lst ?_ | refine e_iteT (by with_unfolding_all (first | exact ⟨rfl, rfl⟩ | exact rfl)) ?_ | refine e_star ?_ | refine e_chn3 ?_ | refine e_lc2 ?_ | refine e_slP ?_ | fail) | (refine gd_Wt ?_; first | refine s_nx ?_ | refine s_ct ?_ | refine s_bk ?_ | refine s_if ?_ | refine s_ret ?_ | refine s_asg ?_ | refine s_drop ?_ | refine s_asgT ?_ | refine s_par ?_ | refine s_app (by with_unfolding_all rfl) ?_ | refine s_ext (by with_unfolding_all rfl) ?_ | refine s_aug (by with_unfolding_all rfl) ?_ | refine s_for ?_ | refine s_raise ?_ | refine s_try ?_ | refine s_set ?_ | refine s_tryO ?_ | refine s_tryR ?_ | refine s_tryA ?_ | refine s_rev (by with_unfolding_all rfl) (by (simp only [List.set_cons_succ, List.set_cons_zero]; with_unfolding_all rfl)) ?_ | refine s_clr (by with_unfolding_all rfl) (by (simp only [List.set_cons_succ, List.set_cons_zero]; with_unfolding_all rfl)) ?_ | fail) | (refine gd_ite ?_; first | refine i_true ?_ | refine i_false ?_ | refine i_decT (by omega) ?_ | refine i_decF (by omega) ?_ | (refine i_dec (fun hc => ?_) (fun hc => ?_)) | refine i_ndecT (by omega) ?_ | refine i_ndecF (by omega) ?_ | (refine i_ndec (fun hc => ?_) (fun hc => ?_)) | refine i_not ?_ | fail) | refine k_va ?_ | refine k_ow ?_ | refine k_st (by (simp only [List.set_cons_succ, List.set_cons_zero]; with_unfolding_all rfl)) ?_ | refine k_tg (by first | (simp only [bT, bCons, bNil, bN, Option.bind_some, List.set_cons_succ, List.set_cons_zero]; with_unfolding_all rfl) | with_unfolding_all rfl) ?_ | refine k_par (by with_unfolding_all rfl) (by first | (simp only [putE, List.set_cons_succ, List.set_cons_zero]; with_unfolding_all rfl) | with_unfolding_all rfl) ?_ | refine k_app (by with_unfolding_all rfl) (by first | (simp; done) | (simp; omega) | omega) (by (simp only [List.set_cons_succ, List.set_cons_zero]; with_unfolding_all rfl)) ?_ | refine k_ext (by with_unfolding_all rfl) (by first | (simp; done) | (simp; omega) | omega) (by (simp only [List.set_cons_succ, List.set_cons_zero]; with_unfolding_all rfl)) ?_ | refine k_augA (by (simp only [List.set_cons_succ, List.set_cons_zero]; with_unfolding_all rfl)) ?_ | refine k_augS (by (simp only [List.set_cons_succ, List.set_cons_zero]; with_unfolding_all rfl)) ?_ | refine k_set1 (by with_unfolding_all rfl) ?_ | refine k_set2 (by with_unfolding_all rfl) (by omega) (by omega) (by (simp only [List.set_cons_succ, List.set_cons_zero]; with_unfolding_all rfl)) ?_ | refine k_bk (by simp only [back, List.getD_cons_zero, List.getD_cons_succ, List.set_cons_zero, List.set_cons_succ]; with_unfolding_all rfl) ?_ | refine k_lc (by with_unfolding_all rfl) (by simp only [wipeE, List.set_cons_zero, List.set_cons_succ]; with_unfolding_all rfl) ?_ | refine f_ok (by assumption) ?_ | refine f_ex (by assumption) ?_ | refine k_mk ?_ | refine k_lsW ?_ | refine k_ob (by first | assumption | with_unfolding_all rfl) ?_ | refine k_lc2 (by with_unfolding_all rfl) (by simp only [wipeE, List.set_cons_zero, List.set_cons_succ]; with_unfolding_all rfl) ?_ | refine k_augM (by first | exact cMul_r (by omega) (by omega) | exact cMul_l (by omega) (by omega)) (by (simp only [List.set_cons_succ, List.set_cons_zero]; with_unfolding_all rfl)) ?_ | refine k_augD (by omega) (by omega) (by (simp only [List.set_cons_succ, List.set_cons_zero]; with_unfolding_all rfl)) ?_ | refine take_w (by assumption) (by omega) (by omega) (by omega) (fun v b hv1 hv2 hb => ?_) | fail))
theorem eqvAll_refl {ps : List PyData} (h : ∀ p ∈ ps, p.eqv p = true) : PyData.eqvAll ps ps = true := by
  induction ps with
  | nil => simp [PyData.eqvAll]
  | cons p ps ih => rw [PyData.eqvAll, h p List.mem_cons_self, ih (fun q hq => h q (List.mem_cons_of_mem _ hq))]; rfl
theorem eqv_refl' : ∀ (n : Nat) {d : D}, Pl n d → (pD d).eqv (pD d) = true
  | _, _, .non _ => by simp [pD, PyData.eqv]
  | _, _, .bl _ b => by simp [pD, PyData.eqv]
  | _, _, .int _ i => by simp [pD, PyData.eqv]
  | _, _, .str _ z _ => by simp [pD, PyData.eqv]
  | n + 1, _, .lst (ds := ds) h _ => by
    rw [pD_lst, PyData.eqv]
    exact eqvAll_refl fun p hp => by obtain ⟨d, hd, rfl⟩ := List.mem_map.mp hp; exact eqv_refl' n (h d hd)
  | n + 1, _, .tup (ds := ds) h _ => by
    rw [pD_tup, PyData.eqv]
    exact eqvAll_refl fun p hp => by obtain ⟨d, hd, rfl⟩ := List.mem_map.mp hp; exact eqv_refl' n (h d hd)
theorem eqD_self {n : Nat} {d : D} (h : Pl n d) (hn : n ≤ 64) : eqD d d = some true := by rw [eqD_pl h h hn hn, eqv_refl' n h]
/-! ### when two are alike -/
def eqb : Spt → Spt → Bool
  | .no, .no => true
  | .li a, .li b => decide (a = b)
  | .pa a b c d, .pa a' b' c' d' => decide (a = a' ∧ b = b' ∧ c = c' ∧ d = d')
  | _, _ => false
theorem eqb_iff {s t : Spt} : eqb s t = true ↔ s = t := by
  cases s <;> cases t <;> simp [eqb]
theorem sp_eq (s t : Spt) : dEq (spD s) (spD t) = some (.bl (eqb s t)) := by
  have h := eqD_pl (lf_sp s) (lf_sp t) (by decide) (by decide)
  unfold dEq
  rw [h]
  show some (D.bl _) = _
  congr 2
  cases s with
  | no => cases t <;> simp [spD, Spt.fs, pD, PyData.eqv, PyData.eqvAll, eqb]
  | li a =>
    cases t with
    | li b =>
      by_cases c : a = b <;> simp [spD, Spt.fs, pD, PyData.eqv, PyData.eqvAll, eqb, c]
    | _ => simp [spD, Spt.fs, pD, PyData.eqv, PyData.eqvAll, eqb]
  | pa a b c d =>
    cases t with
    | pa a' b' c' d' =>
      by_cases h1 : a = a' <;> by_cases h2 : b = b' <;> by_cases h3 : c = c' <;> by_cases h4 : d = d' <;> simp [spD, Spt.fs, pD, PyData.eqv, PyData.eqvAll, eqb, h1, h2, h3, h4]
    | _ => simp [spD, Spt.fs, pD, PyData.eqv, PyData.eqvAll, eqb]
theorem fs_eq (s t : Spt) {Q : Sl → List D → Prop} {X : XB} (q : Q (.va (.bl (eqb s t))) []) : Wf (f_Place_eq [.va (plD s), .va (plD t)]) Q X := by
  have g4 : f2 (isiOD io) [plD t, .cls "Place"] = some (.bl true) := rfl
  have g0 := fld_line s
  have g1 := fld_last s
  have g2 := fld_begin s
  have g3 := fld_end s
  have k0 := fld_line t
  have k1 := fld_last t
  have k2 := fld_begin t
  have k3 := fld_end t
  have n0 : dEq .non .non = some (.bl true) := by rfl
  have n1 : ∀ i : Int, dEq .non (.int i) = some (.bl false) := fun i => by rfl
  have n2 : ∀ i : Int, dEq (.int i) .non = some (.bl false) := fun i => by rfl
  have e1 : ∀ i j : Int, dEq (.int i) (.int j) = some (.bl (decide (i = j))) := fun i j => by rw [dEq, eqD_int]; rfl
  cases s with
  | no =>
    cases t with
    | no => simp only [Spt.fs, List.getD_cons_zero, List.getD_cons_succ] at *; generalize plD .no = p at *; refine f_def (by simp only [List.map_cons, List.map_nil, List.length_cons, List.length_nil, Nat.reduceAdd, Nat.reduceSub, List.replicate_succ, List.replicate_zero, List.cons_append, List.nil_append, List.append_nil]; rfl) ?_; unfold b_Place_eq; decreasing_trivial_pre_omega; exact q
    | li b => have m1 := n1 b; simp only [Spt.fs, List.getD_cons_zero, List.getD_cons_succ] at *; generalize plD .no = p at *; generalize plD (.li b) = p2 at *; refine f_def (by simp only [List.map_cons, List.map_nil, List.length_cons, List.length_nil, Nat.reduceAdd, Nat.reduceSub, List.replicate_succ, List.replicate_zero, List.cons_append, List.nil_append, List.append_nil]; rfl) ?_; unfold b_Place_eq; decreasing_trivial_pre_omega; exact q
    | pa b b2 b3 b4 => have m1 := n1 b; simp only [Spt.fs, List.getD_cons_zero, List.getD_cons_succ] at *; generalize plD .no = p at *; generalize plD (.pa b b2 b3 b4) = p2 at *; refine f_def (by simp only [List.map_cons, List.map_nil, List.length_cons, List.length_nil, Nat.reduceAdd, Nat.reduceSub, List.replicate_succ, List.replicate_zero, List.cons_append, List.nil_append, List.append_nil]; rfl) ?_; unfold b_Place_eq; decreasing_trivial_pre_omega; exact q
  | li a =>
    cases t with
    | no => have m1 := n2 a; simp only [Spt.fs, List.getD_cons_zero, List.getD_cons_succ] at *; generalize plD .no = p at *; generalize plD (.li a) = p2 at *; refine f_def (by simp only [List.map_cons, List.map_nil, List.length_cons, List.length_nil, Nat.reduceAdd, Nat.reduceSub, List.replicate_succ, List.replicate_zero, List.cons_append, List.nil_append, List.append_nil]; rfl) ?_; unfold b_Place_eq; decreasing_trivial_pre_omega; exact q
    | li b =>
      have m1 := e1 a b
      by_cases c : a = b
      · subst c
        rw [decide_eq_true rfl] at m1
        have z : eqb (.li a) (.li a) = true := eqb_iff.mpr rfl
        rw [z] at q
        simp only [Spt.fs, List.getD_cons_zero, List.getD_cons_succ] at *
        generalize plD (.li a) = p2 at *; refine f_def (by simp only [List.map_cons, List.map_nil, List.length_cons, List.length_nil, Nat.reduceAdd, Nat.reduceSub, List.replicate_succ, List.replicate_zero, List.cons_append, List.nil_append, List.append_nil]; rfl) ?_; unfold b_Place_eq; decreasing_trivial_pre_omega; exact q
      · rw [decide_eq_false c] at m1
        have z : eqb (.li a) (.li b) = false := by simp [eqb, c]
        rw [z] at q
        simp only [Spt.fs, List.getD_cons_zero, List.getD_cons_succ] at *
        generalize plD (.li a) = p2 at *; generalize plD (.li b) = p3 at *; refine f_def (by simp only [List.map_cons, List.map_nil, List.length_cons, List.length_nil, Nat.reduceAdd, Nat.reduceSub, List.replicate_succ, List.replicate_zero, List.cons_append, List.nil_append, List.append_nil]; rfl) ?_; unfold b_Place_eq; decreasing_trivial_pre_omega; exact q
    | pa b b2 b3 b4 =>
      have m1 := n2 b3
      have m2 := n1 b3
      have z : eqb (.li a) (.pa b b2 b3 b4) = false := rfl
      rw [z] at q
      by_cases c1 : a = b <;> by_cases c2 : a = b2
      all_goals
        simp only [Spt.fs, List.getD_cons_zero, List.getD_cons_succ] at *
        generalize plD (.li a) = p2 at *; generalize plD (.pa b b2 b3 b4) = p3 at *; refine f_def (by simp only [List.map_cons, List.map_nil, List.length_cons, List.length_nil, Nat.reduceAdd, Nat.reduceSub, List.replicate_succ, List.replicate_zero, List.cons_append, List.nil_append, List.append_nil]; rfl) ?_; unfold b_Place_eq; decreasing_trivial_pre_omega
      all_goals first | omega | exact q | (rw [decide_eq_false (by omega)]; exact q)
  | pa a a2 a3 a4 =>
    cases t with
    | no => have m1 := n2 a; simp only [Spt.fs, List.getD_cons_zero, List.getD_cons_succ] at *; generalize plD .no = p at *; generalize plD (.pa a a2 a3 a4) = p2 at *; refine f_def (by simp only [List.map_cons, List.map_nil, List.length_cons, List.length_nil, Nat.reduceAdd, Nat.reduceSub, List.replicate_succ, List.replicate_zero, List.cons_append, List.nil_append, List.append_nil]; rfl) ?_; unfold b_Place_eq; decreasing_trivial_pre_omega; exact q
    | li b =>
      have m1 := n2 a3
      have z : eqb (.pa a a2 a3 a4) (.li b) = false := rfl
      rw [z] at q
      by_cases c1 : a = b <;> by_cases c2 : a2 = b
      all_goals
        simp only [Spt.fs, List.getD_cons_zero, List.getD_cons_succ] at *
        generalize plD (.li b) = p2 at *; generalize plD (.pa a a2 a3 a4) = p3 at *; refine f_def (by simp only [List.map_cons, List.map_nil, List.length_cons, List.length_nil, Nat.reduceAdd, Nat.reduceSub, List.replicate_succ, List.replicate_zero, List.cons_append, List.nil_append, List.append_nil]; rfl) ?_; unfold b_Place_eq; decreasing_trivial_pre_omega
      all_goals first | omega | exact q | (rw [decide_eq_false (by omega)]; exact q)
    | pa b b2 b3 b4 =>
      by_cases c : a = b ∧ a2 = b2 ∧ a3 = b3 ∧ a4 = b4
      · obtain ⟨rfl, rfl, rfl, rfl⟩ := c
        have z : eqb (.pa a a2 a3 a4) (.pa a a2 a3 a4) = true := eqb_iff.mpr rfl
        rw [z] at q
        simp only [Spt.fs, List.getD_cons_zero, List.getD_cons_succ] at *
        generalize plD (.pa a a2 a3 a4) = p2 at *; refine f_def (by simp only [List.map_cons, List.map_nil, List.length_cons, List.length_nil, Nat.reduceAdd, Nat.reduceSub, List.replicate_succ, List.replicate_zero, List.cons_append, List.nil_append, List.append_nil]; rfl) ?_; unfold b_Place_eq; decreasing_trivial_pre_omega
        all_goals first | omega | (simp only [decide_true]; exact q) | (rw [decide_eq_true (by omega)]; exact q)
      · have z : eqb (.pa a a2 a3 a4) (.pa b b2 b3 b4) = false := by simp only [eqb, decide_eq_false c]
        rw [z] at q
        simp only [Spt.fs, List.getD_cons_zero, List.getD_cons_succ] at *
        generalize plD (.pa a a2 a3 a4) = p2 at *; generalize plD (.pa b b2 b3 b4) = p3 at *; refine f_def (by simp only [List.map_cons, List.map_nil, List.length_cons, List.length_nil, Nat.reduceAdd, Nat.reduceSub, List.replicate_succ, List.replicate_zero, List.cons_append, List.nil_append, List.append_nil]; rfl) ?_; unfold b_Place_eq; decreasing_trivial_pre_omega
        all_goals first | omega | (rw [decide_eq_false (by omega)]; exact q) | exact q
theorem pl_eq (s t : Spt) : dEqO f_Place_eq "Place" false (plD s) (plD t) = some (.bl (eqb s t)) := by
  have h := fs_eq s t (Q := fun r b => r = .va (.bl (eqb s t)) ∧ b = []) (X := noB) ⟨rfl, rfl⟩
  have e : f_Place_eq [.va (plD s), .va (plD t)] = .ok (.va (.bl (eqb s t))) [] := by
    cases g : f_Place_eq [.va (plD s), .va (plD t)] with
    | ok r b => rw [g] at h; obtain ⟨rfl, rfl⟩ := h; rfl
    | ex _ _ _ _ => rw [g] at h; exact h.elim
    | no => rw [g] at h; exact h.elim
  unfold plD at e ⊢
  unfold dEqO
  simp only [e, and_self, if_true]
  rfl
end My

namespace My
open PySem PySem.Spec PyProof.Rows L2 Mir
local macro_rules | `(tactic| decreasing_trivial_pre_omega) => `(tactic| repeat' (with_reducible first | (refine gd_We ?_; first | refine e_bnd ?_ | refine e_ret ?_ | refine e_rdv (by with_unfolding_all rfl) ?_ | refine e_mVa ?_ | (refine gd_opt ?_; first | refine e_opt (by assumption) ?_ | (refine gd_isN ?_; first | refine d_isN_non ?_ | refine d_isN_int ?_ | refine d_isN_lst ?_ | refine d_isN_tup ?_ | refine d_isN_str ?_ | refine d_isN_ob ?_ | refine d_isN_exn ?_ | refine d_isN_bl ?_ | fail) | (refine gd_notN ?_; first | refine d_notN_non ?_ | refine d_notN_int ?_ | refine d_notN_lst ?_ | refine d_notN_tup ?_ | refine d_notN_str ?_ | refine d_notN_ob ?_ | refine d_notN_exn ?_ | refine d_notN_bl ?_ | fail) | (refine gd_ix ?_; first | (refine d_ix2 (by omega) (by omega) (fun v hv => ?_)) | (refine d_ix3 (by omega) (by omega) (fun v hv => ?_)) | (refine d_ix4 (by omega) (by omega) (fun v hv => ?_)) | (refine d_ix5 (by omega) (by omega) (fun v hv => ?_)) | (refine d_ix6 (by omega) (by omega) (fun v hv => ?_)) | (refine d_ix7 (by omega) (by omega) (fun v hv => ?_)) | (refine d_ix8 (by omega) (by omega) (fun v hv => ?_)) | (refine d_ix9 (by omega) (by omega) (fun v hv => ?_)) | (refine d_ix10 (by omega) (by omega) (fun v hv => ?_)) | (refine d_ix11 (by omega) (by omega) (fun v hv => ?_)) | (refine d_ix12 (by omega) (by omega) (fun v hv => ?_)) | (refine d_ix13 (by omega) (by omega) (fun v hv => ?_)) | fail) | refine d_sub ?_ | refine d_add ?_ | refine d_addI ?_ | refine d_addL (by first | decide | (simp; done) | (simp; omega)) ?_ | refine d_addT (by first | decide | (simp; done) | (simp; omega)) ?_ | refine d_mul (by first | exact cMul_r (by omega) (by omega) | exact cMul_l (by omega) (by omega)) ?_ | refine d_mulI (by first | exact cMul_r (by omega) (by omega) | exact cMul_l (by omega) (by omega)) ?_ | refine d_rep (by omega) (by omega) ?_ | refine d_div (by omega) (by omega) ?_ | refine d_mod (by omega) ?_ | refine d_pow6 ?_ | refine d_pow4 ?_ | refine d_pow18 ?_ | refine d_neg ?_ | refine d_lt ?_ | refine d_le ?_ | refine d_gt ?_ | refine d_ge ?_ | refine d_eq ?_ | refine d_ne ?_ | refine d_eqB ?_ | refine d_neB ?_ | refine d_asB ?_ | refine d_asB2 ?_ | refine d_clt ?_ | refine d_cle ?_ | refine d_cgt ?_ | refine d_cge ?_ | refine d_ceq ?_ | refine d_truB ?_ | refine d_truI ?_ | refine d_truL ?_ | refine d_truN ?_ | refine d_notD ?_ | refine d_asI ?_ | refine d_lenL ?_ | refine d_lenT ?_ | refine d_lenS ?_ | refine d_lenL1 ?_ | refine d_lenT1 ?_ | refine d_abs ?_ | refine d_int ?_ | refine d_intB ?_ | refine d_min ?_ | refine d_max ?_ | refine d_tup (by first | (with_unfolding_all exact Nat.le_of_ble_eq_true rfl) | (simp; done)) ?_ | refine d_lst (by first | (with_unfolding_all exact Nat.le_of_ble_eq_true rfl) | (simp; done)) ?_ | refine d_seqL ?_ | refine d_seqT ?_ | refine d_listL ?_ | refine d_listT ?_ | refine d_tupL ?_ | refine d_tupT ?_ | refine d_rng1 (by omega) (by omega) ?_ | refine d_rng2 (by omega) (by omega) (by omega) (by omega) ?_ | refine d_slLo (by omega) ?_ | refine d_slHi (by omega) ?_ | refine d_slLoT (by omega) ?_ | refine d_slHiT (by omega) ?_ | refine d_str (by omega) (by omega) ?_ | refine d_pow30 ?_ | refine d_kt (by first | assumption | rfl) ?_ | refine d_divmod (by omega) (by omega) ?_ | refine d_revL ?_ | refine d_xor ?_ | refine e_opt (by assumption) ?_ | fail) | refine e_mFz ?_ | refine e_mCons ?_ | refine e_lCons ?_ | refine e_givV (by with_unfolding_all rfl) ?_ | refine e_givO (by with_unfolding_all rfl) (by (simp only [List.set_cons_succ, List.set_cons_zero]; with_unfolding_all rfl)) ?_ | refine e_rdfV (by with_unfolding_all rfl) ?_ | refine e_rdfO (by with_unfolding_all rfl) (by (simp only [List.set_cons_succ, List.set_cons_zero]; with_unfolding_all rfl)) ?_ | refine e_pkV (by with_unfolding_all rfl) ?_ | refine e_pkO (by with_unfolding_all rfl) ?_ | refine e_hasV (by with_unfolding_all rfl) ?_ | refine e_hasO (by with_unfolding_all rfl) ?_ | refine e_binPO (by with_unfolding_all rfl) ?_ | refine e_binPV (by with_unfolding_all rfl) ?_ | refine e_mIf ?_ | refine e_mAnd ?_ | refine e_mOr ?_ | refine e_mNot ?_ | refine e_vAnd ?_ | refine e_vOr ?_ | refine e_chn ?_ | refine e_callN (by first | (simp only [sls, List.getElem?_cons_zero, List.getElem?_cons_succ, Option.map_some]; with_unfolding_all rfl) | with_unfolding_all rfl) (by with_unfolding_all rfl) ?_ | refine e_callO (by first | (simp only [sls, List.set_cons_succ, List.set_cons_zero, List.getElem?_cons_zero, List.getElem?_cons_succ, Option.map_some]; with_unfolding_all rfl) | with_unfolding_all rfl) (by with_unfolding_all rfl) (by with_unfolding_all rfl) ?_ | refine e_callB (by first | (simp only [sls, List.getElem?_cons_zero, List.getElem?_cons_succ, Option.map_some]; with_unfolding_all rfl) | with_unfolding_all rfl) ?_ | refine e_lc ?_ | refine e_mk (by first | (simp only [List.map_cons, List.map_nil]; with_unfolding_all rfl) | with_unfolding_all rfl) ?_ | refine e_mth ?_ | refine e_mth0 ?_ | refine e_lst ?_ | refine e_iteT (by with_unfolding_all (first | exact ⟨rfl, rfl⟩ | exact rfl)) ?_ | refine e_star ?_ | refine e_chn3 ?_ | refine e_lc2 ?_ | refine e_slP ?_ | fail) | (refine gd_Wt ?_; first | refine s_sq ?_ | refine s_nx ?_ | refine s_ct ?_ | refine s_bk ?_ | refine s_if ?_ | refine s_ret ?_ | refine s_asg ?_ | refine s_drop ?_ | refine s_asgT ?_ | refine s_par ?_ | refine s_app (by with_unfolding_all rfl) ?_ | refine s_ext (by with_unfolding_all rfl) ?_ | refine s_aug (by with_unfolding_all rfl) ?_ | refine s_for ?_ | refine s_raise ?_ | refine s_try ?_ | refine s_set ?_ | refine s_tryO ?_ | refine s_tryR ?_ | refine s_tryA ?_ | refine s_rev (by with_unfolding_all rfl) (by (simp only [List.set_cons_succ, List.set_cons_zero]; with_unfolding_all rfl)) ?_ | refine s_clr (by with_unfolding_all rfl) (by (simp only [List.set_cons_succ, List.set_cons_zero]; with_unfolding_all rfl)) ?_ | fail) | (refine gd_ite ?_; first | refine i_true ?_ | refine i_false ?_ | refine i_decT (by omega) ?_ | refine i_decF (by omega) ?_ | (refine i_dec (fun hc => ?_) (fun hc => ?_)) | refine i_ndecT (by omega) ?_ | refine i_ndecF (by omega) ?_ | (refine i_ndec (fun hc => ?_) (fun hc => ?_)) | refine i_not ?_ | fail) | refine k_va ?_ | refine k_ow ?_ | refine k_st (by (simp only [List.set_cons_succ, List.set_cons_zero]; with_unfolding_all rfl)) ?_ | refine k_tg (by first | (simp only [bT, bCons, bNil, bN, Option.bind_some, List.set_cons_succ, List.set_cons_zero]; with_unfolding_all rfl) | with_unfolding_all rfl) ?_ | refine k_par (by with_unfolding_all rfl) (by first | (simp only [putE, List.set_cons_succ, List.set_cons_zero]; with_unfolding_all rfl) | with_unfolding_all rfl) ?_ | refine k_app (by with_unfolding_all rfl) (by first | (simp; done) | (simp; omega) | omega) (by (simp only [List.set_cons_succ, List.set_cons_zero]; with_unfolding_all rfl)) ?_ | refine k_ext (by with_unfolding_all rfl) (by first | (simp; done) | (simp; omega) | omega) (by (simp only [List.set_cons_succ, List.set_cons_zero]; with_unfolding_all rfl)) ?_ | refine k_augA (by (simp only [List.set_cons_succ, List.set_cons_zero]; with_unfolding_all rfl)) ?_ | refine k_augS (by (simp only [List.set_cons_succ, List.set_cons_zero]; with_unfolding_all rfl)) ?_ | refine k_set1 (by with_unfolding_all rfl) ?_ | refine k_set2 (by with_unfolding_all rfl) (by omega) (by omega) (by (simp only [List.set_cons_succ, List.set_cons_zero]; with_unfolding_all rfl)) ?_ | refine k_bk (by simp only [back, List.getD_cons_zero, List.getD_cons_succ, List.set_cons_zero, List.set_cons_succ]; with_unfolding_all rfl) ?_ | refine k_lc (by with_unfolding_all rfl) (by simp only [wipeE, List.set_cons_zero, List.set_cons_succ]; with_unfolding_all rfl) ?_ | refine f_ok (by assumption) ?_ | refine f_ex (by assumption) ?_ | refine k_mk ?_ | refine k_lsW ?_ | refine k_ob (by first | assumption | with_unfolding_all rfl) ?_ | refine k_lc2 (by with_unfolding_all rfl) (by simp only [wipeE, List.set_cons_zero, List.set_cons_succ]; with_unfolding_all rfl) ?_ | refine k_augM (by first | exact cMul_r (by omega) (by omega) | exact cMul_l (by omega) (by omega)) (by (simp only [List.set_cons_succ, List.set_cons_zero]; with_unfolding_all rfl)) ?_ | refine k_augD (by omega) (by omega) (by (simp only [List.set_cons_succ, List.set_cons_zero]; with_unfolding_all rfl)) ?_ | refine take_w (by assumption) (by omega) (by omega) (by omega) (fun v b hv1 hv2 hb => ?_) | fail))
local macro_rules | `(tactic| decreasing_trivial) => `(tactic| repeat' (with_reducible first | (refine gd_We ?_; first | refine e_bnd ?_ | refine e_ret ?_ | refine e_rdv (by with_unfolding_all rfl) ?_ | refine e_mVa ?_ | (refine gd_opt ?_; first | refine e_opt (by assumption) ?_ | (refine gd_isN ?_; first | refine d_isN_non ?_ | refine d_isN_int ?_ | refine d_isN_lst ?_ | refine d_isN_tup ?_ | refine d_isN_str ?_ | refine d_isN_ob ?_ | refine d_isN_exn ?_ | refine d_isN_bl ?_ | fail) | (refine gd_notN ?_; first | refine d_notN_non ?_ | refine d_notN_int ?_ | refine d_notN_lst ?_ | refine d_notN_tup ?_ | refine d_notN_str ?_ | refine d_notN_ob ?_ | refine d_notN_exn ?_ | refine d_notN_bl ?_ | fail) | (refine gd_ix ?_; first | (refine d_ix2 (by omega) (by omega) (fun v hv => ?_)) | (refine d_ix3 (by omega) (by omega) (fun v hv => ?_)) | (refine d_ix4 (by omega) (by omega) (fun v hv => ?_)) | (refine d_ix5 (by omega) (by omega) (fun v hv => ?_)) | (refine d_ix6 (by omega) (by omega) (fun v hv => ?_)) | (refine d_ix7 (by omega) (by omega) (fun v hv => ?_)) | (refine d_ix8 (by omega) (by omega) (fun v hv => ?_)) | (refine d_ix9 (by omega) (by omega) (fun v hv => ?_)) | (refine d_ix10 (by omega) (by omega) (fun v hv => ?_)) | (refine d_ix11 (by omega) (by omega) (fun v hv => ?_)) | (refine d_ix12 (by omega) (by omega) (fun v hv => ?_)) | (refine d_ix13 (by omega) (by omega) (fun v hv => ?_)) | fail) | refine d_sub ?_ | refine d_add ?_ | refine d_addI ?_ | refine d_addL (by first | decide | (simp; done) | (simp; omega)) ?_ | refine d_addT (by first | decide | (simp; done) | (simp; omega)) ?_ | refine d_mul (by first | exact cMul_r (by omega) (by omega) | exact cMul_l (by omega) (by omega)) ?_ | refine d_mulI (by first | exact cMul_r (by omega) (by omega) | exact cMul_l (by omega) (by omega)) ?_ | refine d_rep (by omega) (by omega) ?_ | refine d_div (by omega) (by omega) ?_ | refine d_mod (by omega) ?_ | refine d_pow6 ?_ | refine d_pow4 ?_ | refine d_pow18 ?_ | refine d_neg ?_ | refine d_lt ?_ | refine d_le ?_ | refine d_gt ?_ | refine d_ge ?_ | refine d_eq ?_ | refine d_ne ?_ | refine d_eqB ?_ | refine d_neB ?_ | refine d_asB ?_ | refine d_asB2 ?_ | refine d_clt ?_ | refine d_cle ?_ | refine d_cgt ?_ | refine d_cge ?_ | refine d_ceq ?_ | refine d_truB ?_ | refine d_truI ?_ | refine d_truL ?_ | refine d_truN ?_ | refine d_notD ?_ | refine d_asI ?_ | refine d_lenL ?_ | refine d_lenT ?_ | refine d_lenS ?_ | refine d_lenL1 ?_ | refine d_lenT1 ?_ | refine d_abs ?_ | refine d_int ?_ | refine d_intB ?_ | refine d_min ?_ | refine d_max ?_ | refine d_tup (by first | (with_unfolding_all exact Nat.le_of_ble_eq_true rfl) | (simp; done)) ?_ | refine d_lst (by first | (with_unfolding_all exact Nat.le_of_ble_eq_true rfl) | (simp; done)) ?_ | refine d_seqL ?_ | refine d_seqT ?_ | refine d_listL ?_ | refine d_listT ?_ | refine d_tupL ?_ | refine d_tupT ?_ | refine d_rng1 (by omega) (by omega) ?_ | refine d_rng2 (by omega) (by omega) (by omega) (by omega) ?_ | refine d_slLo (by omega) ?_ | refine d_slHi (by omega) ?_ | refine d_slLoT (by omega) ?_ | refine d_slHiT (by omega) ?_ | refine d_str (by omega) (by omega) ?_ | refine d_pow30 ?_ | refine d_kt (by first | assumption | rfl) ?_ | refine d_divmod (by omega) (by omega) ?_ | refine d_revL ?_ | refine d_xor ?_ | refine e_opt (by assumption) ?_ | fail) | refine e_mFz ?_ | refine e_mCons ?_ | refine e_lCons ?_ | refine e_givV (by with_unfolding_all rfl) ?_ | refine e_givO (by with_unfolding_all rfl) (by (simp only [List.set_cons_succ, List.set_cons_zero]; with_unfolding_all rfl)) ?_ | refine e_rdfV (by with_unfolding_all rfl) ?_ | refine e_rdfO (by with_unfolding_all rfl) (by (simp only [List.set_cons_succ, List.set_cons_zero]; with_unfolding_all rfl)) ?_ | refine e_pkV (by with_unfolding_all rfl) ?_ | refine e_pkO (by with_unfolding_all rfl) ?_ | refine e_hasV (by with_unfolding_all rfl) ?_ | refine e_hasO (by with_unfolding_all rfl) ?_ | refine e_binPO (by with_unfolding_all rfl) ?_ | refine e_binPV (by with_unfolding_all rfl) ?_ | refine e_mIf ?_ | refine e_mAnd ?_ | refine e_mOr ?_ | refine e_mNot ?_ | refine e_vAnd ?_ | refine e_vOr ?_ | refine e_chn ?_ | refine e_callN (by first | (simp only [sls, List.getElem?_cons_zero, List.getElem?_cons_succ, Option.map_some]; with_unfolding_all rfl) | with_unfolding_all rfl) (by with_unfolding_all rfl) ?_ | refine e_callO (by first | (simp only [sls, List.set_cons_succ, List.set_cons_zero, List.getElem?_cons_zero, List.getElem?_cons_succ, Option.map_some]; with_unfolding_all rfl) | with_unfolding_all rfl) (by with_unfolding_all rfl) (by with_unfolding_all rfl) ?_ | refine e_callB (by first | (simp only [sls, List.getElem?_cons_zero, List.getElem?_cons_succ, Option.map_some]; with_unfolding_all rfl) | with_unfolding_all rfl) ?_ | refine e_lc ?_ | refine e_mk (by first | (simp only [List.map_cons, List.map_nil]; with_unfolding_all rfl) | with_unfolding_all rfl) ?_ | refine e_mth ?_ | refine e_mth0 ?_ | refine e_lst ?_ | refine e_iteT (by with_unfolding_all (first | exact ⟨rfl, rfl⟩ | exact rfl)) ?_ | refine e_star ?_ | refine e_chn3 ?_ | refine e_lc2 ?_ | refine e_slP ?_ | fail) | (refine gd_Wt ?_; first | refine s_nx ?_ | refine s_ct ?_ | refine s_bk ?_ | refine s_if ?_ | refine s_ret ?_ | refine s_asg ?_ | refine s_drop ?_ | refine s_asgT ?_ | refine s_par ?_ | refine s_app (by with_unfolding_all rfl) ?_ | refine s_ext (by with_unfolding_all rfl) ?_ | refine s_aug (by with_unfolding_all rfl) ?_ | refine s_for ?_ | refine s_raise ?_ | refine s_try ?_ | refine s_set ?_ | refine s_tryO ?_ | refine s_tryR ?_ | refine s_tryA ?_ | refine s_rev (by with_unfolding_all rfl) (by (simp only [List.set_cons_succ, List.set_cons_zero]; with_unfolding_all rfl)) ?_ | refine s_clr (by with_unfolding_all rfl) (by (simp only [List.set_cons_succ, List.set_cons_zero]; with_unfolding_all rfl)) ?_ | fail) | (refine gd_ite ?_; first | refine i_true ?_ | refine i_false ?_ | refine i_decT (by omega) ?_ | refine i_decF (by omega) ?_ | (refine i_dec (fun hc => ?_) (fun hc => ?_)) | refine i_ndecT (by omega) ?_ | refine i_ndecF (by omega) ?_ | (refine i_ndec (fun hc => ?_) (fun hc => ?_)) | refine i_not ?_ | fail) | refine k_va ?_ | refine k_ow ?_ | refine k_st (by (simp only [List.set_cons_succ, List.set_cons_zero]; with_unfolding_all rfl)) ?_ | refine k_tg (by first | (simp only [bT, bCons, bNil, bN, Option.bind_some, List.set_cons_succ, List.set_cons_zero]; with_unfolding_all rfl) | with_unfolding_all rfl) ?_ | refine k_par (by with_unfolding_all rfl) (by first | (simp only [putE, List.set_cons_succ, List.set_cons_zero]; with_unfolding_all rfl) | with_unfolding_all rfl) ?_ | refine k_app (by with_unfolding_all rfl) (by first | (simp; done) | (simp; omega) | omega) (by (simp only [List.set_cons_succ, List.set_cons_zero]; with_unfolding_all rfl)) ?_ | refine k_ext (by with_unfolding_all rfl) (by first | (simp; done) | (simp; omega) | omega) (by (simp only [List.set_cons_succ, List.set_cons_zero]; with_unfolding_all rfl)) ?_ | refine k_augA (by (simp only [List.set_cons_succ, List.set_cons_zero]; with_unfolding_all rfl)) ?_ | refine k_augS (by (simp only [List.set_cons_succ, List.set_cons_zero]; with_unfolding_all rfl)) ?_ | refine k_set1 (by with_unfolding_all rfl) ?_ | refine k_set2 (by with_unfolding_all rfl) (by omega) (by omega) (by (simp only [List.set_cons_succ, List.set_cons_zero]; with_unfolding_all rfl)) ?_ | refine k_bk (by simp only [back, List.getD_cons_zero, List.getD_cons_succ, List.set_cons_zero, List.set_cons_succ]; with_unfolding_all rfl) ?_ | refine k_lc (by with_unfolding_all rfl) (by simp only [wipeE, List.set_cons_zero, List.set_cons_succ]; with_unfolding_all rfl) ?_ | refine f_ok (by assumption) ?_ | refine f_ex (by assumption) ?_ | refine k_mk ?_ | refine k_lsW ?_ | refine k_ob (by first | assumption | with_unfolding_all rfl) ?_ | refine k_lc2 (by with_unfolding_all rfl) (by simp only [wipeE, List.set_cons_zero, List.set_cons_succ]; with_unfolding_all rfl) ?_ | refine k_augM (by first | exact cMul_r (by omega) (by omega) | exact cMul_l (by omega) (by omega)) (by (simp only [List.set_cons_succ, List.set_cons_zero]; with_unfolding_all rfl)) ?_ | refine k_augD (by omega) (by omega) (by (simp only [List.set_cons_succ, List.set_cons_zero]; with_unfolding_all rfl)) ?_ | refine take_w (by assumption) (by omega) (by omega) (by omega) (fun v b hv1 hv2 hb => ?_) | fail))
/-! ### runs -/
def rst (acc : List (Int × Spt)) (s : Spt) : List (Int × Spt) := match acc.getLast? with
  | some (k, t) => if eqb t s = true then acc.set (acc.length - 1) (k + 1, s) else acc ++ [(1, s)]
  | none => acc ++ [(1, s)]
def rns (ss : List Spt) : List (Int × Spt) := ss.foldl rst []
def prD (g : Spt → D) (p : Int × Spt) : D := .tup [.int p.1, g p.2]
def flat (rs : List (Int × Spt)) : List Spt := (rs.map fun p => List.replicate p.1.toNat p.2).flatten
theorem rst_len (acc : List (Int × Spt)) (s : Spt) : (rst acc s).length ≤ acc.length + 1 := by
  unfold rst
  split
  · split
    · rw [List.length_set]; omega
    · simp
  · simp
theorem set_last {α : Type} {l : List α} {x y : α} (h : l.getLast? = some x) : l.set (l.length - 1) y = l.dropLast ++ [y] := by
  have ne : l ≠ [] := by intro z; subst z; cases h
  obtain ⟨i, z, rfl⟩ : ∃ i z, l = i ++ [z] := ⟨l.dropLast, l.getLast ne, (List.dropLast_concat_getLast ne).symm⟩
  simp
theorem rst_ok {acc : List (Int × Spt)} {s : Spt} (h : ∀ p ∈ acc, 1 ≤ p.1) : (∀ p ∈ rst acc s, 1 ≤ p.1) ∧ flat (rst acc s) = flat acc ++ [s] := by
  unfold rst
  cases hg : acc.getLast? with
  | none =>
    refine ⟨fun p hp => ?_, ?_⟩
    · rcases List.mem_append.mp hp with hp | hp
      · exact h p hp
      · rw [List.mem_singleton.mp hp]; exact Int.le_refl _
    · simp [flat]
  | some q =>
    obtain ⟨k, t⟩ := q
    have hk := h _ (List.mem_of_getLast? hg)
    simp only
    by_cases c : eqb t s = true
    · have e := eqb_iff.mp c
      subst e
      rw [if_pos c, set_last hg]
      have ne : acc ≠ [] := by intro z; subst z; cases hg
      have sp : acc = acc.dropLast ++ [(k, t)] := by
        have := List.dropLast_concat_getLast ne
        rw [List.getLast?_eq_some_getLast ne] at hg
        rw [Option.some.inj hg] at this
        exact this.symm
      refine ⟨fun p hp => ?_, ?_⟩
      · rcases List.mem_append.mp hp with hp | hp
        · exact h p (List.dropLast_subset _ hp)
        · rw [List.mem_singleton.mp hp]; show 1 ≤ k + 1; omega
      · generalize acc.dropLast = al at sp
        rw [sp]
        simp only [flat, List.map_append, List.map_cons, List.map_nil, List.flatten_append, List.flatten_cons, List.flatten_nil, List.append_nil, List.append_assoc]
        congr 1
        rw [show (k + 1).toNat = k.toNat + 1 by omega, List.replicate_succ']
    · rw [if_neg c]
      refine ⟨fun p hp => ?_, ?_⟩
      · rcases List.mem_append.mp hp with hp | hp
        · exact h p hp
        · rw [List.mem_singleton.mp hp]; exact Int.le_refl _
      · simp [flat]
theorem fold_ok : ∀ (ss : List Spt) {acc : List (Int × Spt)}, (∀ p ∈ acc, 1 ≤ p.1) → (∀ p ∈ ss.foldl rst acc, 1 ≤ p.1) ∧ flat (ss.foldl rst acc) = flat acc ++ ss ∧ (ss.foldl rst acc).length ≤ acc.length + ss.length
  | [], acc, h => ⟨h, by simp, by simp⟩
  | s :: ss, acc, h => by
    obtain ⟨h1, h2⟩ := rst_ok (s := s) h
    obtain ⟨g1, g2, g3⟩ := fold_ok ss h1
    have := rst_len acc s
    refine ⟨g1, ?_, ?_⟩
    · rw [List.foldl_cons, g2, h2, List.append_assoc]; rfl
    · rw [List.foldl_cons, List.length_cons]; omega
theorem rns_ok (ss : List Spt) : (∀ p ∈ rns ss, 1 ≤ p.1) ∧ flat (rns ss) = ss ∧ (rns ss).length ≤ ss.length := by
  obtain ⟨h1, h2, h3⟩ := fold_ok ss (acc := []) (fun p hp => by cases hp)
  exact ⟨h1, h2, by rw [List.length_nil, Nat.zero_add] at h3; exact h3⟩
theorem pl_prs {rs : List (Int × Spt)} (h : rs.length ≤ 5000) : Pl 4 (.lst (rs.map (prD spD))) := .lst (fun d hd => by
  obtain ⟨p, _, rfl⟩ := List.mem_map.mp hd
  refine .tup (fun e he => ?_) (by simp)
  simp only [List.mem_cons, List.not_mem_nil, or_false] at he
  rcases he with rfl | rfl
  · exact .int _ _
  · exact lf_sp _) (by rw [List.length_map]; omega)
theorem prs_ne {rs : List (Int × Spt)} (h : rs.length ≤ 5000) : dNe (.lst (rs.map (prD spD))) (.lst []) = some (.bl (!rs.isEmpty)) := by
  have := eqD_nil (n := 4) (pl_prs h) (by decide)
  unfold dNe
  rw [this]
  cases rs <;> rfl
theorem k_setL {ρ : En} {i : Nat} {N : En → Prop} {d : D} {ds : List D} {ρ2 : En} (r : ρ[i]? = some (some (.ow ds))) (g1 : 0 < ds.length) (e : ρ.set i (some (.ow (ds.set (ds.length - 1) d))) = ρ2) (h : N ρ2) : kSet2 i d N (.int (-1)) ρ := by
  unfold kSet2
  rw [r]
  show opW (ixN ds.length (-1)) _
  rw [show ixN ds.length (-1) = some (ds.length - 1) from by
    unfold ixN
    rw [if_neg (by omega), if_pos (by omega)]
    congr 1
    omega]
  show N _
  rw [e]; exact h
theorem ro_loop {x0 : Option Sl} {N : En → Prop} {R : Sl → En → Prop} {X : XP} : ∀ (ss : List Spt) (acc : List (Int × Spt)) (q : Option Sl), acc.length + ss.length ≤ 5000 →
    (∀ q', N [x0, some (.ow ((ss.foldl rst acc).map (prD plD))), q']) → Wv (bN 2) lp_runs_of_1 (ss.map plD) [x0, some (.ow (acc.map (prD plD))), q] N R X
  | [], acc, q, _, h => Wv_nil (h q)
  | s :: ss, acc, q, hl, h => by
    rw [List.length_cons] at hl
    have rl := rst_len acc s
    refine Wv_cons rfl ?_
    unfold lp_runs_of_1
    have ih := ro_loop (x0 := x0) (N := N) (R := R) (X := X) ss (rst acc s) (some (.va (plD s))) (by omega) h
    have ll : (acc.map (prD plD)).length < 100000 := by rw [List.length_map]; omega
    rw [rst] at ih
    cases hg : acc.getLast? with
    | none =>
      have hz := List.getLast?_eq_none_iff.mp hg
      have tr : truD (.lst (acc.map (prD plD))) = some false := by rw [hz]; rfl
      simp only [hg, List.map_append] at ih
      decreasing_trivial_pre_omega
      all_goals first | exact ⟨ll, ih⟩ | exact ih
    | some p =>
      obtain ⟨k, t⟩ := p
      have tr : truD (.lst (acc.map (prD plD))) = some true := by cases acc with | nil => cases hg | cons => rfl
      have pos : 0 < acc.length := by cases acc with | nil => cases hg | cons => simp
      have a1 : dIx (.lst (acc.map (prD plD))) (.int (-1)) = some (.tup [.int k, plD t]) := at_last (by rw [List.getLast?_map, hg]; rfl)
      have a2 : dIx (.tup [.int k, plD t]) (.int 1) = some (plD t) := rfl
      have a3 : dIx (.tup [.int k, plD t]) (.int 0) = some (.int k) := rfl
      have eq := pl_eq t s
      simp only [hg] at ih
      cases c : eqb t s with
      | true =>
        rw [c] at eq
        simp only [c, if_true, List.map_set] at ih
        decreasing_trivial_pre_omega
        refine k_setL rfl (by rw [List.length_map]; omega) rfl ?_
        rw [List.length_map]
        exact ih
      | false =>
        rw [c] at eq
        simp only [c, Bool.false_eq_true, if_false, List.map_append] at ih
        decreasing_trivial_pre_omega
        all_goals first | exact ⟨ll, ih⟩ | exact ih
theorem lr_loop {x0 : Option Sl} {N : En → Prop} {R : Sl → En → Prop} {X : XP} : ∀ (ss : List Spt) (acc : List (Int × Spt)) (q : Option Sl), acc.length + ss.length ≤ 5000 →
    (∀ q', N [x0, some (.ow ((ss.foldl rst acc).map (prD spD))), q']) → Wv (bN 2) lp_l_runs_1 (ss.map spD) [x0, some (.ow (acc.map (prD spD))), q] N R X
  | [], acc, q, _, h => Wv_nil (h q)
  | s :: ss, acc, q, hl, h => by
    rw [List.length_cons] at hl
    have rl := rst_len acc s
    refine Wv_cons rfl ?_
    unfold lp_l_runs_1
    have ih := lr_loop (x0 := x0) (N := N) (R := R) (X := X) ss (rst acc s) (some (.va (spD s))) (by omega) h
    have ll : (acc.map (prD spD)).length < 100000 := by rw [List.length_map]; omega
    have nn := prs_ne (rs := acc) (by omega)
    rw [rst] at ih
    cases hg : acc.getLast? with
    | none =>
      have hz := List.getLast?_eq_none_iff.mp hg
      have he : acc.isEmpty = true := by rw [hz]; rfl
      rw [he] at nn
      simp only [hg, List.map_append] at ih
      decreasing_trivial_pre_omega
      all_goals first | exact ⟨ll, ih⟩ | exact ih
    | some p =>
      obtain ⟨k, t⟩ := p
      have he : acc.isEmpty = false := by cases acc with | nil => cases hg | cons => rfl
      rw [he] at nn
      have pos : 0 < acc.length := by cases acc with | nil => cases hg | cons => simp
      have a1 : dIx (.lst (acc.map (prD spD))) (.int (-1)) = some (.tup [.int k, spD t]) := at_last (by rw [List.getLast?_map, hg]; rfl)
      have a2 : dIx (.tup [.int k, spD t]) (.int 1) = some (spD t) := rfl
      have a3 : dIx (.tup [.int k, spD t]) (.int 0) = some (.int k) := rfl
      have eq := sp_eq t s
      simp only [hg] at ih
      cases c : eqb t s with
      | true =>
        rw [c] at eq
        simp only [c, if_true, List.map_set] at ih
        decreasing_trivial_pre_omega
        refine k_setL rfl (by rw [List.length_map]; omega) rfl ?_
        rw [List.length_map]
        exact ih
      | false =>
        rw [c] at eq
        simp only [c, Bool.false_eq_true, if_false, List.map_append] at ih
        decreasing_trivial_pre_omega
        all_goals first | exact ⟨ll, ih⟩ | exact ih
/-- a list or a tuple of so many things -/
def Seq (ds : List D) (d : D) : Prop := d = .lst ds ∨ d = .tup ds
theorem Seq.seq {ds : List D} {d : D} (h : Seq ds d) : seqD d = some ds := by rcases h with rfl | rfl <;> rfl
theorem runs_of_w {ss : List Spt} {d : D} (hs : Seq (ss.map plD) d) (hl : ss.length ≤ 5000) {Q : Sl → List D → Prop} {X : XB} (q : Q (.ow ((rns ss).map (prD plD))) []) : Wf (f_runs_of [.va d]) Q X := by
  have sq := hs.seq
  refine f_def (by simp only [List.map_cons, List.map_nil, List.length_cons, List.length_nil, Nat.reduceAdd, Nat.reduceSub, List.replicate_succ, List.replicate_zero, List.cons_append, List.nil_append, List.append_nil]; rfl) ?_
  unfold b_runs_of
  decreasing_trivial_pre_omega
  refine ro_loop ss [] _ (by simp; omega) fun q' => ?_
  decreasing_trivial_pre_omega
  exact q
theorem l_runs_w {ss : List Spt} {d : D} (hs : Seq (ss.map spD) d) (hl : ss.length ≤ 5000) {Q : Sl → List D → Prop} {X : XB} (q : Q (.ow ((rns ss).map (prD spD))) []) : Wf (f_l_runs [.va d]) Q X := by
  have sq := hs.seq
  refine f_def (by simp only [List.map_cons, List.map_nil, List.length_cons, List.length_nil, Nat.reduceAdd, Nat.reduceSub, List.replicate_succ, List.replicate_zero, List.cons_append, List.nil_append, List.append_nil]; rfl) ?_
  unfold b_l_runs
  decreasing_trivial_pre_omega
  refine lr_loop ss [] _ (by simp; omega) fun q' => ?_
  decreasing_trivial_pre_omega
  exact q
theorem po_loop {x0 : Option Sl} {N : En → Prop} {R : Sl → En → Prop} {X : XP} : ∀ (rs : List (Int × Spt)) (acc : List Spt) (q2 q3 : Option Sl), (∀ p ∈ rs, 0 ≤ p.1) → acc.length + (flat rs).length ≤ 5000 →
    (∀ q2' q3', N [x0, some (.ow ((acc ++ flat rs).map plD)), q2', q3']) → Wv (bT (bCons (bN 2) (bCons (bN 3) bNil))) lp_places_of_1 (rs.map (prD plD)) [x0, some (.ow (acc.map plD)), q2, q3] N R X
  | [], acc, q2, q3, _, _, h => Wv_nil (by have := h q2 q3; simpa [flat] using this)
  | (k, s) :: rs, acc, q2, q3, hp, hl, h => by
    have hk : 0 ≤ k := hp _ List.mem_cons_self
    have fl : flat ((k, s) :: rs) = List.replicate k.toNat s ++ flat rs := rfl
    rw [fl] at hl h
    rw [List.length_append, List.length_replicate] at hl
    have ih := po_loop (x0 := x0) (N := N) (R := R) (X := X) rs (acc ++ List.replicate k.toNat s) (some (.va (.int k))) (some (.va (plD s))) (fun p h => hp p (List.mem_cons_of_mem _ h)) (by rw [List.length_append, List.length_replicate]; omega) (by rw [List.append_assoc]; exact h)
    rw [List.map_append, List.map_replicate] at ih
    refine Wv_cons rfl ?_
    unfold lp_places_of_1
    have le : (acc.map plD).length + (List.replicate k.toNat (plD s)).length ≤ 100000 := by rw [List.length_map, List.length_replicate]; omega
    decreasing_trivial_pre_omega
    all_goals first | omega | exact ih | exact ⟨le, ih⟩
theorem places_of_w {rs : List (Int × Spt)} {d : D} (hs : Seq (rs.map (prD plD)) d) (hp : ∀ p ∈ rs, 0 ≤ p.1) (hl : (flat rs).length ≤ 5000) {Q : Sl → List D → Prop} {X : XB} (q : Q (.ow ((flat rs).map plD)) []) : Wf (f_places_of [.va d]) Q X := by
  have sq := hs.seq
  refine f_def (by simp only [List.map_cons, List.map_nil, List.length_cons, List.length_nil, Nat.reduceAdd, Nat.reduceSub, List.replicate_succ, List.replicate_zero, List.cons_append, List.nil_append, List.append_nil]; rfl) ?_
  unfold b_places_of
  decreasing_trivial_pre_omega
  refine po_loop rs [] _ _ hp (by simp; omega) fun q2 q3 => ?_
  decreasing_trivial_pre_omega
  exact q
end My

namespace My
open PySem PySem.Spec PyProof.Rows L2 Mir
local macro_rules | `(tactic| decreasing_trivial_pre_omega) => `(tactic| repeat' (with_reducible first | (refine gd_We ?_; first | refine e_bnd ?_ | refine e_ret ?_ | refine e_rdv (by with_unfolding_all rfl) ?_ | refine e_mVa ?_ | (refine gd_opt ?_; first | refine e_opt (by assumption) ?_ | (refine gd_isN ?_; first | refine d_isN_non ?_ | refine d_isN_int ?_ | refine d_isN_lst ?_ | refine d_isN_tup ?_ | refine d_isN_str ?_ | refine d_isN_ob ?_ | refine d_isN_exn ?_ | refine d_isN_bl ?_ | fail) | (refine gd_notN ?_; first | refine d_notN_non ?_ | refine d_notN_int ?_ | refine d_notN_lst ?_ | refine d_notN_tup ?_ | refine d_notN_str ?_ | refine d_notN_ob ?_ | refine d_notN_exn ?_ | refine d_notN_bl ?_ | fail) | (refine gd_ix ?_; first | (refine d_ix2 (by omega) (by omega) (fun v hv => ?_)) | (refine d_ix3 (by omega) (by omega) (fun v hv => ?_)) | (refine d_ix4 (by omega) (by omega) (fun v hv => ?_)) | (refine d_ix5 (by omega) (by omega) (fun v hv => ?_)) | (refine d_ix6 (by omega) (by omega) (fun v hv => ?_)) | (refine d_ix7 (by omega) (by omega) (fun v hv => ?_)) | (refine d_ix8 (by omega) (by omega) (fun v hv => ?_)) | (refine d_ix9 (by omega) (by omega) (fun v hv => ?_)) | (refine d_ix10 (by omega) (by omega) (fun v hv => ?_)) | (refine d_ix11 (by omega) (by omega) (fun v hv => ?_)) | (refine d_ix12 (by omega) (by omega) (fun v hv => ?_)) | (refine d_ix13 (by omega) (by omega) (fun v hv => ?_)) | fail) | refine d_sub ?_ | refine d_add ?_ | refine d_addI ?_ | refine d_addL (by first | decide | (simp; done) | (simp; omega)) ?_ | refine d_addT (by first | decide | (simp; done) | (simp; omega)) ?_ | refine d_mul (by first | exact cMul_r (by omega) (by omega) | exact cMul_l (by omega) (by omega)) ?_ | refine d_mulI (by first | exact cMul_r (by omega) (by omega) | exact cMul_l (by omega) (by omega)) ?_ | refine d_rep (by omega) (by omega) ?_ | refine d_div (by omega) (by omega) ?_ | refine d_mod (by omega) ?_ | refine d_pow6 ?_ | refine d_pow4 ?_ | refine d_pow18 ?_ | refine d_neg ?_ | refine d_lt ?_ | refine d_le ?_ | refine d_gt ?_ | refine d_ge ?_ | refine d_eq ?_ | refine d_ne ?_ | refine d_eqB ?_ | refine d_neB ?_ | refine d_asB ?_ | refine d_asB2 ?_ | refine d_clt ?_ | refine d_cle ?_ | refine d_cgt ?_ | refine d_cge ?_ | refine d_ceq ?_ | refine d_truB ?_ | refine d_truI ?_ | refine d_truL ?_ | refine d_truN ?_ | refine d_notD ?_ | refine d_asI ?_ | refine d_lenL ?_ | refine d_lenT ?_ | refine d_lenS ?_ | refine d_lenL1 ?_ | refine d_lenT1 ?_ | refine d_abs ?_ | refine d_int ?_ | refine d_intB ?_ | refine d_min ?_ | refine d_max ?_ | refine d_tup (by first | (with_unfolding_all exact Nat.le_of_ble_eq_true rfl) | (simp; done)) ?_ | refine d_lst (by first | (with_unfolding_all exact Nat.le_of_ble_eq_true rfl) | (simp; done)) ?_ | refine d_seqL ?_ | refine d_seqT ?_ | refine d_listL ?_ | refine d_listT ?_ | refine d_tupL ?_ | refine d_tupT ?_ | refine d_rng1 (by omega) (by omega) ?_ | refine d_rng2 (by omega) (by omega) (by omega) (by omega) ?_ | refine d_slLo (by omega) ?_ | refine d_slHi (by omega) ?_ | refine d_slLoT (by omega) ?_ | refine d_slHiT (by omega) ?_ | refine d_str (by omega) (by omega) ?_ | refine d_pow30 ?_ | refine d_kt (by first | assumption | rfl) ?_ | refine d_divmod (by omega) (by omega) ?_ | refine d_revL ?_ | refine d_xor ?_ | refine e_opt (by assumption) ?_ | fail) | refine e_mFz ?_ | refine e_mCons ?_ | refine e_lCons ?_ | refine e_givV (by with_unfolding_all rfl) ?_ | refine e_givO (by with_unfolding_all rfl) (by (simp only [List.set_cons_succ, List.set_cons_zero]; with_unfolding_all rfl)) ?_ | refine e_rdfV (by with_unfolding_all rfl) ?_ | refine e_rdfO (by with_unfolding_all rfl) (by (simp only [List.set_cons_succ, List.set_cons_zero]; with_unfolding_all rfl)) ?_ | refine e_pkV (by with_unfolding_all rfl) ?_ | refine e_pkO (by with_unfolding_all rfl) ?_ | refine e_hasV (by with_unfolding_all rfl) ?_ | refine e_hasO (by with_unfolding_all rfl) ?_ | refine e_binPO (by with_unfolding_all rfl) ?_ | refine e_binPV (by with_unfolding_all rfl) ?_ | refine e_mIf ?_ | refine e_mAnd ?_ | refine e_mOr ?_ | refine e_mNot ?_ | refine e_vAnd ?_ | refine e_vOr ?_ | refine e_chn ?_ | refine e_callN (by first | (simp only [sls, List.getElem?_cons_zero, List.getElem?_cons_succ, Option.map_some]; with_unfolding_all rfl) | with_unfolding_all rfl) (by with_unfolding_all rfl) ?_ | refine e_callO (by first | (simp only [sls, List.set_cons_succ, List.set_cons_zero, List.getElem?_cons_zero, List.getElem?_cons_succ, Option.map_some]; with_unfolding_all rfl) | with_unfolding_all rfl) (by with_unfolding_all rfl) (by with_unfolding_all rfl) ?_ | refine e_callB (by first | (simp only [sls, List.getElem?_cons_zero, List.getElem?_cons_succ, Option.map_some]; with_unfolding_all rfl) | with_unfolding_all rfl) ?_ | refine e_lc ?_ | refine e_mk (by first | (simp only [List.map_cons, List.map_nil]; with_unfolding_all rfl) | with_unfolding_all rfl) ?_ | refine e_mth ?_ | refine e_mth0 ?_ | refine e_lst ?_ | refine e_iteT (by with_unfolding_all (first | exact ⟨rfl, rfl⟩ | exact rfl)) ?_ | refine e_star ?_ | refine e_chn3 ?_ | refine e_lc2 ?_ | refine e_slP ?_ | fail) | (refine gd_Wt ?_; first | refine s_sq ?_ | refine s_nx ?_ | refine s_ct ?_ | refine s_bk ?_ | refine s_if ?_ | refine s_ret ?_ | refine s_asg ?_ | refine s_drop ?_ | refine s_asgT ?_ | refine s_par ?_ | refine s_app (by with_unfolding_all rfl) ?_ | refine s_ext (by with_unfolding_all rfl) ?_ | refine s_aug (by with_unfolding_all rfl) ?_ | refine s_for ?_ | refine s_raise ?_ | refine s_try ?_ | refine s_set ?_ | refine s_tryO ?_ | refine s_tryR ?_ | refine s_tryA ?_ | refine s_rev (by with_unfolding_all rfl) (by (simp only [List.set_cons_succ, List.set_cons_zero]; with_unfolding_all rfl)) ?_ | refine s_clr (by with_unfolding_all rfl) (by (simp only [List.set_cons_succ, List.set_cons_zero]; with_unfolding_all rfl)) ?_ | fail) | (refine gd_ite ?_; first | refine i_true ?_ | refine i_false ?_ | refine i_decT (by omega) ?_ | refine i_decF (by omega) ?_ | (refine i_dec (fun hc => ?_) (fun hc => ?_)) | refine i_ndecT (by omega) ?_ | refine i_ndecF (by omega) ?_ | (refine i_ndec (fun hc => ?_) (fun hc => ?_)) | refine i_not ?_ | fail) | refine k_va ?_ | refine k_ow ?_ | refine k_st (by (simp only [List.set_cons_succ, List.set_cons_zero]; with_unfolding_all rfl)) ?_ | refine k_tg (by first | (simp only [bT, bCons, bNil, bN, Option.bind_some, List.set_cons_succ, List.set_cons_zero]; with_unfolding_all rfl) | with_unfolding_all rfl) ?_ | refine k_par (by with_unfolding_all rfl) (by first | (simp only [putE, List.set_cons_succ, List.set_cons_zero]; with_unfolding_all rfl) | with_unfolding_all rfl) ?_ | refine k_app (by with_unfolding_all rfl) (by first | (simp; done) | (simp; omega) | omega) (by (simp only [List.set_cons_succ, List.set_cons_zero]; with_unfolding_all rfl)) ?_ | refine k_ext (by with_unfolding_all rfl) (by first | (simp; done) | (simp; omega) | omega) (by (simp only [List.set_cons_succ, List.set_cons_zero]; with_unfolding_all rfl)) ?_ | refine k_augA (by (simp only [List.set_cons_succ, List.set_cons_zero]; with_unfolding_all rfl)) ?_ | refine k_augS (by (simp only [List.set_cons_succ, List.set_cons_zero]; with_unfolding_all rfl)) ?_ | refine k_set1 (by with_unfolding_all rfl) ?_ | refine k_set2 (by with_unfolding_all rfl) (by omega) (by omega) (by (simp only [List.set_cons_succ, List.set_cons_zero]; with_unfolding_all rfl)) ?_ | refine k_bk (by simp only [back, List.getD_cons_zero, List.getD_cons_succ, List.set_cons_zero, List.set_cons_succ]; with_unfolding_all rfl) ?_ | refine k_lc (by with_unfolding_all rfl) (by simp only [wipeE, List.set_cons_zero, List.set_cons_succ]; with_unfolding_all rfl) ?_ | refine f_ok (by assumption) ?_ | refine f_ex (by assumption) ?_ | refine k_mk ?_ | refine k_lsW ?_ | refine k_ob (by first | assumption | with_unfolding_all rfl) ?_ | refine k_lc2 (by with_unfolding_all rfl) (by simp only [wipeE, List.set_cons_zero, List.set_cons_succ]; with_unfolding_all rfl) ?_ | refine k_augM (by first | exact cMul_r (by omega) (by omega) | exact cMul_l (by omega) (by omega)) (by (simp only [List.set_cons_succ, List.set_cons_zero]; with_unfolding_all rfl)) ?_ | refine k_augD (by omega) (by omega) (by (simp only [List.set_cons_succ, List.set_cons_zero]; with_unfolding_all rfl)) ?_ | refine take_w (by assumption) (by omega) (by omega) (by omega) (fun v b hv1 hv2 hb => ?_) | fail))
local macro_rules | `(tactic| decreasing_trivial) => `(tactic| repeat' (with_reducible first | (refine gd_We ?_; first | refine e_bnd ?_ | refine e_ret ?_ | refine e_rdv (by with_unfolding_all rfl) ?_ | refine e_mVa ?_ | (refine gd_opt ?_; first | refine e_opt (by assumption) ?_ | (refine gd_isN ?_; first | refine d_isN_non ?_ | refine d_isN_int ?_ | refine d_isN_lst ?_ | refine d_isN_tup ?_ | refine d_isN_str ?_ | refine d_isN_ob ?_ | refine d_isN_exn ?_ | refine d_isN_bl ?_ | fail) | (refine gd_notN ?_; first | refine d_notN_non ?_ | refine d_notN_int ?_ | refine d_notN_lst ?_ | refine d_notN_tup ?_ | refine d_notN_str ?_ | refine d_notN_ob ?_ | refine d_notN_exn ?_ | refine d_notN_bl ?_ | fail) | (refine gd_ix ?_; first | (refine d_ix2 (by omega) (by omega) (fun v hv => ?_)) | (refine d_ix3 (by omega) (by omega) (fun v hv => ?_)) | (refine d_ix4 (by omega) (by omega) (fun v hv => ?_)) | (refine d_ix5 (by omega) (by omega) (fun v hv => ?_)) | (refine d_ix6 (by omega) (by omega) (fun v hv => ?_)) | (refine d_ix7 (by omega) (by omega) (fun v hv => ?_)) | (refine d_ix8 (by omega) (by omega) (fun v hv => ?_)) | (refine d_ix9 (by omega) (by omega) (fun v hv => ?_)) | (refine d_ix10 (by omega) (by omega) (fun v hv => ?_)) | (refine d_ix11 (by omega) (by omega) (fun v hv => ?_)) | (refine d_ix12 (by omega) (by omega) (fun v hv => ?_)) | (refine d_ix13 (by omega) (by omega) (fun v hv => ?_)) | fail) | refine d_sub ?_ | refine d_add ?_ | refine d_addI ?_ | refine d_addL (by first | decide | (simp; done) | (simp; omega)) ?_ | refine d_addT (by first | decide | (simp; done) | (simp; omega)) ?_ | refine d_mul (by first | exact cMul_r (by omega) (by omega) | exact cMul_l (by omega) (by omega)) ?_ | refine d_mulI (by first | exact cMul_r (by omega) (by omega) | exact cMul_l (by omega) (by omega)) ?_ | refine d_rep (by omega) (by omega) ?_ | refine d_div (by omega) (by omega) ?_ | refine d_mod (by omega) ?_ | refine d_pow6 ?_ | refine d_pow4 ?_ | refine d_pow18 ?_ | refine d_neg ?_ | refine d_lt ?_ | refine d_le ?_ | refine d_gt ?_ | refine d_ge ?_ | refine d_eq ?_ | refine d_ne ?_ | refine d_eqB ?_ | refine d_neB ?_ | refine d_asB ?_ | refine d_asB2 ?_ | refine d_clt ?_ | refine d_cle ?_ | refine d_cgt ?_ | refine d_cge ?_ | refine d_ceq ?_ | refine d_truB ?_ | refine d_truI ?_ | refine d_truL ?_ | refine d_truN ?_ | refine d_notD ?_ | refine d_asI ?_ | refine d_lenL ?_ | refine d_lenT ?_ | refine d_lenS ?_ | refine d_lenL1 ?_ | refine d_lenT1 ?_ | refine d_abs ?_ | refine d_int ?_ | refine d_intB ?_ | refine d_min ?_ | refine d_max ?_ | refine d_tup (by first | (with_unfolding_all exact Nat.le_of_ble_eq_true rfl) | (simp; done)) ?_ | refine d_lst (by first | (with_unfolding_all exact Nat.le_of_ble_eq_true rfl) | (simp; done)) ?_ | refine d_seqL ?_ | refine d_seqT ?_ | refine d_listL ?_ | refine d_listT ?_ | refine d_tupL ?_ | refine d_tupT ?_ | refine d_rng1 (by omega) (by omega) ?_ | refine d_rng2 (by omega) (by omega) (by omega) (by omega) ?_ | refine d_slLo (by omega) ?_ | refine d_slHi (by omega) ?_ | refine d_slLoT (by omega) ?_ | refine d_slHiT (by omega) ?_ | refine d_str (by omega) (by omega) ?_ | refine d_pow30 ?_ | refine d_kt (by first | assumption | rfl) ?_ | refine d_divmod (by omega) (by omega) ?_ | refine d_revL ?_ | refine d_xor ?_ | refine e_opt (by assumption) ?_ | fail) | refine e_mFz ?_ | refine e_mCons ?_ | refine e_lCons ?_ | refine e_givV (by with_unfolding_all rfl) ?_ | refine e_givO (by with_unfolding_all rfl) (by (simp only [List.set_cons_succ, List.set_cons_zero]; with_unfolding_all rfl)) ?_ | refine e_rdfV (by with_unfolding_all rfl) ?_ | refine e_rdfO (by with_unfolding_all rfl) (by (simp only [List.set_cons_succ, List.set_cons_zero]; with_unfolding_all rfl)) ?_ | refine e_pkV (by with_unfolding_all rfl) ?_ | refine e_pkO (by with_unfolding_all rfl) ?_ | refine e_hasV (by with_unfolding_all rfl) ?_ | refine e_hasO (by with_unfolding_all rfl) ?_ | refine e_binPO (by with_unfolding_all rfl) ?_ | refine e_binPV (by with_unfolding_all rfl) ?_ | refine e_mIf ?_ | refine e_mAnd ?_ | refine e_mOr ?_ | refine e_mNot ?_ | refine e_vAnd ?_ | refine e_vOr ?_ | refine e_chn ?_ | refine e_callN (by first | (simp only [sls, List.getElem?_cons_zero, List.getElem?_cons_succ, Option.map_some]; with_unfolding_all rfl) | with_unfolding_all rfl) (by with_unfolding_all rfl) ?_ | refine e_callO (by first | (simp only [sls, List.set_cons_succ, List.set_cons_zero, List.getElem?_cons_zero, List.getElem?_cons_succ, Option.map_some]; with_unfolding_all rfl) | with_unfolding_all rfl) (by with_unfolding_all rfl) (by with_unfolding_all rfl) ?_ | refine e_callB (by first | (simp only [sls, List.getElem?_cons_zero, List.getElem?_cons_succ, Option.map_some]; with_unfolding_all rfl) | with_unfolding_all rfl) ?_ | refine e_lc ?_ | refine e_mk (by first | (simp only [List.map_cons, List.map_nil]; with_unfolding_all rfl) | with_unfolding_all rfl) ?_ | refine e_mth ?_ | refine e_mth0 ?_ | refine e_lst ?_ | refine e_iteT (by with_unfolding_all (first | exact ⟨rfl, rfl⟩ | exact rfl)) ?_ | refine e_star ?_ | refine e_chn3 ?_ | refine e_lc2 ?_ | refine e_slP ?_ | fail) | (refine gd_Wt ?_; first | refine s_nx ?_ | refine s_ct ?_ | refine s_bk ?_ | refine s_if ?_ | refine s_ret ?_ | refine s_asg ?_ | refine s_drop ?_ | refine s_asgT ?_ | refine s_par ?_ | refine s_app (by with_unfolding_all rfl) ?_ | refine s_ext (by with_unfolding_all rfl) ?_ | refine s_aug (by with_unfolding_all rfl) ?_ | refine s_for ?_ | refine s_raise ?_ | refine s_try ?_ | refine s_set ?_ | refine s_tryO ?_ | refine s_tryR ?_ | refine s_tryA ?_ | refine s_rev (by with_unfolding_all rfl) (by (simp only [List.set_cons_succ, List.set_cons_zero]; with_unfolding_all rfl)) ?_ | refine s_clr (by with_unfolding_all rfl) (by (simp only [List.set_cons_succ, List.set_cons_zero]; with_unfolding_all rfl)) ?_ | fail) | (refine gd_ite ?_; first | refine i_true ?_ | refine i_false ?_ | refine i_decT (by omega) ?_ | refine i_decF (by omega) ?_ | (refine i_dec (fun hc => ?_) (fun hc => ?_)) | refine i_ndecT (by omega) ?_ | refine i_ndecF (by omega) ?_ | (refine i_ndec (fun hc => ?_) (fun hc => ?_)) | refine i_not ?_ | fail) | refine k_va ?_ | refine k_ow ?_ | refine k_st (by (simp only [List.set_cons_succ, List.set_cons_zero]; with_unfolding_all rfl)) ?_ | refine k_tg (by first | (simp only [bT, bCons, bNil, bN, Option.bind_some, List.set_cons_succ, List.set_cons_zero]; with_unfolding_all rfl) | with_unfolding_all rfl) ?_ | refine k_par (by with_unfolding_all rfl) (by first | (simp only [putE, List.set_cons_succ, List.set_cons_zero]; with_unfolding_all rfl) | with_unfolding_all rfl) ?_ | refine k_app (by with_unfolding_all rfl) (by first | (simp; done) | (simp; omega) | omega) (by (simp only [List.set_cons_succ, List.set_cons_zero]; with_unfolding_all rfl)) ?_ | refine k_ext (by with_unfolding_all rfl) (by first | (simp; done) | (simp; omega) | omega) (by (simp only [List.set_cons_succ, List.set_cons_zero]; with_unfolding_all rfl)) ?_ | refine k_augA (by (simp only [List.set_cons_succ, List.set_cons_zero]; with_unfolding_all rfl)) ?_ | refine k_augS (by (simp only [List.set_cons_succ, List.set_cons_zero]; with_unfolding_all rfl)) ?_ | refine k_set1 (by with_unfolding_all rfl) ?_ | refine k_set2 (by with_unfolding_all rfl) (by omega) (by omega) (by (simp only [List.set_cons_succ, List.set_cons_zero]; with_unfolding_all rfl)) ?_ | refine k_bk (by simp only [back, List.getD_cons_zero, List.getD_cons_succ, List.set_cons_zero, List.set_cons_succ]; with_unfolding_all rfl) ?_ | refine k_lc (by with_unfolding_all rfl) (by simp only [wipeE, List.set_cons_zero, List.set_cons_succ]; with_unfolding_all rfl) ?_ | refine f_ok (by assumption) ?_ | refine f_ex (by assumption) ?_ | refine k_mk ?_ | refine k_lsW ?_ | refine k_ob (by first | assumption | with_unfolding_all rfl) ?_ | refine k_lc2 (by with_unfolding_all rfl) (by simp only [wipeE, List.set_cons_zero, List.set_cons_succ]; with_unfolding_all rfl) ?_ | refine k_augM (by first | exact cMul_r (by omega) (by omega) | exact cMul_l (by omega) (by omega)) (by (simp only [List.set_cons_succ, List.set_cons_zero]; with_unfolding_all rfl)) ?_ | refine k_augD (by omega) (by omega) (by (simp only [List.set_cons_succ, List.set_cons_zero]; with_unfolding_all rfl)) ?_ | refine take_w (by assumption) (by omega) (by omega) (by omega) (fun v b hv1 hv2 hb => ?_) | fail))
/-! ### the cards beside one that have its place -/
def lo (ss : List Spt) (v : Spt) : Nat → Nat
  | 0 => 0
  | n + 1 => match ss[n]? with
    | some t => if eqb t v = true then lo ss v n else n + 1
    | none => n + 1
def hi (ss : List Spt) (v : Spt) : Nat → Nat → Nat
  | 0, m => m
  | f + 1, m => match ss[m + 1]? with
    | some t => if eqb t v = true then hi ss v f (m + 1) else m
    | none => m
structure At (g : Spt → D) (ss : List Spt) (d : D) : Prop where
  len : f1 lenD [d] = some (.int ss.length)
  at' : ∀ {i : Nat} {t : Spt}, ss[i]? = some t → dIx d (.int i) = some (g t)
theorem At.lst (g : Spt → D) (ss : List Spt) : At g ss (.lst (ss.map g)) := ⟨by show some (D.int _) = _; rw [List.length_map], fun {i t} h => by
  show atI _ _ = _
  rw [atI_cast, List.getElem?_map, h]
  rfl⟩
theorem At.tup (g : Spt → D) (ss : List Spt) : At g ss (.tup (ss.map g)) := ⟨by show some (D.int _) = _; rw [List.length_map], fun {i t} h => by
  show atI _ _ = _
  rw [atI_cast, List.getElem?_map, h]
  rfl⟩
theorem lo_loop {ss : List Spt} {d : D} {v : Spt} {c : Nat} {x3 : Option Sl} {N B C : En → Prop} {R : Sl → En → Prop} {X : XP} (hA : At plD ss d) (hv : ss[c]? = some v) : ∀ (n f : Nat), n < f → n ≤ ss.length → N [some (.va d), some (.va (.int c)), some (.va (.int (lo ss v n : Nat))), x3] →
    Wt (whileS wt_run_at_2 w_run_at_2 f) [some (.va d), some (.va (.int c)), some (.va (.int n)), x3] N R B C X
  | _, 0, h, _, _ => by omega
  | 0, f + 1, _, _, h => by
    refine w_step ?_
    unfold wt_run_at_2
    decreasing_trivial_pre_omega
    all_goals first | omega | exact h
  | n + 1, f + 1, hf, hn, h => by
    have hlt : n < ss.length := by omega
    have hs := List.getElem?_eq_getElem hlt
    generalize ss[n] = s at hs
    rw [lo, hs] at h
    simp only at h
    have i1 := hA.at' hs
    have i2 := hA.at' hv
    have eq := pl_eq s v
    have e1 : (((n + 1 : Nat) : Int) - 1) = n := by omega
    have i3 : dIx d (.int (((n + 1 : Nat) : Int) - 1)) = some (plD s) := by rw [e1]; exact i1
    refine w_step ?_
    unfold wt_run_at_2
    cases k : eqb s v with
    | false =>
      rw [k] at eq h
      simp only [Bool.false_eq_true, if_false] at h
      decreasing_trivial_pre_omega
      all_goals first | omega | exact h
    | true =>
      rw [k] at eq h
      simp only [if_true] at h
      decreasing_trivial_pre_omega
      all_goals first | omega | skip
      unfold w_run_at_2
      decreasing_trivial_pre_omega
      rw [e1]
      exact lo_loop hA hv n f (by omega) (by omega) h
theorem hi_loop {ss : List Spt} {d : D} {v : Spt} {c : Nat} {x2 : Option Sl} {N B C : En → Prop} {R : Sl → En → Prop} {X : XP} (hA : At plD ss d) (hv : ss[c]? = some v) : ∀ (g n f : Nat), g < f → ss.length ≤ n + g + 1 → N [some (.va d), some (.va (.int c)), x2, some (.va (.int (hi ss v g n : Nat)))] →
    Wt (whileS wt_run_at_1 w_run_at_1 f) [some (.va d), some (.va (.int c)), x2, some (.va (.int n))] N R B C X
  | _, _, 0, h, _, _ => by omega
  | 0, n, f + 1, _, hn, h => by
    have ln := hA.len
    refine w_step ?_
    unfold wt_run_at_1
    decreasing_trivial_pre_omega
    all_goals first | omega | exact h
  | g + 1, n, f + 1, hf, hn, h => by
    have ln := hA.len
    rw [hi] at h
    refine w_step ?_
    unfold wt_run_at_1
    cases hs : ss[n + 1]? with
    | none =>
      rw [hs] at h
      have := List.getElem?_eq_none_iff.mp hs
      decreasing_trivial_pre_omega
      all_goals first | omega | exact h
    | some s =>
      rw [hs] at h
      simp only at h
      have hlt := (List.getElem?_eq_some_iff.mp hs).1
      have i1 := hA.at' hs
      have i2 := hA.at' hv
      have eq := pl_eq s v
      have e1 : ((n + 1 : Nat) : Int) = (n : Int) + 1 := by omega
      rw [e1] at i1
      cases k : eqb s v with
      | false =>
        rw [k] at eq h
        simp only [Bool.false_eq_true, if_false] at h
        decreasing_trivial_pre_omega
        all_goals first | omega | exact h
      | true =>
        rw [k] at eq h
        simp only [if_true] at h
        decreasing_trivial_pre_omega
        all_goals first | omega | skip
        unfold w_run_at_1
        decreasing_trivial_pre_omega
        have := hi_loop (x2 := x2) (B := B) (C := C) (R := R) (X := X) hA hv g (n + 1) f (by omega) (by omega) h
        rw [e1] at this
        exact this
theorem llo_loop {ss : List Spt} {d : D} {v : Spt} {c : Nat} {x3 : Option Sl} {N B C : En → Prop} {R : Sl → En → Prop} {X : XP} (hA : At spD ss d) (hv : ss[c]? = some v) : ∀ (n f : Nat), n < f → n ≤ ss.length → N [some (.va d), some (.va (.int c)), some (.va (.int (lo ss v n : Nat))), x3] →
    Wt (whileS wt_l_due_2 w_l_due_2 f) [some (.va d), some (.va (.int c)), some (.va (.int n)), x3] N R B C X
  | _, 0, h, _, _ => by omega
  | 0, f + 1, _, _, h => by
    refine w_step ?_
    unfold wt_l_due_2
    decreasing_trivial_pre_omega
    all_goals first | omega | exact h
  | n + 1, f + 1, hf, hn, h => by
    have hlt : n < ss.length := by omega
    have hs := List.getElem?_eq_getElem hlt
    generalize ss[n] = s at hs
    rw [lo, hs] at h
    simp only at h
    have i1 := hA.at' hs
    have i2 := hA.at' hv
    have eq := sp_eq s v
    have e1 : (((n + 1 : Nat) : Int) - 1) = n := by omega
    have i3 : dIx d (.int (((n + 1 : Nat) : Int) - 1)) = some (spD s) := by rw [e1]; exact i1
    refine w_step ?_
    unfold wt_l_due_2
    cases k : eqb s v with
    | false =>
      rw [k] at eq h
      simp only [Bool.false_eq_true, if_false] at h
      decreasing_trivial_pre_omega
      all_goals first | omega | exact h
    | true =>
      rw [k] at eq h
      simp only [if_true] at h
      decreasing_trivial_pre_omega
      all_goals first | omega | skip
      unfold w_l_due_2
      decreasing_trivial_pre_omega
      rw [e1]
      exact llo_loop hA hv n f (by omega) (by omega) h
theorem lhi_loop {ss : List Spt} {d : D} {v : Spt} {c : Nat} {x2 : Option Sl} {N B C : En → Prop} {R : Sl → En → Prop} {X : XP} (hA : At spD ss d) (hv : ss[c]? = some v) : ∀ (g n f : Nat), g < f → ss.length ≤ n + g + 1 → N [some (.va d), some (.va (.int c)), x2, some (.va (.int (hi ss v g n : Nat)))] →
    Wt (whileS wt_l_due_1 w_l_due_1 f) [some (.va d), some (.va (.int c)), x2, some (.va (.int n))] N R B C X
  | _, _, 0, h, _, _ => by omega
  | 0, n, f + 1, _, hn, h => by
    have ln := hA.len
    refine w_step ?_
    unfold wt_l_due_1
    decreasing_trivial_pre_omega
    all_goals first | omega | exact h
  | g + 1, n, f + 1, hf, hn, h => by
    have ln := hA.len
    rw [hi] at h
    refine w_step ?_
    unfold wt_l_due_1
    cases hs : ss[n + 1]? with
    | none =>
      rw [hs] at h
      have := List.getElem?_eq_none_iff.mp hs
      decreasing_trivial_pre_omega
      all_goals first | omega | exact h
    | some s =>
      rw [hs] at h
      simp only at h
      have hlt := (List.getElem?_eq_some_iff.mp hs).1
      have i1 := hA.at' hs
      have i2 := hA.at' hv
      have eq := sp_eq s v
      have e1 : ((n + 1 : Nat) : Int) = (n : Int) + 1 := by omega
      rw [e1] at i1
      cases k : eqb s v with
      | false =>
        rw [k] at eq h
        simp only [Bool.false_eq_true, if_false] at h
        decreasing_trivial_pre_omega
        all_goals first | omega | exact h
      | true =>
        rw [k] at eq h
        simp only [if_true] at h
        decreasing_trivial_pre_omega
        all_goals first | omega | skip
        unfold w_l_due_1
        decreasing_trivial_pre_omega
        have := lhi_loop (x2 := x2) (B := B) (C := C) (R := R) (X := X) hA hv g (n + 1) f (by omega) (by omega) h
        rw [e1] at this
        exact this
/-- the answer for a card there is -/
def ends (ss : List Spt) (v : Spt) (c : Nat) : List D := [.int (lo ss v c : Nat), .int (hi ss v ss.length c : Nat)]
theorem run_no {ss : List Spt} {d : D} {c : Int} (hA : At plD ss d) (h : ¬ (0 ≤ c ∧ c < ss.length)) (c0 : -1000000 ≤ c) (c1 : c ≤ 1000000) {Q : Sl → List D → Prop} {X : XB} (q : X "NoCard" "card" (.int c) []) : Wf (f_run_at [.va d, .va (.int c)]) Q X := by
  have ln := hA.len
  refine f_def (by simp only [List.map_cons, List.map_nil, List.length_cons, List.length_nil, Nat.reduceAdd, Nat.reduceSub, List.replicate_succ, List.replicate_zero, List.cons_append, List.nil_append, List.append_nil]; rfl) ?_
  unfold b_run_at
  decreasing_trivial_pre_omega
  all_goals first | omega | skip
  all_goals
    refine s_raisen ?_
    decreasing_trivial_pre_omega
    exact ⟨fit_intn c0 c1, q⟩
theorem run_ok {ss : List Spt} {d : D} {c : Nat} {v : Spt} (hA : At plD ss d) (hv : ss[c]? = some v) (hl : ss.length ≤ 900) {Q : Sl → List D → Prop} {X : XB} (q : Q (.va (.tup (ends ss v c ++ [plD v]))) []) : Wf (f_run_at [.va d, .va (.int c)]) Q X := by
  have ln := hA.len
  have lt := (List.getElem?_eq_some_iff.mp hv).1
  have i2 := hA.at' hv
  refine f_def (by simp only [List.map_cons, List.map_nil, List.length_cons, List.length_nil, Nat.reduceAdd, Nat.reduceSub, List.replicate_succ, List.replicate_zero, List.cons_append, List.nil_append, List.append_nil]; rfl) ?_
  unfold b_run_at
  decreasing_trivial_pre_omega
  all_goals first | omega | skip
  refine lo_loop hA hv c 1000 (by omega) (by omega) ?_
  decreasing_trivial_pre_omega
  refine hi_loop hA hv ss.length c 1000 (by omega) (by omega) ?_
  decreasing_trivial_pre_omega
  exact q
theorem due_no {ss : List Spt} {d : D} {c : Int} (hA : At spD ss d) (h : ¬ (0 ≤ c ∧ c < ss.length)) {Q : Sl → List D → Prop} {X : XB} (q : Q (.ow [.str "refused", .int c]) []) : Wf (f_l_due [.va d, .va (.int c)]) Q X := by
  have ln := hA.len
  refine f_def (by simp only [List.map_cons, List.map_nil, List.length_cons, List.length_nil, Nat.reduceAdd, Nat.reduceSub, List.replicate_succ, List.replicate_zero, List.cons_append, List.nil_append, List.append_nil]; rfl) ?_
  unfold b_l_due
  decreasing_trivial_pre_omega
  all_goals first | omega | exact q
theorem due_ok {ss : List Spt} {d : D} {c : Nat} {v : Spt} (hA : At spD ss d) (hv : ss[c]? = some v) (hl : ss.length ≤ 900) {Q : Sl → List D → Prop} {X : XB} (q : Q (.va (.tup (ends ss v c ++ [spD v]))) []) : Wf (f_l_due [.va d, .va (.int c)]) Q X := by
  have ln := hA.len
  have lt := (List.getElem?_eq_some_iff.mp hv).1
  have i2 := hA.at' hv
  refine f_def (by simp only [List.map_cons, List.map_nil, List.length_cons, List.length_nil, Nat.reduceAdd, Nat.reduceSub, List.replicate_succ, List.replicate_zero, List.cons_append, List.nil_append, List.append_nil]; rfl) ?_
  unfold b_l_due
  decreasing_trivial_pre_omega
  all_goals first | omega | skip
  refine llo_loop hA hv c 1000 (by omega) (by omega) ?_
  decreasing_trivial_pre_omega
  refine lhi_loop hA hv ss.length c 1000 (by omega) (by omega) ?_
  decreasing_trivial_pre_omega
  exact q
end My

namespace My
open PySem PySem.Spec PyProof.Rows L2 Mir
local macro_rules | `(tactic| decreasing_trivial_pre_omega) => `(tactic| repeat' (with_reducible first | (refine gd_We ?_; first | refine e_bnd ?_ | refine e_ret ?_ | refine e_rdv (by with_unfolding_all rfl) ?_ | refine e_mVa ?_ | (refine gd_opt ?_; first | refine e_opt (by assumption) ?_ | (refine gd_isN ?_; first | refine d_isN_non ?_ | refine d_isN_int ?_ | refine d_isN_lst ?_ | refine d_isN_tup ?_ | refine d_isN_str ?_ | refine d_isN_ob ?_ | refine d_isN_exn ?_ | refine d_isN_bl ?_ | fail) | (refine gd_notN ?_; first | refine d_notN_non ?_ | refine d_notN_int ?_ | refine d_notN_lst ?_ | refine d_notN_tup ?_ | refine d_notN_str ?_ | refine d_notN_ob ?_ | refine d_notN_exn ?_ | refine d_notN_bl ?_ | fail) | (refine gd_ix ?_; first | (refine d_ix2 (by omega) (by omega) (fun v hv => ?_)) | (refine d_ix3 (by omega) (by omega) (fun v hv => ?_)) | (refine d_ix4 (by omega) (by omega) (fun v hv => ?_)) | (refine d_ix5 (by omega) (by omega) (fun v hv => ?_)) | (refine d_ix6 (by omega) (by omega) (fun v hv => ?_)) | (refine d_ix7 (by omega) (by omega) (fun v hv => ?_)) | (refine d_ix8 (by omega) (by omega) (fun v hv => ?_)) | (refine d_ix9 (by omega) (by omega) (fun v hv => ?_)) | (refine d_ix10 (by omega) (by omega) (fun v hv => ?_)) | (refine d_ix11 (by omega) (by omega) (fun v hv => ?_)) | (refine d_ix12 (by omega) (by omega) (fun v hv => ?_)) | (refine d_ix13 (by omega) (by omega) (fun v hv => ?_)) | fail) | refine d_sub ?_ | refine d_add ?_ | refine d_addI ?_ | refine d_addL (by first | decide | (simp; done) | (simp; omega)) ?_ | refine d_addT (by first | decide | (simp; done) | (simp; omega)) ?_ | refine d_mul (by first | exact cMul_r (by omega) (by omega) | exact cMul_l (by omega) (by omega)) ?_ | refine d_mulI (by first | exact cMul_r (by omega) (by omega) | exact cMul_l (by omega) (by omega)) ?_ | refine d_rep (by omega) (by omega) ?_ | refine d_div (by omega) (by omega) ?_ | refine d_mod (by omega) ?_ | refine d_pow6 ?_ | refine d_pow4 ?_ | refine d_pow18 ?_ | refine d_neg ?_ | refine d_lt ?_ | refine d_le ?_ | refine d_gt ?_ | refine d_ge ?_ | refine d_eq ?_ | refine d_ne ?_ | refine d_eqB ?_ | refine d_neB ?_ | refine d_asB ?_ | refine d_asB2 ?_ | refine d_clt ?_ | refine d_cle ?_ | refine d_cgt ?_ | refine d_cge ?_ | refine d_ceq ?_ | refine d_truB ?_ | refine d_truI ?_ | refine d_truL ?_ | refine d_truN ?_ | refine d_notD ?_ | refine d_asI ?_ | refine d_lenL ?_ | refine d_lenT ?_ | refine d_lenS ?_ | refine d_lenL1 ?_ | refine d_lenT1 ?_ | refine d_abs ?_ | refine d_int ?_ | refine d_intB ?_ | refine d_min ?_ | refine d_max ?_ | refine d_tup (by first | (with_unfolding_all exact Nat.le_of_ble_eq_true rfl) | (simp; done)) ?_ | refine d_lst (by first | (with_unfolding_all exact Nat.le_of_ble_eq_true rfl) | (simp; done)) ?_ | refine d_seqL ?_ | refine d_seqT ?_ | refine d_listL ?_ | refine d_listT ?_ | refine d_tupL ?_ | refine d_tupT ?_ | refine d_rng1 (by omega) (by omega) ?_ | refine d_rng2 (by omega) (by omega) (by omega) (by omega) ?_ | refine d_slLo (by omega) ?_ | refine d_slHi (by omega) ?_ | refine d_slLoT (by omega) ?_ | refine d_slHiT (by omega) ?_ | refine d_str (by omega) (by omega) ?_ | refine d_pow30 ?_ | refine d_kt (by first | assumption | rfl) ?_ | refine d_divmod (by omega) (by omega) ?_ | refine d_revL ?_ | refine d_xor ?_ | refine e_opt (by assumption) ?_ | fail) | refine e_mFz ?_ | refine e_mCons ?_ | refine e_lCons ?_ | refine e_givV (by with_unfolding_all rfl) ?_ | refine e_givO (by with_unfolding_all rfl) (by (simp only [List.set_cons_succ, List.set_cons_zero]; with_unfolding_all rfl)) ?_ | refine e_rdfV (by with_unfolding_all rfl) ?_ | refine e_rdfO (by with_unfolding_all rfl) (by (simp only [List.set_cons_succ, List.set_cons_zero]; with_unfolding_all rfl)) ?_ | refine e_pkV (by with_unfolding_all rfl) ?_ | refine e_pkO (by with_unfolding_all rfl) ?_ | refine e_hasV (by with_unfolding_all rfl) ?_ | refine e_hasO (by with_unfolding_all rfl) ?_ | refine e_binPO (by with_unfolding_all rfl) ?_ | refine e_binPV (by with_unfolding_all rfl) ?_ | refine e_mIf ?_ | refine e_mAnd ?_ | refine e_mOr ?_ | refine e_mNot ?_ | refine e_vAnd ?_ | refine e_vOr ?_ | refine e_chn ?_ | refine e_callN (by first | (simp only [sls, List.getElem?_cons_zero, List.getElem?_cons_succ, Option.map_some]; with_unfolding_all rfl) | with_unfolding_all rfl) (by with_unfolding_all rfl) ?_ | refine e_callO (by first | (simp only [sls, List.set_cons_succ, List.set_cons_zero, List.getElem?_cons_zero, List.getElem?_cons_succ, Option.map_some]; with_unfolding_all rfl) | with_unfolding_all rfl) (by with_unfolding_all rfl) (by with_unfolding_all rfl) ?_ | refine e_callB (by first | (simp only [sls, List.getElem?_cons_zero, List.getElem?_cons_succ, Option.map_some]; with_unfolding_all rfl) | with_unfolding_all rfl) ?_ | refine e_lc ?_ | refine e_mk (by first | (simp only [List.map_cons, List.map_nil]; with_unfolding_all rfl) | with_unfolding_all rfl) ?_ | refine e_mth ?_ | refine e_mth0 ?_ | refine e_lst ?_ | refine e_iteT (by with_unfolding_all (first | exact ⟨rfl, rfl⟩ | exact rfl)) ?_ | refine e_star ?_ | refine e_chn3 ?_ | refine e_lc2 ?_ | refine e_slP ?_ | fail) | (refine gd_Wt ?_; first | refine s_sq ?_ | refine s_nx ?_ | refine s_ct ?_ | refine s_bk ?_ | refine s_if ?_ | refine s_ret ?_ | refine s_asg ?_ | refine s_drop ?_ | refine s_asgT ?_ | refine s_par ?_ | refine s_app (by with_unfolding_all rfl) ?_ | refine s_ext (by with_unfolding_all rfl) ?_ | refine s_aug (by with_unfolding_all rfl) ?_ | refine s_for ?_ | refine s_raise ?_ | refine s_try ?_ | refine s_set ?_ | refine s_tryO ?_ | refine s_tryR ?_ | refine s_tryA ?_ | refine s_rev (by with_unfolding_all rfl) (by (simp only [List.set_cons_succ, List.set_cons_zero]; with_unfolding_all rfl)) ?_ | refine s_clr (by with_unfolding_all rfl) (by (simp only [List.set_cons_succ, List.set_cons_zero]; with_unfolding_all rfl)) ?_ | fail) | (refine gd_ite ?_; first | refine i_true ?_ | refine i_false ?_ | refine i_decT (by omega) ?_ | refine i_decF (by omega) ?_ | (refine i_dec (fun hc => ?_) (fun hc => ?_)) | refine i_ndecT (by omega) ?_ | refine i_ndecF (by omega) ?_ | (refine i_ndec (fun hc => ?_) (fun hc => ?_)) | refine i_not ?_ | fail) | refine k_va ?_ | refine k_ow ?_ | refine k_st (by (simp only [List.set_cons_succ, List.set_cons_zero]; with_unfolding_all rfl)) ?_ | refine k_tg (by first | (simp only [bT, bCons, bNil, bN, Option.bind_some, List.set_cons_succ, List.set_cons_zero]; with_unfolding_all rfl) | with_unfolding_all rfl) ?_ | refine k_par (by with_unfolding_all rfl) (by first | (simp only [putE, List.set_cons_succ, List.set_cons_zero]; with_unfolding_all rfl) | with_unfolding_all rfl) ?_ | refine k_app (by with_unfolding_all rfl) (by first | (simp; done) | (simp; omega) | omega) (by (simp only [List.set_cons_succ, List.set_cons_zero]; with_unfolding_all rfl)) ?_ | refine k_ext (by with_unfolding_all rfl) (by first | (simp; done) | (simp; omega) | omega) (by (simp only [List.set_cons_succ, List.set_cons_zero]; with_unfolding_all rfl)) ?_ | refine k_augA (by (simp only [List.set_cons_succ, List.set_cons_zero]; with_unfolding_all rfl)) ?_ | refine k_augS (by (simp only [List.set_cons_succ, List.set_cons_zero]; with_unfolding_all rfl)) ?_ | refine k_set1 (by with_unfolding_all rfl) ?_ | refine k_set2 (by with_unfolding_all rfl) (by omega) (by omega) (by (simp only [List.set_cons_succ, List.set_cons_zero]; with_unfolding_all rfl)) ?_ | refine k_bk (by simp only [back, List.getD_cons_zero, List.getD_cons_succ, List.set_cons_zero, List.set_cons_succ]; with_unfolding_all rfl) ?_ | refine k_lc (by with_unfolding_all rfl) (by simp only [wipeE, List.set_cons_zero, List.set_cons_succ]; with_unfolding_all rfl) ?_ | refine f_ok (by assumption) ?_ | refine f_ex (by assumption) ?_ | refine k_mk ?_ | refine k_lsW ?_ | refine k_ob (by first | assumption | with_unfolding_all rfl) ?_ | refine k_lc2 (by with_unfolding_all rfl) (by simp only [wipeE, List.set_cons_zero, List.set_cons_succ]; with_unfolding_all rfl) ?_ | refine k_augM (by first | exact cMul_r (by omega) (by omega) | exact cMul_l (by omega) (by omega)) (by (simp only [List.set_cons_succ, List.set_cons_zero]; with_unfolding_all rfl)) ?_ | refine k_augD (by omega) (by omega) (by (simp only [List.set_cons_succ, List.set_cons_zero]; with_unfolding_all rfl)) ?_ | refine take_w (by assumption) (by omega) (by omega) (by omega) (fun v b hv1 hv2 hb => ?_) | fail))
local macro_rules | `(tactic| decreasing_trivial) => `(tactic| repeat' (with_reducible first | (refine gd_We ?_; first | refine e_bnd ?_ | refine e_ret ?_ | refine e_rdv (by with_unfolding_all rfl) ?_ | refine e_mVa ?_ | (refine gd_opt ?_; first | refine e_opt (by assumption) ?_ | (refine gd_isN ?_; first | refine d_isN_non ?_ | refine d_isN_int ?_ | refine d_isN_lst ?_ | refine d_isN_tup ?_ | refine d_isN_str ?_ | refine d_isN_ob ?_ | refine d_isN_exn ?_ | refine d_isN_bl ?_ | fail) | (refine gd_notN ?_; first | refine d_notN_non ?_ | refine d_notN_int ?_ | refine d_notN_lst ?_ | refine d_notN_tup ?_ | refine d_notN_str ?_ | refine d_notN_ob ?_ | refine d_notN_exn ?_ | refine d_notN_bl ?_ | fail) | (refine gd_ix ?_; first | (refine d_ix2 (by omega) (by omega) (fun v hv => ?_)) | (refine d_ix3 (by omega) (by omega) (fun v hv => ?_)) | (refine d_ix4 (by omega) (by omega) (fun v hv => ?_)) | (refine d_ix5 (by omega) (by omega) (fun v hv => ?_)) | (refine d_ix6 (by omega) (by omega) (fun v hv => ?_)) | (refine d_ix7 (by omega) (by omega) (fun v hv => ?_)) | (refine d_ix8 (by omega) (by omega) (fun v hv => ?_)) | (refine d_ix9 (by omega) (by omega) (fun v hv => ?_)) | (refine d_ix10 (by omega) (by omega) (fun v hv => ?_)) | (refine d_ix11 (by omega) (by omega) (fun v hv => ?_)) | (refine d_ix12 (by omega) (by omega) (fun v hv => ?_)) | (refine d_ix13 (by omega) (by omega) (fun v hv => ?_)) | fail) | refine d_sub ?_ | refine d_add ?_ | refine d_addI ?_ | refine d_addL (by first | decide | (simp; done) | (simp; omega)) ?_ | refine d_addT (by first | decide | (simp; done) | (simp; omega)) ?_ | refine d_mul (by first | exact cMul_r (by omega) (by omega) | exact cMul_l (by omega) (by omega)) ?_ | refine d_mulI (by first | exact cMul_r (by omega) (by omega) | exact cMul_l (by omega) (by omega)) ?_ | refine d_rep (by omega) (by omega) ?_ | refine d_div (by omega) (by omega) ?_ | refine d_mod (by omega) ?_ | refine d_pow6 ?_ | refine d_pow4 ?_ | refine d_pow18 ?_ | refine d_neg ?_ | refine d_lt ?_ | refine d_le ?_ | refine d_gt ?_ | refine d_ge ?_ | refine d_eq ?_ | refine d_ne ?_ | refine d_eqB ?_ | refine d_neB ?_ | refine d_asB ?_ | refine d_asB2 ?_ | refine d_clt ?_ | refine d_cle ?_ | refine d_cgt ?_ | refine d_cge ?_ | refine d_ceq ?_ | refine d_truB ?_ | refine d_truI ?_ | refine d_truL ?_ | refine d_truN ?_ | refine d_notD ?_ | refine d_asI ?_ | refine d_lenL ?_ | refine d_lenT ?_ | refine d_lenS ?_ | refine d_lenL1 ?_ | refine d_lenT1 ?_ | refine d_abs ?_ | refine d_int ?_ | refine d_intB ?_ | refine d_min ?_ | refine d_max ?_ | refine d_tup (by first | (with_unfolding_all exact Nat.le_of_ble_eq_true rfl) | (simp; done)) ?_ | refine d_lst (by first | (with_unfolding_all exact Nat.le_of_ble_eq_true rfl) | (simp; done)) ?_ | refine d_seqL ?_ | refine d_seqT ?_ | refine d_listL ?_ | refine d_listT ?_ | refine d_tupL ?_ | refine d_tupT ?_ | refine d_rng1 (by omega) (by omega) ?_ | refine d_rng2 (by omega) (by omega) (by omega) (by omega) ?_ | refine d_slLo (by omega) ?_ | refine d_slHi (by omega) ?_ | refine d_slLoT (by omega) ?_ | refine d_slHiT (by omega) ?_ | refine d_str (by omega) (by omega) ?_ | refine d_pow30 ?_ | refine d_kt (by first | assumption | rfl) ?_ | refine d_divmod (by omega) (by omega) ?_ | refine d_revL ?_ | refine d_xor ?_ | refine e_opt (by assumption) ?_ | fail) | refine e_mFz ?_ | refine e_mCons ?_ | refine e_lCons ?_ | refine e_givV (by with_unfolding_all rfl) ?_ | refine e_givO (by with_unfolding_all rfl) (by (simp only [List.set_cons_succ, List.set_cons_zero]; with_unfolding_all rfl)) ?_ | refine e_rdfV (by with_unfolding_all rfl) ?_ | refine e_rdfO (by with_unfolding_all rfl) (by (simp only [List.set_cons_succ, List.set_cons_zero]; with_unfolding_all rfl)) ?_ | refine e_pkV (by with_unfolding_all rfl) ?_ | refine e_pkO (by with_unfolding_all rfl) ?_ | refine e_hasV (by with_unfolding_all rfl) ?_ | refine e_hasO (by with_unfolding_all rfl) ?_ | refine e_binPO (by with_unfolding_all rfl) ?_ | refine e_binPV (by with_unfolding_all rfl) ?_ | refine e_mIf ?_ | refine e_mAnd ?_ | refine e_mOr ?_ | refine e_mNot ?_ | refine e_vAnd ?_ | refine e_vOr ?_ | refine e_chn ?_ | refine e_callN (by first | (simp only [sls, List.getElem?_cons_zero, List.getElem?_cons_succ, Option.map_some]; with_unfolding_all rfl) | with_unfolding_all rfl) (by with_unfolding_all rfl) ?_ | refine e_callO (by first | (simp only [sls, List.set_cons_succ, List.set_cons_zero, List.getElem?_cons_zero, List.getElem?_cons_succ, Option.map_some]; with_unfolding_all rfl) | with_unfolding_all rfl) (by with_unfolding_all rfl) (by with_unfolding_all rfl) ?_ | refine e_callB (by first | (simp only [sls, List.getElem?_cons_zero, List.getElem?_cons_succ, Option.map_some]; with_unfolding_all rfl) | with_unfolding_all rfl) ?_ | refine e_lc ?_ | refine e_mk (by first | (simp only [List.map_cons, List.map_nil]; with_unfolding_all rfl) | with_unfolding_all rfl) ?_ | refine e_mth ?_ | refine e_mth0 ?_ | refine e_lst ?_ | refine e_iteT (by with_unfolding_all (first | exact ⟨rfl, rfl⟩ | exact rfl)) ?_ | refine e_star ?_ | refine e_chn3 ?_ | refine e_lc2 ?_ | refine e_slP ?_ | fail) | (refine gd_Wt ?_; first | refine s_nx ?_ | refine s_ct ?_ | refine s_bk ?_ | refine s_if ?_ | refine s_ret ?_ | refine s_asg ?_ | refine s_drop ?_ | refine s_asgT ?_ | refine s_par ?_ | refine s_app (by with_unfolding_all rfl) ?_ | refine s_ext (by with_unfolding_all rfl) ?_ | refine s_aug (by with_unfolding_all rfl) ?_ | refine s_for ?_ | refine s_raise ?_ | refine s_try ?_ | refine s_set ?_ | refine s_tryO ?_ | refine s_tryR ?_ | refine s_tryA ?_ | refine s_rev (by with_unfolding_all rfl) (by (simp only [List.set_cons_succ, List.set_cons_zero]; with_unfolding_all rfl)) ?_ | refine s_clr (by with_unfolding_all rfl) (by (simp only [List.set_cons_succ, List.set_cons_zero]; with_unfolding_all rfl)) ?_ | fail) | (refine gd_ite ?_; first | refine i_true ?_ | refine i_false ?_ | refine i_decT (by omega) ?_ | refine i_decF (by omega) ?_ | (refine i_dec (fun hc => ?_) (fun hc => ?_)) | refine i_ndecT (by omega) ?_ | refine i_ndecF (by omega) ?_ | (refine i_ndec (fun hc => ?_) (fun hc => ?_)) | refine i_not ?_ | fail) | refine k_va ?_ | refine k_ow ?_ | refine k_st (by (simp only [List.set_cons_succ, List.set_cons_zero]; with_unfolding_all rfl)) ?_ | refine k_tg (by first | (simp only [bT, bCons, bNil, bN, Option.bind_some, List.set_cons_succ, List.set_cons_zero]; with_unfolding_all rfl) | with_unfolding_all rfl) ?_ | refine k_par (by with_unfolding_all rfl) (by first | (simp only [putE, List.set_cons_succ, List.set_cons_zero]; with_unfolding_all rfl) | with_unfolding_all rfl) ?_ | refine k_app (by with_unfolding_all rfl) (by first | (simp; done) | (simp; omega) | omega) (by (simp only [List.set_cons_succ, List.set_cons_zero]; with_unfolding_all rfl)) ?_ | refine k_ext (by with_unfolding_all rfl) (by first | (simp; done) | (simp; omega) | omega) (by (simp only [List.set_cons_succ, List.set_cons_zero]; with_unfolding_all rfl)) ?_ | refine k_augA (by (simp only [List.set_cons_succ, List.set_cons_zero]; with_unfolding_all rfl)) ?_ | refine k_augS (by (simp only [List.set_cons_succ, List.set_cons_zero]; with_unfolding_all rfl)) ?_ | refine k_set1 (by with_unfolding_all rfl) ?_ | refine k_set2 (by with_unfolding_all rfl) (by omega) (by omega) (by (simp only [List.set_cons_succ, List.set_cons_zero]; with_unfolding_all rfl)) ?_ | refine k_bk (by simp only [back, List.getD_cons_zero, List.getD_cons_succ, List.set_cons_zero, List.set_cons_succ]; with_unfolding_all rfl) ?_ | refine k_lc (by with_unfolding_all rfl) (by simp only [wipeE, List.set_cons_zero, List.set_cons_succ]; with_unfolding_all rfl) ?_ | refine f_ok (by assumption) ?_ | refine f_ex (by assumption) ?_ | refine k_mk ?_ | refine k_lsW ?_ | refine k_ob (by first | assumption | with_unfolding_all rfl) ?_ | refine k_lc2 (by with_unfolding_all rfl) (by simp only [wipeE, List.set_cons_zero, List.set_cons_succ]; with_unfolding_all rfl) ?_ | refine k_augM (by first | exact cMul_r (by omega) (by omega) | exact cMul_l (by omega) (by omega)) (by (simp only [List.set_cons_succ, List.set_cons_zero]; with_unfolding_all rfl)) ?_ | refine k_augD (by omega) (by omega) (by (simp only [List.set_cons_succ, List.set_cons_zero]; with_unfolding_all rfl)) ?_ | refine take_w (by assumption) (by omega) (by omega) (by omega) (fun v b hv1 hv2 hb => ?_) | fail))
theorem Wk_mapA {α : Type} {ρ : En} {t : Tg} {me : M D} {vs : List Nat} {f g : α → D} {xs : List α} {K : List D → En → Prop} (hs : ∀ x, x ∈ xs → ∃ ρ1, t (f x) ρ = some ρ1 ∧ We me ρ1 (fun y ρ3 => y = g x ∧ wipeE ρ3 vs = ρ) noX) (hl : xs.length ≤ 100000) (h : K (xs.map g) ρ) : Wk t (Mir.ret true) me vs (xs.map f) ρ [] K := by
  refine Wk_by (fun i acc ρ' => ρ' = ρ ∧ acc = (xs.take i).map g) ⟨rfl, by simp⟩ ?_ (by rw [List.length_map]; exact hl) ?_
  · rintro i d acc ρ' hd _ ⟨rfl, rfl⟩
    rw [List.getElem?_map] at hd
    cases hx : xs[i]? with
    | none => rw [hx] at hd; cases hd
    | some x =>
      rw [hx] at hd
      cases hd
      obtain ⟨ρ1, h1, h2⟩ := hs x (List.mem_of_getElem? hx)
      refine ⟨ρ1, h1, ?_⟩
      rw [We_ret, if_pos rfl]
      unfold We at h2 ⊢
      cases e : me ρ1 with
      | ok y ρ3 =>
        rw [e] at h2
        obtain ⟨rfl, h3⟩ := h2
        refine ⟨h3, ?_⟩
        rw [List.take_add_one, List.map_append, hx]
        rfl
      | ex _ _ _ _ => rw [e] at h2; exact h2
      | no => rw [e] at h2; exact h2
  · rintro acc ρ' ⟨rfl, rfl⟩
    rw [List.length_map, List.take_length]
    exact h
theorem alone_eq (c : Int) : f_l_alone [.va (.exn "NoCard" "card" (.int c)), .va (.int 7)] = .ok (.va (.bl true)) [] := by rfl
theorem told_no {b : Box} {n : Nat} {ss : List Spt} {c : Int} (hb : b.ok n) (hn : n ≤ 900000) (h : ¬ (0 ≤ c ∧ c < ss.length)) (c0 : -1000000 ≤ c) (c1 : c ≤ 1000000) {Q : Sl → List D → Prop} {X : XB} (q : ∀ b' : Box, b'.ok (n + 1) → Q (.ow [.str "refused", .int c]) b'.ds) : Wf (f_l_told [.ow b.ds, .va (.lst (ss.map plD)), .va (.int c)]) Q X := by
  have al := alone_eq c
  have xf : dXf "NoCard" "card" (.exn "NoCard" "card" (.int c)) = some (.int c) := rfl
  have A1 := At.lst plD ss
  have A2 := At.tup plD ss
  refine f_def (by simp only [List.map_cons, List.map_nil, List.length_cons, List.length_nil, Nat.reduceAdd, Nat.reduceSub, List.replicate_succ, List.replicate_zero, List.cons_append, List.nil_append, List.append_nil]; rfl) ?_
  unfold b_l_told
  decreasing_trivial_pre_omega
  all_goals first | refine run_no A1 h c0 c1 ?_ | refine run_no A2 h c0 c1 ?_
  all_goals
    refine ⟨⟨rfl, by simp⟩, ?_⟩
    decreasing_trivial_pre_omega
    exact q _ (by assumption)
theorem told_ok {b : Box} {n : Nat} {ss : List Spt} {c : Nat} {v : Spt} (hb : b.ok n) (hn : n ≤ 900000) (hv : ss[c]? = some v) (hl : ss.length ≤ 900) {Q : Sl → List D → Prop} {X : XB} (q : ∀ b' : Box, b'.ok (n + 1) → Q (.va (.tup (ends ss v c ++ [spD v]))) b'.ds) : Wf (f_l_told [.ow b.ds, .va (.lst (ss.map plD)), .va (.int c)]) Q X := by
  have A1 := At.lst plD ss
  have A2 := At.tup plD ss
  have lt := (List.getElem?_eq_some_iff.mp hv).1
  have lf : Mir.lf (.tup (ends ss v c ++ [plD v])) = true := by simp [ends, Mir.lf, Mir.lfs, lf_pl]
  refine f_def (by simp only [List.map_cons, List.map_nil, List.length_cons, List.length_nil, Nat.reduceAdd, Nat.reduceSub, List.replicate_succ, List.replicate_zero, List.cons_append, List.nil_append, List.append_nil]; rfl) ?_
  unfold b_l_told
  decreasing_trivial_pre_omega
  all_goals first | refine run_ok A1 hv hl ?_ | refine run_ok A2 hv hl ?_
  all_goals
    unfold ends at lf q ⊢
    simp only [List.cons_append, List.nil_append] at lf q ⊢
    have i2 : dIx (.tup [.int (lo ss v c : Nat), .int (hi ss v ss.length c : Nat), plD v]) (.int 2) = some (plD v) := rfl
    have it : f2 isiD [.tup [.int (lo ss v c : Nat), .int (hi ss v ss.length c : Nat), plD v], .raw (.ty "tuple")] = some (.bl true) := by simp [f2, isiD, isi1, tyN]
    have il : f1 lenD [.tup [.int (lo ss v c : Nat), .int (hi ss v ss.length c : Nat), plD v]] = some (.int 3) := rfl
    decreasing_trivial_pre_omega
    refine seen_w ?_
    decreasing_trivial_pre_omega
    exact q _ (by assumption)
end My

namespace My
open PySem PySem.Spec PyProof.Rows L2 Mir
local macro_rules | `(tactic| decreasing_trivial_pre_omega) => `(tactic| repeat' (with_reducible first | (refine gd_We ?_; first | refine e_bnd ?_ | refine e_ret ?_ | refine e_rdv (by with_unfolding_all rfl) ?_ | refine e_mVa ?_ | (refine gd_opt ?_; first | refine e_opt (by assumption) ?_ | (refine gd_isN ?_; first | refine d_isN_non ?_ | refine d_isN_int ?_ | refine d_isN_lst ?_ | refine d_isN_tup ?_ | refine d_isN_str ?_ | refine d_isN_ob ?_ | refine d_isN_exn ?_ | refine d_isN_bl ?_ | fail) | (refine gd_notN ?_; first | refine d_notN_non ?_ | refine d_notN_int ?_ | refine d_notN_lst ?_ | refine d_notN_tup ?_ | refine d_notN_str ?_ | refine d_notN_ob ?_ | refine d_notN_exn ?_ | refine d_notN_bl ?_ | fail) | (refine gd_ix ?_; first | (refine d_ix2 (by omega) (by omega) (fun v hv => ?_)) | (refine d_ix3 (by omega) (by omega) (fun v hv => ?_)) | (refine d_ix4 (by omega) (by omega) (fun v hv => ?_)) | (refine d_ix5 (by omega) (by omega) (fun v hv => ?_)) | (refine d_ix6 (by omega) (by omega) (fun v hv => ?_)) | (refine d_ix7 (by omega) (by omega) (fun v hv => ?_)) | (refine d_ix8 (by omega) (by omega) (fun v hv => ?_)) | (refine d_ix9 (by omega) (by omega) (fun v hv => ?_)) | (refine d_ix10 (by omega) (by omega) (fun v hv => ?_)) | (refine d_ix11 (by omega) (by omega) (fun v hv => ?_)) | (refine d_ix12 (by omega) (by omega) (fun v hv => ?_)) | (refine d_ix13 (by omega) (by omega) (fun v hv => ?_)) | fail) | refine d_sub ?_ | refine d_add ?_ | refine d_addI ?_ | refine d_addL (by first | decide | (simp; done) | (simp; omega)) ?_ | refine d_addT (by first | decide | (simp; done) | (simp; omega)) ?_ | refine d_mul (by first | exact cMul_r (by omega) (by omega) | exact cMul_l (by omega) (by omega)) ?_ | refine d_mulI (by first | exact cMul_r (by omega) (by omega) | exact cMul_l (by omega) (by omega)) ?_ | refine d_rep (by omega) (by omega) ?_ | refine d_div (by omega) (by omega) ?_ | refine d_mod (by omega) ?_ | refine d_pow6 ?_ | refine d_pow4 ?_ | refine d_pow18 ?_ | refine d_neg ?_ | refine d_lt ?_ | refine d_le ?_ | refine d_gt ?_ | refine d_ge ?_ | refine d_eq ?_ | refine d_ne ?_ | refine d_eqB ?_ | refine d_neB ?_ | refine d_asB ?_ | refine d_asB2 ?_ | refine d_clt ?_ | refine d_cle ?_ | refine d_cgt ?_ | refine d_cge ?_ | refine d_ceq ?_ | refine d_truB ?_ | refine d_truI ?_ | refine d_truL ?_ | refine d_truN ?_ | refine d_notD ?_ | refine d_asI ?_ | refine d_lenL ?_ | refine d_lenT ?_ | refine d_lenS ?_ | refine d_lenL1 ?_ | refine d_lenT1 ?_ | refine d_abs ?_ | refine d_int ?_ | refine d_intB ?_ | refine d_min ?_ | refine d_max ?_ | refine d_tup (by first | (with_unfolding_all exact Nat.le_of_ble_eq_true rfl) | (simp; done)) ?_ | refine d_lst (by first | (with_unfolding_all exact Nat.le_of_ble_eq_true rfl) | (simp; done)) ?_ | refine d_seqL ?_ | refine d_seqT ?_ | refine d_listL ?_ | refine d_listT ?_ | refine d_tupL ?_ | refine d_tupT ?_ | refine d_rng1 (by omega) (by omega) ?_ | refine d_rng2 (by omega) (by omega) (by omega) (by omega) ?_ | refine d_slLo (by omega) ?_ | refine d_slHi (by omega) ?_ | refine d_slLoT (by omega) ?_ | refine d_slHiT (by omega) ?_ | refine d_str (by omega) (by omega) ?_ | refine d_pow30 ?_ | refine d_kt (by first | assumption | rfl) ?_ | refine d_divmod (by omega) (by omega) ?_ | refine d_revL ?_ | refine d_xor ?_ | refine e_opt (by assumption) ?_ | fail) | refine e_mFz ?_ | refine e_mCons ?_ | refine e_lCons ?_ | refine e_givV (by with_unfolding_all rfl) ?_ | refine e_givO (by with_unfolding_all rfl) (by (simp only [List.set_cons_succ, List.set_cons_zero]; with_unfolding_all rfl)) ?_ | refine e_rdfV (by with_unfolding_all rfl) ?_ | refine e_rdfO (by with_unfolding_all rfl) (by (simp only [List.set_cons_succ, List.set_cons_zero]; with_unfolding_all rfl)) ?_ | refine e_pkV (by with_unfolding_all rfl) ?_ | refine e_pkO (by with_unfolding_all rfl) ?_ | refine e_hasV (by with_unfolding_all rfl) ?_ | refine e_hasO (by with_unfolding_all rfl) ?_ | refine e_binPO (by with_unfolding_all rfl) ?_ | refine e_binPV (by with_unfolding_all rfl) ?_ | refine e_mIf ?_ | refine e_mAnd ?_ | refine e_mOr ?_ | refine e_mNot ?_ | refine e_vAnd ?_ | refine e_vOr ?_ | refine e_chn ?_ | refine e_callN (by first | (simp only [sls, List.getElem?_cons_zero, List.getElem?_cons_succ, Option.map_some]; with_unfolding_all rfl) | with_unfolding_all rfl) (by with_unfolding_all rfl) ?_ | refine e_callO (by first | (simp only [sls, List.set_cons_succ, List.set_cons_zero, List.getElem?_cons_zero, List.getElem?_cons_succ, Option.map_some]; with_unfolding_all rfl) | with_unfolding_all rfl) (by with_unfolding_all rfl) (by with_unfolding_all rfl) ?_ | refine e_callB (by first | (simp only [sls, List.getElem?_cons_zero, List.getElem?_cons_succ, Option.map_some]; with_unfolding_all rfl) | with_unfolding_all rfl) ?_ | refine e_lc ?_ | refine e_mk (by first | (simp only [List.map_cons, List.map_nil]; with_unfolding_all rfl) | with_unfolding_all rfl) ?_ | refine e_mth ?_ | refine e_mth0 ?_ | refine e_lst ?_ | refine e_iteT (by with_unfolding_all (first | exact ⟨rfl, rfl⟩ | exact rfl)) ?_ | refine e_star ?_ | refine e_chn3 ?_ | refine e_lc2 ?_ | refine e_slP ?_ | fail) | (refine gd_Wt ?_; first | refine s_sq ?_ | refine s_nx ?_ | refine s_ct ?_ | refine s_bk ?_ | refine s_if ?_ | refine s_ret ?_ | refine s_asg ?_ | refine s_drop ?_ | refine s_asgT ?_ | refine s_par ?_ | refine s_app (by with_unfolding_all rfl) ?_ | refine s_ext (by with_unfolding_all rfl) ?_ | refine s_aug (by with_unfolding_all rfl) ?_ | refine s_for ?_ | refine s_raise ?_ | refine s_try ?_ | refine s_set ?_ | refine s_tryO ?_ | refine s_tryR ?_ | refine s_tryA ?_ | refine s_rev (by with_unfolding_all rfl) (by (simp only [List.set_cons_succ, List.set_cons_zero]; with_unfolding_all rfl)) ?_ | refine s_clr (by with_unfolding_all rfl) (by (simp only [List.set_cons_succ, List.set_cons_zero]; with_unfolding_all rfl)) ?_ | fail) | (refine gd_ite ?_; first | refine i_true ?_ | refine i_false ?_ | refine i_decT (by omega) ?_ | refine i_decF (by omega) ?_ | (refine i_dec (fun hc => ?_) (fun hc => ?_)) | refine i_ndecT (by omega) ?_ | refine i_ndecF (by omega) ?_ | (refine i_ndec (fun hc => ?_) (fun hc => ?_)) | refine i_not ?_ | fail) | refine k_va ?_ | refine k_ow ?_ | refine k_st (by (simp only [List.set_cons_succ, List.set_cons_zero]; with_unfolding_all rfl)) ?_ | refine k_tg (by first | (simp only [bT, bCons, bNil, bN, Option.bind_some, List.set_cons_succ, List.set_cons_zero]; with_unfolding_all rfl) | with_unfolding_all rfl) ?_ | refine k_par (by with_unfolding_all rfl) (by first | (simp only [putE, List.set_cons_succ, List.set_cons_zero]; with_unfolding_all rfl) | with_unfolding_all rfl) ?_ | refine k_app (by with_unfolding_all rfl) (by first | (simp; done) | (simp; omega) | omega) (by (simp only [List.set_cons_succ, List.set_cons_zero]; with_unfolding_all rfl)) ?_ | refine k_ext (by with_unfolding_all rfl) (by first | (simp; done) | (simp; omega) | omega) (by (simp only [List.set_cons_succ, List.set_cons_zero]; with_unfolding_all rfl)) ?_ | refine k_augA (by (simp only [List.set_cons_succ, List.set_cons_zero]; with_unfolding_all rfl)) ?_ | refine k_augS (by (simp only [List.set_cons_succ, List.set_cons_zero]; with_unfolding_all rfl)) ?_ | refine k_set1 (by with_unfolding_all rfl) ?_ | refine k_set2 (by with_unfolding_all rfl) (by omega) (by omega) (by (simp only [List.set_cons_succ, List.set_cons_zero]; with_unfolding_all rfl)) ?_ | refine k_bk (by simp only [back, List.getD_cons_zero, List.getD_cons_succ, List.set_cons_zero, List.set_cons_succ]; with_unfolding_all rfl) ?_ | refine k_lc (by with_unfolding_all rfl) (by simp only [wipeE, List.set_cons_zero, List.set_cons_succ]; with_unfolding_all rfl) ?_ | refine f_ok (by assumption) ?_ | refine f_ex (by assumption) ?_ | refine k_mk ?_ | refine k_lsW ?_ | refine k_ob (by first | assumption | with_unfolding_all rfl) ?_ | refine k_lc2 (by with_unfolding_all rfl) (by simp only [wipeE, List.set_cons_zero, List.set_cons_succ]; with_unfolding_all rfl) ?_ | refine k_augM (by first | exact cMul_r (by omega) (by omega) | exact cMul_l (by omega) (by omega)) (by (simp only [List.set_cons_succ, List.set_cons_zero]; with_unfolding_all rfl)) ?_ | refine k_augD (by omega) (by omega) (by (simp only [List.set_cons_succ, List.set_cons_zero]; with_unfolding_all rfl)) ?_ | refine take_w (by assumption) (by omega) (by omega) (by omega) (fun v b hv1 hv2 hb => ?_) | fail))
local macro_rules | `(tactic| decreasing_trivial) => `(tactic| repeat' (with_reducible first | (refine gd_We ?_; first | refine e_bnd ?_ | refine e_ret ?_ | refine e_rdv (by with_unfolding_all rfl) ?_ | refine e_mVa ?_ | (refine gd_opt ?_; first | refine e_opt (by assumption) ?_ | (refine gd_isN ?_; first | refine d_isN_non ?_ | refine d_isN_int ?_ | refine d_isN_lst ?_ | refine d_isN_tup ?_ | refine d_isN_str ?_ | refine d_isN_ob ?_ | refine d_isN_exn ?_ | refine d_isN_bl ?_ | fail) | (refine gd_notN ?_; first | refine d_notN_non ?_ | refine d_notN_int ?_ | refine d_notN_lst ?_ | refine d_notN_tup ?_ | refine d_notN_str ?_ | refine d_notN_ob ?_ | refine d_notN_exn ?_ | refine d_notN_bl ?_ | fail) | (refine gd_ix ?_; first | (refine d_ix2 (by omega) (by omega) (fun v hv => ?_)) | (refine d_ix3 (by omega) (by omega) (fun v hv => ?_)) | (refine d_ix4 (by omega) (by omega) (fun v hv => ?_)) | (refine d_ix5 (by omega) (by omega) (fun v hv => ?_)) | (refine d_ix6 (by omega) (by omega) (fun v hv => ?_)) | (refine d_ix7 (by omega) (by omega) (fun v hv => ?_)) | (refine d_ix8 (by omega) (by omega) (fun v hv => ?_)) | (refine d_ix9 (by omega) (by omega) (fun v hv => ?_)) | (refine d_ix10 (by omega) (by omega) (fun v hv => ?_)) | (refine d_ix11 (by omega) (by omega) (fun v hv => ?_)) | (refine d_ix12 (by omega) (by omega) (fun v hv => ?_)) | (refine d_ix13 (by omega) (by omega) (fun v hv => ?_)) | fail) | refine d_sub ?_ | refine d_add ?_ | refine d_addI ?_ | refine d_addL (by first | decide | (simp; done) | (simp; omega)) ?_ | refine d_addT (by first | decide | (simp; done) | (simp; omega)) ?_ | refine d_mul (by first | exact cMul_r (by omega) (by omega) | exact cMul_l (by omega) (by omega)) ?_ | refine d_mulI (by first | exact cMul_r (by omega) (by omega) | exact cMul_l (by omega) (by omega)) ?_ | refine d_rep (by omega) (by omega) ?_ | refine d_div (by omega) (by omega) ?_ | refine d_mod (by omega) ?_ | refine d_pow6 ?_ | refine d_pow4 ?_ | refine d_pow18 ?_ | refine d_neg ?_ | refine d_lt ?_ | refine d_le ?_ | refine d_gt ?_ | refine d_ge ?_ | refine d_eq ?_ | refine d_ne ?_ | refine d_eqB ?_ | refine d_neB ?_ | refine d_asB ?_ | refine d_asB2 ?_ | refine d_clt ?_ | refine d_cle ?_ | refine d_cgt ?_ | refine d_cge ?_ | refine d_ceq ?_ | refine d_truB ?_ | refine d_truI ?_ | refine d_truL ?_ | refine d_truN ?_ | refine d_notD ?_ | refine d_asI ?_ | refine d_lenL ?_ | refine d_lenT ?_ | refine d_lenS ?_ | refine d_lenL1 ?_ | refine d_lenT1 ?_ | refine d_abs ?_ | refine d_int ?_ | refine d_intB ?_ | refine d_min ?_ | refine d_max ?_ | refine d_tup (by first | (with_unfolding_all exact Nat.le_of_ble_eq_true rfl) | (simp; done)) ?_ | refine d_lst (by first | (with_unfolding_all exact Nat.le_of_ble_eq_true rfl) | (simp; done)) ?_ | refine d_seqL ?_ | refine d_seqT ?_ | refine d_listL ?_ | refine d_listT ?_ | refine d_tupL ?_ | refine d_tupT ?_ | refine d_rng1 (by omega) (by omega) ?_ | refine d_rng2 (by omega) (by omega) (by omega) (by omega) ?_ | refine d_slLo (by omega) ?_ | refine d_slHi (by omega) ?_ | refine d_slLoT (by omega) ?_ | refine d_slHiT (by omega) ?_ | refine d_str (by omega) (by omega) ?_ | refine d_pow30 ?_ | refine d_kt (by first | assumption | rfl) ?_ | refine d_divmod (by omega) (by omega) ?_ | refine d_revL ?_ | refine d_xor ?_ | refine e_opt (by assumption) ?_ | fail) | refine e_mFz ?_ | refine e_mCons ?_ | refine e_lCons ?_ | refine e_givV (by with_unfolding_all rfl) ?_ | refine e_givO (by with_unfolding_all rfl) (by (simp only [List.set_cons_succ, List.set_cons_zero]; with_unfolding_all rfl)) ?_ | refine e_rdfV (by with_unfolding_all rfl) ?_ | refine e_rdfO (by with_unfolding_all rfl) (by (simp only [List.set_cons_succ, List.set_cons_zero]; with_unfolding_all rfl)) ?_ | refine e_pkV (by with_unfolding_all rfl) ?_ | refine e_pkO (by with_unfolding_all rfl) ?_ | refine e_hasV (by with_unfolding_all rfl) ?_ | refine e_hasO (by with_unfolding_all rfl) ?_ | refine e_binPO (by with_unfolding_all rfl) ?_ | refine e_binPV (by with_unfolding_all rfl) ?_ | refine e_mIf ?_ | refine e_mAnd ?_ | refine e_mOr ?_ | refine e_mNot ?_ | refine e_vAnd ?_ | refine e_vOr ?_ | refine e_chn ?_ | refine e_callN (by first | (simp only [sls, List.getElem?_cons_zero, List.getElem?_cons_succ, Option.map_some]; with_unfolding_all rfl) | with_unfolding_all rfl) (by with_unfolding_all rfl) ?_ | refine e_callO (by first | (simp only [sls, List.set_cons_succ, List.set_cons_zero, List.getElem?_cons_zero, List.getElem?_cons_succ, Option.map_some]; with_unfolding_all rfl) | with_unfolding_all rfl) (by with_unfolding_all rfl) (by with_unfolding_all rfl) ?_ | refine e_callB (by first | (simp only [sls, List.getElem?_cons_zero, List.getElem?_cons_succ, Option.map_some]; with_unfolding_all rfl) | with_unfolding_all rfl) ?_ | refine e_lc ?_ | refine e_mk (by first | (simp only [List.map_cons, List.map_nil]; with_unfolding_all rfl) | with_unfolding_all rfl) ?_ | refine e_mth ?_ | refine e_mth0 ?_ | refine e_lst ?_ | refine e_iteT (by with_unfolding_all (first | exact ⟨rfl, rfl⟩ | exact rfl)) ?_ | refine e_star ?_ | refine e_chn3 ?_ | refine e_lc2 ?_ | refine e_slP ?_ | fail) | (refine gd_Wt ?_; first | refine s_nx ?_ | refine s_ct ?_ | refine s_bk ?_ | refine s_if ?_ | refine s_ret ?_ | refine s_asg ?_ | refine s_drop ?_ | refine s_asgT ?_ | refine s_par ?_ | refine s_app (by with_unfolding_all rfl) ?_ | refine s_ext (by with_unfolding_all rfl) ?_ | refine s_aug (by with_unfolding_all rfl) ?_ | refine s_for ?_ | refine s_raise ?_ | refine s_try ?_ | refine s_set ?_ | refine s_tryO ?_ | refine s_tryR ?_ | refine s_tryA ?_ | refine s_rev (by with_unfolding_all rfl) (by (simp only [List.set_cons_succ, List.set_cons_zero]; with_unfolding_all rfl)) ?_ | refine s_clr (by with_unfolding_all rfl) (by (simp only [List.set_cons_succ, List.set_cons_zero]; with_unfolding_all rfl)) ?_ | fail) | (refine gd_ite ?_; first | refine i_true ?_ | refine i_false ?_ | refine i_decT (by omega) ?_ | refine i_decF (by omega) ?_ | (refine i_dec (fun hc => ?_) (fun hc => ?_)) | refine i_ndecT (by omega) ?_ | refine i_ndecF (by omega) ?_ | (refine i_ndec (fun hc => ?_) (fun hc => ?_)) | refine i_not ?_ | fail) | refine k_va ?_ | refine k_ow ?_ | refine k_st (by (simp only [List.set_cons_succ, List.set_cons_zero]; with_unfolding_all rfl)) ?_ | refine k_tg (by first | (simp only [bT, bCons, bNil, bN, Option.bind_some, List.set_cons_succ, List.set_cons_zero]; with_unfolding_all rfl) | with_unfolding_all rfl) ?_ | refine k_par (by with_unfolding_all rfl) (by first | (simp only [putE, List.set_cons_succ, List.set_cons_zero]; with_unfolding_all rfl) | with_unfolding_all rfl) ?_ | refine k_app (by with_unfolding_all rfl) (by first | (simp; done) | (simp; omega) | omega) (by (simp only [List.set_cons_succ, List.set_cons_zero]; with_unfolding_all rfl)) ?_ | refine k_ext (by with_unfolding_all rfl) (by first | (simp; done) | (simp; omega) | omega) (by (simp only [List.set_cons_succ, List.set_cons_zero]; with_unfolding_all rfl)) ?_ | refine k_augA (by (simp only [List.set_cons_succ, List.set_cons_zero]; with_unfolding_all rfl)) ?_ | refine k_augS (by (simp only [List.set_cons_succ, List.set_cons_zero]; with_unfolding_all rfl)) ?_ | refine k_set1 (by with_unfolding_all rfl) ?_ | refine k_set2 (by with_unfolding_all rfl) (by omega) (by omega) (by (simp only [List.set_cons_succ, List.set_cons_zero]; with_unfolding_all rfl)) ?_ | refine k_bk (by simp only [back, List.getD_cons_zero, List.getD_cons_succ, List.set_cons_zero, List.set_cons_succ]; with_unfolding_all rfl) ?_ | refine k_lc (by with_unfolding_all rfl) (by simp only [wipeE, List.set_cons_zero, List.set_cons_succ]; with_unfolding_all rfl) ?_ | refine f_ok (by assumption) ?_ | refine f_ex (by assumption) ?_ | refine k_mk ?_ | refine k_lsW ?_ | refine k_ob (by first | assumption | with_unfolding_all rfl) ?_ | refine k_lc2 (by with_unfolding_all rfl) (by simp only [wipeE, List.set_cons_zero, List.set_cons_succ]; with_unfolding_all rfl) ?_ | refine k_augM (by first | exact cMul_r (by omega) (by omega) | exact cMul_l (by omega) (by omega)) (by (simp only [List.set_cons_succ, List.set_cons_zero]; with_unfolding_all rfl)) ?_ | refine k_augD (by omega) (by omega) (by (simp only [List.set_cons_succ, List.set_cons_zero]; with_unfolding_all rfl)) ?_ | refine take_w (by assumption) (by omega) (by omega) (by omega) (fun v b hv1 hv2 hb => ?_) | fail))
theorem Seq.lst (ds : List D) : Seq ds (.lst ds) := .inl rfl
theorem Seq.tup (ds : List D) : Seq ds (.tup ds) := .inr rfl
/-- what is seen of told runs -/
theorem seen_runs {rs : List (Int × Spt)} {x0 x1 x2 x3 x4 x5 x8 x9 x10 x11 : Option Sl} {K : List D → En → Prop} (hl : rs.length ≤ 5000) (h : K (rs.map (prD spD)) [x0, x1, x2, x3, x4, x5, none, none, x8, x9, x10, x11]) :
    Wk (bT (bCons (bN 6) (bCons (bN 7) bNil))) (Mir.ret true) el_l_runs_right_1 [6, 7] (rs.map (prD plD)) [x0, x1, x2, x3, x4, x5, none, none, x8, x9, x10, x11] [] K := by
  refine Wk_mapA (g := prD spD) (fun p hp => ?_) (by omega) h
  refine ⟨_, rfl, ?_⟩
  unfold el_l_runs_right_1
  decreasing_trivial_pre_omega
  refine seen_w ?_
  decreasing_trivial_pre_omega
  exact ⟨rfl, rfl⟩
theorem seen_all {ss : List Spt} {x0 x1 x2 x3 x4 x5 x6 x8 x9 x10 x11 : Option Sl} {K : List D → En → Prop} (hl : ss.length ≤ 5000) (h : K (ss.map spD) [x0, x1, x2, x3, x4, x5, x6, none, x8, x9, x10, x11]) :
    Wk (bN 7) (Mir.ret true) el_l_runs_right_2 [7] (ss.map plD) [x0, x1, x2, x3, x4, x5, x6, none, x8, x9, x10, x11] [] K := by
  refine Wk_mapA (g := spD) (fun p hp => ?_) (by omega) h
  refine ⟨_, rfl, ?_⟩
  unfold el_l_runs_right_2
  decreasing_trivial_pre_omega
  refine seen_w ?_
  decreasing_trivial_pre_omega
  exact ⟨rfl, rfl⟩
theorem lf_prs {rs : List (Int × Spt)} : Mir.lfs (rs.map (prD plD)) = true := by
  induction rs with
  | nil => rfl
  | cons p rs ih =>
    obtain ⟨k, s⟩ := p
    simp [prD, Mir.lfs, Mir.lf, lf_pl, ih]
theorem rep_all (k : Nat) : f1 allD [.lst (List.replicate k (.bl true))] = some (.bl true) := by
  show (blsD (List.replicate k (D.bl true))).map _ = _
  rw [← List.map_replicate, Mir.bls_map]
  simp
theorem flat_app (a b : List (Int × Spt)) : flat (a ++ b) = flat a ++ flat b := by simp [flat]
def nOw (o : Option Sl) : Bool := clearE [o] [0]
/-- the pieces: parted once more -/
theorem pieces_loop {x1 x2 x3 x4 x5 x8 x11 : Option Sl} {n : Nat} {N : En → Prop} {R : Sl → En → Prop} {X : XP} : ∀ (rs : List (Int × Spt)) (acc : List (Int × Spt)) (b : Box) (m : Nat) (q6 q7 q10 : Option Sl), nOw q6 = true → nOw q7 = true → (∀ p ∈ rs, 1 ≤ p.1 ∧ p.1 ≤ 5000) → (∀ p ∈ acc, 0 ≤ p.1) → b.ok m → m + rs.length ≤ n → n ≤ 900000 → acc.length + 2 * rs.length ≤ 5000 →
    (∀ (acc' : List (Int × Spt)) (b' : Box) (q6' q7' q10' : Option Sl), nOw q6' = true → nOw q7' = true → (∀ p ∈ acc', 0 ≤ p.1) → flat acc' = flat acc ++ flat rs → b'.ok n → N [some (.ow b'.ds), x1, x2, x3, x4, x5, q6', q7', x8, some (.ow (acc'.map (prD plD))), q10', x11]) →
    Wv (bT (bCons (bN 6) (bCons (bN 7) bNil))) lp_l_runs_right_2 (rs.map (prD plD)) [some (.ow b.ds), x1, x2, x3, x4, x5, q6, q7, x8, some (.ow (acc.map (prD plD))), q10, x11] N R X
  | [], acc, b, m, q6, q7, q10, c6, c7, _, h2, h3, h4, _, _, h => Wv_nil (h acc b q6 q7 q10 c6 c7 h2 (by simp [flat]) (h3.mono (by simpa using h4)))
  | (k, s) :: rs, acc, b, m, q6, q7, q10, c6, c7, h1, h2, h3, h4, hn, hl, h => by
    obtain ⟨k1, k2⟩ := h1 _ List.mem_cons_self
    simp only at k1 k2
    simp only [List.length_cons] at h4 hl
    have fl : flat ((k, s) :: rs) = List.replicate k.toNat s ++ flat rs := rfl
    rw [fl] at h
    refine Wv_cons rfl ?_
    unfold lp_l_runs_right_2
    refine s_sq ?_
    decreasing_trivial
    rename_i v b2 hv1 hv2 hb2
    by_cases c : 0 < v
    · have ih := pieces_loop (x1 := x1) (x2 := x2) (x3 := x3) (x4 := x4) (x5 := x5) (x8 := x8) (x11 := x11) (N := N) (R := R) (X := X) rs (acc ++ [(v, s), (k - v, s)]) b2 (m + 1) (some (.va (.int k))) (some (.va (plD s))) (some (.va (.int v))) rfl rfl (fun p hp => h1 p (List.mem_cons_of_mem _ hp)) (fun p hp => by
        rcases List.mem_append.mp hp with hp | hp
        · exact h2 p hp
        · simp only [List.mem_cons, List.not_mem_nil, or_false] at hp
          rcases hp with rfl | rfl
          · exact hv1
          · show 0 ≤ k - v; omega) hb2 (by omega) hn (by simp; omega) (fun acc' b' q6' q7' q10' u6 u7 g1 g2 g3 => h acc' b' q6' q7' q10' u6 u7 g1 (by
          rw [g2, flat_app, List.append_assoc]
          congr 1
          show (List.replicate v.toNat s ++ (List.replicate (k - v).toNat s ++ [])) ++ flat rs = _
          rw [List.append_nil, List.replicate_append_replicate, show v.toNat + (k - v).toNat = k.toNat by omega]) g3)
      rw [List.map_append] at ih
      have le : (acc.map (prD plD)).length + 2 ≤ 100000 := by rw [List.length_map]; omega
      decreasing_trivial_pre_omega
      all_goals first | omega | exact ih | (rw [if_pos c]; exact ih)
    · have v0 : v = 0 := by omega
      subst v0
      have ih := pieces_loop (x1 := x1) (x2 := x2) (x3 := x3) (x4 := x4) (x5 := x5) (x8 := x8) (x11 := x11) (N := N) (R := R) (X := X) rs (acc ++ [(k - 0, s)]) b2 (m + 1) (some (.va (.int k))) (some (.va (plD s))) (some (.va (.int 0))) rfl rfl (fun p hp => h1 p (List.mem_cons_of_mem _ hp)) (fun p hp => by
        rcases List.mem_append.mp hp with hp | hp
        · exact h2 p hp
        · rw [List.mem_singleton.mp hp]; show 0 ≤ k - 0; omega) hb2 (by omega) hn (by simp; omega) (fun acc' b' q6' q7' q10' u6 u7 g1 g2 g3 => h acc' b' q6' q7' q10' u6 u7 g1 (by
          rw [g2, flat_app, List.append_assoc]
          congr 1
          show (List.replicate (k - 0).toNat s ++ []) ++ flat rs = _
          rw [List.append_nil, Int.sub_zero]) g3)
      rw [List.map_append] at ih
      have le : (acc.map (prD plD)).length + 1 ≤ 100000 := by rw [List.length_map]; omega
      decreasing_trivial_pre_omega
      all_goals first | omega | exact ih | (rw [if_neg c]; exact ih)
end My

namespace My
open PySem PySem.Spec PyProof.Rows L2 Mir
local macro_rules | `(tactic| decreasing_trivial_pre_omega) => `(tactic| repeat' (with_reducible first | (refine gd_We ?_; first | refine e_bnd ?_ | refine e_ret ?_ | refine e_rdv (by with_unfolding_all rfl) ?_ | refine e_mVa ?_ | (refine gd_opt ?_; first | refine e_opt (by assumption) ?_ | (refine gd_isN ?_; first | refine d_isN_non ?_ | refine d_isN_int ?_ | refine d_isN_lst ?_ | refine d_isN_tup ?_ | refine d_isN_str ?_ | refine d_isN_ob ?_ | refine d_isN_exn ?_ | refine d_isN_bl ?_ | fail) | (refine gd_notN ?_; first | refine d_notN_non ?_ | refine d_notN_int ?_ | refine d_notN_lst ?_ | refine d_notN_tup ?_ | refine d_notN_str ?_ | refine d_notN_ob ?_ | refine d_notN_exn ?_ | refine d_notN_bl ?_ | fail) | (refine gd_ix ?_; first | (refine d_ix2 (by omega) (by omega) (fun v hv => ?_)) | (refine d_ix3 (by omega) (by omega) (fun v hv => ?_)) | (refine d_ix4 (by omega) (by omega) (fun v hv => ?_)) | (refine d_ix5 (by omega) (by omega) (fun v hv => ?_)) | (refine d_ix6 (by omega) (by omega) (fun v hv => ?_)) | (refine d_ix7 (by omega) (by omega) (fun v hv => ?_)) | (refine d_ix8 (by omega) (by omega) (fun v hv => ?_)) | (refine d_ix9 (by omega) (by omega) (fun v hv => ?_)) | (refine d_ix10 (by omega) (by omega) (fun v hv => ?_)) | (refine d_ix11 (by omega) (by omega) (fun v hv => ?_)) | (refine d_ix12 (by omega) (by omega) (fun v hv => ?_)) | (refine d_ix13 (by omega) (by omega) (fun v hv => ?_)) | fail) | refine d_sub ?_ | refine d_add ?_ | refine d_addI ?_ | refine d_addL (by first | decide | (simp; done) | (simp; omega)) ?_ | refine d_addT (by first | decide | (simp; done) | (simp; omega)) ?_ | refine d_mul (by first | exact cMul_r (by omega) (by omega) | exact cMul_l (by omega) (by omega)) ?_ | refine d_mulI (by first | exact cMul_r (by omega) (by omega) | exact cMul_l (by omega) (by omega)) ?_ | refine d_rep (by omega) (by omega) ?_ | refine d_div (by omega) (by omega) ?_ | refine d_mod (by omega) ?_ | refine d_pow6 ?_ | refine d_pow4 ?_ | refine d_pow18 ?_ | refine d_neg ?_ | refine d_lt ?_ | refine d_le ?_ | refine d_gt ?_ | refine d_ge ?_ | refine d_eq ?_ | refine d_ne ?_ | refine d_eqB ?_ | refine d_neB ?_ | refine d_asB ?_ | refine d_asB2 ?_ | refine d_clt ?_ | refine d_cle ?_ | refine d_cgt ?_ | refine d_cge ?_ | refine d_ceq ?_ | refine d_truB ?_ | refine d_truI ?_ | refine d_truL ?_ | refine d_truN ?_ | refine d_notD ?_ | refine d_asI ?_ | refine d_lenL ?_ | refine d_lenT ?_ | refine d_lenS ?_ | refine d_lenL1 ?_ | refine d_lenT1 ?_ | refine d_abs ?_ | refine d_int ?_ | refine d_intB ?_ | refine d_min ?_ | refine d_max ?_ | refine d_tup (by first | (with_unfolding_all exact Nat.le_of_ble_eq_true rfl) | (simp; done)) ?_ | refine d_lst (by first | (with_unfolding_all exact Nat.le_of_ble_eq_true rfl) | (simp; done)) ?_ | refine d_seqL ?_ | refine d_seqT ?_ | refine d_listL ?_ | refine d_listT ?_ | refine d_tupL ?_ | refine d_tupT ?_ | refine d_rng1 (by omega) (by omega) ?_ | refine d_rng2 (by omega) (by omega) (by omega) (by omega) ?_ | refine d_slLo (by omega) ?_ | refine d_slHi (by omega) ?_ | refine d_slLoT (by omega) ?_ | refine d_slHiT (by omega) ?_ | refine d_str (by omega) (by omega) ?_ | refine d_pow30 ?_ | refine d_kt (by first | assumption | rfl) ?_ | refine d_divmod (by omega) (by omega) ?_ | refine d_revL ?_ | refine d_xor ?_ | refine e_opt (by assumption) ?_ | fail) | refine e_mFz ?_ | refine e_mCons ?_ | refine e_lCons ?_ | refine e_givV (by with_unfolding_all rfl) ?_ | refine e_givO (by with_unfolding_all rfl) (by (simp only [List.set_cons_succ, List.set_cons_zero]; with_unfolding_all rfl)) ?_ | refine e_rdfV (by with_unfolding_all rfl) ?_ | refine e_rdfO (by with_unfolding_all rfl) (by (simp only [List.set_cons_succ, List.set_cons_zero]; with_unfolding_all rfl)) ?_ | refine e_pkV (by with_unfolding_all rfl) ?_ | refine e_pkO (by with_unfolding_all rfl) ?_ | refine e_hasV (by with_unfolding_all rfl) ?_ | refine e_hasO (by with_unfolding_all rfl) ?_ | refine e_binPO (by with_unfolding_all rfl) ?_ | refine e_binPV (by with_unfolding_all rfl) ?_ | refine e_mIf ?_ | refine e_mAnd ?_ | refine e_mOr ?_ | refine e_mNot ?_ | refine e_vAnd ?_ | refine e_vOr ?_ | refine e_chn ?_ | refine e_callN (by first | (simp only [sls, List.getElem?_cons_zero, List.getElem?_cons_succ, Option.map_some]; with_unfolding_all rfl) | with_unfolding_all rfl) (by with_unfolding_all rfl) ?_ | refine e_callO (by first | (simp only [sls, List.set_cons_succ, List.set_cons_zero, List.getElem?_cons_zero, List.getElem?_cons_succ, Option.map_some]; with_unfolding_all rfl) | with_unfolding_all rfl) (by with_unfolding_all rfl) (by with_unfolding_all rfl) ?_ | refine e_callB (by first | (simp only [sls, List.getElem?_cons_zero, List.getElem?_cons_succ, Option.map_some]; with_unfolding_all rfl) | with_unfolding_all rfl) ?_ | refine e_lc ?_ | refine e_mk (by first | (simp only [List.map_cons, List.map_nil]; with_unfolding_all rfl) | with_unfolding_all rfl) ?_ | refine e_mth ?_ | refine e_mth0 ?_ | refine e_lst ?_ | refine e_iteT (by with_unfolding_all (first | exact ⟨rfl, rfl⟩ | exact rfl)) ?_ | refine e_star ?_ | refine e_chn3 ?_ | refine e_lc2 ?_ | refine e_slP ?_ | fail) | (refine gd_Wt ?_; first | refine s_sq ?_ | refine s_nx ?_ | refine s_ct ?_ | refine s_bk ?_ | refine s_if ?_ | refine s_ret ?_ | refine s_asg ?_ | refine s_drop ?_ | refine s_asgT ?_ | refine s_par ?_ | refine s_app (by with_unfolding_all rfl) ?_ | refine s_ext (by with_unfolding_all rfl) ?_ | refine s_aug (by with_unfolding_all rfl) ?_ | refine s_for ?_ | refine s_raise ?_ | refine s_try ?_ | refine s_set ?_ | refine s_tryO ?_ | refine s_tryR ?_ | refine s_tryA ?_ | refine s_rev (by with_unfolding_all rfl) (by (simp only [List.set_cons_succ, List.set_cons_zero]; with_unfolding_all rfl)) ?_ | refine s_clr (by with_unfolding_all rfl) (by (simp only [List.set_cons_succ, List.set_cons_zero]; with_unfolding_all rfl)) ?_ | fail) | (refine gd_ite ?_; first | refine i_true ?_ | refine i_false ?_ | refine i_decT (by omega) ?_ | refine i_decF (by omega) ?_ | (refine i_dec (fun hc => ?_) (fun hc => ?_)) | refine i_ndecT (by omega) ?_ | refine i_ndecF (by omega) ?_ | (refine i_ndec (fun hc => ?_) (fun hc => ?_)) | refine i_not ?_ | fail) | refine k_va ?_ | refine k_ow ?_ | refine k_st (by (simp only [List.set_cons_succ, List.set_cons_zero]; with_unfolding_all rfl)) ?_ | refine k_tg (by first | (simp only [bT, bCons, bNil, bN, Option.bind_some, List.set_cons_succ, List.set_cons_zero]; with_unfolding_all rfl) | with_unfolding_all rfl) ?_ | refine k_par (by with_unfolding_all rfl) (by first | (simp only [putE, List.set_cons_succ, List.set_cons_zero]; with_unfolding_all rfl) | with_unfolding_all rfl) ?_ | refine k_app (by with_unfolding_all rfl) (by first | (simp; done) | (simp; omega) | omega) (by (simp only [List.set_cons_succ, List.set_cons_zero]; with_unfolding_all rfl)) ?_ | refine k_ext (by with_unfolding_all rfl) (by first | (simp; done) | (simp; omega) | omega) (by (simp only [List.set_cons_succ, List.set_cons_zero]; with_unfolding_all rfl)) ?_ | refine k_augA (by (simp only [List.set_cons_succ, List.set_cons_zero]; with_unfolding_all rfl)) ?_ | refine k_augS (by (simp only [List.set_cons_succ, List.set_cons_zero]; with_unfolding_all rfl)) ?_ | refine k_set1 (by with_unfolding_all rfl) ?_ | refine k_set2 (by with_unfolding_all rfl) (by omega) (by omega) (by (simp only [List.set_cons_succ, List.set_cons_zero]; with_unfolding_all rfl)) ?_ | refine k_bk (by simp only [back, List.getD_cons_zero, List.getD_cons_succ, List.set_cons_zero, List.set_cons_succ]; with_unfolding_all rfl) ?_ | refine k_lc (by with_unfolding_all rfl) (by simp only [wipeE, List.set_cons_zero, List.set_cons_succ]; with_unfolding_all rfl) ?_ | refine f_ok (by assumption) ?_ | refine f_ex (by assumption) ?_ | refine k_mk ?_ | refine k_lsW ?_ | refine k_ob (by first | assumption | with_unfolding_all rfl) ?_ | refine k_lc2 (by with_unfolding_all rfl) (by simp only [wipeE, List.set_cons_zero, List.set_cons_succ]; with_unfolding_all rfl) ?_ | refine k_augM (by first | exact cMul_r (by omega) (by omega) | exact cMul_l (by omega) (by omega)) (by (simp only [List.set_cons_succ, List.set_cons_zero]; with_unfolding_all rfl)) ?_ | refine k_augD (by omega) (by omega) (by (simp only [List.set_cons_succ, List.set_cons_zero]; with_unfolding_all rfl)) ?_ | refine take_w (by assumption) (by omega) (by omega) (by omega) (fun v b hv1 hv2 hb => ?_) | fail))
local macro_rules | `(tactic| decreasing_trivial) => `(tactic| repeat' (with_reducible first | (refine gd_We ?_; first | refine e_bnd ?_ | refine e_ret ?_ | refine e_rdv (by with_unfolding_all rfl) ?_ | refine e_mVa ?_ | (refine gd_opt ?_; first | refine e_opt (by assumption) ?_ | (refine gd_isN ?_; first | refine d_isN_non ?_ | refine d_isN_int ?_ | refine d_isN_lst ?_ | refine d_isN_tup ?_ | refine d_isN_str ?_ | refine d_isN_ob ?_ | refine d_isN_exn ?_ | refine d_isN_bl ?_ | fail) | (refine gd_notN ?_; first | refine d_notN_non ?_ | refine d_notN_int ?_ | refine d_notN_lst ?_ | refine d_notN_tup ?_ | refine d_notN_str ?_ | refine d_notN_ob ?_ | refine d_notN_exn ?_ | refine d_notN_bl ?_ | fail) | (refine gd_ix ?_; first | (refine d_ix2 (by omega) (by omega) (fun v hv => ?_)) | (refine d_ix3 (by omega) (by omega) (fun v hv => ?_)) | (refine d_ix4 (by omega) (by omega) (fun v hv => ?_)) | (refine d_ix5 (by omega) (by omega) (fun v hv => ?_)) | (refine d_ix6 (by omega) (by omega) (fun v hv => ?_)) | (refine d_ix7 (by omega) (by omega) (fun v hv => ?_)) | (refine d_ix8 (by omega) (by omega) (fun v hv => ?_)) | (refine d_ix9 (by omega) (by omega) (fun v hv => ?_)) | (refine d_ix10 (by omega) (by omega) (fun v hv => ?_)) | (refine d_ix11 (by omega) (by omega) (fun v hv => ?_)) | (refine d_ix12 (by omega) (by omega) (fun v hv => ?_)) | (refine d_ix13 (by omega) (by omega) (fun v hv => ?_)) | fail) | refine d_sub ?_ | refine d_add ?_ | refine d_addI ?_ | refine d_addL (by first | decide | (simp; done) | (simp; omega)) ?_ | refine d_addT (by first | decide | (simp; done) | (simp; omega)) ?_ | refine d_mul (by first | exact cMul_r (by omega) (by omega) | exact cMul_l (by omega) (by omega)) ?_ | refine d_mulI (by first | exact cMul_r (by omega) (by omega) | exact cMul_l (by omega) (by omega)) ?_ | refine d_rep (by omega) (by omega) ?_ | refine d_div (by omega) (by omega) ?_ | refine d_mod (by omega) ?_ | refine d_pow6 ?_ | refine d_pow4 ?_ | refine d_pow18 ?_ | refine d_neg ?_ | refine d_lt ?_ | refine d_le ?_ | refine d_gt ?_ | refine d_ge ?_ | refine d_eq ?_ | refine d_ne ?_ | refine d_eqB ?_ | refine d_neB ?_ | refine d_asB ?_ | refine d_asB2 ?_ | refine d_clt ?_ | refine d_cle ?_ | refine d_cgt ?_ | refine d_cge ?_ | refine d_ceq ?_ | refine d_truB ?_ | refine d_truI ?_ | refine d_truL ?_ | refine d_truN ?_ | refine d_notD ?_ | refine d_asI ?_ | refine d_lenL ?_ | refine d_lenT ?_ | refine d_lenS ?_ | refine d_lenL1 ?_ | refine d_lenT1 ?_ | refine d_abs ?_ | refine d_int ?_ | refine d_intB ?_ | refine d_min ?_ | refine d_max ?_ | refine d_tup (by first | (with_unfolding_all exact Nat.le_of_ble_eq_true rfl) | (simp; done)) ?_ | refine d_lst (by first | (with_unfolding_all exact Nat.le_of_ble_eq_true rfl) | (simp; done)) ?_ | refine d_seqL ?_ | refine d_seqT ?_ | refine d_listL ?_ | refine d_listT ?_ | refine d_tupL ?_ | refine d_tupT ?_ | refine d_rng1 (by omega) (by omega) ?_ | refine d_rng2 (by omega) (by omega) (by omega) (by omega) ?_ | refine d_slLo (by omega) ?_ | refine d_slHi (by omega) ?_ | refine d_slLoT (by omega) ?_ | refine d_slHiT (by omega) ?_ | refine d_str (by omega) (by omega) ?_ | refine d_pow30 ?_ | refine d_kt (by first | assumption | rfl) ?_ | refine d_divmod (by omega) (by omega) ?_ | refine d_revL ?_ | refine d_xor ?_ | refine e_opt (by assumption) ?_ | fail) | refine e_mFz ?_ | refine e_mCons ?_ | refine e_lCons ?_ | refine e_givV (by with_unfolding_all rfl) ?_ | refine e_givO (by with_unfolding_all rfl) (by (simp only [List.set_cons_succ, List.set_cons_zero]; with_unfolding_all rfl)) ?_ | refine e_rdfV (by with_unfolding_all rfl) ?_ | refine e_rdfO (by with_unfolding_all rfl) (by (simp only [List.set_cons_succ, List.set_cons_zero]; with_unfolding_all rfl)) ?_ | refine e_pkV (by with_unfolding_all rfl) ?_ | refine e_pkO (by with_unfolding_all rfl) ?_ | refine e_hasV (by with_unfolding_all rfl) ?_ | refine e_hasO (by with_unfolding_all rfl) ?_ | refine e_binPO (by with_unfolding_all rfl) ?_ | refine e_binPV (by with_unfolding_all rfl) ?_ | refine e_mIf ?_ | refine e_mAnd ?_ | refine e_mOr ?_ | refine e_mNot ?_ | refine e_vAnd ?_ | refine e_vOr ?_ | refine e_chn ?_ | refine e_callN (by first | (simp only [sls, List.getElem?_cons_zero, List.getElem?_cons_succ, Option.map_some]; with_unfolding_all rfl) | with_unfolding_all rfl) (by with_unfolding_all rfl) ?_ | refine e_callO (by first | (simp only [sls, List.set_cons_succ, List.set_cons_zero, List.getElem?_cons_zero, List.getElem?_cons_succ, Option.map_some]; with_unfolding_all rfl) | with_unfolding_all rfl) (by with_unfolding_all rfl) (by with_unfolding_all rfl) ?_ | refine e_callB (by first | (simp only [sls, List.getElem?_cons_zero, List.getElem?_cons_succ, Option.map_some]; with_unfolding_all rfl) | with_unfolding_all rfl) ?_ | refine e_lc ?_ | refine e_mk (by first | (simp only [List.map_cons, List.map_nil]; with_unfolding_all rfl) | with_unfolding_all rfl) ?_ | refine e_mth ?_ | refine e_mth0 ?_ | refine e_lst ?_ | refine e_iteT (by with_unfolding_all (first | exact ⟨rfl, rfl⟩ | exact rfl)) ?_ | refine e_star ?_ | refine e_chn3 ?_ | refine e_lc2 ?_ | refine e_slP ?_ | fail) | (refine gd_Wt ?_; first | refine s_nx ?_ | refine s_ct ?_ | refine s_bk ?_ | refine s_if ?_ | refine s_ret ?_ | refine s_asg ?_ | refine s_drop ?_ | refine s_asgT ?_ | refine s_par ?_ | refine s_app (by with_unfolding_all rfl) ?_ | refine s_ext (by with_unfolding_all rfl) ?_ | refine s_aug (by with_unfolding_all rfl) ?_ | refine s_for ?_ | refine s_raise ?_ | refine s_try ?_ | refine s_set ?_ | refine s_tryO ?_ | refine s_tryR ?_ | refine s_tryA ?_ | refine s_rev (by with_unfolding_all rfl) (by (simp only [List.set_cons_succ, List.set_cons_zero]; with_unfolding_all rfl)) ?_ | refine s_clr (by with_unfolding_all rfl) (by (simp only [List.set_cons_succ, List.set_cons_zero]; with_unfolding_all rfl)) ?_ | fail) | (refine gd_ite ?_; first | refine i_true ?_ | refine i_false ?_ | refine i_decT (by omega) ?_ | refine i_decF (by omega) ?_ | (refine i_dec (fun hc => ?_) (fun hc => ?_)) | refine i_ndecT (by omega) ?_ | refine i_ndecF (by omega) ?_ | (refine i_ndec (fun hc => ?_) (fun hc => ?_)) | refine i_not ?_ | fail) | refine k_va ?_ | refine k_ow ?_ | refine k_st (by (simp only [List.set_cons_succ, List.set_cons_zero]; with_unfolding_all rfl)) ?_ | refine k_tg (by first | (simp only [bT, bCons, bNil, bN, Option.bind_some, List.set_cons_succ, List.set_cons_zero]; with_unfolding_all rfl) | with_unfolding_all rfl) ?_ | refine k_par (by with_unfolding_all rfl) (by first | (simp only [putE, List.set_cons_succ, List.set_cons_zero]; with_unfolding_all rfl) | with_unfolding_all rfl) ?_ | refine k_app (by with_unfolding_all rfl) (by first | (simp; done) | (simp; omega) | omega) (by (simp only [List.set_cons_succ, List.set_cons_zero]; with_unfolding_all rfl)) ?_ | refine k_ext (by with_unfolding_all rfl) (by first | (simp; done) | (simp; omega) | omega) (by (simp only [List.set_cons_succ, List.set_cons_zero]; with_unfolding_all rfl)) ?_ | refine k_augA (by (simp only [List.set_cons_succ, List.set_cons_zero]; with_unfolding_all rfl)) ?_ | refine k_augS (by (simp only [List.set_cons_succ, List.set_cons_zero]; with_unfolding_all rfl)) ?_ | refine k_set1 (by with_unfolding_all rfl) ?_ | refine k_set2 (by with_unfolding_all rfl) (by omega) (by omega) (by (simp only [List.set_cons_succ, List.set_cons_zero]; with_unfolding_all rfl)) ?_ | refine k_bk (by simp only [back, List.getD_cons_zero, List.getD_cons_succ, List.set_cons_zero, List.set_cons_succ]; with_unfolding_all rfl) ?_ | refine k_lc (by with_unfolding_all rfl) (by simp only [wipeE, List.set_cons_zero, List.set_cons_succ]; with_unfolding_all rfl) ?_ | refine f_ok (by assumption) ?_ | refine f_ex (by assumption) ?_ | refine k_mk ?_ | refine k_lsW ?_ | refine k_ob (by first | assumption | with_unfolding_all rfl) ?_ | refine k_lc2 (by with_unfolding_all rfl) (by simp only [wipeE, List.set_cons_zero, List.set_cons_succ]; with_unfolding_all rfl) ?_ | refine k_augM (by first | exact cMul_r (by omega) (by omega) | exact cMul_l (by omega) (by omega)) (by (simp only [List.set_cons_succ, List.set_cons_zero]; with_unfolding_all rfl)) ?_ | refine k_augD (by omega) (by omega) (by (simp only [List.set_cons_succ, List.set_cons_zero]; with_unfolding_all rfl)) ?_ | refine take_w (by assumption) (by omega) (by omega) (by omega) (fun v b hv1 hv2 hb => ?_) | fail))
theorem flat_len_mem : ∀ (rs : List (Int × Spt)) (p : Int × Spt), p ∈ rs → p.1.toNat ≤ (flat rs).length
  | [], p, h => by cases h
  | q :: rs, p, h => by
    have fl : flat (q :: rs) = List.replicate q.1.toNat q.2 ++ flat rs := rfl
    rw [fl, List.length_append, List.length_replicate]
    rcases List.mem_cons.mp h with rfl | h
    · omega
    · have := flat_len_mem rs p h; omega
theorem tuple_of (ds : List D) : f1 tupleD [.lst ds] = some (.tup ds) := rfl
theorem isT3 {p : Int × Spt} {g : Spt → D} : f2 isiD [prD g p, .raw (.ty "tuple")] = some (.bl true) := by simp [prD, f2, isiD, isi1, tyN]
theorem hand_w {b : Box} {ss : List Spt} {rs : List (Int × Spt)} {d : D} {x2 x3 x4 x5 x6 x7 x8 x9 x10 : Option Sl} {N B C : En → Prop} {R : Sl → En → Prop} {X : XP} (c7 : nOw x7 = true) (hs : Seq (rs.map (prD plD)) d) (hp : ∀ p ∈ rs, 0 ≤ p.1) (hf : flat rs = ss) (hl : ss.length ≤ 900)
    (sr : f_l_same 4 [.va (.lst (ss.map spD)), .va (.lst (ss.map spD))] = .ok (.va (.bl true)) []) (h : N [some (.ow b.ds), some (.va (.lst (ss.map spD))), x2, x3, x4, x5, x6, x7, x8, x9, x10, some (.va d)]) :
    Wt lp_l_runs_right_1 [some (.ow b.ds), some (.va (.lst (ss.map spD))), x2, x3, x4, x5, x6, x7, x8, x9, x10, some (.va d)] N R B C X := by
  have lp := lfs_pl ss
  unfold lp_l_runs_right_1
  decreasing_trivial_pre_omega
  refine places_of_w hs hp (by rw [hf]; omega) ?_
  rw [hf]
  decreasing_trivial_pre_omega
  refine k_lc c7 (by with_unfolding_all rfl) ?_
  refine seen_all (ss := ss) (by omega) ?_
  decreasing_trivial_pre_omega
  exact h
theorem right_w {b : Box} {n : Nat} {ss : List Spt} {Q : Sl → List D → Prop} {X : XB} (hb : b.ok n) (hn : n ≤ 800000) (hl : ss.length ≤ 900) (q : ∀ b' : Box, b'.ok (n + 1000) → Q (.va (.bl true)) b'.ds) : Wf (f_l_runs_right [.ow b.ds, .va (.lst (ss.map spD)), .va (.lst (ss.map plD))]) Q X := by
  obtain ⟨r1, r2, r3⟩ := rns_ok ss
  have r4 : ∀ p ∈ rns ss, 1 ≤ p.1 ∧ p.1 ≤ 5000 := fun p hp => ⟨r1 p hp, by
    have := flat_len_mem _ p hp
    rw [r2] at this
    omega⟩
  have r5 : ∀ p ∈ rns ss, 0 ≤ p.1 := fun p hp => by have := r1 p hp; omega
  have lp : Mir.lfs ((rns ss).map (prD plD)) = true := lf_prs
  have sr := same_refl 4 (pl_prs (rs := rns ss) (by omega))
  have sr2 := same_refl 4 (show Pl 4 (.lst (ss.map spD)) from .lst (fun d hd => by obtain ⟨s, _, rfl⟩ := List.mem_map.mp hd; exact .tup (fun e he => by
    cases s <;> simp only [Spt.fs, List.mem_cons, List.not_mem_nil, or_false] at he <;> rcases he with rfl | rfl | rfl | rfl <;> first | exact .non _ | exact .int _ _) (by cases s <;> simp [Spt.fs])) (by rw [List.length_map]; omega))
  have ra := rep_all (rns ss).length
  refine f_def (by simp only [List.map_cons, List.map_nil, List.length_cons, List.length_nil, Nat.reduceAdd, Nat.reduceSub, List.replicate_succ, List.replicate_zero, List.cons_append, List.nil_append, List.append_nil]; rfl) ?_
  unfold b_l_runs_right
  refine s_sq ?_
  decreasing_trivial
  refine l_runs_w (Seq.lst _) (by omega) ?_
  decreasing_trivial
  refine runs_of_w (Seq.lst _) (by omega) ?_
  decreasing_trivial
  refine s_sq ?_
  decreasing_trivial
  refine seen_runs (rs := rns ss) (by omega) ?_
  decreasing_trivial
  refine s_sq ?_
  decreasing_trivial
  refine Wk_mapA (g := fun _ => D.bl true) (fun p hp => ?_) (by omega) ?_
  · refine ⟨_, rfl, ?_⟩
    unfold el_l_runs_right_3
    have i3 := isT3 (p := p) (g := plD)
    decreasing_trivial_pre_omega
    exact ⟨rfl, rfl⟩
  rw [List.map_const']
  decreasing_trivial
  refine s_sq ?_
  decreasing_trivial
  refine s_sq ?_
  decreasing_trivial
  refine pieces_loop (n := n + 1000) (rns ss) [] _ n _ _ _ rfl rfl r4 (fun p hp => by cases hp) hb (by omega) (by omega) (by simp; omega) (fun acc b' q6 q7 q10 c6 c7 g1 g2 g3 => ?_)
  rw [r2] at g2
  have g2 : flat acc = ss := g2
  have la : Mir.lfs (acc.map (prD plD)) = true := lf_prs
  decreasing_trivial
  refine s_sq ?_
  decreasing_trivial
  have to := tuple_of ((rns ss).map (prD plD))
  decreasing_trivial
  refine Wv_cons rfl ?_
  refine hand_w c7 (Seq.lst _) r5 r2 hl sr2 ?_
  refine Wv_cons rfl ?_
  refine hand_w c7 (Seq.tup _) r5 r2 hl sr2 ?_
  refine Wv_cons rfl ?_
  refine hand_w c7 (Seq.lst _) g1 g2 hl sr2 ?_
  refine Wv_nil ?_
  have to2 := tuple_of (ss.map plD)
  decreasing_trivial_pre_omega
  refine runs_of_w (ss := ss) (Seq.tup _) (by omega) ?_
  decreasing_trivial_pre_omega
  refine k_lc (show clearE _ [6, 7] = true from by
    unfold nOw at c6 c7
    simp only [clearE, List.all_cons, List.all_nil, Bool.and_true, Bool.and_eq_true] at c6 c7 ⊢
    exact ⟨c6, c7⟩) (by with_unfolding_all rfl) ?_
  refine seen_runs (rs := rns ss) (by omega) ?_
  decreasing_trivial_pre_omega
  exact q b' g3
end My

namespace My
open PySem PySem.Spec PyProof.Rows L2 Mir
local macro_rules | `(tactic| decreasing_trivial_pre_omega) => `(tactic| repeat' (with_reducible first | (refine gd_We ?_; first | refine e_bnd ?_ | refine e_ret ?_ | refine e_rdv (by with_unfolding_all rfl) ?_ | refine e_mVa ?_ | (refine gd_opt ?_; first | refine e_opt (by assumption) ?_ | (refine gd_isN ?_; first | refine d_isN_non ?_ | refine d_isN_int ?_ | refine d_isN_lst ?_ | refine d_isN_tup ?_ | refine d_isN_str ?_ | refine d_isN_ob ?_ | refine d_isN_exn ?_ | refine d_isN_bl ?_ | fail) | (refine gd_notN ?_; first | refine d_notN_non ?_ | refine d_notN_int ?_ | refine d_notN_lst ?_ | refine d_notN_tup ?_ | refine d_notN_str ?_ | refine d_notN_ob ?_ | refine d_notN_exn ?_ | refine d_notN_bl ?_ | fail) | (refine gd_ix ?_; first | (refine d_ix2 (by omega) (by omega) (fun v hv => ?_)) | (refine d_ix3 (by omega) (by omega) (fun v hv => ?_)) | (refine d_ix4 (by omega) (by omega) (fun v hv => ?_)) | (refine d_ix5 (by omega) (by omega) (fun v hv => ?_)) | (refine d_ix6 (by omega) (by omega) (fun v hv => ?_)) | (refine d_ix7 (by omega) (by omega) (fun v hv => ?_)) | (refine d_ix8 (by omega) (by omega) (fun v hv => ?_)) | (refine d_ix9 (by omega) (by omega) (fun v hv => ?_)) | (refine d_ix10 (by omega) (by omega) (fun v hv => ?_)) | (refine d_ix11 (by omega) (by omega) (fun v hv => ?_)) | (refine d_ix12 (by omega) (by omega) (fun v hv => ?_)) | (refine d_ix13 (by omega) (by omega) (fun v hv => ?_)) | fail) | refine d_sub ?_ | refine d_add ?_ | refine d_addI ?_ | refine d_addL (by first | decide | (simp; done) | (simp; omega)) ?_ | refine d_addT (by first | decide | (simp; done) | (simp; omega)) ?_ | refine d_mul (by first | exact cMul_r (by omega) (by omega) | exact cMul_l (by omega) (by omega)) ?_ | refine d_mulI (by first | exact cMul_r (by omega) (by omega) | exact cMul_l (by omega) (by omega)) ?_ | refine d_rep (by omega) (by omega) ?_ | refine d_div (by omega) (by omega) ?_ | refine d_mod (by omega) ?_ | refine d_pow6 ?_ | refine d_pow4 ?_ | refine d_pow18 ?_ | refine d_neg ?_ | refine d_lt ?_ | refine d_le ?_ | refine d_gt ?_ | refine d_ge ?_ | refine d_eq ?_ | refine d_ne ?_ | refine d_eqB ?_ | refine d_neB ?_ | refine d_asB ?_ | refine d_asB2 ?_ | refine d_clt ?_ | refine d_cle ?_ | refine d_cgt ?_ | refine d_cge ?_ | refine d_ceq ?_ | refine d_truB ?_ | refine d_truI ?_ | refine d_truL ?_ | refine d_truN ?_ | refine d_notD ?_ | refine d_asI ?_ | refine d_lenL ?_ | refine d_lenT ?_ | refine d_lenS ?_ | refine d_lenL1 ?_ | refine d_lenT1 ?_ | refine d_abs ?_ | refine d_int ?_ | refine d_intB ?_ | refine d_min ?_ | refine d_max ?_ | refine d_tup (by first | (with_unfolding_all exact Nat.le_of_ble_eq_true rfl) | (simp; done)) ?_ | refine d_lst (by first | (with_unfolding_all exact Nat.le_of_ble_eq_true rfl) | (simp; done)) ?_ | refine d_seqL ?_ | refine d_seqT ?_ | refine d_listL ?_ | refine d_listT ?_ | refine d_tupL ?_ | refine d_tupT ?_ | refine d_rng1 (by omega) (by omega) ?_ | refine d_rng2 (by omega) (by omega) (by omega) (by omega) ?_ | refine d_slLo (by omega) ?_ | refine d_slHi (by omega) ?_ | refine d_slLoT (by omega) ?_ | refine d_slHiT (by omega) ?_ | refine d_str (by omega) (by omega) ?_ | refine d_pow30 ?_ | refine d_kt (by first | assumption | rfl) ?_ | refine d_divmod (by omega) (by omega) ?_ | refine d_revL ?_ | refine d_xor ?_ | refine e_opt (by assumption) ?_ | fail) | refine e_mFz ?_ | refine e_mCons ?_ | refine e_lCons ?_ | refine e_givV (by with_unfolding_all rfl) ?_ | refine e_givO (by with_unfolding_all rfl) (by (simp only [List.set_cons_succ, List.set_cons_zero]; with_unfolding_all rfl)) ?_ | refine e_rdfV (by with_unfolding_all rfl) ?_ | refine e_rdfO (by with_unfolding_all rfl) (by (simp only [List.set_cons_succ, List.set_cons_zero]; with_unfolding_all rfl)) ?_ | refine e_pkV (by with_unfolding_all rfl) ?_ | refine e_pkO (by with_unfolding_all rfl) ?_ | refine e_hasV (by with_unfolding_all rfl) ?_ | refine e_hasO (by with_unfolding_all rfl) ?_ | refine e_binPO (by with_unfolding_all rfl) ?_ | refine e_binPV (by with_unfolding_all rfl) ?_ | refine e_mIf ?_ | refine e_mAnd ?_ | refine e_mOr ?_ | refine e_mNot ?_ | refine e_vAnd ?_ | refine e_vOr ?_ | refine e_chn ?_ | refine e_callN (by first | (simp only [sls, List.getElem?_cons_zero, List.getElem?_cons_succ, Option.map_some]; with_unfolding_all rfl) | with_unfolding_all rfl) (by with_unfolding_all rfl) ?_ | refine e_callO (by first | (simp only [sls, List.set_cons_succ, List.set_cons_zero, List.getElem?_cons_zero, List.getElem?_cons_succ, Option.map_some]; with_unfolding_all rfl) | with_unfolding_all rfl) (by with_unfolding_all rfl) (by with_unfolding_all rfl) ?_ | refine e_callB (by first | (simp only [sls, List.getElem?_cons_zero, List.getElem?_cons_succ, Option.map_some]; with_unfolding_all rfl) | with_unfolding_all rfl) ?_ | refine e_lc ?_ | refine e_mk (by first | (simp only [List.map_cons, List.map_nil]; with_unfolding_all rfl) | with_unfolding_all rfl) ?_ | refine e_mth ?_ | refine e_mth0 ?_ | refine e_lst ?_ | refine e_iteT (by with_unfolding_all (first | exact ⟨rfl, rfl⟩ | exact rfl)) ?_ | refine e_star ?_ | refine e_chn3 ?_ | refine e_lc2 ?_ | refine e_slP ?_ | fail) | (refine gd_Wt ?_; first | refine s_sq ?_ | refine s_nx ?_ | refine s_ct ?_ | refine s_bk ?_ | refine s_if ?_ | refine s_ret ?_ | refine s_asg ?_ | refine s_drop ?_ | refine s_asgT ?_ | refine s_par ?_ | refine s_app (by with_unfolding_all rfl) ?_ | refine s_ext (by with_unfolding_all rfl) ?_ | refine s_aug (by with_unfolding_all rfl) ?_ | refine s_for ?_ | refine s_raise ?_ | refine s_try ?_ | refine s_set ?_ | refine s_tryO ?_ | refine s_tryR ?_ | refine s_tryA ?_ | refine s_rev (by with_unfolding_all rfl) (by (simp only [List.set_cons_succ, List.set_cons_zero]; with_unfolding_all rfl)) ?_ | refine s_clr (by with_unfolding_all rfl) (by (simp only [List.set_cons_succ, List.set_cons_zero]; with_unfolding_all rfl)) ?_ | fail) | (refine gd_ite ?_; first | refine i_true ?_ | refine i_false ?_ | refine i_decT (by omega) ?_ | refine i_decF (by omega) ?_ | (refine i_dec (fun hc => ?_) (fun hc => ?_)) | refine i_ndecT (by omega) ?_ | refine i_ndecF (by omega) ?_ | (refine i_ndec (fun hc => ?_) (fun hc => ?_)) | refine i_not ?_ | fail) | refine k_va ?_ | refine k_ow ?_ | refine k_st (by (simp only [List.set_cons_succ, List.set_cons_zero]; with_unfolding_all rfl)) ?_ | refine k_tg (by first | (simp only [bT, bCons, bNil, bN, Option.bind_some, List.set_cons_succ, List.set_cons_zero]; with_unfolding_all rfl) | with_unfolding_all rfl) ?_ | refine k_par (by with_unfolding_all rfl) (by first | (simp only [putE, List.set_cons_succ, List.set_cons_zero]; with_unfolding_all rfl) | with_unfolding_all rfl) ?_ | refine k_app (by with_unfolding_all rfl) (by first | (simp; done) | (simp; omega) | omega) (by (simp only [List.set_cons_succ, List.set_cons_zero]; with_unfolding_all rfl)) ?_ | refine k_ext (by with_unfolding_all rfl) (by first | (simp; done) | (simp; omega) | omega) (by (simp only [List.set_cons_succ, List.set_cons_zero]; with_unfolding_all rfl)) ?_ | refine k_augA (by (simp only [List.set_cons_succ, List.set_cons_zero]; with_unfolding_all rfl)) ?_ | refine k_augS (by (simp only [List.set_cons_succ, List.set_cons_zero]; with_unfolding_all rfl)) ?_ | refine k_set1 (by with_unfolding_all rfl) ?_ | refine k_set2 (by with_unfolding_all rfl) (by omega) (by omega) (by (simp only [List.set_cons_succ, List.set_cons_zero]; with_unfolding_all rfl)) ?_ | refine k_bk (by simp only [back, List.getD_cons_zero, List.getD_cons_succ, List.set_cons_zero, List.set_cons_succ]; with_unfolding_all rfl) ?_ | refine k_lc (by with_unfolding_all rfl) (by simp only [wipeE, List.set_cons_zero, List.set_cons_succ]; with_unfolding_all rfl) ?_ | refine f_ok (by assumption) ?_ | refine f_ex (by assumption) ?_ | refine k_mk ?_ | refine k_lsW ?_ | refine k_ob (by first | assumption | with_unfolding_all rfl) ?_ | refine k_lc2 (by with_unfolding_all rfl) (by simp only [wipeE, List.set_cons_zero, List.set_cons_succ]; with_unfolding_all rfl) ?_ | refine k_augM (by first | exact cMul_r (by omega) (by omega) | exact cMul_l (by omega) (by omega)) (by (simp only [List.set_cons_succ, List.set_cons_zero]; with_unfolding_all rfl)) ?_ | refine k_augD (by omega) (by omega) (by (simp only [List.set_cons_succ, List.set_cons_zero]; with_unfolding_all rfl)) ?_ | refine take_w (by assumption) (by omega) (by omega) (by omega) (fun v b hv1 hv2 hb => ?_) | fail))
local macro_rules | `(tactic| decreasing_trivial) => `(tactic| repeat' (with_reducible first | (refine gd_We ?_; first | refine e_bnd ?_ | refine e_ret ?_ | refine e_rdv (by with_unfolding_all rfl) ?_ | refine e_mVa ?_ | (refine gd_opt ?_; first | refine e_opt (by assumption) ?_ | (refine gd_isN ?_; first | refine d_isN_non ?_ | refine d_isN_int ?_ | refine d_isN_lst ?_ | refine d_isN_tup ?_ | refine d_isN_str ?_ | refine d_isN_ob ?_ | refine d_isN_exn ?_ | refine d_isN_bl ?_ | fail) | (refine gd_notN ?_; first | refine d_notN_non ?_ | refine d_notN_int ?_ | refine d_notN_lst ?_ | refine d_notN_tup ?_ | refine d_notN_str ?_ | refine d_notN_ob ?_ | refine d_notN_exn ?_ | refine d_notN_bl ?_ | fail) | (refine gd_ix ?_; first | (refine d_ix2 (by omega) (by omega) (fun v hv => ?_)) | (refine d_ix3 (by omega) (by omega) (fun v hv => ?_)) | (refine d_ix4 (by omega) (by omega) (fun v hv => ?_)) | (refine d_ix5 (by omega) (by omega) (fun v hv => ?_)) | (refine d_ix6 (by omega) (by omega) (fun v hv => ?_)) | (refine d_ix7 (by omega) (by omega) (fun v hv => ?_)) | (refine d_ix8 (by omega) (by omega) (fun v hv => ?_)) | (refine d_ix9 (by omega) (by omega) (fun v hv => ?_)) | (refine d_ix10 (by omega) (by omega) (fun v hv => ?_)) | (refine d_ix11 (by omega) (by omega) (fun v hv => ?_)) | (refine d_ix12 (by omega) (by omega) (fun v hv => ?_)) | (refine d_ix13 (by omega) (by omega) (fun v hv => ?_)) | fail) | refine d_sub ?_ | refine d_add ?_ | refine d_addI ?_ | refine d_addL (by first | decide | (simp; done) | (simp; omega)) ?_ | refine d_addT (by first | decide | (simp; done) | (simp; omega)) ?_ | refine d_mul (by first | exact cMul_r (by omega) (by omega) | exact cMul_l (by omega) (by omega)) ?_ | refine d_mulI (by first | exact cMul_r (by omega) (by omega) | exact cMul_l (by omega) (by omega)) ?_ | refine d_rep (by omega) (by omega) ?_ | refine d_div (by omega) (by omega) ?_ | refine d_mod (by omega) ?_ | refine d_pow6 ?_ | refine d_pow4 ?_ | refine d_pow18 ?_ | refine d_neg ?_ | refine d_lt ?_ | refine d_le ?_ | refine d_gt ?_ | refine d_ge ?_ | refine d_eq ?_ | refine d_ne ?_ | refine d_eqB ?_ | refine d_neB ?_ | refine d_asB ?_ | refine d_asB2 ?_ | refine d_clt ?_ | refine d_cle ?_ | refine d_cgt ?_ | refine d_cge ?_ | refine d_ceq ?_ | refine d_truB ?_ | refine d_truI ?_ | refine d_truL ?_ | refine d_truN ?_ | refine d_notD ?_ | refine d_asI ?_ | refine d_lenL ?_ | refine d_lenT ?_ | refine d_lenS ?_ | refine d_lenL1 ?_ | refine d_lenT1 ?_ | refine d_abs ?_ | refine d_int ?_ | refine d_intB ?_ | refine d_min ?_ | refine d_max ?_ | refine d_tup (by first | (with_unfolding_all exact Nat.le_of_ble_eq_true rfl) | (simp; done)) ?_ | refine d_lst (by first | (with_unfolding_all exact Nat.le_of_ble_eq_true rfl) | (simp; done)) ?_ | refine d_seqL ?_ | refine d_seqT ?_ | refine d_listL ?_ | refine d_listT ?_ | refine d_tupL ?_ | refine d_tupT ?_ | refine d_rng1 (by omega) (by omega) ?_ | refine d_rng2 (by omega) (by omega) (by omega) (by omega) ?_ | refine d_slLo (by omega) ?_ | refine d_slHi (by omega) ?_ | refine d_slLoT (by omega) ?_ | refine d_slHiT (by omega) ?_ | refine d_str (by omega) (by omega) ?_ | refine d_pow30 ?_ | refine d_kt (by first | assumption | rfl) ?_ | refine d_divmod (by omega) (by omega) ?_ | refine d_revL ?_ | refine d_xor ?_ | refine e_opt (by assumption) ?_ | fail) | refine e_mFz ?_ | refine e_mCons ?_ | refine e_lCons ?_ | refine e_givV (by with_unfolding_all rfl) ?_ | refine e_givO (by with_unfolding_all rfl) (by (simp only [List.set_cons_succ, List.set_cons_zero]; with_unfolding_all rfl)) ?_ | refine e_rdfV (by with_unfolding_all rfl) ?_ | refine e_rdfO (by with_unfolding_all rfl) (by (simp only [List.set_cons_succ, List.set_cons_zero]; with_unfolding_all rfl)) ?_ | refine e_pkV (by with_unfolding_all rfl) ?_ | refine e_pkO (by with_unfolding_all rfl) ?_ | refine e_hasV (by with_unfolding_all rfl) ?_ | refine e_hasO (by with_unfolding_all rfl) ?_ | refine e_binPO (by with_unfolding_all rfl) ?_ | refine e_binPV (by with_unfolding_all rfl) ?_ | refine e_mIf ?_ | refine e_mAnd ?_ | refine e_mOr ?_ | refine e_mNot ?_ | refine e_vAnd ?_ | refine e_vOr ?_ | refine e_chn ?_ | refine e_callN (by first | (simp only [sls, List.getElem?_cons_zero, List.getElem?_cons_succ, Option.map_some]; with_unfolding_all rfl) | with_unfolding_all rfl) (by with_unfolding_all rfl) ?_ | refine e_callO (by first | (simp only [sls, List.set_cons_succ, List.set_cons_zero, List.getElem?_cons_zero, List.getElem?_cons_succ, Option.map_some]; with_unfolding_all rfl) | with_unfolding_all rfl) (by with_unfolding_all rfl) (by with_unfolding_all rfl) ?_ | refine e_callB (by first | (simp only [sls, List.getElem?_cons_zero, List.getElem?_cons_succ, Option.map_some]; with_unfolding_all rfl) | with_unfolding_all rfl) ?_ | refine e_lc ?_ | refine e_mk (by first | (simp only [List.map_cons, List.map_nil]; with_unfolding_all rfl) | with_unfolding_all rfl) ?_ | refine e_mth ?_ | refine e_mth0 ?_ | refine e_lst ?_ | refine e_iteT (by with_unfolding_all (first | exact ⟨rfl, rfl⟩ | exact rfl)) ?_ | refine e_star ?_ | refine e_chn3 ?_ | refine e_lc2 ?_ | refine e_slP ?_ | fail) | (refine gd_Wt ?_; first | refine s_nx ?_ | refine s_ct ?_ | refine s_bk ?_ | refine s_if ?_ | refine s_ret ?_ | refine s_asg ?_ | refine s_drop ?_ | refine s_asgT ?_ | refine s_par ?_ | refine s_app (by with_unfolding_all rfl) ?_ | refine s_ext (by with_unfolding_all rfl) ?_ | refine s_aug (by with_unfolding_all rfl) ?_ | refine s_for ?_ | refine s_raise ?_ | refine s_try ?_ | refine s_set ?_ | refine s_tryO ?_ | refine s_tryR ?_ | refine s_tryA ?_ | refine s_rev (by with_unfolding_all rfl) (by (simp only [List.set_cons_succ, List.set_cons_zero]; with_unfolding_all rfl)) ?_ | refine s_clr (by with_unfolding_all rfl) (by (simp only [List.set_cons_succ, List.set_cons_zero]; with_unfolding_all rfl)) ?_ | fail) | (refine gd_ite ?_; first | refine i_true ?_ | refine i_false ?_ | refine i_decT (by omega) ?_ | refine i_decF (by omega) ?_ | (refine i_dec (fun hc => ?_) (fun hc => ?_)) | refine i_ndecT (by omega) ?_ | refine i_ndecF (by omega) ?_ | (refine i_ndec (fun hc => ?_) (fun hc => ?_)) | refine i_not ?_ | fail) | refine k_va ?_ | refine k_ow ?_ | refine k_st (by (simp only [List.set_cons_succ, List.set_cons_zero]; with_unfolding_all rfl)) ?_ | refine k_tg (by first | (simp only [bT, bCons, bNil, bN, Option.bind_some, List.set_cons_succ, List.set_cons_zero]; with_unfolding_all rfl) | with_unfolding_all rfl) ?_ | refine k_par (by with_unfolding_all rfl) (by first | (simp only [putE, List.set_cons_succ, List.set_cons_zero]; with_unfolding_all rfl) | with_unfolding_all rfl) ?_ | refine k_app (by with_unfolding_all rfl) (by first | (simp; done) | (simp; omega) | omega) (by (simp only [List.set_cons_succ, List.set_cons_zero]; with_unfolding_all rfl)) ?_ | refine k_ext (by with_unfolding_all rfl) (by first | (simp; done) | (simp; omega) | omega) (by (simp only [List.set_cons_succ, List.set_cons_zero]; with_unfolding_all rfl)) ?_ | refine k_augA (by (simp only [List.set_cons_succ, List.set_cons_zero]; with_unfolding_all rfl)) ?_ | refine k_augS (by (simp only [List.set_cons_succ, List.set_cons_zero]; with_unfolding_all rfl)) ?_ | refine k_set1 (by with_unfolding_all rfl) ?_ | refine k_set2 (by with_unfolding_all rfl) (by omega) (by omega) (by (simp only [List.set_cons_succ, List.set_cons_zero]; with_unfolding_all rfl)) ?_ | refine k_bk (by simp only [back, List.getD_cons_zero, List.getD_cons_succ, List.set_cons_zero, List.set_cons_succ]; with_unfolding_all rfl) ?_ | refine k_lc (by with_unfolding_all rfl) (by simp only [wipeE, List.set_cons_zero, List.set_cons_succ]; with_unfolding_all rfl) ?_ | refine f_ok (by assumption) ?_ | refine f_ex (by assumption) ?_ | refine k_mk ?_ | refine k_lsW ?_ | refine k_ob (by first | assumption | with_unfolding_all rfl) ?_ | refine k_lc2 (by with_unfolding_all rfl) (by simp only [wipeE, List.set_cons_zero, List.set_cons_succ]; with_unfolding_all rfl) ?_ | refine k_augM (by first | exact cMul_r (by omega) (by omega) | exact cMul_l (by omega) (by omega)) (by (simp only [List.set_cons_succ, List.set_cons_zero]; with_unfolding_all rfl)) ?_ | refine k_augD (by omega) (by omega) (by (simp only [List.set_cons_succ, List.set_cons_zero]; with_unfolding_all rfl)) ?_ | refine take_w (by assumption) (by omega) (by omega) (by omega) (fun v b hv1 hv2 hb => ?_) | fail))
theorem pl_ends {ss : List Spt} {v : Spt} {c : Nat} : Pl 4 (.tup (ends ss v c ++ [spD v])) := .tup (fun d hd => by
  simp only [ends, List.cons_append, List.nil_append, List.mem_cons, List.not_mem_nil, or_false] at hd
  rcases hd with rfl | rfl | rfl
  · exact .int _ _
  · exact .int _ _
  · exact .tup (fun e he => by
      cases v <;> simp only [Spt.fs, List.mem_cons, List.not_mem_nil, or_false] at he <;> rcases he with rfl | rfl | rfl | rfl <;> first | exact .non _ | exact .int _ _) (by cases v <;> simp [Spt.fs])) (by simp [ends])
theorem lfs_sp : ∀ (s : Spt), Mir.lf (spD s) = true := fun s => by cases s <;> simp [spD, Spt.fs, Mir.lf, Mir.lfs]
theorem lf_ends {ss : List Spt} {v : Spt} {c : Nat} : Mir.lf (.tup (ends ss v c ++ [spD v])) = true := by simp [ends, Mir.lf, Mir.lfs, lfs_sp]
theorem shref : SeqAt.shaped (.str "refused") = true := by decide +kernel
theorem pl_ref (c : Int) : Pl 4 (.lst [.str "refused", .int c]) := .lst (fun d hd => by
  simp only [List.mem_cons, List.not_mem_nil, or_false] at hd
  rcases hd with rfl | rfl
  · exact .str _ _ shref
  · exact .int _ _) (by simp)
theorem lf_box (b : Box) : Mir.lfs b.ds = true := rfl
/-- one card asked about -/
theorem card_w {b : Box} {n : Nat} {ss : List Spt} {c : Int} {x0 x1 x3 x6 x8 x9 : Option Sl} {N B C : En → Prop} {R : Sl → En → Prop} {X : XP} (hb : b.ok n) (hn : n ≤ 900000) (hl : ss.length ≤ 900) (c0 : -1000000 ≤ c) (c1 : c ≤ 1000000)
    (h : ∀ b' : Box, b'.ok (n + 1) → N [x0, x1, some (.ow b'.ds), x3, some (.va (.lst (ss.map spD))), some (.va (.lst (ss.map plD))), x6, some (.va (.int c)), x8, x9]) :
    Wt lp_law_1 [x0, x1, some (.ow b.ds), x3, some (.va (.lst (ss.map spD))), some (.va (.lst (ss.map plD))), x6, some (.va (.int c)), x8, x9] N R B C X := by
  unfold lp_law_1
  by_cases hc : 0 ≤ c ∧ c < ss.length
  · obtain ⟨m, rfl⟩ : ∃ m : Nat, c = m := ⟨c.toNat, by omega⟩
    have hv := List.getElem?_eq_getElem (l := ss) (i := m) (by omega)
    generalize ss[m] = v at hv
    have sr := same_refl 4 (pl_ends (ss := ss) (v := v) (c := m))
    have lfe := lf_ends (ss := ss) (v := v) (c := m)
    decreasing_trivial_pre_omega
    refine told_ok hb hn hv hl fun b' hb' => ?_
    have lb := lf_box b'
    decreasing_trivial_pre_omega
    refine due_ok (At.lst spD ss) hv hl ?_
    decreasing_trivial_pre_omega
    exact h b' hb'
  · have sr := same_refl 4 (pl_ref c)
    decreasing_trivial_pre_omega
    refine told_no hb hn hc c0 c1 fun b' hb' => ?_
    have lb := lf_box b'
    decreasing_trivial_pre_omega
    refine due_no (At.lst spD ss) hc ?_
    decreasing_trivial_pre_omega
    exact h b' hb'
end My

namespace My
open PySem PySem.Spec PyProof.Rows L2 Mir
local macro_rules | `(tactic| decreasing_trivial_pre_omega) => `(tactic| repeat' (with_reducible first | (refine gd_We ?_; first | refine e_bnd ?_ | refine e_ret ?_ | refine e_rdv (by with_unfolding_all rfl) ?_ | refine e_mVa ?_ | (refine gd_opt ?_; first | refine e_opt (by assumption) ?_ | (refine gd_isN ?_; first | refine d_isN_non ?_ | refine d_isN_int ?_ | refine d_isN_lst ?_ | refine d_isN_tup ?_ | refine d_isN_str ?_ | refine d_isN_ob ?_ | refine d_isN_exn ?_ | refine d_isN_bl ?_ | fail) | (refine gd_notN ?_; first | refine d_notN_non ?_ | refine d_notN_int ?_ | refine d_notN_lst ?_ | refine d_notN_tup ?_ | refine d_notN_str ?_ | refine d_notN_ob ?_ | refine d_notN_exn ?_ | refine d_notN_bl ?_ | fail) | (refine gd_ix ?_; first | (refine d_ix2 (by omega) (by omega) (fun v hv => ?_)) | (refine d_ix3 (by omega) (by omega) (fun v hv => ?_)) | (refine d_ix4 (by omega) (by omega) (fun v hv => ?_)) | (refine d_ix5 (by omega) (by omega) (fun v hv => ?_)) | (refine d_ix6 (by omega) (by omega) (fun v hv => ?_)) | (refine d_ix7 (by omega) (by omega) (fun v hv => ?_)) | (refine d_ix8 (by omega) (by omega) (fun v hv => ?_)) | (refine d_ix9 (by omega) (by omega) (fun v hv => ?_)) | (refine d_ix10 (by omega) (by omega) (fun v hv => ?_)) | (refine d_ix11 (by omega) (by omega) (fun v hv => ?_)) | (refine d_ix12 (by omega) (by omega) (fun v hv => ?_)) | (refine d_ix13 (by omega) (by omega) (fun v hv => ?_)) | fail) | refine d_sub ?_ | refine d_add ?_ | refine d_addI ?_ | refine d_addL (by first | decide | (simp; done) | (simp; omega)) ?_ | refine d_addT (by first | decide | (simp; done) | (simp; omega)) ?_ | refine d_mul (by first | exact cMul_r (by omega) (by omega) | exact cMul_l (by omega) (by omega)) ?_ | refine d_mulI (by first | exact cMul_r (by omega) (by omega) | exact cMul_l (by omega) (by omega)) ?_ | refine d_rep (by omega) (by omega) ?_ | refine d_div (by omega) (by omega) ?_ | refine d_mod (by omega) ?_ | refine d_pow6 ?_ | refine d_pow4 ?_ | refine d_pow18 ?_ | refine d_neg ?_ | refine d_lt ?_ | refine d_le ?_ | refine d_gt ?_ | refine d_ge ?_ | refine d_eq ?_ | refine d_ne ?_ | refine d_eqB ?_ | refine d_neB ?_ | refine d_asB ?_ | refine d_asB2 ?_ | refine d_clt ?_ | refine d_cle ?_ | refine d_cgt ?_ | refine d_cge ?_ | refine d_ceq ?_ | refine d_truB ?_ | refine d_truI ?_ | refine d_truL ?_ | refine d_truN ?_ | refine d_notD ?_ | refine d_asI ?_ | refine d_lenL ?_ | refine d_lenT ?_ | refine d_lenS ?_ | refine d_lenL1 ?_ | refine d_lenT1 ?_ | refine d_abs ?_ | refine d_int ?_ | refine d_intB ?_ | refine d_min ?_ | refine d_max ?_ | refine d_tup (by first | (with_unfolding_all exact Nat.le_of_ble_eq_true rfl) | (simp; done)) ?_ | refine d_lst (by first | (with_unfolding_all exact Nat.le_of_ble_eq_true rfl) | (simp; done)) ?_ | refine d_seqL ?_ | refine d_seqT ?_ | refine d_listL ?_ | refine d_listT ?_ | refine d_tupL ?_ | refine d_tupT ?_ | refine d_rng1 (by omega) (by omega) ?_ | refine d_rng2 (by omega) (by omega) (by omega) (by omega) ?_ | refine d_slLo (by omega) ?_ | refine d_slHi (by omega) ?_ | refine d_slLoT (by omega) ?_ | refine d_slHiT (by omega) ?_ | refine d_str (by omega) (by omega) ?_ | refine d_pow30 ?_ | refine d_kt (by first | assumption | rfl) ?_ | refine d_divmod (by omega) (by omega) ?_ | refine d_revL ?_ | refine d_xor ?_ | refine e_opt (by assumption) ?_ | fail) | refine e_mFz ?_ | refine e_mCons ?_ | refine e_lCons ?_ | refine e_givV (by with_unfolding_all rfl) ?_ | refine e_givO (by with_unfolding_all rfl) (by (simp only [List.set_cons_succ, List.set_cons_zero]; with_unfolding_all rfl)) ?_ | refine e_rdfV (by with_unfolding_all rfl) ?_ | refine e_rdfO (by with_unfolding_all rfl) (by (simp only [List.set_cons_succ, List.set_cons_zero]; with_unfolding_all rfl)) ?_ | refine e_pkV (by with_unfolding_all rfl) ?_ | refine e_pkO (by with_unfolding_all rfl) ?_ | refine e_hasV (by with_unfolding_all rfl) ?_ | refine e_hasO (by with_unfolding_all rfl) ?_ | refine e_binPO (by with_unfolding_all rfl) ?_ | refine e_binPV (by with_unfolding_all rfl) ?_ | refine e_mIf ?_ | refine e_mAnd ?_ | refine e_mOr ?_ | refine e_mNot ?_ | refine e_vAnd ?_ | refine e_vOr ?_ | refine e_chn ?_ | refine e_callN (by first | (simp only [sls, List.getElem?_cons_zero, List.getElem?_cons_succ, Option.map_some]; with_unfolding_all rfl) | with_unfolding_all rfl) (by with_unfolding_all rfl) ?_ | refine e_callO (by first | (simp only [sls, List.set_cons_succ, List.set_cons_zero, List.getElem?_cons_zero, List.getElem?_cons_succ, Option.map_some]; with_unfolding_all rfl) | with_unfolding_all rfl) (by with_unfolding_all rfl) (by with_unfolding_all rfl) ?_ | refine e_callB (by first | (simp only [sls, List.getElem?_cons_zero, List.getElem?_cons_succ, Option.map_some]; with_unfolding_all rfl) | with_unfolding_all rfl) ?_ | refine e_lc ?_ | refine e_mk (by first | (simp only [List.map_cons, List.map_nil]; with_unfolding_all rfl) | with_unfolding_all rfl) ?_ | refine e_mth ?_ | refine e_mth0 ?_ | refine e_lst ?_ | refine e_iteT (by with_unfolding_all (first | exact ⟨rfl, rfl⟩ | exact rfl)) ?_ | refine e_star ?_ | refine e_chn3 ?_ | refine e_lc2 ?_ | refine e_slP ?_ | fail) | (refine gd_Wt ?_; first | refine s_sq ?_ | refine s_nx ?_ | refine s_ct ?_ | refine s_bk ?_ | refine s_if ?_ | refine s_ret ?_ | refine s_asg ?_ | refine s_drop ?_ | refine s_asgT ?_ | refine s_par ?_ | refine s_app (by with_unfolding_all rfl) ?_ | refine s_ext (by with_unfolding_all rfl) ?_ | refine s_aug (by with_unfolding_all rfl) ?_ | refine s_for ?_ | refine s_raise ?_ | refine s_try ?_ | refine s_set ?_ | refine s_tryO ?_ | refine s_tryR ?_ | refine s_tryA ?_ | refine s_rev (by with_unfolding_all rfl) (by (simp only [List.set_cons_succ, List.set_cons_zero]; with_unfolding_all rfl)) ?_ | refine s_clr (by with_unfolding_all rfl) (by (simp only [List.set_cons_succ, List.set_cons_zero]; with_unfolding_all rfl)) ?_ | fail) | (refine gd_ite ?_; first | refine i_true ?_ | refine i_false ?_ | refine i_decT (by omega) ?_ | refine i_decF (by omega) ?_ | (refine i_dec (fun hc => ?_) (fun hc => ?_)) | refine i_ndecT (by omega) ?_ | refine i_ndecF (by omega) ?_ | (refine i_ndec (fun hc => ?_) (fun hc => ?_)) | refine i_not ?_ | fail) | refine k_va ?_ | refine k_ow ?_ | refine k_st (by (simp only [List.set_cons_succ, List.set_cons_zero]; with_unfolding_all rfl)) ?_ | refine k_tg (by first | (simp only [bT, bCons, bNil, bN, Option.bind_some, List.set_cons_succ, List.set_cons_zero]; with_unfolding_all rfl) | with_unfolding_all rfl) ?_ | refine k_par (by with_unfolding_all rfl) (by first | (simp only [putE, List.set_cons_succ, List.set_cons_zero]; with_unfolding_all rfl) | with_unfolding_all rfl) ?_ | refine k_app (by with_unfolding_all rfl) (by first | (simp; done) | (simp; omega) | omega) (by (simp only [List.set_cons_succ, List.set_cons_zero]; with_unfolding_all rfl)) ?_ | refine k_ext (by with_unfolding_all rfl) (by first | (simp; done) | (simp; omega) | omega) (by (simp only [List.set_cons_succ, List.set_cons_zero]; with_unfolding_all rfl)) ?_ | refine k_augA (by (simp only [List.set_cons_succ, List.set_cons_zero]; with_unfolding_all rfl)) ?_ | refine k_augS (by (simp only [List.set_cons_succ, List.set_cons_zero]; with_unfolding_all rfl)) ?_ | refine k_set1 (by with_unfolding_all rfl) ?_ | refine k_set2 (by with_unfolding_all rfl) (by omega) (by omega) (by (simp only [List.set_cons_succ, List.set_cons_zero]; with_unfolding_all rfl)) ?_ | refine k_bk (by simp only [back, List.getD_cons_zero, List.getD_cons_succ, List.set_cons_zero, List.set_cons_succ]; with_unfolding_all rfl) ?_ | refine k_lc (by with_unfolding_all rfl) (by simp only [wipeE, List.set_cons_zero, List.set_cons_succ]; with_unfolding_all rfl) ?_ | refine f_ok (by assumption) ?_ | refine f_ex (by assumption) ?_ | refine k_mk ?_ | refine k_lsW ?_ | refine k_ob (by first | assumption | with_unfolding_all rfl) ?_ | refine k_lc2 (by with_unfolding_all rfl) (by simp only [wipeE, List.set_cons_zero, List.set_cons_succ]; with_unfolding_all rfl) ?_ | refine k_augM (by first | exact cMul_r (by omega) (by omega) | exact cMul_l (by omega) (by omega)) (by (simp only [List.set_cons_succ, List.set_cons_zero]; with_unfolding_all rfl)) ?_ | refine k_augD (by omega) (by omega) (by (simp only [List.set_cons_succ, List.set_cons_zero]; with_unfolding_all rfl)) ?_ | refine take_w (by assumption) (by omega) (by omega) (by omega) (fun v b hv1 hv2 hb => ?_) | fail))
local macro_rules | `(tactic| decreasing_trivial) => `(tactic| repeat' (with_reducible first | (refine gd_We ?_; first | refine e_bnd ?_ | refine e_ret ?_ | refine e_rdv (by with_unfolding_all rfl) ?_ | refine e_mVa ?_ | (refine gd_opt ?_; first | refine e_opt (by assumption) ?_ | (refine gd_isN ?_; first | refine d_isN_non ?_ | refine d_isN_int ?_ | refine d_isN_lst ?_ | refine d_isN_tup ?_ | refine d_isN_str ?_ | refine d_isN_ob ?_ | refine d_isN_exn ?_ | refine d_isN_bl ?_ | fail) | (refine gd_notN ?_; first | refine d_notN_non ?_ | refine d_notN_int ?_ | refine d_notN_lst ?_ | refine d_notN_tup ?_ | refine d_notN_str ?_ | refine d_notN_ob ?_ | refine d_notN_exn ?_ | refine d_notN_bl ?_ | fail) | (refine gd_ix ?_; first | (refine d_ix2 (by omega) (by omega) (fun v hv => ?_)) | (refine d_ix3 (by omega) (by omega) (fun v hv => ?_)) | (refine d_ix4 (by omega) (by omega) (fun v hv => ?_)) | (refine d_ix5 (by omega) (by omega) (fun v hv => ?_)) | (refine d_ix6 (by omega) (by omega) (fun v hv => ?_)) | (refine d_ix7 (by omega) (by omega) (fun v hv => ?_)) | (refine d_ix8 (by omega) (by omega) (fun v hv => ?_)) | (refine d_ix9 (by omega) (by omega) (fun v hv => ?_)) | (refine d_ix10 (by omega) (by omega) (fun v hv => ?_)) | (refine d_ix11 (by omega) (by omega) (fun v hv => ?_)) | (refine d_ix12 (by omega) (by omega) (fun v hv => ?_)) | (refine d_ix13 (by omega) (by omega) (fun v hv => ?_)) | fail) | refine d_sub ?_ | refine d_add ?_ | refine d_addI ?_ | refine d_addL (by first | decide | (simp; done) | (simp; omega)) ?_ | refine d_addT (by first | decide | (simp; done) | (simp; omega)) ?_ | refine d_mul (by first | exact cMul_r (by omega) (by omega) | exact cMul_l (by omega) (by omega)) ?_ | refine d_mulI (by first | exact cMul_r (by omega) (by omega) | exact cMul_l (by omega) (by omega)) ?_ | refine d_rep (by omega) (by omega) ?_ | refine d_div (by omega) (by omega) ?_ | refine d_mod (by omega) ?_ | refine d_pow6 ?_ | refine d_pow4 ?_ | refine d_pow18 ?_ | refine d_neg ?_ | refine d_lt ?_ | refine d_le ?_ | refine d_gt ?_ | refine d_ge ?_ | refine d_eq ?_ | refine d_ne ?_ | refine d_eqB ?_ | refine d_neB ?_ | refine d_asB ?_ | refine d_asB2 ?_ | refine d_clt ?_ | refine d_cle ?_ | refine d_cgt ?_ | refine d_cge ?_ | refine d_ceq ?_ | refine d_truB ?_ | refine d_truI ?_ | refine d_truL ?_ | refine d_truN ?_ | refine d_notD ?_ | refine d_asI ?_ | refine d_lenL ?_ | refine d_lenT ?_ | refine d_lenS ?_ | refine d_lenL1 ?_ | refine d_lenT1 ?_ | refine d_abs ?_ | refine d_int ?_ | refine d_intB ?_ | refine d_min ?_ | refine d_max ?_ | refine d_tup (by first | (with_unfolding_all exact Nat.le_of_ble_eq_true rfl) | (simp; done)) ?_ | refine d_lst (by first | (with_unfolding_all exact Nat.le_of_ble_eq_true rfl) | (simp; done)) ?_ | refine d_seqL ?_ | refine d_seqT ?_ | refine d_listL ?_ | refine d_listT ?_ | refine d_tupL ?_ | refine d_tupT ?_ | refine d_rng1 (by omega) (by omega) ?_ | refine d_rng2 (by omega) (by omega) (by omega) (by omega) ?_ | refine d_slLo (by omega) ?_ | refine d_slHi (by omega) ?_ | refine d_slLoT (by omega) ?_ | refine d_slHiT (by omega) ?_ | refine d_str (by omega) (by omega) ?_ | refine d_pow30 ?_ | refine d_kt (by first | assumption | rfl) ?_ | refine d_divmod (by omega) (by omega) ?_ | refine d_revL ?_ | refine d_xor ?_ | refine e_opt (by assumption) ?_ | fail) | refine e_mFz ?_ | refine e_mCons ?_ | refine e_lCons ?_ | refine e_givV (by with_unfolding_all rfl) ?_ | refine e_givO (by with_unfolding_all rfl) (by (simp only [List.set_cons_succ, List.set_cons_zero]; with_unfolding_all rfl)) ?_ | refine e_rdfV (by with_unfolding_all rfl) ?_ | refine e_rdfO (by with_unfolding_all rfl) (by (simp only [List.set_cons_succ, List.set_cons_zero]; with_unfolding_all rfl)) ?_ | refine e_pkV (by with_unfolding_all rfl) ?_ | refine e_pkO (by with_unfolding_all rfl) ?_ | refine e_hasV (by with_unfolding_all rfl) ?_ | refine e_hasO (by with_unfolding_all rfl) ?_ | refine e_binPO (by with_unfolding_all rfl) ?_ | refine e_binPV (by with_unfolding_all rfl) ?_ | refine e_mIf ?_ | refine e_mAnd ?_ | refine e_mOr ?_ | refine e_mNot ?_ | refine e_vAnd ?_ | refine e_vOr ?_ | refine e_chn ?_ | refine e_callN (by first | (simp only [sls, List.getElem?_cons_zero, List.getElem?_cons_succ, Option.map_some]; with_unfolding_all rfl) | with_unfolding_all rfl) (by with_unfolding_all rfl) ?_ | refine e_callO (by first | (simp only [sls, List.set_cons_succ, List.set_cons_zero, List.getElem?_cons_zero, List.getElem?_cons_succ, Option.map_some]; with_unfolding_all rfl) | with_unfolding_all rfl) (by with_unfolding_all rfl) (by with_unfolding_all rfl) ?_ | refine e_callB (by first | (simp only [sls, List.getElem?_cons_zero, List.getElem?_cons_succ, Option.map_some]; with_unfolding_all rfl) | with_unfolding_all rfl) ?_ | refine e_lc ?_ | refine e_mk (by first | (simp only [List.map_cons, List.map_nil]; with_unfolding_all rfl) | with_unfolding_all rfl) ?_ | refine e_mth ?_ | refine e_mth0 ?_ | refine e_lst ?_ | refine e_iteT (by with_unfolding_all (first | exact ⟨rfl, rfl⟩ | exact rfl)) ?_ | refine e_star ?_ | refine e_chn3 ?_ | refine e_lc2 ?_ | refine e_slP ?_ | fail) | (refine gd_Wt ?_; first | refine s_nx ?_ | refine s_ct ?_ | refine s_bk ?_ | refine s_if ?_ | refine s_ret ?_ | refine s_asg ?_ | refine s_drop ?_ | refine s_asgT ?_ | refine s_par ?_ | refine s_app (by with_unfolding_all rfl) ?_ | refine s_ext (by with_unfolding_all rfl) ?_ | refine s_aug (by with_unfolding_all rfl) ?_ | refine s_for ?_ | refine s_raise ?_ | refine s_try ?_ | refine s_set ?_ | refine s_tryO ?_ | refine s_tryR ?_ | refine s_tryA ?_ | refine s_rev (by with_unfolding_all rfl) (by (simp only [List.set_cons_succ, List.set_cons_zero]; with_unfolding_all rfl)) ?_ | refine s_clr (by with_unfolding_all rfl) (by (simp only [List.set_cons_succ, List.set_cons_zero]; with_unfolding_all rfl)) ?_ | fail) | (refine gd_ite ?_; first | refine i_true ?_ | refine i_false ?_ | refine i_decT (by omega) ?_ | refine i_decF (by omega) ?_ | (refine i_dec (fun hc => ?_) (fun hc => ?_)) | refine i_ndecT (by omega) ?_ | refine i_ndecF (by omega) ?_ | (refine i_ndec (fun hc => ?_) (fun hc => ?_)) | refine i_not ?_ | fail) | refine k_va ?_ | refine k_ow ?_ | refine k_st (by (simp only [List.set_cons_succ, List.set_cons_zero]; with_unfolding_all rfl)) ?_ | refine k_tg (by first | (simp only [bT, bCons, bNil, bN, Option.bind_some, List.set_cons_succ, List.set_cons_zero]; with_unfolding_all rfl) | with_unfolding_all rfl) ?_ | refine k_par (by with_unfolding_all rfl) (by first | (simp only [putE, List.set_cons_succ, List.set_cons_zero]; with_unfolding_all rfl) | with_unfolding_all rfl) ?_ | refine k_app (by with_unfolding_all rfl) (by first | (simp; done) | (simp; omega) | omega) (by (simp only [List.set_cons_succ, List.set_cons_zero]; with_unfolding_all rfl)) ?_ | refine k_ext (by with_unfolding_all rfl) (by first | (simp; done) | (simp; omega) | omega) (by (simp only [List.set_cons_succ, List.set_cons_zero]; with_unfolding_all rfl)) ?_ | refine k_augA (by (simp only [List.set_cons_succ, List.set_cons_zero]; with_unfolding_all rfl)) ?_ | refine k_augS (by (simp only [List.set_cons_succ, List.set_cons_zero]; with_unfolding_all rfl)) ?_ | refine k_set1 (by with_unfolding_all rfl) ?_ | refine k_set2 (by with_unfolding_all rfl) (by omega) (by omega) (by (simp only [List.set_cons_succ, List.set_cons_zero]; with_unfolding_all rfl)) ?_ | refine k_bk (by simp only [back, List.getD_cons_zero, List.getD_cons_succ, List.set_cons_zero, List.set_cons_succ]; with_unfolding_all rfl) ?_ | refine k_lc (by with_unfolding_all rfl) (by simp only [wipeE, List.set_cons_zero, List.set_cons_succ]; with_unfolding_all rfl) ?_ | refine f_ok (by assumption) ?_ | refine f_ex (by assumption) ?_ | refine k_mk ?_ | refine k_lsW ?_ | refine k_ob (by first | assumption | with_unfolding_all rfl) ?_ | refine k_lc2 (by with_unfolding_all rfl) (by simp only [wipeE, List.set_cons_zero, List.set_cons_succ]; with_unfolding_all rfl) ?_ | refine k_augM (by first | exact cMul_r (by omega) (by omega) | exact cMul_l (by omega) (by omega)) (by (simp only [List.set_cons_succ, List.set_cons_zero]; with_unfolding_all rfl)) ?_ | refine k_augD (by omega) (by omega) (by (simp only [List.set_cons_succ, List.set_cons_zero]; with_unfolding_all rfl)) ?_ | refine take_w (by assumption) (by omega) (by omega) (by omega) (fun v b hv1 hv2 hb => ?_) | fail))
theorem dNe_self {n : Nat} {d : D} (h : Pl n d) (hn : n ≤ 64) : dNe d d = some (.bl false) := by
  unfold dNe
  rw [eqD_self h hn]
  rfl
def Num (d : D) : Prop := ∃ c : Int, d = .int c ∧ -1000000 ≤ c ∧ c ≤ 1000000
/-- a turn: the places drawn -/
theorem turn_w {ns : List Int} {k : Nat} {b : Box} {m : Nat} {ss : List Spt} {size : Int} {x5 x6 x7 x8 x9 : Option Sl} {N : En → Prop} {R : Sl → En → Prop} {B C : En → Prop} {X : XP} (hb : b.ok m) (hm : m ≤ 8000) (hg : ∀ s ∈ ss, s.gd) (hs : (ss.length : Int) = size) (hs2 : size ≤ 160)
    (c6 : nOw x6 = true) (c8 : nOw x8 = true) (c9 : nOw x9 = true)
    (h : ∀ (x2 x3 x4 x5 x6 x7 x8 x9 : Option Sl), nOw x6 = true → nOw x8 = true → nOw x9 = true → N [some (.va (.scr ns)), some (.va (.int k)), x2, x3, x4, x5, x6, x7, x8, x9]) :
    Wt (sq (asgS 5 (mVa (mFz (mLc (un seqD (rdv 4)) (bN 6) (Mir.ret true) el_law_3 [6]))))
      (sq (ifS (mNot (un truD (mFz (callA f_l_runs_right (some 0) [.o 2, .v, .v] (hasM 2 (mCons (rdv 4) (mCons (rdv 5) (Mir.ret [])))))))) (retS (mVa (Mir.ret (.bl false)))) Fl.nx)
      (sq (forS (un seqD (mFz (Mir.bin dAdd (mFz (cb dLst (mCons (Mir.ret (.int 0)) (mCons (Mir.bin dSub (rdv 3) (Mir.ret (.int 1))) (mCons (rdv 3) (mCons (un dNeg (Mir.ret (.int 1))) (mCons (Mir.bin dPow (Mir.ret (.int 10)) (Mir.ret (.int 6))) (Mir.ret [])))))))) (mFz (mLc (cb rng1 (mCons (Mir.ret (.int 6)) (Mir.ret []))) (bN 8) (Mir.ret true) el_law_2 [8]))))) (bN 7) lp_law_1)
      (ifS (un asB (Mir.bin dNe (mFz (mLc (un seqD (rdv 5)) (bN 9) (Mir.ret true) el_law_1 [9])) (rdv 4))) (retS (mVa (Mir.ret (.bl false)))) Fl.nx))))
      [some (.va (.scr ns)), some (.va (.int k)), some (.ow b.ds), some (.va (.int size)), some (.va (.lst (ss.map spD))), x5, x6, x7, x8, x9] N R B C X := by
  have lp := lfs_pl ss
  refine s_sq ?_
  decreasing_trivial
  refine k_lc c6 (by with_unfolding_all rfl) ?_
  refine Wk_mapA (g := plD) (fun s hs => ?_) (by omega) ?_
  · refine ⟨_, rfl, ?_⟩
    unfold el_law_3
    decreasing_trivial_pre_omega
    refine place_w (hg s hs) ?_
    decreasing_trivial_pre_omega
    exact ⟨rfl, rfl⟩
  decreasing_trivial
  refine s_sq ?_
  decreasing_trivial
  refine right_w hb (by omega) (by omega) fun b2 hb2 => ?_
  have lb := lf_box b2
  decreasing_trivial
  refine s_sq ?_
  decreasing_trivial
  refine k_lc c8 (by with_unfolding_all rfl) ?_
  refine Wk_by (fun j acc ρ => ∃ b' : Box, ρ = [some (.va (.scr ns)), some (.va (.int k)), some (.ow b'.ds), some (.va (.int size)), some (.va (.lst (ss.map spD))), some (.va (.lst (ss.map plD))), x6, x7, none, x9] ∧ b'.ok (m + 1000 + j) ∧ acc.length = j ∧ ∀ d ∈ acc, Num d) ⟨b2, rfl, hb2, rfl, fun d h => by cases h⟩ ?_ (by rw [upto_len]; decide) ?_
  · rintro j d acc ρ hd _ ⟨b', rfl, h1, h2, h3⟩
    obtain ⟨hj, rfl⟩ := upto_get hd
    refine ⟨_, rfl, ?_⟩
    unfold el_law_2
    decreasing_trivial_pre_omega
    refine ⟨_, rfl, Box.ok.mono (by assumption) (by omega), by simp; omega, fun e he => ?_⟩
    rcases List.mem_append.mp he with he | he
    · exact h3 e he
    · rw [List.mem_singleton.mp he]; exact ⟨_, rfl, by omega, by omega⟩
  rintro acc ρ ⟨b3, rfl, h1, h2, h3⟩
  rw [show (upto 0 (Int.toNat 6)).length = 6 from rfl] at h1 h2
  decreasing_trivial
  refine Wv_by (fun j ρ => ∃ (b' : Box) (x7 : Option Sl), ρ = [some (.va (.scr ns)), some (.va (.int k)), some (.ow b'.ds), some (.va (.int size)), some (.va (.lst (ss.map spD))), some (.va (.lst (ss.map plD))), x6, x7, x8, x9] ∧ b'.ok (m + 1006 + j)) ⟨b3, _, rfl, h1.mono (by omega)⟩ ?_ ?_
  · rintro j d ρ hd ⟨b', y7, rfl, g1⟩
    have hj : j < 11 := by
      have := (List.getElem?_eq_some_iff.mp hd).1
      simp only [List.length_append, List.length_cons, List.length_nil, h2] at this
      omega
    have hd := List.mem_of_getElem? hd
    have : Num d := by
      rcases List.mem_append.mp hd with hd | hd
      · simp only [List.mem_cons, List.not_mem_nil, or_false] at hd
        rcases hd with rfl | rfl | rfl | rfl | rfl
        · exact ⟨_, rfl, by omega, by omega⟩
        · exact ⟨_, rfl, by omega, by omega⟩
        · exact ⟨_, rfl, by omega, by omega⟩
        · exact ⟨_, rfl, by omega, by omega⟩
        · exact ⟨_, rfl, by omega, by omega⟩
      · exact h3 d hd
    obtain ⟨c, rfl, c0, c1⟩ := this
    refine ⟨_, rfl, ?_⟩
    exact card_w g1 (by omega) (by omega) c0 c1 fun b4 hb4 => ⟨b4, _, rfl, hb4.mono (by omega)⟩
  rintro ρ ⟨b4, y7, rfl, h4⟩
  have ne := dNe_self (pl_sps (ss := ss) (by omega)) (by decide)
  decreasing_trivial_pre_omega
  refine k_lc c9 (by with_unfolding_all rfl) ?_
  refine Wk_mapA (g := spD) (fun s hs => ?_) (by omega) ?_
  · refine ⟨_, rfl, ?_⟩
    unfold el_law_1
    decreasing_trivial_pre_omega
    refine seen_w ?_
    decreasing_trivial_pre_omega
    exact ⟨rfl, rfl⟩
  decreasing_trivial_pre_omega
  exact h _ _ _ _ _ _ _ _ c6 c8 c9
end My

namespace My
open PySem PySem.Spec PyProof.Rows L2 Mir
local macro_rules | `(tactic| decreasing_trivial_pre_omega) => `(tactic| repeat' (with_reducible first | (refine gd_We ?_; first | refine e_bnd ?_ | refine e_ret ?_ | refine e_rdv (by with_unfolding_all rfl) ?_ | refine e_mVa ?_ | (refine gd_opt ?_; first | refine e_opt (by assumption) ?_ | (refine gd_isN ?_; first | refine d_isN_non ?_ | refine d_isN_int ?_ | refine d_isN_lst ?_ | refine d_isN_tup ?_ | refine d_isN_str ?_ | refine d_isN_ob ?_ | refine d_isN_exn ?_ | refine d_isN_bl ?_ | fail) | (refine gd_notN ?_; first | refine d_notN_non ?_ | refine d_notN_int ?_ | refine d_notN_lst ?_ | refine d_notN_tup ?_ | refine d_notN_str ?_ | refine d_notN_ob ?_ | refine d_notN_exn ?_ | refine d_notN_bl ?_ | fail) | (refine gd_ix ?_; first | (refine d_ix2 (by omega) (by omega) (fun v hv => ?_)) | (refine d_ix3 (by omega) (by omega) (fun v hv => ?_)) | (refine d_ix4 (by omega) (by omega) (fun v hv => ?_)) | (refine d_ix5 (by omega) (by omega) (fun v hv => ?_)) | (refine d_ix6 (by omega) (by omega) (fun v hv => ?_)) | (refine d_ix7 (by omega) (by omega) (fun v hv => ?_)) | (refine d_ix8 (by omega) (by omega) (fun v hv => ?_)) | (refine d_ix9 (by omega) (by omega) (fun v hv => ?_)) | (refine d_ix10 (by omega) (by omega) (fun v hv => ?_)) | (refine d_ix11 (by omega) (by omega) (fun v hv => ?_)) | (refine d_ix12 (by omega) (by omega) (fun v hv => ?_)) | (refine d_ix13 (by omega) (by omega) (fun v hv => ?_)) | fail) | refine d_sub ?_ | refine d_add ?_ | refine d_addI ?_ | refine d_addL (by first | decide | (simp; done) | (simp; omega)) ?_ | refine d_addT (by first | decide | (simp; done) | (simp; omega)) ?_ | refine d_mul (by first | exact cMul_r (by omega) (by omega) | exact cMul_l (by omega) (by omega)) ?_ | refine d_mulI (by first | exact cMul_r (by omega) (by omega) | exact cMul_l (by omega) (by omega)) ?_ | refine d_rep (by omega) (by omega) ?_ | refine d_div (by omega) (by omega) ?_ | refine d_mod (by omega) ?_ | refine d_pow6 ?_ | refine d_pow4 ?_ | refine d_pow18 ?_ | refine d_neg ?_ | refine d_lt ?_ | refine d_le ?_ | refine d_gt ?_ | refine d_ge ?_ | refine d_eq ?_ | refine d_ne ?_ | refine d_eqB ?_ | refine d_neB ?_ | refine d_asB ?_ | refine d_asB2 ?_ | refine d_clt ?_ | refine d_cle ?_ | refine d_cgt ?_ | refine d_cge ?_ | refine d_ceq ?_ | refine d_truB ?_ | refine d_truI ?_ | refine d_truL ?_ | refine d_truN ?_ | refine d_notD ?_ | refine d_asI ?_ | refine d_lenL ?_ | refine d_lenT ?_ | refine d_lenS ?_ | refine d_lenL1 ?_ | refine d_lenT1 ?_ | refine d_abs ?_ | refine d_int ?_ | refine d_intB ?_ | refine d_min ?_ | refine d_max ?_ | refine d_tup (by first | (with_unfolding_all exact Nat.le_of_ble_eq_true rfl) | (simp; done)) ?_ | refine d_lst (by first | (with_unfolding_all exact Nat.le_of_ble_eq_true rfl) | (simp; done)) ?_ | refine d_seqL ?_ | refine d_seqT ?_ | refine d_listL ?_ | refine d_listT ?_ | refine d_tupL ?_ | refine d_tupT ?_ | refine d_rng1 (by omega) (by omega) ?_ | refine d_rng2 (by omega) (by omega) (by omega) (by omega) ?_ | refine d_slLo (by omega) ?_ | refine d_slHi (by omega) ?_ | refine d_slLoT (by omega) ?_ | refine d_slHiT (by omega) ?_ | refine d_str (by omega) (by omega) ?_ | refine d_pow30 ?_ | refine d_kt (by first | assumption | rfl) ?_ | refine d_divmod (by omega) (by omega) ?_ | refine d_revL ?_ | refine d_xor ?_ | refine e_opt (by assumption) ?_ | fail) | refine e_mFz ?_ | refine e_mCons ?_ | refine e_lCons ?_ | refine e_givV (by with_unfolding_all rfl) ?_ | refine e_givO (by with_unfolding_all rfl) (by (simp only [List.set_cons_succ, List.set_cons_zero]; with_unfolding_all rfl)) ?_ | refine e_rdfV (by with_unfolding_all rfl) ?_ | refine e_rdfO (by with_unfolding_all rfl) (by (simp only [List.set_cons_succ, List.set_cons_zero]; with_unfolding_all rfl)) ?_ | refine e_pkV (by with_unfolding_all rfl) ?_ | refine e_pkO (by with_unfolding_all rfl) ?_ | refine e_hasV (by with_unfolding_all rfl) ?_ | refine e_hasO (by with_unfolding_all rfl) ?_ | refine e_binPO (by with_unfolding_all rfl) ?_ | refine e_binPV (by with_unfolding_all rfl) ?_ | refine e_mIf ?_ | refine e_mAnd ?_ | refine e_mOr ?_ | refine e_mNot ?_ | refine e_vAnd ?_ | refine e_vOr ?_ | refine e_chn ?_ | refine e_callN (by first | (simp only [sls, List.getElem?_cons_zero, List.getElem?_cons_succ, Option.map_some]; with_unfolding_all rfl) | with_unfolding_all rfl) (by with_unfolding_all rfl) ?_ | refine e_callO (by first | (simp only [sls, List.set_cons_succ, List.set_cons_zero, List.getElem?_cons_zero, List.getElem?_cons_succ, Option.map_some]; with_unfolding_all rfl) | with_unfolding_all rfl) (by with_unfolding_all rfl) (by with_unfolding_all rfl) ?_ | refine e_callB (by first | (simp only [sls, List.getElem?_cons_zero, List.getElem?_cons_succ, Option.map_some]; with_unfolding_all rfl) | with_unfolding_all rfl) ?_ | refine e_lc ?_ | refine e_mk (by first | (simp only [List.map_cons, List.map_nil]; with_unfolding_all rfl) | with_unfolding_all rfl) ?_ | refine e_mth ?_ | refine e_mth0 ?_ | refine e_lst ?_ | refine e_iteT (by with_unfolding_all (first | exact ⟨rfl, rfl⟩ | exact rfl)) ?_ | refine e_star ?_ | refine e_chn3 ?_ | refine e_lc2 ?_ | refine e_slP ?_ | fail) | (refine gd_Wt ?_; first | refine s_sq ?_ | refine s_nx ?_ | refine s_ct ?_ | refine s_bk ?_ | refine s_if ?_ | refine s_ret ?_ | refine s_asg ?_ | refine s_drop ?_ | refine s_asgT ?_ | refine s_par ?_ | refine s_app (by with_unfolding_all rfl) ?_ | refine s_ext (by with_unfolding_all rfl) ?_ | refine s_aug (by with_unfolding_all rfl) ?_ | refine s_for ?_ | refine s_raise ?_ | refine s_try ?_ | refine s_set ?_ | refine s_tryO ?_ | refine s_tryR ?_ | refine s_tryA ?_ | refine s_rev (by with_unfolding_all rfl) (by (simp only [List.set_cons_succ, List.set_cons_zero]; with_unfolding_all rfl)) ?_ | refine s_clr (by with_unfolding_all rfl) (by (simp only [List.set_cons_succ, List.set_cons_zero]; with_unfolding_all rfl)) ?_ | fail) | (refine gd_ite ?_; first | refine i_true ?_ | refine i_false ?_ | refine i_decT (by omega) ?_ | refine i_decF (by omega) ?_ | (refine i_dec (fun hc => ?_) (fun hc => ?_)) | refine i_ndecT (by omega) ?_ | refine i_ndecF (by omega) ?_ | (refine i_ndec (fun hc => ?_) (fun hc => ?_)) | refine i_not ?_ | fail) | refine k_va ?_ | refine k_ow ?_ | refine k_st (by (simp only [List.set_cons_succ, List.set_cons_zero]; with_unfolding_all rfl)) ?_ | refine k_tg (by first | (simp only [bT, bCons, bNil, bN, Option.bind_some, List.set_cons_succ, List.set_cons_zero]; with_unfolding_all rfl) | with_unfolding_all rfl) ?_ | refine k_par (by with_unfolding_all rfl) (by first | (simp only [putE, List.set_cons_succ, List.set_cons_zero]; with_unfolding_all rfl) | with_unfolding_all rfl) ?_ | refine k_app (by with_unfolding_all rfl) (by first | (simp; done) | (simp; omega) | omega) (by (simp only [List.set_cons_succ, List.set_cons_zero]; with_unfolding_all rfl)) ?_ | refine k_ext (by with_unfolding_all rfl) (by first | (simp; done) | (simp; omega) | omega) (by (simp only [List.set_cons_succ, List.set_cons_zero]; with_unfolding_all rfl)) ?_ | refine k_augA (by (simp only [List.set_cons_succ, List.set_cons_zero]; with_unfolding_all rfl)) ?_ | refine k_augS (by (simp only [List.set_cons_succ, List.set_cons_zero]; with_unfolding_all rfl)) ?_ | refine k_set1 (by with_unfolding_all rfl) ?_ | refine k_set2 (by with_unfolding_all rfl) (by omega) (by omega) (by (simp only [List.set_cons_succ, List.set_cons_zero]; with_unfolding_all rfl)) ?_ | refine k_bk (by simp only [back, List.getD_cons_zero, List.getD_cons_succ, List.set_cons_zero, List.set_cons_succ]; with_unfolding_all rfl) ?_ | refine k_lc (by with_unfolding_all rfl) (by simp only [wipeE, List.set_cons_zero, List.set_cons_succ]; with_unfolding_all rfl) ?_ | refine f_ok (by assumption) ?_ | refine f_ex (by assumption) ?_ | refine k_mk ?_ | refine k_lsW ?_ | refine k_ob (by first | assumption | with_unfolding_all rfl) ?_ | refine k_lc2 (by with_unfolding_all rfl) (by simp only [wipeE, List.set_cons_zero, List.set_cons_succ]; with_unfolding_all rfl) ?_ | refine k_augM (by first | exact cMul_r (by omega) (by omega) | exact cMul_l (by omega) (by omega)) (by (simp only [List.set_cons_succ, List.set_cons_zero]; with_unfolding_all rfl)) ?_ | refine k_augD (by omega) (by omega) (by (simp only [List.set_cons_succ, List.set_cons_zero]; with_unfolding_all rfl)) ?_ | refine take_w (by assumption) (by omega) (by omega) (by omega) (fun v b hv1 hv2 hb => ?_) | fail))
local macro_rules | `(tactic| decreasing_trivial) => `(tactic| repeat' (with_reducible first | (refine gd_We ?_; first | refine e_bnd ?_ | refine e_ret ?_ | refine e_rdv (by with_unfolding_all rfl) ?_ | refine e_mVa ?_ | (refine gd_opt ?_; first | refine e_opt (by assumption) ?_ | (refine gd_isN ?_; first | refine d_isN_non ?_ | refine d_isN_int ?_ | refine d_isN_lst ?_ | refine d_isN_tup ?_ | refine d_isN_str ?_ | refine d_isN_ob ?_ | refine d_isN_exn ?_ | refine d_isN_bl ?_ | fail) | (refine gd_notN ?_; first | refine d_notN_non ?_ | refine d_notN_int ?_ | refine d_notN_lst ?_ | refine d_notN_tup ?_ | refine d_notN_str ?_ | refine d_notN_ob ?_ | refine d_notN_exn ?_ | refine d_notN_bl ?_ | fail) | (refine gd_ix ?_; first | (refine d_ix2 (by omega) (by omega) (fun v hv => ?_)) | (refine d_ix3 (by omega) (by omega) (fun v hv => ?_)) | (refine d_ix4 (by omega) (by omega) (fun v hv => ?_)) | (refine d_ix5 (by omega) (by omega) (fun v hv => ?_)) | (refine d_ix6 (by omega) (by omega) (fun v hv => ?_)) | (refine d_ix7 (by omega) (by omega) (fun v hv => ?_)) | (refine d_ix8 (by omega) (by omega) (fun v hv => ?_)) | (refine d_ix9 (by omega) (by omega) (fun v hv => ?_)) | (refine d_ix10 (by omega) (by omega) (fun v hv => ?_)) | (refine d_ix11 (by omega) (by omega) (fun v hv => ?_)) | (refine d_ix12 (by omega) (by omega) (fun v hv => ?_)) | (refine d_ix13 (by omega) (by omega) (fun v hv => ?_)) | fail) | refine d_sub ?_ | refine d_add ?_ | refine d_addI ?_ | refine d_addL (by first | decide | (simp; done) | (simp; omega)) ?_ | refine d_addT (by first | decide | (simp; done) | (simp; omega)) ?_ | refine d_mul (by first | exact cMul_r (by omega) (by omega) | exact cMul_l (by omega) (by omega)) ?_ | refine d_mulI (by first | exact cMul_r (by omega) (by omega) | exact cMul_l (by omega) (by omega)) ?_ | refine d_rep (by omega) (by omega) ?_ | refine d_div (by omega) (by omega) ?_ | refine d_mod (by omega) ?_ | refine d_pow6 ?_ | refine d_pow4 ?_ | refine d_pow18 ?_ | refine d_neg ?_ | refine d_lt ?_ | refine d_le ?_ | refine d_gt ?_ | refine d_ge ?_ | refine d_eq ?_ | refine d_ne ?_ | refine d_eqB ?_ | refine d_neB ?_ | refine d_asB ?_ | refine d_asB2 ?_ | refine d_clt ?_ | refine d_cle ?_ | refine d_cgt ?_ | refine d_cge ?_ | refine d_ceq ?_ | refine d_truB ?_ | refine d_truI ?_ | refine d_truL ?_ | refine d_truN ?_ | refine d_notD ?_ | refine d_asI ?_ | refine d_lenL ?_ | refine d_lenT ?_ | refine d_lenS ?_ | refine d_lenL1 ?_ | refine d_lenT1 ?_ | refine d_abs ?_ | refine d_int ?_ | refine d_intB ?_ | refine d_min ?_ | refine d_max ?_ | refine d_tup (by first | (with_unfolding_all exact Nat.le_of_ble_eq_true rfl) | (simp; done)) ?_ | refine d_lst (by first | (with_unfolding_all exact Nat.le_of_ble_eq_true rfl) | (simp; done)) ?_ | refine d_seqL ?_ | refine d_seqT ?_ | refine d_listL ?_ | refine d_listT ?_ | refine d_tupL ?_ | refine d_tupT ?_ | refine d_rng1 (by omega) (by omega) ?_ | refine d_rng2 (by omega) (by omega) (by omega) (by omega) ?_ | refine d_slLo (by omega) ?_ | refine d_slHi (by omega) ?_ | refine d_slLoT (by omega) ?_ | refine d_slHiT (by omega) ?_ | refine d_str (by omega) (by omega) ?_ | refine d_pow30 ?_ | refine d_kt (by first | assumption | rfl) ?_ | refine d_divmod (by omega) (by omega) ?_ | refine d_revL ?_ | refine d_xor ?_ | refine e_opt (by assumption) ?_ | fail) | refine e_mFz ?_ | refine e_mCons ?_ | refine e_lCons ?_ | refine e_givV (by with_unfolding_all rfl) ?_ | refine e_givO (by with_unfolding_all rfl) (by (simp only [List.set_cons_succ, List.set_cons_zero]; with_unfolding_all rfl)) ?_ | refine e_rdfV (by with_unfolding_all rfl) ?_ | refine e_rdfO (by with_unfolding_all rfl) (by (simp only [List.set_cons_succ, List.set_cons_zero]; with_unfolding_all rfl)) ?_ | refine e_pkV (by with_unfolding_all rfl) ?_ | refine e_pkO (by with_unfolding_all rfl) ?_ | refine e_hasV (by with_unfolding_all rfl) ?_ | refine e_hasO (by with_unfolding_all rfl) ?_ | refine e_binPO (by with_unfolding_all rfl) ?_ | refine e_binPV (by with_unfolding_all rfl) ?_ | refine e_mIf ?_ | refine e_mAnd ?_ | refine e_mOr ?_ | refine e_mNot ?_ | refine e_vAnd ?_ | refine e_vOr ?_ | refine e_chn ?_ | refine e_callN (by first | (simp only [sls, List.getElem?_cons_zero, List.getElem?_cons_succ, Option.map_some]; with_unfolding_all rfl) | with_unfolding_all rfl) (by with_unfolding_all rfl) ?_ | refine e_callO (by first | (simp only [sls, List.set_cons_succ, List.set_cons_zero, List.getElem?_cons_zero, List.getElem?_cons_succ, Option.map_some]; with_unfolding_all rfl) | with_unfolding_all rfl) (by with_unfolding_all rfl) (by with_unfolding_all rfl) ?_ | refine e_callB (by first | (simp only [sls, List.getElem?_cons_zero, List.getElem?_cons_succ, Option.map_some]; with_unfolding_all rfl) | with_unfolding_all rfl) ?_ | refine e_lc ?_ | refine e_mk (by first | (simp only [List.map_cons, List.map_nil]; with_unfolding_all rfl) | with_unfolding_all rfl) ?_ | refine e_mth ?_ | refine e_mth0 ?_ | refine e_lst ?_ | refine e_iteT (by with_unfolding_all (first | exact ⟨rfl, rfl⟩ | exact rfl)) ?_ | refine e_star ?_ | refine e_chn3 ?_ | refine e_lc2 ?_ | refine e_slP ?_ | fail) | (refine gd_Wt ?_; first | refine s_nx ?_ | refine s_ct ?_ | refine s_bk ?_ | refine s_if ?_ | refine s_ret ?_ | refine s_asg ?_ | refine s_drop ?_ | refine s_asgT ?_ | refine s_par ?_ | refine s_app (by with_unfolding_all rfl) ?_ | refine s_ext (by with_unfolding_all rfl) ?_ | refine s_aug (by with_unfolding_all rfl) ?_ | refine s_for ?_ | refine s_raise ?_ | refine s_try ?_ | refine s_set ?_ | refine s_tryO ?_ | refine s_tryR ?_ | refine s_tryA ?_ | refine s_rev (by with_unfolding_all rfl) (by (simp only [List.set_cons_succ, List.set_cons_zero]; with_unfolding_all rfl)) ?_ | refine s_clr (by with_unfolding_all rfl) (by (simp only [List.set_cons_succ, List.set_cons_zero]; with_unfolding_all rfl)) ?_ | fail) | (refine gd_ite ?_; first | refine i_true ?_ | refine i_false ?_ | refine i_decT (by omega) ?_ | refine i_decF (by omega) ?_ | (refine i_dec (fun hc => ?_) (fun hc => ?_)) | refine i_ndecT (by omega) ?_ | refine i_ndecF (by omega) ?_ | (refine i_ndec (fun hc => ?_) (fun hc => ?_)) | refine i_not ?_ | fail) | refine k_va ?_ | refine k_ow ?_ | refine k_st (by (simp only [List.set_cons_succ, List.set_cons_zero]; with_unfolding_all rfl)) ?_ | refine k_tg (by first | (simp only [bT, bCons, bNil, bN, Option.bind_some, List.set_cons_succ, List.set_cons_zero]; with_unfolding_all rfl) | with_unfolding_all rfl) ?_ | refine k_par (by with_unfolding_all rfl) (by first | (simp only [putE, List.set_cons_succ, List.set_cons_zero]; with_unfolding_all rfl) | with_unfolding_all rfl) ?_ | refine k_app (by with_unfolding_all rfl) (by first | (simp; done) | (simp; omega) | omega) (by (simp only [List.set_cons_succ, List.set_cons_zero]; with_unfolding_all rfl)) ?_ | refine k_ext (by with_unfolding_all rfl) (by first | (simp; done) | (simp; omega) | omega) (by (simp only [List.set_cons_succ, List.set_cons_zero]; with_unfolding_all rfl)) ?_ | refine k_augA (by (simp only [List.set_cons_succ, List.set_cons_zero]; with_unfolding_all rfl)) ?_ | refine k_augS (by (simp only [List.set_cons_succ, List.set_cons_zero]; with_unfolding_all rfl)) ?_ | refine k_set1 (by with_unfolding_all rfl) ?_ | refine k_set2 (by with_unfolding_all rfl) (by omega) (by omega) (by (simp only [List.set_cons_succ, List.set_cons_zero]; with_unfolding_all rfl)) ?_ | refine k_bk (by simp only [back, List.getD_cons_zero, List.getD_cons_succ, List.set_cons_zero, List.set_cons_succ]; with_unfolding_all rfl) ?_ | refine k_lc (by with_unfolding_all rfl) (by simp only [wipeE, List.set_cons_zero, List.set_cons_succ]; with_unfolding_all rfl) ?_ | refine f_ok (by assumption) ?_ | refine f_ex (by assumption) ?_ | refine k_mk ?_ | refine k_lsW ?_ | refine k_ob (by first | assumption | with_unfolding_all rfl) ?_ | refine k_lc2 (by with_unfolding_all rfl) (by simp only [wipeE, List.set_cons_zero, List.set_cons_succ]; with_unfolding_all rfl) ?_ | refine k_augM (by first | exact cMul_r (by omega) (by omega) | exact cMul_l (by omega) (by omega)) (by (simp only [List.set_cons_succ, List.set_cons_zero]; with_unfolding_all rfl)) ?_ | refine k_augD (by omega) (by omega) (by (simp only [List.set_cons_succ, List.set_cons_zero]; with_unfolding_all rfl)) ?_ | refine take_w (by assumption) (by omega) (by omega) (by omega) (fun v b hv1 hv2 hb => ?_) | fail))
theorem k06_w {ns : List Int} (h63 : ns.length ≤ 63) : Wf (f_law [.va (.scr ns)]) (fun r b => r = .va (.bl true)) noB := by
  refine f_def (by simp only [List.map_cons, List.map_nil, List.length_cons, List.length_nil, Nat.reduceAdd, Nat.reduceSub, List.replicate_succ, List.replicate_zero, List.cons_append, List.nil_append, List.append_nil]; rfl) ?_
  unfold b_law
  refine s_sq ?_
  decreasing_trivial
  refine Wv_by (fun i ρ => ∃ (x1 x2 x3 x4 x5 x6 x7 x8 x9 : Option Sl), ρ = [some (.va (.scr ns)), x1, x2, x3, x4, x5, x6, x7, x8, x9] ∧ nOw x6 = true ∧ nOw x8 = true ∧ nOw x9 = true) ?_ ?_ ?_
  · exact ⟨_, _, _, _, _, _, _, _, _, rfl, rfl, rfl, rfl⟩
  · rintro i d ρ hd ⟨x1, x2, x3, x4, x5, x6, x7, x8, x9, rfl, c6, c8, c9⟩
    obtain ⟨hi, rfl⟩ := upto_get hd
    rw [Int.zero_add]
    refine ⟨_, rfl, ?_⟩
    unfold lp_law_2
    refine s_sq ?_
    decreasing_trivial
    refine box_w (by omega) fun b hb => ?_
    refine k_st (by simp only [List.set_cons_succ, List.set_cons_zero]; rfl) ?_
    refine s_mid (fun ρ => ∃ (b' : Box) (size : Int), ρ = [some (.va (.scr ns)), some (.va (.int i)), some (.ow b'.ds), some (.va (.int size)), x4, x5, x6, x7, x8, x9] ∧ b'.ok 2 ∧ 0 ≤ size ∧ size ≤ 160) ?_ ?_
    · decreasing_trivial_pre_omega
      all_goals exact ⟨_, _, rfl, Box.ok.mono (by assumption) (by omega), by omega, by omega⟩
    clear hb
    rintro ρ ⟨b2, size, rfl, hb2, s0, s1⟩
    refine s_sq ?_
    decreasing_trivial
    rename_i v b3 hv1 hv2 hb3 w hw
    have w1 : 0 < w ∧ w ≤ 1000000 := by omega
    refine spots_w hb3 (by omega) s0 (by omega) w1.1 w1.2 fun ss b4 g1 g2 g3 => ?_
    have lb := lf_box b4
    decreasing_trivial
    exact turn_w g3 (by omega) g1 g2 s1 c6 c8 c9 fun x2 x3 x4 x5 x6 x7 x8 x9 u6 u8 u9 => ⟨_, _, _, _, _, _, _, _, _, rfl, u6, u8, u9⟩
  · rintro ρ ⟨x1, x2, x3, x4, x5, x6, x7, x8, x9, rfl, _⟩
    decreasing_trivial_pre_omega
    with_reducible rfl
theorem k06_right : ∀ ns : List Int, ns.length ≤ 63 → ∃ b, f_law [.va (.scr ns)] = .ok (.va (.bl true)) b := fun ns h => by
  obtain ⟨s, b, e, rfl⟩ := (k06_w h).out
  exact ⟨b, e⟩
end My


namespace My
open PySem PySem.Spec PyProof.Rows L2 Mir
abbrev FInit (K : PySem.W.Frag) (f : Addr) (fd : FuncData) : Prop := FunD K "__init__" "Place.__init__" (defArgs s_Place_init) (defBody s_Place_init) (defScope s_Place_init) [.non, .non] [("begin", .non), ("end", .non)] f fd
theorem rel_at : ∀ {vs : List V} {us : List Value} (i : Nat), Vals vs us → RelV (vs.getD i .non) (us.getD i .none)
  | _, _, _, .nil => rfl
  | _, _, 0, .cons r _ => r
  | _, _, i + 1, .cons _ t => rel_at i t
theorem nones : ∀ {its : List Value}, Vals [.non, .non] its → its = [.none, .none]
  | _, .cons a (.cons b .nil) => by cases a; cases b; rfl
theorem init_kbn {K : PySem.W.Frag} {f : Addr} {fd : FuncData} (F : FInit K f fd) {n : Nat} {ks : List Str} (ms : List Str) {g : List Value → List Value → List Value} {gV : List V → List V → List V} (hms : ∀ q ∈ ms, q = "begin" ∨ q = "end")
    (rel : ∀ {vs : List V} {us : List Value} {zs : List V} {ws : List Value}, Vals vs us → Vals zs ws → Vals (gV vs zs) (g us ws))
    (h : ∀ (T D : Addr) (doc pm : Value) (an : Option Addr) (cdv ct : Value) (us ws : List Value), us.length = n → ws.length = ks.length →
      ∃ k, bindArgs (PySem.W.fnOf "__init__" "Place.__init__" (defArgs s_Place_init) (defBody s_Place_init) (defScope s_Place_init) (.ref T) (.ref D) doc pm an cdv ct) ⟨us, ks.zip ws⟩ = seqItems? (.ref T) >>= k ∧ KwChain D (ms.map fun m => (m, Value.none)) (k (some #[.none, .none])) ((["self", "line", "last", "begin", "end"] : List Str).zip (g us ws))) : KBn K fd ["self", "line", "last", "begin", "end"] n ks g gV := by
  obtain ⟨oc, od, dV, kV, doc, pm, an, cdv, ct, osl, rfl, lk, hcd, hD, hK⟩ := F.ex
  rcases hD with ⟨e, _⟩ | ⟨_, T, o, its, m, rfl, lT, oT, rT⟩
  · cases e
  · rcases hK with e | ⟨D, rfl, hq⟩
    · cases e
    · have ei := nones rT
      subst ei
      have hb : ∀ q : Str, q = "begin" ∨ q = "end" → PySem.W.nsIn K D q = some (some .none) := fun q hq' => by
        rcases hq' with rfl | rfl
        · obtain ⟨u, h1, h2⟩ := hq ("begin", .non) (List.mem_cons_self ..)
          cases h2
          exact h1
        · obtain ⟨u, h1, h2⟩ := hq ("end", .non) (List.mem_cons_of_mem _ (List.mem_cons_self ..))
          cases h2
          exact h1
      refine ⟨fun s us ws X l1 l2 => BindsTo.of_looks fun M => ?_, rel⟩
      obtain ⟨k, e1, e2⟩ := h T D doc pm an cdv ct us ws l1 l2
      rw [e1]
      refine looks_items X lT oT (KwChain.looks X (fun q hq' => ?_) e2)
      obtain ⟨m', hm', rfl⟩ := List.mem_map.mp hq'
      exact hb m' (hms m' hm')

theorem kbn_Place_0 {K : PySem.W.Frag} {f : Addr} {fd : FuncData} (F : FInit K f fd) : KBn K fd ["self", "line", "last", "begin", "end"] 1 [] (fun (us ws : List Value) => [us.getD 0 .none, .none, .none, .none, .none]) (fun (vs zs : List V) => [vs.getD 0 .non, .non, .non, .non, .non]) :=
  init_kbn F ["begin", "end"] (fun q hq => by simpa using hq) (fun r1 r2 => .cons (rel_at 0 r1) (.cons (rfl) (.cons (rfl) (.cons (rfl) (.cons (rfl) (.nil)))))) fun T D doc pm an cdv ct us ws l1 l2 => match us, l1, ws, l2 with | [_], _, [], _ => ⟨_, rfl, ⟨_, _, _, _, _, _, rfl, rfl, ⟨_, _, _, _, _, _, rfl, rfl, rfl⟩⟩⟩
theorem kbn_Place_1 {K : PySem.W.Frag} {f : Addr} {fd : FuncData} (F : FInit K f fd) : KBn K fd ["self", "line", "last", "begin", "end"] 2 [] (fun (us ws : List Value) => [us.getD 0 .none, us.getD 1 .none, .none, .none, .none]) (fun (vs zs : List V) => [vs.getD 0 .non, vs.getD 1 .non, .non, .non, .non]) :=
  init_kbn F ["begin", "end"] (fun q hq => by simpa using hq) (fun r1 r2 => .cons (rel_at 0 r1) (.cons (rel_at 1 r1) (.cons (rfl) (.cons (rfl) (.cons (rfl) (.nil)))))) fun T D doc pm an cdv ct us ws l1 l2 => match us, l1, ws, l2 with | [_, _], _, [], _ => ⟨_, rfl, ⟨_, _, _, _, _, _, rfl, rfl, ⟨_, _, _, _, _, _, rfl, rfl, rfl⟩⟩⟩
theorem kbn_Place_2_begin_end {K : PySem.W.Frag} {f : Addr} {fd : FuncData} (F : FInit K f fd) : KBn K fd ["self", "line", "last", "begin", "end"] 3 ["begin", "end"] (fun (us ws : List Value) => [us.getD 0 .none, us.getD 1 .none, us.getD 2 .none, ws.getD 0 .none, ws.getD 1 .none]) (fun (vs zs : List V) => [vs.getD 0 .non, vs.getD 1 .non, vs.getD 2 .non, zs.getD 0 .non, zs.getD 1 .non]) :=
  init_kbn F [] (fun q hq => by cases hq) (fun r1 r2 => .cons (rel_at 0 r1) (.cons (rel_at 1 r1) (.cons (rel_at 2 r1) (.cons (rel_at 0 r2) (.cons (rel_at 1 r2) (.nil)))))) fun T D doc pm an cdv ct us ws l1 l2 => match us, l1, ws, l2 with | [_, _, _], _, [_, _], _ => ⟨_, rfl, rfl⟩
theorem all_mk {l : PySem.W.OpenLaw} {w : World} {K : PySem.W.Frag} {h : Heap} {mg : Str → Option Value} {fa : Addr} (X : K.In h) (G : h.Ns mainGlobals mg) (hfa : mg "law" = some (.ref fa))
    {od_Place_eq an_Place_eq : Option Addr} {sl_Place_eq : Array (Option Value)} {oc_Place_eq kV_Place_eq dc_Place_eq pm_Place_eq cd_Place_eq ct_Place_eq : Value} {fa_Place_eq : Addr}
    {od__wall an__wall : Option Addr} {sl__wall : Array (Option Value)} {oc__wall kV__wall dc__wall pm__wall cd__wall ct__wall : Value} {fa__wall : Addr}
    (a__wall : PySem.W.nsIn K mainGlobals "_wall" = some (some (.ref fa__wall)))
    (l__wall : K.lookup fa__wall = some ⟨oc__wall, od__wall, .func (PySem.W.fnOf "_wall" "_wall" (defArgs s__wall) (defBody s__wall) (defScope s__wall) .none kV__wall dc__wall pm__wall an__wall cd__wall ct__wall), sl__wall⟩)
    (c__wall : PySem.W.codeIn K cd__wall "_wall" = true) (k__wall : PySem.W.keepIn K (.ref fa__wall) = true)
    {od_is_whole an_is_whole : Option Addr} {sl_is_whole : Array (Option Value)} {oc_is_whole kV_is_whole dc_is_whole pm_is_whole cd_is_whole ct_is_whole : Value} {fa_is_whole : Addr}
    (a_is_whole : PySem.W.nsIn K mainGlobals "is_whole" = some (some (.ref fa_is_whole)))
    (l_is_whole : K.lookup fa_is_whole = some ⟨oc_is_whole, od_is_whole, .func (PySem.W.fnOf "is_whole" "is_whole" (defArgs s_is_whole) (defBody s_is_whole) (defScope s_is_whole) .none kV_is_whole dc_is_whole pm_is_whole an_is_whole cd_is_whole ct_is_whole), sl_is_whole⟩)
    (c_is_whole : PySem.W.codeIn K cd_is_whole "is_whole" = true) (k_is_whole : PySem.W.keepIn K (.ref fa_is_whole) = true)
    {od_is_number an_is_number : Option Addr} {sl_is_number : Array (Option Value)} {oc_is_number kV_is_number dc_is_number pm_is_number cd_is_number ct_is_number : Value} {fa_is_number : Addr}
    (a_is_number : PySem.W.nsIn K mainGlobals "is_number" = some (some (.ref fa_is_number)))
    (l_is_number : K.lookup fa_is_number = some ⟨oc_is_number, od_is_number, .func (PySem.W.fnOf "is_number" "is_number" (defArgs s_is_number) (defBody s_is_number) (defScope s_is_number) .none kV_is_number dc_is_number pm_is_number an_is_number cd_is_number ct_is_number), sl_is_number⟩)
    (c_is_number : PySem.W.codeIn K cd_is_number "is_number" = true) (k_is_number : PySem.W.keepIn K (.ref fa_is_number) = true)
    {od_wrong_columns an_wrong_columns : Option Addr} {sl_wrong_columns : Array (Option Value)} {oc_wrong_columns kV_wrong_columns dc_wrong_columns pm_wrong_columns cd_wrong_columns ct_wrong_columns : Value} {fa_wrong_columns : Addr}
    (a_wrong_columns : PySem.W.nsIn K mainGlobals "wrong_columns" = some (some (.ref fa_wrong_columns)))
    (l_wrong_columns : K.lookup fa_wrong_columns = some ⟨oc_wrong_columns, od_wrong_columns, .func (PySem.W.fnOf "wrong_columns" "wrong_columns" (defArgs s_wrong_columns) (defBody s_wrong_columns) (defScope s_wrong_columns) .none kV_wrong_columns dc_wrong_columns pm_wrong_columns an_wrong_columns cd_wrong_columns ct_wrong_columns), sl_wrong_columns⟩)
    (c_wrong_columns : PySem.W.codeIn K cd_wrong_columns "wrong_columns" = true) (k_wrong_columns : PySem.W.keepIn K (.ref fa_wrong_columns) = true)
    {od_wrong_of_nowhere an_wrong_of_nowhere : Option Addr} {sl_wrong_of_nowhere : Array (Option Value)} {oc_wrong_of_nowhere kV_wrong_of_nowhere dc_wrong_of_nowhere pm_wrong_of_nowhere cd_wrong_of_nowhere ct_wrong_of_nowhere : Value} {fa_wrong_of_nowhere : Addr}
    (a_wrong_of_nowhere : PySem.W.nsIn K mainGlobals "wrong_of_nowhere" = some (some (.ref fa_wrong_of_nowhere)))
    (l_wrong_of_nowhere : K.lookup fa_wrong_of_nowhere = some ⟨oc_wrong_of_nowhere, od_wrong_of_nowhere, .func (PySem.W.fnOf "wrong_of_nowhere" "wrong_of_nowhere" (defArgs s_wrong_of_nowhere) (defBody s_wrong_of_nowhere) (defScope s_wrong_of_nowhere) .none kV_wrong_of_nowhere dc_wrong_of_nowhere pm_wrong_of_nowhere an_wrong_of_nowhere cd_wrong_of_nowhere ct_wrong_of_nowhere), sl_wrong_of_nowhere⟩)
    (c_wrong_of_nowhere : PySem.W.codeIn K cd_wrong_of_nowhere "wrong_of_nowhere" = true) (k_wrong_of_nowhere : PySem.W.keepIn K (.ref fa_wrong_of_nowhere) = true)
    {od_wrong_part an_wrong_part : Option Addr} {sl_wrong_part : Array (Option Value)} {oc_wrong_part kV_wrong_part dc_wrong_part pm_wrong_part cd_wrong_part ct_wrong_part : Value} {fa_wrong_part : Addr}
    (a_wrong_part : PySem.W.nsIn K mainGlobals "wrong_part" = some (some (.ref fa_wrong_part)))
    (l_wrong_part : K.lookup fa_wrong_part = some ⟨oc_wrong_part, od_wrong_part, .func (PySem.W.fnOf "wrong_part" "wrong_part" (defArgs s_wrong_part) (defBody s_wrong_part) (defScope s_wrong_part) .none kV_wrong_part dc_wrong_part pm_wrong_part an_wrong_part cd_wrong_part ct_wrong_part), sl_wrong_part⟩)
    (c_wrong_part : PySem.W.codeIn K cd_wrong_part "wrong_part" = true) (k_wrong_part : PySem.W.keepIn K (.ref fa_wrong_part) = true)
    {od_runs_of an_runs_of : Option Addr} {sl_runs_of : Array (Option Value)} {oc_runs_of kV_runs_of dc_runs_of pm_runs_of cd_runs_of ct_runs_of : Value} {fa_runs_of : Addr}
    (a_runs_of : PySem.W.nsIn K mainGlobals "runs_of" = some (some (.ref fa_runs_of)))
    (l_runs_of : K.lookup fa_runs_of = some ⟨oc_runs_of, od_runs_of, .func (PySem.W.fnOf "runs_of" "runs_of" (defArgs s_runs_of) (defBody s_runs_of) (defScope s_runs_of) .none kV_runs_of dc_runs_of pm_runs_of an_runs_of cd_runs_of ct_runs_of), sl_runs_of⟩)
    (c_runs_of : PySem.W.codeIn K cd_runs_of "runs_of" = true) (k_runs_of : PySem.W.keepIn K (.ref fa_runs_of) = true)
    {od_places_of an_places_of : Option Addr} {sl_places_of : Array (Option Value)} {oc_places_of kV_places_of dc_places_of pm_places_of cd_places_of ct_places_of : Value} {fa_places_of : Addr}
    (a_places_of : PySem.W.nsIn K mainGlobals "places_of" = some (some (.ref fa_places_of)))
    (l_places_of : K.lookup fa_places_of = some ⟨oc_places_of, od_places_of, .func (PySem.W.fnOf "places_of" "places_of" (defArgs s_places_of) (defBody s_places_of) (defScope s_places_of) .none kV_places_of dc_places_of pm_places_of an_places_of cd_places_of ct_places_of), sl_places_of⟩)
    (c_places_of : PySem.W.codeIn K cd_places_of "places_of" = true) (k_places_of : PySem.W.keepIn K (.ref fa_places_of) = true)
    {od_run_at an_run_at : Option Addr} {sl_run_at : Array (Option Value)} {oc_run_at kV_run_at dc_run_at pm_run_at cd_run_at ct_run_at : Value} {fa_run_at : Addr}
    (a_run_at : PySem.W.nsIn K mainGlobals "run_at" = some (some (.ref fa_run_at)))
    (l_run_at : K.lookup fa_run_at = some ⟨oc_run_at, od_run_at, .func (PySem.W.fnOf "run_at" "run_at" (defArgs s_run_at) (defBody s_run_at) (defScope s_run_at) .none kV_run_at dc_run_at pm_run_at an_run_at cd_run_at ct_run_at), sl_run_at⟩)
    (c_run_at : PySem.W.codeIn K cd_run_at "run_at" = true) (k_run_at : PySem.W.keepIn K (.ref fa_run_at) = true)
    {od_l_cell_at an_l_cell_at : Option Addr} {sl_l_cell_at : Array (Option Value)} {oc_l_cell_at kV_l_cell_at dc_l_cell_at pm_l_cell_at cd_l_cell_at ct_l_cell_at : Value} {fa_l_cell_at : Addr}
    (a_l_cell_at : PySem.W.nsIn K mainGlobals "_law_cell_at" = some (some (.ref fa_l_cell_at)))
    (l_l_cell_at : K.lookup fa_l_cell_at = some ⟨oc_l_cell_at, od_l_cell_at, .func (PySem.W.fnOf "_law_cell_at" "_law_cell_at" (defArgs s_l_cell_at) (defBody s_l_cell_at) (defScope s_l_cell_at) .none kV_l_cell_at dc_l_cell_at pm_l_cell_at an_l_cell_at cd_l_cell_at ct_l_cell_at), sl_l_cell_at⟩)
    (c_l_cell_at : PySem.W.codeIn K cd_l_cell_at "_law_cell_at" = true) (k_l_cell_at : PySem.W.keepIn K (.ref fa_l_cell_at) = true)
    {od_l_box an_l_box : Option Addr} {sl_l_box : Array (Option Value)} {oc_l_box kV_l_box dc_l_box pm_l_box cd_l_box ct_l_box : Value} {fa_l_box : Addr}
    (a_l_box : PySem.W.nsIn K mainGlobals "_law_box" = some (some (.ref fa_l_box)))
    (l_l_box : K.lookup fa_l_box = some ⟨oc_l_box, od_l_box, .func (PySem.W.fnOf "_law_box" "_law_box" (defArgs s_l_box) (defBody s_l_box) (defScope s_l_box) .none kV_l_box dc_l_box pm_l_box an_l_box cd_l_box ct_l_box), sl_l_box⟩)
    (c_l_box : PySem.W.codeIn K cd_l_box "_law_box" = true) (k_l_box : PySem.W.keepIn K (.ref fa_l_box) = true)
    {od_l_take an_l_take : Option Addr} {sl_l_take : Array (Option Value)} {oc_l_take kV_l_take dc_l_take pm_l_take cd_l_take ct_l_take : Value} {fa_l_take : Addr}
    (a_l_take : PySem.W.nsIn K mainGlobals "_law_take" = some (some (.ref fa_l_take)))
    (l_l_take : K.lookup fa_l_take = some ⟨oc_l_take, od_l_take, .func (PySem.W.fnOf "_law_take" "_law_take" (defArgs s_l_take) (defBody s_l_take) (defScope s_l_take) .none kV_l_take dc_l_take pm_l_take an_l_take cd_l_take ct_l_take), sl_l_take⟩)
    (c_l_take : PySem.W.codeIn K cd_l_take "_law_take" = true) (k_l_take : PySem.W.keepIn K (.ref fa_l_take) = true)
    {od_l_spot an_l_spot : Option Addr} {sl_l_spot : Array (Option Value)} {oc_l_spot kV_l_spot dc_l_spot pm_l_spot cd_l_spot ct_l_spot : Value} {fa_l_spot : Addr}
    (a_l_spot : PySem.W.nsIn K mainGlobals "_law_spot" = some (some (.ref fa_l_spot)))
    (l_l_spot : K.lookup fa_l_spot = some ⟨oc_l_spot, od_l_spot, .func (PySem.W.fnOf "_law_spot" "_law_spot" (defArgs s_l_spot) (defBody s_l_spot) (defScope s_l_spot) .none kV_l_spot dc_l_spot pm_l_spot an_l_spot cd_l_spot ct_l_spot), sl_l_spot⟩)
    (c_l_spot : PySem.W.codeIn K cd_l_spot "_law_spot" = true) (k_l_spot : PySem.W.keepIn K (.ref fa_l_spot) = true)
    {od_l_later an_l_later : Option Addr} {sl_l_later : Array (Option Value)} {oc_l_later kV_l_later dc_l_later pm_l_later cd_l_later ct_l_later : Value} {fa_l_later : Addr}
    (a_l_later : PySem.W.nsIn K mainGlobals "_law_later" = some (some (.ref fa_l_later)))
    (l_l_later : K.lookup fa_l_later = some ⟨oc_l_later, od_l_later, .func (PySem.W.fnOf "_law_later" "_law_later" (defArgs s_l_later) (defBody s_l_later) (defScope s_l_later) .none kV_l_later dc_l_later pm_l_later an_l_later cd_l_later ct_l_later), sl_l_later⟩)
    (c_l_later : PySem.W.codeIn K cd_l_later "_law_later" = true) (k_l_later : PySem.W.keepIn K (.ref fa_l_later) = true)
    {od_l_spots an_l_spots : Option Addr} {sl_l_spots : Array (Option Value)} {oc_l_spots kV_l_spots dc_l_spots pm_l_spots cd_l_spots ct_l_spots : Value} {fa_l_spots : Addr}
    (a_l_spots : PySem.W.nsIn K mainGlobals "_law_spots" = some (some (.ref fa_l_spots)))
    (l_l_spots : K.lookup fa_l_spots = some ⟨oc_l_spots, od_l_spots, .func (PySem.W.fnOf "_law_spots" "_law_spots" (defArgs s_l_spots) (defBody s_l_spots) (defScope s_l_spots) .none kV_l_spots dc_l_spots pm_l_spots an_l_spots cd_l_spots ct_l_spots), sl_l_spots⟩)
    (c_l_spots : PySem.W.codeIn K cd_l_spots "_law_spots" = true) (k_l_spots : PySem.W.keepIn K (.ref fa_l_spots) = true)
    {od_l_place an_l_place : Option Addr} {sl_l_place : Array (Option Value)} {oc_l_place kV_l_place dc_l_place pm_l_place cd_l_place ct_l_place : Value} {fa_l_place : Addr}
    (a_l_place : PySem.W.nsIn K mainGlobals "_law_place" = some (some (.ref fa_l_place)))
    (l_l_place : K.lookup fa_l_place = some ⟨oc_l_place, od_l_place, .func (PySem.W.fnOf "_law_place" "_law_place" (defArgs s_l_place) (defBody s_l_place) (defScope s_l_place) .none kV_l_place dc_l_place pm_l_place an_l_place cd_l_place ct_l_place), sl_l_place⟩)
    (c_l_place : PySem.W.codeIn K cd_l_place "_law_place" = true) (k_l_place : PySem.W.keepIn K (.ref fa_l_place) = true)
    {od_l_same an_l_same : Option Addr} {sl_l_same : Array (Option Value)} {oc_l_same kV_l_same dc_l_same pm_l_same cd_l_same ct_l_same : Value} {fa_l_same : Addr}
    (a_l_same : PySem.W.nsIn K mainGlobals "_law_same" = some (some (.ref fa_l_same)))
    (l_l_same : K.lookup fa_l_same = some ⟨oc_l_same, od_l_same, .func (PySem.W.fnOf "_law_same" "_law_same" (defArgs s_l_same) (defBody s_l_same) (defScope s_l_same) .none kV_l_same dc_l_same pm_l_same an_l_same cd_l_same ct_l_same), sl_l_same⟩)
    (c_l_same : PySem.W.codeIn K cd_l_same "_law_same" = true) (k_l_same : PySem.W.keepIn K (.ref fa_l_same) = true)
    {od_l_seen an_l_seen : Option Addr} {sl_l_seen : Array (Option Value)} {oc_l_seen kV_l_seen dc_l_seen pm_l_seen cd_l_seen ct_l_seen : Value} {fa_l_seen : Addr}
    (a_l_seen : PySem.W.nsIn K mainGlobals "_law_seen" = some (some (.ref fa_l_seen)))
    (l_l_seen : K.lookup fa_l_seen = some ⟨oc_l_seen, od_l_seen, .func (PySem.W.fnOf "_law_seen" "_law_seen" (defArgs s_l_seen) (defBody s_l_seen) (defScope s_l_seen) .none kV_l_seen dc_l_seen pm_l_seen an_l_seen cd_l_seen ct_l_seen), sl_l_seen⟩)
    (c_l_seen : PySem.W.codeIn K cd_l_seen "_law_seen" = true) (k_l_seen : PySem.W.keepIn K (.ref fa_l_seen) = true)
    {od_l_alone an_l_alone : Option Addr} {sl_l_alone : Array (Option Value)} {oc_l_alone kV_l_alone dc_l_alone pm_l_alone cd_l_alone ct_l_alone : Value} {fa_l_alone : Addr}
    (a_l_alone : PySem.W.nsIn K mainGlobals "_law_alone" = some (some (.ref fa_l_alone)))
    (l_l_alone : K.lookup fa_l_alone = some ⟨oc_l_alone, od_l_alone, .func (PySem.W.fnOf "_law_alone" "_law_alone" (defArgs s_l_alone) (defBody s_l_alone) (defScope s_l_alone) .none kV_l_alone dc_l_alone pm_l_alone an_l_alone cd_l_alone ct_l_alone), sl_l_alone⟩)
    (c_l_alone : PySem.W.codeIn K cd_l_alone "_law_alone" = true) (k_l_alone : PySem.W.keepIn K (.ref fa_l_alone) = true)
    {od_l_runs an_l_runs : Option Addr} {sl_l_runs : Array (Option Value)} {oc_l_runs kV_l_runs dc_l_runs pm_l_runs cd_l_runs ct_l_runs : Value} {fa_l_runs : Addr}
    (a_l_runs : PySem.W.nsIn K mainGlobals "_law_runs" = some (some (.ref fa_l_runs)))
    (l_l_runs : K.lookup fa_l_runs = some ⟨oc_l_runs, od_l_runs, .func (PySem.W.fnOf "_law_runs" "_law_runs" (defArgs s_l_runs) (defBody s_l_runs) (defScope s_l_runs) .none kV_l_runs dc_l_runs pm_l_runs an_l_runs cd_l_runs ct_l_runs), sl_l_runs⟩)
    (c_l_runs : PySem.W.codeIn K cd_l_runs "_law_runs" = true) (k_l_runs : PySem.W.keepIn K (.ref fa_l_runs) = true)
    {od_l_told an_l_told : Option Addr} {sl_l_told : Array (Option Value)} {oc_l_told kV_l_told dc_l_told pm_l_told cd_l_told ct_l_told : Value} {fa_l_told : Addr}
    (a_l_told : PySem.W.nsIn K mainGlobals "_law_told" = some (some (.ref fa_l_told)))
    (l_l_told : K.lookup fa_l_told = some ⟨oc_l_told, od_l_told, .func (PySem.W.fnOf "_law_told" "_law_told" (defArgs s_l_told) (defBody s_l_told) (defScope s_l_told) .none kV_l_told dc_l_told pm_l_told an_l_told cd_l_told ct_l_told), sl_l_told⟩)
    (c_l_told : PySem.W.codeIn K cd_l_told "_law_told" = true) (k_l_told : PySem.W.keepIn K (.ref fa_l_told) = true)
    {od_l_due an_l_due : Option Addr} {sl_l_due : Array (Option Value)} {oc_l_due kV_l_due dc_l_due pm_l_due cd_l_due ct_l_due : Value} {fa_l_due : Addr}
    (a_l_due : PySem.W.nsIn K mainGlobals "_law_due" = some (some (.ref fa_l_due)))
    (l_l_due : K.lookup fa_l_due = some ⟨oc_l_due, od_l_due, .func (PySem.W.fnOf "_law_due" "_law_due" (defArgs s_l_due) (defBody s_l_due) (defScope s_l_due) .none kV_l_due dc_l_due pm_l_due an_l_due cd_l_due ct_l_due), sl_l_due⟩)
    (c_l_due : PySem.W.codeIn K cd_l_due "_law_due" = true) (k_l_due : PySem.W.keepIn K (.ref fa_l_due) = true)
    {od_l_runs_right an_l_runs_right : Option Addr} {sl_l_runs_right : Array (Option Value)} {oc_l_runs_right kV_l_runs_right dc_l_runs_right pm_l_runs_right cd_l_runs_right ct_l_runs_right : Value} {fa_l_runs_right : Addr}
    (a_l_runs_right : PySem.W.nsIn K mainGlobals "_law_runs_right" = some (some (.ref fa_l_runs_right)))
    (l_l_runs_right : K.lookup fa_l_runs_right = some ⟨oc_l_runs_right, od_l_runs_right, .func (PySem.W.fnOf "_law_runs_right" "_law_runs_right" (defArgs s_l_runs_right) (defBody s_l_runs_right) (defScope s_l_runs_right) .none kV_l_runs_right dc_l_runs_right pm_l_runs_right an_l_runs_right cd_l_runs_right ct_l_runs_right), sl_l_runs_right⟩)
    (c_l_runs_right : PySem.W.codeIn K cd_l_runs_right "_law_runs_right" = true) (k_l_runs_right : PySem.W.keepIn K (.ref fa_l_runs_right) = true)
    {od_law an_law : Option Addr} {sl_law : Array (Option Value)} {oc_law kV_law dc_law pm_law cd_law ct_law : Value} {fa_law : Addr}
    (a_law : PySem.W.nsIn K mainGlobals "law" = some (some (.ref fa_law)))
    (l_law : K.lookup fa_law = some ⟨oc_law, od_law, .func (PySem.W.fnOf "law" "law" (defArgs s_law) (defBody s_law) (defScope s_law) .none kV_law dc_law pm_law an_law cd_law ct_law), sl_law⟩)
    (c_law : PySem.W.codeIn K cd_law "law" = true) (k_law : PySem.W.keepIn K (.ref fa_law) = true)
    {t_LAST_COLUMN : Nat} (h_LAST_COLUMN : PySem.W.nsIn K mainGlobals "LAST_COLUMN" = some (some (.int 10000 t_LAST_COLUMN)))
    {t_LAST_LINE : Nat} (h_LAST_LINE : PySem.W.nsIn K mainGlobals "LAST_LINE" = some (some (.int 1000000 t_LAST_LINE)))
    {t_MOST_LINES_BEHIND : Nat} (h_MOST_LINES_BEHIND : PySem.W.nsIn K mainGlobals "MOST_LINES_BEHIND" = some (some (.int 99 t_MOST_LINES_BEHIND)))
    (y_ValueError : PySem.W.nsIn K mainGlobals "ValueError" = some none)
    (y_abs : PySem.W.nsIn K mainGlobals "abs" = some none)
    (y_all : PySem.W.nsIn K mainGlobals "all" = some none)
    (y_bool : PySem.W.nsIn K mainGlobals "bool" = some none)
    (y_int : PySem.W.nsIn K mainGlobals "int" = some none)
    (y_isinstance : PySem.W.nsIn K mainGlobals "isinstance" = some none)
    (y_len : PySem.W.nsIn K mainGlobals "len" = some none)
    (y_list : PySem.W.nsIn K mainGlobals "list" = some none)
    (y_min : PySem.W.nsIn K mainGlobals "min" = some none)
    (y_range : PySem.W.nsIn K mainGlobals "range" = some none)
    (y_str : PySem.W.nsIn K mainGlobals "str" = some none)
    (y_tuple : PySem.W.nsIn K mainGlobals "tuple" = some none)
    (y_zip : PySem.W.nsIn K mainGlobals "zip" = some none)
    (y_IndexError : PySem.W.nsIn K mainGlobals "IndexError" = some none)
    {B_Place : Addr} (ax_Place : PySem.W.nsIn K mainGlobals "Place" = some (some (.ref B_Place)))
    {fI TI DI : Addr} {odI anI odT : Option Addr} {slI slT : Array (Option Value)} {ocI dcI pmI cdI ctI ocT : Value} {nT : Nat}
    (pg : PySem.W.plainGet K B_Place Str.empty = true)
    (hd : PySem.W.hasDictIn K B_Place = true)
    (po : PySem.W.plainOver K B_Place = true)
    (sa : PySem.W.findIn K (.ref B_Place) "__setattr__" = some (some (.builtin "object.__setattr__")))
    (n_line : PySem.W.findIn K (.ref B_Place) "line" = some none)
    (n_last : PySem.W.findIn K (.ref B_Place) "last" = some none)
    (n_begin : PySem.W.findIn K (.ref B_Place) "begin" = some none)
    (n_end : PySem.W.findIn K (.ref B_Place) "end" = some none)
    (iha : PySem.W.findIn K (.ref B_Place) "__class__" = some (some (.builtin "object.__class__")))
    (ihn : PySem.W.specialIn K (.builtin "object.__class__") "__get__" = some (some (.builtin "getset_descriptor.__get__")))
    (iht : PySem.W.takesIn K (.builtin "object.__class__") = some true)
    (ihm : PySem.W.mroIn K B_Place (.type "object") = some true)
    (ikt : PySem.W.kitOne K (.ref B_Place) (.ref B_Place) = some true)
    (ine : PySem.W.findIn K (.ref B_Place) "__ne__" = some (some (.builtin "object.__ne__")))
    (iklist : PySem.W.kitOne K (.ref B_Place) (.type "list") = some false)
    (iktuple : PySem.W.kitOne K (.ref B_Place) (.type "tuple") = some false)
    (ikint : PySem.W.kitOne K (.ref B_Place) (.type "int") = some false)
    (ikstr : PySem.W.kitOne K (.ref B_Place) (.type "str") = some false)
    (ikbool : PySem.W.kitOne K (.ref B_Place) (.type "bool") = some false)
    (mk1 : PySem.W.makesIn K B_Place = true)
    (mk2 : PySem.W.findIn K (.ref B_Place) "__init__" = some (some (.ref fI)))
    (mk3 : PySem.W.isFn K (.ref fI) = true)
    (mk4 : PySem.W.keepIn K (.ref B_Place) = true)
    (lI : K.lookup fI = some ⟨ocI, odI, .func (PySem.W.fnOf "__init__" "Place.__init__" (defArgs s_Place_init) (defBody s_Place_init) (defScope s_Place_init) (.ref TI) (.ref DI) dcI pmI anI cdI ctI), slI⟩)
    (cI : PySem.W.codeIn K cdI "Place.__init__" = true)
    (kI : PySem.W.keepIn K (.ref fI) = true)
    (lT : K.lookup TI = some ⟨ocT, odT, .seq #[.none, .none] nT, slT⟩)
    (qb : PySem.W.nsIn K DI "begin" = some (some .none))
    (qe : PySem.W.nsIn K DI "end" = some (some .none))
    {B_BadEntry : Addr} (ax_BadEntry : PySem.W.nsIn K mainGlobals "BadEntry" = some (some (.ref B_BadEntry)))
    {B_BadPlace : Addr} (ax_BadPlace : PySem.W.nsIn K mainGlobals "BadPlace" = some (some (.ref B_BadPlace)))
    {B_BadRow : Addr} (ax_BadRow : PySem.W.nsIn K mainGlobals "BadRow" = some (some (.ref B_BadRow)))
    {B_BadText : Addr} (ax_BadText : PySem.W.nsIn K mainGlobals "BadText" = some (some (.ref B_BadText)))
    {B_BadTurn : Addr} (ax_BadTurn : PySem.W.nsIn K mainGlobals "BadTurn" = some (some (.ref B_BadTurn)))
    {B_Broken : Addr} (ax_Broken : PySem.W.nsIn K mainGlobals "Broken" = some (some (.ref B_Broken)))
    {B_NoCard : Addr} (ax_NoCard : PySem.W.nsIn K mainGlobals "NoCard" = some (some (.ref B_NoCard)))
    {B_NoDeed : Addr} (ax_NoDeed : PySem.W.nsIn K mainGlobals "NoDeed" = some (some (.ref B_NoDeed)))
    {B_NoRoom : Addr} (ax_NoRoom : PySem.W.nsIn K mainGlobals "NoRoom" = some (some (.ref B_NoRoom)))
    {B_Torn : Addr} (ax_Torn : PySem.W.nsIn K mainGlobals "Torn" = some (some (.ref B_Torn)))
    (a_Place_eq : PySem.W.findIn K (.ref B_Place) "__eq__" = some (some (.ref fa_Place_eq))) (i_Place_eq : PySem.W.isFn K (.ref fa_Place_eq) = true)
    (l_Place_eq : K.lookup fa_Place_eq = some ⟨oc_Place_eq, od_Place_eq, .func (PySem.W.fnOf "__eq__" "Place.__eq__" (defArgs s_Place_eq) (defBody s_Place_eq) (defScope s_Place_eq) .none kV_Place_eq dc_Place_eq pm_Place_eq an_Place_eq cd_Place_eq ct_Place_eq), sl_Place_eq⟩)
    (c_Place_eq : PySem.W.codeIn K cd_Place_eq "Place.__eq__" = true) (k_Place_eq : PySem.W.keepIn K (.ref fa_Place_eq) = true)
    {fBadPlace NBadPlace : Addr} {nmBadPlace qBadPlace : Str} {bsBadPlace subBadPlace : List Value} {snBadPlace : List Str} {abBadPlace : Bool} {colBadPlace : Option Bool} {ddBadPlace : Option Addr} {m0BadPlace m1BadPlace m2BadPlace m3BadPlace m5BadPlace : Option Value} {odBadPlace anBadPlace : Option Addr} {slBadPlace : Array (Option Value)} {ocBadPlace kVBadPlace dcBadPlace pmBadPlace cdBadPlace ctBadPlace : Value}
    (xx_BadPlace : K.lookup B_BadPlace = some (excClassObj nmBadPlace qBadPlace B_BadPlace NBadPlace bsBadPlace [.type "ValueError", .type "Exception", .type "BaseException", .type "object"] true snBadPlace subBadPlace abBadPlace colBadPlace ddBadPlace m0BadPlace m1BadPlace m2BadPlace m3BadPlace m5BadPlace "ValueError.__new__"))
    (sa_BadPlace : PySem.W.findIn K (.ref B_BadPlace) "__setattr__" = some (some (.builtin "object.__setattr__")))
    (ga_BadPlace : PySem.W.findIn K (.ref B_BadPlace) "__getattribute__" = some (some (.builtin "BaseException.__getattribute__")))
    (gg_BadPlace : PySem.W.findIn K (.ref B_BadPlace) "__getattr__" = some none)
    (no_BadPlace : PySem.W.findIn K (.ref B_BadPlace) "part" = some none)
    (ii_BadPlace : PySem.W.findIn K (.ref B_BadPlace) "__init__" = some (some (.ref fBadPlace)))
    (tt_BadPlace : PySem.W.typeIn K (.ref fBadPlace) = some (.type "function"))
    (ll_BadPlace : K.lookup fBadPlace = some ⟨ocBadPlace, odBadPlace, .func (PySem.W.fnOf "__init__" "BadPlace.__init__" (defArgs s_BadPlace_init) (defBody s_BadPlace_init) (defScope s_BadPlace_init) .none kVBadPlace dcBadPlace pmBadPlace anBadPlace cdBadPlace ctBadPlace), slBadPlace⟩)
    (cc_BadPlace : PySem.W.codeIn K cdBadPlace "BadPlace.__init__" = true)
    (kf_BadPlace : PySem.W.keepIn K (.ref fBadPlace) = true)
    (kk_BadPlace : PySem.W.keepIn K (.ref B_BadPlace) = true)
    (ee_BadPlace : PySem.W.subIn K (.ref B_BadPlace) (.type "BaseException") = some true)
    (ty_BadPlace : PySem.W.typeIn K (.ref B_BadPlace) = some (.type "type"))
    (hd_BadPlace : PySem.W.hasDictIn K B_BadPlace = true)
    (ss_BadPlace : PySem.W.subIn K (.ref B_BadPlace) (.ref B_BadPlace) = some true)
    {fNoCard NNoCard : Addr} {nmNoCard qNoCard : Str} {bsNoCard subNoCard : List Value} {snNoCard : List Str} {abNoCard : Bool} {colNoCard : Option Bool} {ddNoCard : Option Addr} {m0NoCard m1NoCard m2NoCard m3NoCard m5NoCard : Option Value} {odNoCard anNoCard : Option Addr} {slNoCard : Array (Option Value)} {ocNoCard kVNoCard dcNoCard pmNoCard cdNoCard ctNoCard : Value}
    (xx_NoCard : K.lookup B_NoCard = some (excClassObj nmNoCard qNoCard B_NoCard NNoCard bsNoCard [.type "IndexError", .type "LookupError", .type "Exception", .type "BaseException", .type "object"] true snNoCard subNoCard abNoCard colNoCard ddNoCard m0NoCard m1NoCard m2NoCard m3NoCard m5NoCard "IndexError.__new__"))
    (sa_NoCard : PySem.W.findIn K (.ref B_NoCard) "__setattr__" = some (some (.builtin "object.__setattr__")))
    (ga_NoCard : PySem.W.findIn K (.ref B_NoCard) "__getattribute__" = some (some (.builtin "BaseException.__getattribute__")))
    (gg_NoCard : PySem.W.findIn K (.ref B_NoCard) "__getattr__" = some none)
    (no_NoCard : PySem.W.findIn K (.ref B_NoCard) "card" = some none)
    (ii_NoCard : PySem.W.findIn K (.ref B_NoCard) "__init__" = some (some (.ref fNoCard)))
    (tt_NoCard : PySem.W.typeIn K (.ref fNoCard) = some (.type "function"))
    (ll_NoCard : K.lookup fNoCard = some ⟨ocNoCard, odNoCard, .func (PySem.W.fnOf "__init__" "NoCard.__init__" (defArgs s_NoCard_init) (defBody s_NoCard_init) (defScope s_NoCard_init) .none kVNoCard dcNoCard pmNoCard anNoCard cdNoCard ctNoCard), slNoCard⟩)
    (cc_NoCard : PySem.W.codeIn K cdNoCard "NoCard.__init__" = true)
    (kf_NoCard : PySem.W.keepIn K (.ref fNoCard) = true)
    (kk_NoCard : PySem.W.keepIn K (.ref B_NoCard) = true)
    (ee_NoCard : PySem.W.subIn K (.ref B_NoCard) (.type "BaseException") = some true)
    (ty_NoCard : PySem.W.typeIn K (.ref B_NoCard) = some (.type "type"))
    (hd_NoCard : PySem.W.hasDictIn K B_NoCard = true)
    (ss_NoCard : PySem.W.subIn K (.ref B_NoCard) (.ref B_NoCard) = some true)
    (ic_NoCard : (PySem.W.clsIn K B_NoCard).isSome = true)
    (ha_NoCard : PySem.W.findIn K (.ref B_NoCard) "__class__" = some (some (.builtin "object.__class__")))
    (hn_NoCard : PySem.W.specialIn K (.builtin "object.__class__") "__get__" = some (some (.builtin "getset_descriptor.__get__")))
    (ht_NoCard : PySem.W.takesIn K (.builtin "object.__class__") = some true)
    (hm_NoCard : PySem.W.mroIn K B_NoCard (.type "object") = some true)
    (kv_NoCard : PySem.W.kitOne K (.ref B_NoCard) (.type "IndexError") = some true)
    (kg_NoCard : PySem.W.kitOne K (.ref B_NoCard) (.type "ValueError") = some false)
    (k1BadPlace_NoCard : PySem.W.kitOne K (.ref B_NoCard) (.ref B_BadPlace) = some false)
    (k1BadText_NoCard : PySem.W.kitOne K (.ref B_NoCard) (.ref B_BadText) = some false)
    (k1BadRow_NoCard : PySem.W.kitOne K (.ref B_NoCard) (.ref B_BadRow) = some false)
    (k1Torn_NoCard : PySem.W.kitOne K (.ref B_NoCard) (.ref B_Torn) = some false)
    (k1Broken_NoCard : PySem.W.kitOne K (.ref B_NoCard) (.ref B_Broken) = some false)
    (k1BadEntry_NoCard : PySem.W.kitOne K (.ref B_NoCard) (.ref B_BadEntry) = some false)
    (k1BadTurn_NoCard : PySem.W.kitOne K (.ref B_NoCard) (.ref B_BadTurn) = some false)
    (k1NoCard_NoCard : PySem.W.kitOne K (.ref B_NoCard) (.ref B_NoCard) = some true)
    (k1NoDeed_NoCard : PySem.W.kitOne K (.ref B_NoCard) (.ref B_NoDeed) = some false)
    (k1NoRoom_NoCard : PySem.W.kitOne K (.ref B_NoCard) (.ref B_NoRoom) = some false)
    (vV_IndexError : PySem.W.findCls K (.type "IndexError") (.type "type") "__init__" = some (.val (.builtin "IndexError.__init__")))
    (vV : PySem.W.findCls K (.type "ValueError") (.type "type") "__init__" = some (.val (.builtin "ValueError.__init__"))) :
    ∃ fd : FuncData, (∀ (s : Shared) (v : Value), BindsTo s fd ⟨[v], []⟩ [("_law_script", v)]) ∧ ∀ base : Heap, K.In base → base.Ns mainGlobals mg → FnOk l.prog w K mg base (L2.CX l.prog w) 8 fa fd ["_law_script"] (spLaw K) := by
  have e := hfa.symm.trans (PySem.W.mg_of X G a_law)
  cases e
  let cl : Str → Addr := fun s => if s = "BadEntry" then B_BadEntry else if s = "BadPlace" then B_BadPlace else if s = "BadRow" then B_BadRow else if s = "BadText" then B_BadText else if s = "BadTurn" then B_BadTurn else if s = "Broken" then B_Broken else if s = "NoCard" then B_NoCard else if s = "NoDeed" then B_NoDeed else if s = "NoRoom" then B_NoRoom else if s = "Torn" then B_Torn else if s = "Place" then B_Place else 0
  have F_Place_eq := fun_mk (st := s_Place_eq) l_Place_eq c_Place_eq k_Place_eq
  have b_Place_eq := F_Place_eq.binds (ps := ["self", "other"]) fun _ _ _ _ _ _ us hl => match us, hl with | [_, _], _ => rfl
  have F__wall := fun_mk (st := s__wall) l__wall c__wall k__wall
  have b__wall := F__wall.binds (ps := ["k"]) fun _ _ _ _ _ _ us hl => match us, hl with | [_], _ => rfl
  have m__wall := PySem.W.mg_of X G a__wall
  have F_is_whole := fun_mk (st := s_is_whole) l_is_whole c_is_whole k_is_whole
  have b_is_whole := F_is_whole.binds (ps := ["thing"]) fun _ _ _ _ _ _ us hl => match us, hl with | [_], _ => rfl
  have m_is_whole := PySem.W.mg_of X G a_is_whole
  have F_is_number := fun_mk (st := s_is_number) l_is_number c_is_number k_is_number
  have b_is_number := F_is_number.binds (ps := ["thing", "low", "high"]) fun _ _ _ _ _ _ us hl => match us, hl with | [_, _, _], _ => rfl
  have m_is_number := PySem.W.mg_of X G a_is_number
  have F_wrong_columns := fun_mk (st := s_wrong_columns) l_wrong_columns c_wrong_columns k_wrong_columns
  have b_wrong_columns := F_wrong_columns.binds (ps := ["begin", "end", "one_line"]) fun _ _ _ _ _ _ us hl => match us, hl with | [_, _, _], _ => rfl
  have m_wrong_columns := PySem.W.mg_of X G a_wrong_columns
  have F_wrong_of_nowhere := fun_mk (st := s_wrong_of_nowhere) l_wrong_of_nowhere c_wrong_of_nowhere k_wrong_of_nowhere
  have b_wrong_of_nowhere := F_wrong_of_nowhere.binds (ps := ["last", "begin", "end"]) fun _ _ _ _ _ _ us hl => match us, hl with | [_, _, _], _ => rfl
  have m_wrong_of_nowhere := PySem.W.mg_of X G a_wrong_of_nowhere
  have F_wrong_part := fun_mk (st := s_wrong_part) l_wrong_part c_wrong_part k_wrong_part
  have b_wrong_part := F_wrong_part.binds (ps := ["line", "last", "begin", "end"]) fun _ _ _ _ _ _ us hl => match us, hl with | [_, _, _, _], _ => rfl
  have m_wrong_part := PySem.W.mg_of X G a_wrong_part
  have F_runs_of := fun_mk (st := s_runs_of) l_runs_of c_runs_of k_runs_of
  have b_runs_of := F_runs_of.binds (ps := ["places"]) fun _ _ _ _ _ _ us hl => match us, hl with | [_], _ => rfl
  have m_runs_of := PySem.W.mg_of X G a_runs_of
  have F_places_of := fun_mk (st := s_places_of) l_places_of c_places_of k_places_of
  have b_places_of := F_places_of.binds (ps := ["runs"]) fun _ _ _ _ _ _ us hl => match us, hl with | [_], _ => rfl
  have m_places_of := PySem.W.mg_of X G a_places_of
  have F_run_at := fun_mk (st := s_run_at) l_run_at c_run_at k_run_at
  have b_run_at := F_run_at.binds (ps := ["places", "card"]) fun _ _ _ _ _ _ us hl => match us, hl with | [_, _], _ => rfl
  have m_run_at := PySem.W.mg_of X G a_run_at
  have F_l_cell_at := fun_mk (st := s_l_cell_at) l_l_cell_at c_l_cell_at k_l_cell_at
  have b_l_cell_at := F_l_cell_at.binds (ps := ["_law_script", "_law_k"]) fun _ _ _ _ _ _ us hl => match us, hl with | [_, _], _ => rfl
  have m_l_cell_at := PySem.W.mg_of X G a_l_cell_at
  have F_l_box := fun_mk (st := s_l_box) l_l_box c_l_box k_l_box
  have b_l_box := F_l_box.binds (ps := ["_law_script", "_law_k"]) fun _ _ _ _ _ _ us hl => match us, hl with | [_, _], _ => rfl
  have m_l_box := PySem.W.mg_of X G a_l_box
  have F_l_take := fun_mk (st := s_l_take) l_l_take c_l_take k_l_take
  have b_l_take := F_l_take.binds (ps := ["_law_box_here", "_law_many"]) fun _ _ _ _ _ _ us hl => match us, hl with | [_, _], _ => rfl
  have m_l_take := PySem.W.mg_of X G a_l_take
  have F_l_spot := fun_mk (st := s_l_spot) l_l_spot c_l_spot k_l_spot
  have b_l_spot := F_l_spot.binds (ps := ["_law_box_here", "_law_wide"]) fun _ _ _ _ _ _ us hl => match us, hl with | [_, _], _ => rfl
  have m_l_spot := PySem.W.mg_of X G a_l_spot
  have F_l_later := fun_mk (st := s_l_later) l_l_later c_l_later k_l_later
  have b_l_later := F_l_later.binds (ps := ["_law_own", "_law_step"]) fun _ _ _ _ _ _ us hl => match us, hl with | [_, _], _ => rfl
  have m_l_later := PySem.W.mg_of X G a_l_later
  have F_l_spots := fun_mk (st := s_l_spots) l_l_spots c_l_spots k_l_spots
  have b_l_spots := F_l_spots.binds (ps := ["_law_box_here", "_law_many", "_law_wide"]) fun _ _ _ _ _ _ us hl => match us, hl with | [_, _, _], _ => rfl
  have m_l_spots := PySem.W.mg_of X G a_l_spots
  have F_l_place := fun_mk (st := s_l_place) l_l_place c_l_place k_l_place
  have b_l_place := F_l_place.binds (ps := ["_law_spot_here"]) fun _ _ _ _ _ _ us hl => match us, hl with | [_], _ => rfl
  have m_l_place := PySem.W.mg_of X G a_l_place
  have F_l_same := fun_mk (st := s_l_same) l_l_same c_l_same k_l_same
  have b_l_same := F_l_same.binds (ps := ["_law_found", "_law_due_here"]) fun _ _ _ _ _ _ us hl => match us, hl with | [_, _], _ => rfl
  have m_l_same := PySem.W.mg_of X G a_l_same
  have F_l_seen := fun_mk (st := s_l_seen) l_l_seen c_l_seen k_l_seen
  have b_l_seen := F_l_seen.binds (ps := ["_law_place_here"]) fun _ _ _ _ _ _ us hl => match us, hl with | [_], _ => rfl
  have m_l_seen := PySem.W.mg_of X G a_l_seen
  have F_l_alone := fun_mk (st := s_l_alone) l_l_alone c_l_alone k_l_alone
  have b_l_alone := F_l_alone.binds (ps := ["_law_error", "_law_own"]) fun _ _ _ _ _ _ us hl => match us, hl with | [_, _], _ => rfl
  have m_l_alone := PySem.W.mg_of X G a_l_alone
  have F_l_runs := fun_mk (st := s_l_runs) l_l_runs c_l_runs k_l_runs
  have b_l_runs := F_l_runs.binds (ps := ["_law_spots_here"]) fun _ _ _ _ _ _ us hl => match us, hl with | [_], _ => rfl
  have m_l_runs := PySem.W.mg_of X G a_l_runs
  have F_l_told := fun_mk (st := s_l_told) l_l_told c_l_told k_l_told
  have b_l_told := F_l_told.binds (ps := ["_law_box_here", "_law_made", "_law_number"]) fun _ _ _ _ _ _ us hl => match us, hl with | [_, _, _], _ => rfl
  have m_l_told := PySem.W.mg_of X G a_l_told
  have F_l_due := fun_mk (st := s_l_due) l_l_due c_l_due k_l_due
  have b_l_due := F_l_due.binds (ps := ["_law_spots_here", "_law_number"]) fun _ _ _ _ _ _ us hl => match us, hl with | [_, _], _ => rfl
  have m_l_due := PySem.W.mg_of X G a_l_due
  have F_l_runs_right := fun_mk (st := s_l_runs_right) l_l_runs_right c_l_runs_right k_l_runs_right
  have b_l_runs_right := F_l_runs_right.binds (ps := ["_law_box_here", "_law_spots_here", "_law_made"]) fun _ _ _ _ _ _ us hl => match us, hl with | [_, _, _], _ => rfl
  have m_l_runs_right := PySem.W.mg_of X G a_l_runs_right
  have F_law := fun_mk (st := s_law) l_law c_law k_law
  have b_law := F_law.binds (ps := ["_law_script"]) fun _ _ _ _ _ _ us hl => match us, hl with | [_], _ => rfl
  have m_law := PySem.W.mg_of X G a_law
  have g_LAST_COLUMN := PySem.W.mg_of X G h_LAST_COLUMN
  have g_LAST_LINE := PySem.W.mg_of X G h_LAST_LINE
  have g_MOST_LINES_BEHIND := PySem.W.mg_of X G h_MOST_LINES_BEHIND
  have z_ValueError := PySem.W.mg_none_of X G y_ValueError
  have z_abs := PySem.W.mg_none_of X G y_abs
  have z_all := PySem.W.mg_none_of X G y_all
  have z_bool := PySem.W.mg_none_of X G y_bool
  have z_int := PySem.W.mg_none_of X G y_int
  have z_isinstance := PySem.W.mg_none_of X G y_isinstance
  have z_len := PySem.W.mg_none_of X G y_len
  have z_list := PySem.W.mg_none_of X G y_list
  have z_min := PySem.W.mg_none_of X G y_min
  have z_range := PySem.W.mg_none_of X G y_range
  have z_str := PySem.W.mg_none_of X G y_str
  have z_tuple := PySem.W.mg_none_of X G y_tuple
  have z_zip := PySem.W.mg_none_of X G y_zip
  have z_IndexError := PySem.W.mg_none_of X G y_IndexError
  have ec_Place : cl "Place" = B_Place := (if_neg (by decide +kernel)).trans ((if_neg (by decide +kernel)).trans ((if_neg (by decide +kernel)).trans ((if_neg (by decide +kernel)).trans ((if_neg (by decide +kernel)).trans ((if_neg (by decide +kernel)).trans ((if_neg (by decide +kernel)).trans ((if_neg (by decide +kernel)).trans ((if_neg (by decide +kernel)).trans ((if_neg (by decide +kernel)).trans (if_pos rfl))))))))))
  have gx_Place : mg "Place" = some (.ref (cl "Place")) := by rw [ec_Place]; exact PySem.W.mg_of X G ax_Place
  have cls_Place : Cls K (cl "Place") := by rw [ec_Place]; exact ⟨pg, hd, po, sa⟩
  have J_Place : PlJ K (cl "Place") := ⟨cls_Place, by rw [ec_Place]; exact iha, ihn, iht, by rw [ec_Place]; exact ihm⟩
  have hfl : FlOk K cl fl := by
    intro cn fn h
    unfold fl at h
    simp only [Bool.or_false, Bool.and_eq_true, decide_eq_true_eq] at h
    obtain ⟨rfl, h2⟩ := h
    refine ⟨cls_Place, ?_⟩
    rw [ec_Place]
    simp only [List.mem_cons, List.not_mem_nil, or_false] at h2
    rcases h2 with rfl | rfl | rfl | rfl
    · exact n_line
    · exact n_last
    · exact n_begin
    · exact n_end
  have hio : IoOk K cl io := by
    intro cn e b h
    unfold io at h
    split at h
    · rename_i hc
      subst hc
      refine ⟨J_Place, fun F v r => ?_⟩
      rw [ec_Place]
      split at h
      · split at h
        · rename_i n hn
          subst hn
          cases h
          cases r
          exact ⟨_, .own _, by rw [ec_Place]; exact ikt⟩
        · cases h
      · cases r
        split at h
        · rename_i hn
          subst hn
          cases h
          exact ⟨_, .ty _, iklist⟩
        split at h
        · rename_i hn
          subst hn
          cases h
          exact ⟨_, .ty _, iktuple⟩
        split at h
        · rename_i hn
          subst hn
          cases h
          exact ⟨_, .ty _, ikint⟩
        split at h
        · rename_i hn
          subst hn
          cases h
          exact ⟨_, .ty _, ikstr⟩
        split at h
        · rename_i hn
          subst hn
          cases h
          exact ⟨_, .ty _, ikbool⟩
        cases h
      · cases h
    · cases h
  have ec_BadEntry : cl "BadEntry" = B_BadEntry := if_pos rfl
  have gx_BadEntry : mg "BadEntry" = some (.ref (cl "BadEntry")) := by rw [ec_BadEntry]; exact PySem.W.mg_of X G ax_BadEntry
  have ec_BadPlace : cl "BadPlace" = B_BadPlace := (if_neg (by decide +kernel)).trans (if_pos rfl)
  have gx_BadPlace : mg "BadPlace" = some (.ref (cl "BadPlace")) := by rw [ec_BadPlace]; exact PySem.W.mg_of X G ax_BadPlace
  have ec_BadRow : cl "BadRow" = B_BadRow := (if_neg (by decide +kernel)).trans ((if_neg (by decide +kernel)).trans (if_pos rfl))
  have gx_BadRow : mg "BadRow" = some (.ref (cl "BadRow")) := by rw [ec_BadRow]; exact PySem.W.mg_of X G ax_BadRow
  have ec_BadText : cl "BadText" = B_BadText := (if_neg (by decide +kernel)).trans ((if_neg (by decide +kernel)).trans ((if_neg (by decide +kernel)).trans (if_pos rfl)))
  have gx_BadText : mg "BadText" = some (.ref (cl "BadText")) := by rw [ec_BadText]; exact PySem.W.mg_of X G ax_BadText
  have ec_BadTurn : cl "BadTurn" = B_BadTurn := (if_neg (by decide +kernel)).trans ((if_neg (by decide +kernel)).trans ((if_neg (by decide +kernel)).trans ((if_neg (by decide +kernel)).trans (if_pos rfl))))
  have gx_BadTurn : mg "BadTurn" = some (.ref (cl "BadTurn")) := by rw [ec_BadTurn]; exact PySem.W.mg_of X G ax_BadTurn
  have ec_Broken : cl "Broken" = B_Broken := (if_neg (by decide +kernel)).trans ((if_neg (by decide +kernel)).trans ((if_neg (by decide +kernel)).trans ((if_neg (by decide +kernel)).trans ((if_neg (by decide +kernel)).trans (if_pos rfl)))))
  have gx_Broken : mg "Broken" = some (.ref (cl "Broken")) := by rw [ec_Broken]; exact PySem.W.mg_of X G ax_Broken
  have ec_NoCard : cl "NoCard" = B_NoCard := (if_neg (by decide +kernel)).trans ((if_neg (by decide +kernel)).trans ((if_neg (by decide +kernel)).trans ((if_neg (by decide +kernel)).trans ((if_neg (by decide +kernel)).trans ((if_neg (by decide +kernel)).trans (if_pos rfl))))))
  have gx_NoCard : mg "NoCard" = some (.ref (cl "NoCard")) := by rw [ec_NoCard]; exact PySem.W.mg_of X G ax_NoCard
  have ec_NoDeed : cl "NoDeed" = B_NoDeed := (if_neg (by decide +kernel)).trans ((if_neg (by decide +kernel)).trans ((if_neg (by decide +kernel)).trans ((if_neg (by decide +kernel)).trans ((if_neg (by decide +kernel)).trans ((if_neg (by decide +kernel)).trans ((if_neg (by decide +kernel)).trans (if_pos rfl)))))))
  have gx_NoDeed : mg "NoDeed" = some (.ref (cl "NoDeed")) := by rw [ec_NoDeed]; exact PySem.W.mg_of X G ax_NoDeed
  have ec_NoRoom : cl "NoRoom" = B_NoRoom := (if_neg (by decide +kernel)).trans ((if_neg (by decide +kernel)).trans ((if_neg (by decide +kernel)).trans ((if_neg (by decide +kernel)).trans ((if_neg (by decide +kernel)).trans ((if_neg (by decide +kernel)).trans ((if_neg (by decide +kernel)).trans ((if_neg (by decide +kernel)).trans (if_pos rfl))))))))
  have gx_NoRoom : mg "NoRoom" = some (.ref (cl "NoRoom")) := by rw [ec_NoRoom]; exact PySem.W.mg_of X G ax_NoRoom
  have ec_Torn : cl "Torn" = B_Torn := (if_neg (by decide +kernel)).trans ((if_neg (by decide +kernel)).trans ((if_neg (by decide +kernel)).trans ((if_neg (by decide +kernel)).trans ((if_neg (by decide +kernel)).trans ((if_neg (by decide +kernel)).trans ((if_neg (by decide +kernel)).trans ((if_neg (by decide +kernel)).trans ((if_neg (by decide +kernel)).trans (if_pos rfl)))))))))
  have gx_Torn : mg "Torn" = some (.ref (cl "Torn")) := by rw [ec_Torn]; exact PySem.W.mg_of X G ax_Torn
  have OB_BadPlace : OexC K B_BadPlace := ⟨⟨nmBadPlace, qBadPlace, NBadPlace, bsBadPlace, _, snBadPlace, subBadPlace, abBadPlace, colBadPlace, ddBadPlace, m0BadPlace, m1BadPlace, m2BadPlace, m3BadPlace, m5BadPlace, xx_BadPlace, by decide +kernel⟩, sa_BadPlace, ee_BadPlace, ty_BadPlace, kk_BadPlace⟩
  have XF_BadPlace : XfC K B_BadPlace := ⟨ga_BadPlace, gg_BadPlace, ee_BadPlace, hd_BadPlace⟩
  have xf_BadPlace : XfC K (cl "BadPlace") := by rw [ec_BadPlace]; exact XF_BadPlace
  have nf_BadPlace_part : PySem.W.findIn K (.ref (cl "BadPlace")) "part" = some none := by rw [ec_BadPlace]; exact no_BadPlace
  have mx_BadPlace : PySem.W.exmOne K (.ref (cl "BadPlace")) (.ref (cl "BadPlace")) = some true := by rw [ec_BadPlace]; exact PySem.W.exm_ref ee_BadPlace hd_BadPlace ty_BadPlace ss_BadPlace
  have F_BadPlace := fun_mk (st := s_BadPlace_init) ll_BadPlace cc_BadPlace kf_BadPlace
  have b_BadPlace := F_BadPlace.binds (ps := ["self", "part"]) fun _ _ _ _ _ _ us hl => match us, hl with | [_, _], _ => rfl
  have OB_NoCard : OexB K B_NoCard "IndexError" "IndexError.__new__" "IndexError.__init__" [.type "IndexError", .type "LookupError", .type "Exception", .type "BaseException", .type "object"] := ⟨⟨nmNoCard, qNoCard, NNoCard, bsNoCard, snNoCard, subNoCard, abNoCard, colNoCard, ddNoCard, m0NoCard, m1NoCard, m2NoCard, m3NoCard, m5NoCard, xx_NoCard⟩, PySem.F.excBase_IndexError, PySem.F.store_IndexError, sa_NoCard, ee_NoCard, ty_NoCard, kk_NoCard⟩
  have XF_NoCard : XfC K B_NoCard := ⟨ga_NoCard, gg_NoCard, ee_NoCard, hd_NoCard⟩
  have xf_NoCard : XfC K (cl "NoCard") := by rw [ec_NoCard]; exact XF_NoCard
  have nf_NoCard_card : PySem.W.findIn K (.ref (cl "NoCard")) "card" = some none := by rw [ec_NoCard]; exact no_NoCard
  have mx_NoCard : PySem.W.exmOne K (.ref (cl "NoCard")) (.ref (cl "NoCard")) = some true := by rw [ec_NoCard]; exact PySem.W.exm_ref ee_NoCard hd_NoCard ty_NoCard ss_NoCard
  have F_NoCard := fun_mk (st := s_NoCard_init) ll_NoCard cc_NoCard kf_NoCard
  have b_NoCard := F_NoCard.binds (ps := ["self", "card"]) fun _ _ _ _ _ _ us hl => match us, hl with | [_, _], _ => rfl
  have hxt : XtOk K cl xt := by
    intro c e b h
    unfold xt at h
    split at h
    · rename_i hc
      subst hc
      refine ⟨by rw [ec_NoCard]; exact ⟨XF_NoCard, ic_NoCard, ha_NoCard, hn_NoCard, ht_NoCard, hm_NoCard⟩, fun F v r => ?_⟩
      rw [ec_NoCard]
      split at h
      · rename_i n
        split at h
        · rename_i hn
          cases h
          cases r
          simp only [List.mem_cons, List.not_mem_nil, or_false] at hn
          rcases hn with rfl | rfl | rfl | rfl | rfl | rfl | rfl | rfl | rfl | rfl
          · exact ⟨_, by rw [ec_BadPlace]; exact .own _, k1BadPlace_NoCard⟩
          · exact ⟨_, by rw [ec_BadText]; exact .own _, k1BadText_NoCard⟩
          · exact ⟨_, by rw [ec_BadRow]; exact .own _, k1BadRow_NoCard⟩
          · exact ⟨_, by rw [ec_Torn]; exact .own _, k1Torn_NoCard⟩
          · exact ⟨_, by rw [ec_Broken]; exact .own _, k1Broken_NoCard⟩
          · exact ⟨_, by rw [ec_BadEntry]; exact .own _, k1BadEntry_NoCard⟩
          · exact ⟨_, by rw [ec_BadTurn]; exact .own _, k1BadTurn_NoCard⟩
          · exact ⟨_, by rw [ec_NoCard]; exact .own _, k1NoCard_NoCard⟩
          · exact ⟨_, by rw [ec_NoDeed]; exact .own _, k1NoDeed_NoCard⟩
          · exact ⟨_, by rw [ec_NoRoom]; exact .own _, k1NoRoom_NoCard⟩
        · cases h
      · split at h
        · rename_i t ht
          subst ht
          cases h
          cases r
          exact ⟨_, .ty _, kv_NoCard⟩
        · split at h
          · rename_i ht
            subst ht
            cases h
            cases r
            exact ⟨_, .ty _, kg_NoCard⟩
          · cases h
      · cases h
    · cases h
  refine ⟨PySem.W.fnOf "law" "law" (defArgs s_law) (defBody s_law) (defScope s_law) .none kV_law dc_law pm_law an_law cd_law ct_law, fun s v => .of_eq rfl, fun base _ _ => ?_⟩
  have X_BadPlace : RaC l.prog w K mg base cl "BadPlace" "part" := ⟨⟨fBadPlace, _, by rw [ec_BadPlace]; exact OB_BadPlace, by rw [ec_BadPlace]; exact ii_BadPlace, tt_BadPlace, by rw [ec_BadPlace]; exact i_BadPlace F_BadPlace OB_BadPlace no_BadPlace z_ValueError vV, gx_BadPlace, b_BadPlace⟩⟩
  have X_NoCard : RaB l.prog w K mg base cl "NoCard" "card" := ⟨⟨_, _, _, _, fNoCard, _, by rw [ec_NoCard]; exact OB_NoCard, by rw [ec_NoCard]; exact ii_NoCard, tt_NoCard, by rw [ec_NoCard]; exact i_NoCard F_NoCard OB_NoCard no_NoCard z_IndexError vV_IndexError, gx_NoCard, b_NoCard⟩⟩
  have kb_run_at_0_card_places : KBn K (PySem.W.fnOf "run_at" "run_at" (defArgs s_run_at) (defBody s_run_at) (defScope s_run_at) .none kV_run_at dc_run_at pm_run_at an_run_at cd_run_at ct_run_at) ["places", "card"] 0 ["card", "places"] (fun us ws => match us, ws with | [], [q0, q1] => [q1, q0] | _, _ => []) (fun vs zs => match vs, zs with | [], [q0, q1] => [q1, q0] | _, _ => []) := ⟨fun s us ws XK h1 h2 => match us, h1, ws, h2 with | [], _, [_, _], _ => (.of_eq rfl : BindsTo s (PySem.W.fnOf "run_at" "run_at" (defArgs s_run_at) (defBody s_run_at) (defScope s_run_at) .none kV_run_at dc_run_at pm_run_at an_run_at cd_run_at ct_run_at) _ _), by
    intro vs us zs ws h1 h2
    rcases h1 with _ | ⟨x0, _ | ⟨x1, _ | ⟨x2, _⟩⟩⟩ <;> rcases h2 with _ | ⟨y0, _ | ⟨y1, _ | ⟨y2, _⟩⟩⟩ <;> first | exact .nil | exact (.cons y1 (.cons y0 .nil))⟩
  have O_Place_eq : FnOk l.prog w K mg base (L2.CX l.prog w) 1 _ _ ["self", "other"] (spM K cl 2 none f_Place_eq) := r_Place_eq F_Place_eq z_isinstance gx_Place hio hfl
  have MM_Place_eq : Mm l.prog w K mg base cl 1 "Place" "__eq__" ["self", "other"] f_Place_eq := ⟨_, _, O_Place_eq, cls_Place, by rw [ec_Place]; exact ⟨a_Place_eq, i_Place_eq, k_Place_eq⟩, b_Place_eq⟩
  have OM_Place : OwnM l.prog w K mg base cl 1 "Place" f_Place_eq := ⟨⟨_, _, _, O_Place_eq, by rw [ec_Place]; exact a_Place_eq, i_Place_eq, b_Place_eq⟩, by rw [ec_Place]; exact ine, by rw [ec_Place]; exact ihm⟩
  have O__wall : FnOk l.prog w K mg base (L2.CX l.prog w) 1 _ _ ["k"] (spM K cl 1 none f__wall) := r__wall F__wall 
  have C__wall : Cm l.prog w K mg base cl 1 "_wall" ["k"] none f__wall := ⟨_, _, O__wall, m__wall, k__wall, b__wall⟩
  have O_is_whole : FnOk l.prog w K mg base (L2.CX l.prog w) 1 _ _ ["thing"] (spM K cl 1 none f_is_whole) := r_is_whole F_is_whole z_bool z_int z_isinstance
  have C_is_whole : Cm l.prog w K mg base cl 1 "is_whole" ["thing"] none f_is_whole := ⟨_, _, O_is_whole, m_is_whole, k_is_whole, b_is_whole⟩
  have O_is_number : FnOk l.prog w K mg base (L2.CX l.prog w) 2 _ _ ["thing", "low", "high"] (spM K cl 3 none f_is_number) := r_is_number F_is_number C_is_whole
  have C_is_number : Cm l.prog w K mg base cl 2 "is_number" ["thing", "low", "high"] none f_is_number := ⟨_, _, O_is_number, m_is_number, k_is_number, b_is_number⟩
  have O_wrong_columns : FnOk l.prog w K mg base (L2.CX l.prog w) 3 _ _ ["begin", "end", "one_line"] (spM K cl 3 none f_wrong_columns) := r_wrong_columns F_wrong_columns g_LAST_COLUMN C_is_number
  have C_wrong_columns : Cm l.prog w K mg base cl 3 "wrong_columns" ["begin", "end", "one_line"] none f_wrong_columns := ⟨_, _, O_wrong_columns, m_wrong_columns, k_wrong_columns, b_wrong_columns⟩
  have O_wrong_of_nowhere : FnOk l.prog w K mg base (L2.CX l.prog w) 1 _ _ ["last", "begin", "end"] (spM K cl 3 none f_wrong_of_nowhere) := r_wrong_of_nowhere F_wrong_of_nowhere 
  have C_wrong_of_nowhere : Cm l.prog w K mg base cl 1 "wrong_of_nowhere" ["last", "begin", "end"] none f_wrong_of_nowhere := ⟨_, _, O_wrong_of_nowhere, m_wrong_of_nowhere, k_wrong_of_nowhere, b_wrong_of_nowhere⟩
  have O_wrong_part : FnOk l.prog w K mg base (L2.CX l.prog w) 4 _ _ ["line", "last", "begin", "end"] (spM K cl 4 none f_wrong_part) := r_wrong_part F_wrong_part g_LAST_LINE g_MOST_LINES_BEHIND z_min C_wrong_columns C_is_number C_wrong_of_nowhere
  have C_wrong_part : Cm l.prog w K mg base cl 4 "wrong_part" ["line", "last", "begin", "end"] none f_wrong_part := ⟨_, _, O_wrong_part, m_wrong_part, k_wrong_part, b_wrong_part⟩
  have O_runs_of : FnOk l.prog w K mg base (L2.CX l.prog w) 3 _ _ ["places"] (spM K cl 1 none f_runs_of) := r_runs_of F_runs_of OM_Place
  have C_runs_of : Cm l.prog w K mg base cl 3 "runs_of" ["places"] none f_runs_of := ⟨_, _, O_runs_of, m_runs_of, k_runs_of, b_runs_of⟩
  have O_places_of : FnOk l.prog w K mg base (L2.CX l.prog w) 1 _ _ ["runs"] (spM K cl 1 none f_places_of) := r_places_of F_places_of 
  have C_places_of : Cm l.prog w K mg base cl 1 "places_of" ["runs"] none f_places_of := ⟨_, _, O_places_of, m_places_of, k_places_of, b_places_of⟩
  have O_run_at : FnOk l.prog w K mg base (L2.CX l.prog w) 3 _ _ ["places", "card"] (spM K cl 2 none f_run_at) := r_run_at F_run_at z_len X_NoCard OM_Place
  have C_run_at : Cm l.prog w K mg base cl 3 "run_at" ["places", "card"] none f_run_at := ⟨_, _, O_run_at, m_run_at, k_run_at, b_run_at⟩
  have CK_run_at_0_card_places : CmK l.prog w K mg base cl 3 "run_at" ["places", "card"] none 0 ["card", "places"] (fun vs zs => match vs, zs with | [], [q0, q1] => [q1, q0] | _, _ => []) f_run_at := ⟨_, _, _, O_run_at, m_run_at, k_run_at, kb_run_at_0_card_places⟩
  have O_l_cell_at : FnOk l.prog w K mg base (L2.CX l.prog w) 1 _ _ ["_law_script", "_law_k"] (spM K cl 2 none f_l_cell_at) := r_l_cell_at F_l_cell_at z_len
  have C_l_cell_at : Cm l.prog w K mg base cl 1 "_law_cell_at" ["_law_script", "_law_k"] none f_l_cell_at := ⟨_, _, O_l_cell_at, m_l_cell_at, k_l_cell_at, b_l_cell_at⟩
  have O_l_box : FnOk l.prog w K mg base (L2.CX l.prog w) 2 _ _ ["_law_script", "_law_k"] (spM K cl 2 none f_l_box) := r_l_box F_l_box z_abs z_int C_l_cell_at
  have C_l_box : Cm l.prog w K mg base cl 2 "_law_box" ["_law_script", "_law_k"] none f_l_box := ⟨_, _, O_l_box, m_l_box, k_l_box, b_l_box⟩
  have O_l_take : FnOk l.prog w K mg base (L2.CX l.prog w) 1 _ _ ["_law_box_here", "_law_many"] (spM K cl 2 (some 0) f_l_take) := r_l_take F_l_take 
  have C_l_take : Cm l.prog w K mg base cl 1 "_law_take" ["_law_box_here", "_law_many"] (some 0) f_l_take := ⟨_, _, O_l_take, m_l_take, k_l_take, b_l_take⟩
  have O_l_spot : FnOk l.prog w K mg base (L2.CX l.prog w) 2 _ _ ["_law_box_here", "_law_wide"] (spM K cl 2 (some 0) f_l_spot) := r_l_spot F_l_spot z_min C_l_take
  have C_l_spot : Cm l.prog w K mg base cl 2 "_law_spot" ["_law_box_here", "_law_wide"] (some 0) f_l_spot := ⟨_, _, O_l_spot, m_l_spot, k_l_spot, b_l_spot⟩
  have O_l_later : FnOk l.prog w K mg base (L2.CX l.prog w) 1 _ _ ["_law_own", "_law_step"] (spM K cl 2 none f_l_later) := r_l_later F_l_later 
  have C_l_later : Cm l.prog w K mg base cl 1 "_law_later" ["_law_own", "_law_step"] none f_l_later := ⟨_, _, O_l_later, m_l_later, k_l_later, b_l_later⟩
  have O_l_spots : FnOk l.prog w K mg base (L2.CX l.prog w) 3 _ _ ["_law_box_here", "_law_many", "_law_wide"] (spM K cl 3 (some 0) f_l_spots) := r_l_spots F_l_spots z_len z_min z_range C_l_take C_l_later C_l_spot
  have C_l_spots : Cm l.prog w K mg base cl 3 "_law_spots" ["_law_box_here", "_law_many", "_law_wide"] (some 0) f_l_spots := ⟨_, _, O_l_spots, m_l_spots, k_l_spots, b_l_spots⟩
  have FI : FInit K fI (PySem.W.fnOf "__init__" "Place.__init__" (defArgs s_Place_init) (defBody s_Place_init) (defScope s_Place_init) (.ref TI) (.ref DI) dcI pmI anI cdI ctI) :=
    ⟨⟨ocI, odI, .ref TI, .ref DI, dcI, pmI, anI, cdI, ctI, slI, rfl, lI, cI, .inr ⟨by simp, TI, _, [.none, .none], nT, rfl, lT, rfl, .cons rfl (.cons rfl .nil)⟩, .inr ⟨DI, rfl, fun q hq => by
      rcases List.mem_cons.mp hq with rfl | hq
      · exact ⟨_, qb, rfl⟩
      · rw [List.mem_singleton] at hq
        subst hq
        exact ⟨_, qe, rfl⟩⟩⟩, kI⟩
  have OI : FnOk l.prog w K mg base (L2.CX l.prog w) 5 fI _ ["self", "line", "last", "begin", "end"] (spMk K cl "Place" 4 f_Place_init) := r_Place_init FI hfl X_BadPlace C_wrong_part
  have MM : Mk K (cl "Place") fI := by rw [ec_Place]; exact ⟨mk1, mk2, mk3, mk4⟩
  have MK_Place_0 : Mkm l.prog w K mg base cl 5 "Place" 0 [] (fun (vs zs : List V) => [vs.getD 0 .non, .non, .non, .non, .non]) 4 f_Place_init := ⟨fI, _, _, _, MM, OI, gx_Place, kbn_Place_0 FI⟩
  have MK_Place_1 : Mkm l.prog w K mg base cl 5 "Place" 1 [] (fun (vs zs : List V) => [vs.getD 0 .non, vs.getD 1 .non, .non, .non, .non]) 4 f_Place_init := ⟨fI, _, _, _, MM, OI, gx_Place, kbn_Place_1 FI⟩
  have MK_Place_2_begin_end : Mkm l.prog w K mg base cl 5 "Place" 2 ["begin", "end"] (fun (vs zs : List V) => [vs.getD 0 .non, vs.getD 1 .non, vs.getD 2 .non, zs.getD 0 .non, zs.getD 1 .non]) 4 f_Place_init := ⟨fI, _, _, _, MM, OI, gx_Place, kbn_Place_2_begin_end FI⟩
  have O_l_place : FnOk l.prog w K mg base (L2.CX l.prog w) 7 _ _ ["_law_spot_here"] (spM K cl 1 none f_l_place) := r_l_place F_l_place MK_Place_2_begin_end MK_Place_1 MK_Place_0
  have C_l_place : Cm l.prog w K mg base cl 7 "_law_place" ["_law_spot_here"] none f_l_place := ⟨_, _, O_l_place, m_l_place, k_l_place, b_l_place⟩
  have C0_l_same : Cm l.prog w K mg base cl (0 + 0) "_law_same" ["_law_found", "_law_due_here"] none (f_l_same 0) := ⟨fa_l_same, _, ⟨fun _ _ _ _ h => h.1, fun _ _ _ _ _ _ _ _ _ _ _ _ _ h => by obtain ⟨_, _, _, _, _, _, z⟩ := h; exact z.elim⟩, m_l_same, k_l_same, b_l_same⟩
  have C1_l_same : Cm l.prog w K mg base cl (0 + 1) "_law_same" ["_law_found", "_law_due_here"] none (f_l_same 1) := ⟨_, _, r_l_same (n := 0) F_l_same z_all z_bool z_int z_isinstance z_len z_list z_str z_tuple z_zip C0_l_same, m_l_same, k_l_same, b_l_same⟩
  have C2_l_same : Cm l.prog w K mg base cl (0 + 2) "_law_same" ["_law_found", "_law_due_here"] none (f_l_same 2) := ⟨_, _, r_l_same (n := 1) F_l_same z_all z_bool z_int z_isinstance z_len z_list z_str z_tuple z_zip C1_l_same, m_l_same, k_l_same, b_l_same⟩
  have C3_l_same : Cm l.prog w K mg base cl (0 + 3) "_law_same" ["_law_found", "_law_due_here"] none (f_l_same 3) := ⟨_, _, r_l_same (n := 2) F_l_same z_all z_bool z_int z_isinstance z_len z_list z_str z_tuple z_zip C2_l_same, m_l_same, k_l_same, b_l_same⟩
  have C4_l_same : Cm l.prog w K mg base cl (0 + 4) "_law_same" ["_law_found", "_law_due_here"] none (f_l_same 4) := ⟨_, _, r_l_same (n := 3) F_l_same z_all z_bool z_int z_isinstance z_len z_list z_str z_tuple z_zip C3_l_same, m_l_same, k_l_same, b_l_same⟩
  have C_l_same : Cm l.prog w K mg base cl 4 "_law_same" ["_law_found", "_law_due_here"] none (f_l_same 4) := C4_l_same
  have O_l_seen : FnOk l.prog w K mg base (L2.CX l.prog w) 1 _ _ ["_law_place_here"] (spM K cl 1 none f_l_seen) := r_l_seen F_l_seen z_isinstance gx_Place hio hfl
  have C_l_seen : Cm l.prog w K mg base cl 1 "_law_seen" ["_law_place_here"] none f_l_seen := ⟨_, _, O_l_seen, m_l_seen, k_l_seen, b_l_seen⟩
  have O_l_alone : FnOk l.prog w K mg base (L2.CX l.prog w) 1 _ _ ["_law_error", "_law_own"] (spM K cl 2 none f_l_alone) := r_l_alone F_l_alone z_ValueError z_isinstance gx_BadEntry gx_BadPlace gx_BadRow gx_BadText gx_BadTurn gx_Broken gx_NoCard gx_NoDeed gx_NoRoom gx_Torn hxt
  have C_l_alone : Cm l.prog w K mg base cl 1 "_law_alone" ["_law_error", "_law_own"] none f_l_alone := ⟨_, _, O_l_alone, m_l_alone, k_l_alone, b_l_alone⟩
  have O_l_runs : FnOk l.prog w K mg base (L2.CX l.prog w) 1 _ _ ["_law_spots_here"] (spM K cl 1 none f_l_runs) := r_l_runs F_l_runs 
  have C_l_runs : Cm l.prog w K mg base cl 1 "_law_runs" ["_law_spots_here"] none f_l_runs := ⟨_, _, O_l_runs, m_l_runs, k_l_runs, b_l_runs⟩
  have O_l_told : FnOk l.prog w K mg base (L2.CX l.prog w) 4 _ _ ["_law_box_here", "_law_made", "_law_number"] (spM K cl 3 (some 0) f_l_told) := r_l_told F_l_told z_isinstance z_len z_tuple gx_NoCard mx_NoCard xf_NoCard nf_NoCard_card C_l_seen C_l_alone C_l_take C_run_at CK_run_at_0_card_places
  have C_l_told : Cm l.prog w K mg base cl 4 "_law_told" ["_law_box_here", "_law_made", "_law_number"] (some 0) f_l_told := ⟨_, _, O_l_told, m_l_told, k_l_told, b_l_told⟩
  have O_l_due : FnOk l.prog w K mg base (L2.CX l.prog w) 1 _ _ ["_law_spots_here", "_law_number"] (spM K cl 2 none f_l_due) := r_l_due F_l_due z_len
  have C_l_due : Cm l.prog w K mg base cl 1 "_law_due" ["_law_spots_here", "_law_number"] none f_l_due := ⟨_, _, O_l_due, m_l_due, k_l_due, b_l_due⟩
  have O_l_runs_right : FnOk l.prog w K mg base (L2.CX l.prog w) 5 _ _ ["_law_box_here", "_law_spots_here", "_law_made"] (spM K cl 3 (some 0) f_l_runs_right) := r_l_runs_right F_l_runs_right z_all z_int z_isinstance z_tuple C_runs_of C_l_seen C_l_same C_places_of C_l_take C_l_runs
  have C_l_runs_right : Cm l.prog w K mg base cl 5 "_law_runs_right" ["_law_box_here", "_law_spots_here", "_law_made"] (some 0) f_l_runs_right := ⟨_, _, O_l_runs_right, m_l_runs_right, k_l_runs_right, b_l_runs_right⟩
  exact law_of (r_law F_law z_len z_min z_range C_l_seen C_l_take C_l_due C_l_told C_l_same C_l_runs_right C_l_place C_l_spots C_l_box : FnOk l.prog w K mg base (L2.CX l.prog w) 8 _ _ _ (spM K cl 1 none f_law)) k06_right
end My
open PySem PySem.W PyProof.Rows
set_option maxRecDepth 100000 in
set_option maxHeartbeats 0 in
theorem PySem.Challenge.cw_cardlines_k06_runs_of_cards_holds : PySem.Challenge.rw_cardlines_k06_runs_of_cards.Holds := by
  w_on; o_law; k_head; (case hw => w_witness2)
  k_fill
  refine L2.walk_of (l := PySem.Challenge.rw_cardlines_k06_runs_of_cards) (n := 63) (k := 8) (x := "_law_script") (CX := fun w => L2.CX PySem.Challenge.rw_cardlines_k06_runs_of_cards.prog w) (sp := fun w => Mir.spLaw _) rfl (by decide) rfl ⟨rfl, by decide, by decide⟩ (fun w h Y => PySem.W.kIn_of Y) ?F (fun _ _ a ns hl _ hS => ⟨a, ns, rfl, hS, hl, fun _ => rfl⟩) (fun _ _ _ _ _ h => Mir.cx_false h)
  case F =>
    intro w mg fa h KX G hmg
    refine' My.all_mk KX G hmg ?a__wall ?l__wall ?c__wall ?k__wall ?a_is_whole ?l_is_whole ?c_is_whole ?k_is_whole ?a_is_number ?l_is_number ?c_is_number ?k_is_number ?a_wrong_columns ?l_wrong_columns ?c_wrong_columns ?k_wrong_columns ?a_wrong_of_nowhere ?l_wrong_of_nowhere ?c_wrong_of_nowhere ?k_wrong_of_nowhere ?a_wrong_part ?l_wrong_part ?c_wrong_part ?k_wrong_part ?a_runs_of ?l_runs_of ?c_runs_of ?k_runs_of ?a_places_of ?l_places_of ?c_places_of ?k_places_of ?a_run_at ?l_run_at ?c_run_at ?k_run_at ?a_l_cell_at ?l_l_cell_at ?c_l_cell_at ?k_l_cell_at ?a_l_box ?l_l_box ?c_l_box ?k_l_box ?a_l_take ?l_l_take ?c_l_take ?k_l_take ?a_l_spot ?l_l_spot ?c_l_spot ?k_l_spot ?a_l_later ?l_l_later ?c_l_later ?k_l_later ?a_l_spots ?l_l_spots ?c_l_spots ?k_l_spots ?a_l_place ?l_l_place ?c_l_place ?k_l_place ?a_l_same ?l_l_same ?c_l_same ?k_l_same ?a_l_seen ?l_l_seen ?c_l_seen ?k_l_seen ?a_l_alone ?l_l_alone ?c_l_alone ?k_l_alone ?a_l_runs ?l_l_runs ?c_l_runs ?k_l_runs ?a_l_told ?l_l_told ?c_l_told ?k_l_told ?a_l_due ?l_l_due ?c_l_due ?k_l_due ?a_l_runs_right ?l_l_runs_right ?c_l_runs_right ?k_l_runs_right ?a_law ?l_law ?c_law ?k_law ?h_LAST_COLUMN ?h_LAST_LINE ?h_MOST_LINES_BEHIND ?y_ValueError ?y_abs ?y_all ?y_bool ?y_int ?y_isinstance ?y_len ?y_list ?y_min ?y_range ?y_str ?y_tuple ?y_zip ?y_IndexError ?ax_Place ?pg ?hd ?po ?sa ?n_line ?n_last ?n_begin ?n_end ?iha ?ihn ?iht ?ihm ?ikt ?ine ?iklist ?iktuple ?ikint ?ikstr ?ikbool ?mk1 ?mk2 ?mk3 ?mk4 ?lI ?cI ?kI ?lT ?qb ?qe ?ax_BadEntry ?ax_BadPlace ?ax_BadRow ?ax_BadText ?ax_BadTurn ?ax_Broken ?ax_NoCard ?ax_NoDeed ?ax_NoRoom ?ax_Torn ?a_Place_eq ?i_Place_eq ?l_Place_eq ?c_Place_eq ?k_Place_eq ?xx_BadPlace ?sa_BadPlace ?ga_BadPlace ?gg_BadPlace ?no_BadPlace ?ii_BadPlace ?tt_BadPlace ?ll_BadPlace ?cc_BadPlace ?kf_BadPlace ?kk_BadPlace ?ee_BadPlace ?ty_BadPlace ?hd_BadPlace ?ss_BadPlace ?xx_NoCard ?sa_NoCard ?ga_NoCard ?gg_NoCard ?no_NoCard ?ii_NoCard ?tt_NoCard ?ll_NoCard ?cc_NoCard ?kf_NoCard ?kk_NoCard ?ee_NoCard ?ty_NoCard ?hd_NoCard ?ss_NoCard ?ic_NoCard ?ha_NoCard ?hn_NoCard ?ht_NoCard ?hm_NoCard ?kv_NoCard ?kg_NoCard ?k1BadPlace_NoCard ?k1BadText_NoCard ?k1BadRow_NoCard ?k1Torn_NoCard ?k1Broken_NoCard ?k1BadEntry_NoCard ?k1BadTurn_NoCard ?k1NoCard_NoCard ?k1NoDeed_NoCard ?k1NoRoom_NoCard ?vV_IndexError ?vV
    (case a__wall => first | k_is | rfl)
    (case l__wall => first | k_is | rfl)
    (case c__wall => first | k_is | rfl)
    (case k__wall => first | k_is | rfl)
    (case a_is_whole => first | k_is | rfl)
    (case l_is_whole => first | k_is | rfl)
    (case c_is_whole => first | k_is | rfl)
    (case k_is_whole => first | k_is | rfl)
    (case a_is_number => first | k_is | rfl)
    (case l_is_number => first | k_is | rfl)
    (case c_is_number => first | k_is | rfl)
    (case k_is_number => first | k_is | rfl)
    (case a_wrong_columns => first | k_is | rfl)
    (case l_wrong_columns => first | k_is | rfl)
    (case c_wrong_columns => first | k_is | rfl)
    (case k_wrong_columns => first | k_is | rfl)
    (case a_wrong_of_nowhere => first | k_is | rfl)
    (case l_wrong_of_nowhere => first | k_is | rfl)
    (case c_wrong_of_nowhere => first | k_is | rfl)
    (case k_wrong_of_nowhere => first | k_is | rfl)
    (case a_wrong_part => first | k_is | rfl)
    (case l_wrong_part => first | k_is | rfl)
    (case c_wrong_part => first | k_is | rfl)
    (case k_wrong_part => first | k_is | rfl)
    (case a_runs_of => first | k_is | rfl)
    (case l_runs_of => first | k_is | rfl)
    (case c_runs_of => first | k_is | rfl)
    (case k_runs_of => first | k_is | rfl)
    (case a_places_of => first | k_is | rfl)
    (case l_places_of => first | k_is | rfl)
    (case c_places_of => first | k_is | rfl)
    (case k_places_of => first | k_is | rfl)
    (case a_run_at => first | k_is | rfl)
    (case l_run_at => first | k_is | rfl)
    (case c_run_at => first | k_is | rfl)
    (case k_run_at => first | k_is | rfl)
    (case a_l_cell_at => first | k_is | rfl)
    (case l_l_cell_at => first | k_is | rfl)
    (case c_l_cell_at => first | k_is | rfl)
    (case k_l_cell_at => first | k_is | rfl)
    (case a_l_box => first | k_is | rfl)
    (case l_l_box => first | k_is | rfl)
    (case c_l_box => first | k_is | rfl)
    (case k_l_box => first | k_is | rfl)
    (case a_l_take => first | k_is | rfl)
    (case l_l_take => first | k_is | rfl)
    (case c_l_take => first | k_is | rfl)
    (case k_l_take => first | k_is | rfl)
    (case a_l_spot => first | k_is | rfl)
    (case l_l_spot => first | k_is | rfl)
    (case c_l_spot => first | k_is | rfl)
    (case k_l_spot => first | k_is | rfl)
    (case a_l_later => first | k_is | rfl)
    (case l_l_later => first | k_is | rfl)
    (case c_l_later => first | k_is | rfl)
    (case k_l_later => first | k_is | rfl)
    (case a_l_spots => first | k_is | rfl)
    (case l_l_spots => first | k_is | rfl)
    (case c_l_spots => first | k_is | rfl)
    (case k_l_spots => first | k_is | rfl)
    (case a_l_place => first | k_is | rfl)
    (case l_l_place => first | k_is | rfl)
    (case c_l_place => first | k_is | rfl)
    (case k_l_place => first | k_is | rfl)
    (case a_l_same => first | k_is | rfl)
    (case l_l_same => first | k_is | rfl)
    (case c_l_same => first | k_is | rfl)
    (case k_l_same => first | k_is | rfl)
    (case a_l_seen => first | k_is | rfl)
    (case l_l_seen => first | k_is | rfl)
    (case c_l_seen => first | k_is | rfl)
    (case k_l_seen => first | k_is | rfl)
    (case a_l_alone => first | k_is | rfl)
    (case l_l_alone => first | k_is | rfl)
    (case c_l_alone => first | k_is | rfl)
    (case k_l_alone => first | k_is | rfl)
    (case a_l_runs => first | k_is | rfl)
    (case l_l_runs => first | k_is | rfl)
    (case c_l_runs => first | k_is | rfl)
    (case k_l_runs => first | k_is | rfl)
    (case a_l_told => first | k_is | rfl)
    (case l_l_told => first | k_is | rfl)
    (case c_l_told => first | k_is | rfl)
    (case k_l_told => first | k_is | rfl)
    (case a_l_due => first | k_is | rfl)
    (case l_l_due => first | k_is | rfl)
    (case c_l_due => first | k_is | rfl)
    (case k_l_due => first | k_is | rfl)
    (case a_l_runs_right => first | k_is | rfl)
    (case l_l_runs_right => first | k_is | rfl)
    (case c_l_runs_right => first | k_is | rfl)
    (case k_l_runs_right => first | k_is | rfl)
    (case a_law => first | k_is | rfl)
    (case l_law => first | k_is | rfl)
    (case c_law => first | k_is | rfl)
    (case k_law => first | k_is | rfl)
    (case h_LAST_COLUMN => first | k_is | rfl)
    (case h_LAST_LINE => first | k_is | rfl)
    (case h_MOST_LINES_BEHIND => first | k_is | rfl)
    (case y_ValueError => first | k_is | rfl)
    (case y_abs => first | k_is | rfl)
    (case y_all => first | k_is | rfl)
    (case y_bool => first | k_is | rfl)
    (case y_int => first | k_is | rfl)
    (case y_isinstance => first | k_is | rfl)
    (case y_len => first | k_is | rfl)
    (case y_list => first | k_is | rfl)
    (case y_min => first | k_is | rfl)
    (case y_range => first | k_is | rfl)
    (case y_str => first | k_is | rfl)
    (case y_tuple => first | k_is | rfl)
    (case y_zip => first | k_is | rfl)
    (case y_IndexError => first | k_is | rfl)
    (case ax_Place => first | k_is | rfl)
    (case pg => first | k_is | rfl)
    (case hd => first | k_is | rfl)
    (case po => first | k_is | rfl)
    (case sa => first | k_is | rfl)
    (case n_line => first | k_is | rfl)
    (case n_last => first | k_is | rfl)
    (case n_begin => first | k_is | rfl)
    (case n_end => first | k_is | rfl)
    (case iha => first | k_is | rfl)
    (case ihn => first | k_is | rfl)
    (case iht => first | k_is | rfl)
    (case ihm => first | k_is | rfl)
    (case ikt => first | k_is | rfl)
    (case ine => first | k_is | rfl)
    (case iklist => first | k_is | rfl)
    (case iktuple => first | k_is | rfl)
    (case ikint => first | k_is | rfl)
    (case ikstr => first | k_is | rfl)
    (case ikbool => first | k_is | rfl)
    (case mk1 => first | k_is | rfl)
    (case mk2 => first | k_is | rfl)
    (case mk3 => first | k_is | rfl)
    (case mk4 => first | k_is | rfl)
    (case lI => first | k_is | rfl)
    (case cI => first | k_is | rfl)
    (case kI => first | k_is | rfl)
    (case lT => first | k_is | rfl)
    (case qb => first | k_is | rfl)
    (case qe => first | k_is | rfl)
    (case ax_BadEntry => first | k_is | rfl)
    (case ax_BadPlace => first | k_is | rfl)
    (case ax_BadRow => first | k_is | rfl)
    (case ax_BadText => first | k_is | rfl)
    (case ax_BadTurn => first | k_is | rfl)
    (case ax_Broken => first | k_is | rfl)
    (case ax_NoCard => first | k_is | rfl)
    (case ax_NoDeed => first | k_is | rfl)
    (case ax_NoRoom => first | k_is | rfl)
    (case ax_Torn => first | k_is | rfl)
    (case a_Place_eq => first | k_is | rfl)
    (case i_Place_eq => first | k_is | rfl)
    (case l_Place_eq => first | k_is | rfl)
    (case c_Place_eq => first | k_is | rfl)
    (case k_Place_eq => first | k_is | rfl)
    (case xx_BadPlace => first | k_is | rfl)
    (case sa_BadPlace => first | k_is | rfl)
    (case ga_BadPlace => first | k_is | rfl)
    (case gg_BadPlace => first | k_is | rfl)
    (case no_BadPlace => first | k_is | rfl)
    (case ii_BadPlace => first | k_is | rfl)
    (case tt_BadPlace => first | k_is | rfl)
    (case ll_BadPlace => first | k_is | rfl)
    (case cc_BadPlace => first | k_is | rfl)
    (case kf_BadPlace => first | k_is | rfl)
    (case kk_BadPlace => first | k_is | rfl)
    (case ee_BadPlace => first | k_is | rfl)
    (case ty_BadPlace => first | k_is | rfl)
    (case hd_BadPlace => first | k_is | rfl)
    (case ss_BadPlace => first | k_is | rfl)
    (case xx_NoCard => first | k_is | rfl)
    (case sa_NoCard => first | k_is | rfl)
    (case ga_NoCard => first | k_is | rfl)
    (case gg_NoCard => first | k_is | rfl)
    (case no_NoCard => first | k_is | rfl)
    (case ii_NoCard => first | k_is | rfl)
    (case tt_NoCard => first | k_is | rfl)
    (case ll_NoCard => first | k_is | rfl)
    (case cc_NoCard => first | k_is | rfl)
    (case kf_NoCard => first | k_is | rfl)
    (case kk_NoCard => first | k_is | rfl)
    (case ee_NoCard => first | k_is | rfl)
    (case ty_NoCard => first | k_is | rfl)
    (case hd_NoCard => first | k_is | rfl)
    (case ss_NoCard => first | k_is | rfl)
    (case ic_NoCard => first | k_is | rfl)
    (case ha_NoCard => first | k_is | rfl)
    (case hn_NoCard => first | k_is | rfl)
    (case ht_NoCard => first | k_is | rfl)
    (case hm_NoCard => first | k_is | rfl)
    (case kv_NoCard => first | k_is | rfl)
    (case kg_NoCard => first | k_is | rfl)
    (case k1BadPlace_NoCard => first | k_is | rfl)
    (case k1BadText_NoCard => first | k_is | rfl)
    (case k1BadRow_NoCard => first | k_is | rfl)
    (case k1Torn_NoCard => first | k_is | rfl)
    (case k1Broken_NoCard => first | k_is | rfl)
    (case k1BadEntry_NoCard => first | k_is | rfl)
    (case k1BadTurn_NoCard => first | k_is | rfl)
    (case k1NoCard_NoCard => first | k_is | rfl)
    (case k1NoDeed_NoCard => first | k_is | rfl)
    (case k1NoRoom_NoCard => first | k_is | rfl)
    (case vV_IndexError => first | k_is | rfl)
    (case vV => first | k_is | rfl)


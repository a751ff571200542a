import PyProof.Rows.All
import Wide.All
import OpenK.AllK
import Wide.FinOn
import HandS.ForMost
import HandS.ForExc
import HandS.ExcField
import HandS.ExcInit
import HandS.ExcValue
import HandS.Defaults
import HandS.Codes
import HandS.Wide
import HandS.Zip
import HandS.IsInst
import HandS.Walk
import HandS.MakeKwOnly
import HandS.OwnEq
import HandS.FStr
import HandS.Sort
import KE.KCallOwn
import HandS.ExcIs
import PySem.Challenge.RW_cardlines_k04_lines_had_and_places_moved
set_option Elab.async false
set_option linter.all false
set_option maxRecDepth 100000
set_option maxHeartbeats 4000000
namespace My
open PySem PySem.Spec PyProof.Rows L2
/-! ### an exception that is caught, and kept behind its except clause -/
/-- at a stands an exception of the class cls, its own dict at d -/
def exK (a : Addr) (cls : Value) (d : Option Addr) : HO := .ext fun h => ∃ (oe : Obj) (vs : Array Value), h.get? a = some oe ∧ Zc cls d oe ∧ oe.data = .fields vs
theorem exK_ok {P : Program} {w : World} {H : Hp} {h : Heap} {a : Addr} {cls : Value} {d : Option Addr} {oe : Obj} {vs : Array Value} (e : h.get? a = some oe) (z : Zc cls d oe) (hd : oe.data = .fields vs) : ObjOk P w H h a (exK a cls d) :=
  ⟨⟨oe, vs, e, z, hd⟩, ⟨oe, e⟩, fun _ _ ⟨o, v, q, r⟩ k => ⟨o, v, k o q, r⟩⟩
section
variable {X : Cx} {pins : List (Addr × Obj)} {σ : L2.St} {H : Hp} {s : Shared}
theorem track {a : Addr} {oe : Obj} {vs : Array Value} {cls : Value} {d : Option Addr} (I : Inv X pins σ H s) (ha : s.heap.get? a = some oe) (hz : Zc cls d oe) (hd : oe.data = .fields vs) (na : H a = none)
    (n0 : X.s_0.heap.get? a = none) (nL : a ≠ X.env.locals) (np : ∀ p ∈ X.pn ++ pins, p.1 ≠ a) : Inv X pins σ (upd H a (exK a cls d)) s := by
  have nc : ∀ x c, X.env.cells.lookup x = some c → c ≠ a := fun x c hc e => by
    obtain ⟨v, hv⟩ := I.cell x c hc
    subst e
    obtain ⟨o, ho, hdat⟩ := hv
    rw [ha] at ho
    cases ho
    rw [hd] at hdat
    cases hdat
  exact
    { ok := I.ok
      os := I.os
      bare := I.bare
      base :=
        { keep := I.base.keep
          slot := I.base.slot
          free := fun b o e n hx => by
            rw [upd_ne (fun z => by rw [z, n0] at e; cases e)]
            exact I.base.free b o e n hx
          there := I.base.there
          tups := fun b xs e => by
            have e1 := I.base.tups b xs e
            rw [upd_ne (ne_of_none e1 na)]
            exact e1
          frzs := fun b o u e => by
            have e1 := I.base.frzs b o u e
            rw [upd_ne (ne_of_none e1 na)]
            exact e1
          tbls := fun b ps e => by
            obtain ⟨more, e1⟩ := I.base.tbls b ps e
            exact ⟨more, by rw [upd_ne (ne_of_none e1 na)]; exact e1⟩ }
      loc := I.loc
      cell := I.cell
      free := by rw [upd_ne (Ne.symm nL)]; exact I.free
      freeC := fun x c hc => by rw [upd_ne (nc x c hc)]; exact I.freeC x c hc
      pin := fun p hp => by
        obtain ⟨h1, h2, h3⟩ := I.pin p hp
        exact ⟨h1, by rw [upd_ne (np p hp)]; exact h2, h3⟩
      hok := L2.HOk.laidN I.hok (fun _ _ q => q) na (exK_ok ha hz hd)
      len := I.len }
end
/-- where the suite's end goes on: the name is gone, the exception is kept at a -/
def keepEnds (D : Ends) (i : Nat) (a : Addr) (cls : Value) (d : Option Addr) : Ends :=
  { nx := fun σ' H' => D.nx (σ'.set i none) (upd H' a (exK a cls d)), rt := D.rt, bk := fun σ' H' => D.bk (σ'.set i none) H', ct := fun σ' H' => D.ct (σ'.set i none) H' }
def wKeep (K : PySem.W.Frag) (c : Value) (i : Nat) (ts : Addr → Value → Option Addr → TS) (Wout : WX) (D : Ends) : WX := fun cls d σ H =>
  ∃ b, PySem.W.exmOne K cls c = some b ∧ (b = true → ∀ a, H a = none → ts a cls d (keepEnds D i a cls d) (σ.set i (some (.ref a))) H) ∧ (b = false → Wout cls d σ H)
section
variable {X : Cx} {pins : List (Addr × Obj)} {σ : L2.St} {H : Hp} {s : Shared}
/-- out of the suite, the exception still pinned -/
theorem still {a b : Addr} {q : Addr × Obj} {pn' : List (Addr × Obj)} (I : Inv (X.suite b (q :: (X.pn ++ pins))) pn' σ H s) (ok : X.Ok) : Inv X (q :: pins) σ H s :=
  { ok := ok, os := I.os, bare := I.bare, base := I.base, loc := I.loc, cell := I.cell, free := I.free, freeC := I.freeC, hok := I.hok, len := I.len
    pin := fun p hp => I.pin p (List.mem_append_left _ (by
      rcases List.mem_append.mp hp with h | h
      · exact List.mem_cons_of_mem _ (List.mem_append_left _ h)
      · rcases List.mem_cons.mp h with h | h
        · rw [h]; exact List.mem_cons_self
        · exact List.mem_cons_of_mem _ (List.mem_append_right _ h))) }
theorem unpin {q : Addr × Obj} (I : Inv X (q :: pins) σ H s) : Inv X pins σ H s :=
  { ok := I.ok, os := I.os, bare := I.bare, base := I.base, loc := I.loc, cell := I.cell, free := I.free, freeC := I.freeC, hok := I.hok, len := I.len
    pin := fun p hp => I.pin p (by
      rcases List.mem_append.mp hp with h | h
      · exact List.mem_append_left _ h
      · exact List.mem_append_right _ (List.mem_cons_of_mem _ h)) }
end
section
variable {X : Cx} {x n : Str} {c : Value} {i : Nat} {body suite : List Stmt} {b₀ : Stmt} {np pos pos' : Pos} {tb : WX → TS} {ts : Addr → Value → Option Addr → TS} {Wout : WX}
/-- try: body / except x as n: suite, where behind the suite the exception is still told of -/
theorem ps_try_keep (hs : X.stack = X.env :: X.outer) (hf : X.env.frame = some X.env.locals) (hex : X.ex = []) (hN : X.N.Nodup) (hi : X.N[i]? = some n) (hln : X.env.kindOf n = some .local) (hc : Names X x c) (tk : Takes X Wout)
    (hb : ∀ (W : WX) (pn : List (Addr × Obj)) (xe : Value → Shared → Prop), Takes (X.tr pn xe) W → PassesOwn (model X.prog X.w) X.A X.env xe → PSs (X.tr pn xe) body (tb W))
    (hsu : ∀ (a : Addr) (oe : Obj) (cls : Value) (d : Option Addr) (pn : List (Addr × Obj)), Zc cls d oe → (∃ vs, oe.data = .fields vs) → PSs (X.suite a ((a, oe) :: pn)) (b₀ :: suite) (ts a cls d)) :
    PS X (.Try body [.ExceptHandler (some (.Name x np)) (some n) (b₀ :: suite) pos'] [] [] pos) (fun D σ H => tb (wKeep X.K c i ts Wout D) D σ H) := by
  constructor
  intro pins s σ H D I h
  have ok := I.ok
  have frames : X.A.frames = some (X.env :: X.outer) := by
    rw [ok.frames, hs]
  have run := (hb (wKeep X.K c i ts Wout D) (X.pn ++ pins) (fun e s₁ => wpAny (model X.prog X.w) X.A (noteFrame e X.env) (fun _ s₂ => wpAny (model X.prog X.w) X.A (setFlight e none) (fun _ s₃ =>
      wpAny (model X.prog X.w) X.A (handleBy e X.env [.ExceptHandler (some (.Name x np)) (some n) (b₀ :: suite) pos']) (SP X pins D) X.xe s₃) X.xe s₂) X.xe s₁) ?caught PassesOwn.looking).run [] s σ H D (I.toTry _) h
  · refine wpAny_Try_except (wpAny_mono run (fun fl s1 out => ?_) fun _ _ z => z)
    cases fl with
    | next => obtain ⟨σ1, H1, J1, q1⟩ := out; exact wpAny_execs_nil ⟨σ1, H1, J1.ofTry ok, q1⟩
    | ret u => obtain ⟨v1, σ1, H1, J1, r1, q1⟩ := out; exact ⟨v1, σ1, H1, J1.ofTry ok, r1, q1⟩
    | brk => obtain ⟨σ1, H1, J1, q1⟩ := out; exact ⟨σ1, H1, J1.ofTry ok, q1⟩
    | cont => obtain ⟨σ1, H1, J1, q1⟩ := out; exact ⟨σ1, H1, J1.ofTry ok, q1⟩
  · rintro u s' ⟨a, B, sI, pins', σ1, H1, cls, d, rfl, J1, ground, up, sky, na, os, ag, mt, em, yes, no⟩
    have J : Inv X pins σ1 H1 sI := J1.ofTry ok
    rw [show (X.tr (X.pn ++ pins) _).stack = X.env :: X.outer from hs] at sky
    refine Sky.land Zc.steady frames hf sky fun h3 fly up3 => ?_
    have Jl : Inv X pins σ1 H1 { s' with heap := h3 } := J.landed ground fly.1 (up.trans up3) os ag
    obtain ⟨oe, vs, he, hz, hdat⟩ := fly.there
    -- the exception is none of the frames
    have apart : ∀ {hh : Heap} {ob : Obj} {fv : Array Value}, hh.FunFrames B (X.env :: X.outer) → hh.get? a = some ob → ob.data = .fields fv → a ∉ frs (X.env :: X.outer) := by
      intro hh ob fv ff e1 e2 mem
      obtain ⟨_, ob', e3, nf⟩ := ff.mem mem
      rw [e1] at e3
      cases e3
      exact nf _ e2
    have nfr := apart fly.2.2.1 he hdat
    have nL : a ≠ X.env.locals := by
      intro z
      exact nfr (List.mem_filterMap.mpr ⟨X.env, List.mem_cons_self, by rw [hf, z]⟩)
    have nF : a ∉ X.fs := by
      intro hm
      obtain ⟨ev, hev, q⟩ := List.mem_filterMap.mp hm
      exact nfr (List.mem_filterMap.mpr ⟨ev, List.mem_cons_of_mem _ hev, q⟩)
    have away : ∀ b o, sI.heap.get? b = some o → b ∉ frs X.stack → b ≠ a := by
      intro b o e hb' z
      have gb := ground b o e hb'
      rw [z, fly.2.1] at gb
      cases gb
    have n0 : X.s_0.heap.get? a = none := by
      cases e0 : X.s_0.heap.get? a with
      | none => rfl
      | some o =>
        obtain ⟨o', e1⟩ := J.base.there a o e0 (by rw [hex]; exact fun z => nomatch z)
        exact absurd rfl (away a o' e1 (by rw [hs]; exact nfr))
    have npin : ∀ p ∈ X.pn ++ pins, p.1 ≠ a := by
      intro p hp
      obtain ⟨g1, _, g3, g4, _⟩ := J.pin p hp
      refine away p.1 p.2 g1 fun mem => ?_
      rw [hs] at mem
      obtain ⟨ev, hev, q⟩ := List.mem_filterMap.mp mem
      rcases List.mem_cons.mp hev with rfl | hev
      · rw [hf] at q
        exact g3 (Option.some.inj q).symm
      · exact g4 (List.mem_filterMap.mpr ⟨ev, hev, q⟩)
    have Sl := Jl.suite he hdat na nL nF
    refine wpAny_handleBy_cons (codeAny_handlers_test ?_) (by intro z; cases z)
    have ofCls : PySem.W.Looks (model X.prog X.w) h3 (typeOf (.ref a)) cls := by
      intro A Q E st kp q
      exact wpAny_typeOf_ref (kp _ _ he) (by rw [hz.1]; exact q)
    have fits_ := PySem.W.exm_one (M := model X.prog X.w) Jl.kIn ofCls em
    have named : ∀ {Q : Value → Shared → Prop} {E : Value → Shared → Prop}, Q c { s' with heap := h3 } → wpAny (model X.prog X.w) (X.A.mark (some (.ref a))) (eval (.Name x np) X.env) Q E { s' with heap := h3 } := by
      intro Q E q
      obtain ⟨gl, dbg, own | ⟨own, bt, nn⟩⟩ := hc
      · exact ld_glob (X := X.suite a ((a, oe) :: (X.pn ++ pins))) Sl gl own q dbg
      · exact ld_blt (X := X.suite a ((a, oe) :: (X.pn ++ pins))) Sl gl own bt q nn dbg
    refine named (fits_.here ?_)
    cases mt with
    | true =>
      refine codeAny_handlers_suite_as (HandSPX.lands_againZ fly fun h4 fly4 up4 => ?_)
      have Jm : Inv X pins σ1 H1 { s' with heap := h4 } := J.landed ground fly4.1 ((up.trans up3).trans up4) os ag
      obtain ⟨oe4, vs4, he4, hz4, hdat4⟩ := fly4.there
      refine store_ok (X := X.suite a ((a, oe4) :: (X.pn ++ pins))) (v := .ref a) (Jm.suite he4 hdat4 na nL nF) hN hi (.inl hln) rfl (fun s5 S5 => ?_) (.inr hln)
      refine wpAny_mono ((hsu a oe4 cls d (X.pn ++ pins) hz4 ⟨_, hdat4⟩).run [] s5 _ H1 _ S5 (yes rfl a na)) (fun fl s6 out => ?_) fun _ _ z => z.elim
      cases fl with
      | next =>
        obtain ⟨σ6, H6, S6, q6⟩ := out
        refine gone_ok (still (a := a) S6 ok) hN hi hln fun s7 J7 => ⟨_, _, ?_, q6⟩
        obtain ⟨g1, g2, _⟩ := J7.pin (a, oe4) (List.mem_append_right _ List.mem_cons_self)
        exact track (unpin J7) g1 hz4 hdat4 g2 n0 nL npin
      | ret u =>
        obtain ⟨v6, σ6, H6, S6, r6, q6⟩ := out
        exact gone_ok (S6.unsuite ok) hN hi hln fun s7 J7 => ⟨_, _, _, J7, r6, q6⟩
      | brk =>
        obtain ⟨σ6, H6, S6, q6⟩ := out
        exact gone_ok (S6.unsuite ok) hN hi hln fun s7 J7 => ⟨_, _, J7, q6⟩
      | cont =>
        obtain ⟨σ6, H6, S6, q6⟩ := out
        exact gone_ok (S6.unsuite ok) hN hi hln fun s7 J7 => ⟨_, _, J7, q6⟩
    | false =>
      refine (show wpAny (model X.prog X.w) X.A (handleBy (.ref a) X.env []) _ _ _ from wpAny_handleBy_nil ?_)
      obtain ⟨_, _, _, o5, fv, T, oT, tf, g1, g2, g3, g4, _⟩ := id fly
      have onward : wpAny (model X.prog X.w) X.A (setFlight (.ref a) X.env.frame) (fun _ s4 => wpAny (model X.prog X.w) X.A (throw (.ref a) : Sem Flow) (SP X pins D) X.xe s4) X.xe { s' with heap := h3 } := by
        rw [hf]
        refine HandSPX.setFlight_upZ fly fun h4 held up4 => wpAny_throw (tk _ _ ⟨a, B, sI, pins, σ1, H1, cls, d, rfl, J, ground, (up.trans up3).trans up4, .inr (.inr (by rw [hs]; exact held)), na, os, ag, no rfl⟩)
      unfold PySem.passOn
      refine wpAny_bind (wpAny_field g1 g3 g4 ?_)
      rw [if_neg (by simp : ¬ ((Value.ref T == Value.none) = true))]
      first
        | exact wpAny_bind onward
        | exact wpAny_bind (wpAny_pure (wpAny_bind onward))
end
/-! ### the fields of a kept exception -/
def tXk (K : PySem.W.Frag) (C : Addr) (f : Str) (te : TE) : TE := fun σ H Q => te σ H fun x H1 => ∃ (a dd : Addr) (fs : List (Str × V)) (v : V), x = .ref a ∧ H1 a = some (exK a (.ref C) (some dd)) ∧ H1 dd = some (.xd fs) ∧ fs.lookup f = some v ∧ Q v H1
theorem pe_xk {X : Cx} {C : Addr} {e : Expr} {te : TE} {pos : Pos} {n : Str} (T : XfC X.K C) (hno : PySem.W.findIn X.K (.ref C) n = some none) (he : PE X e te) (hb : attributeBase e n X.env (eval e X.env) = eval e X.env := by rfl) :
    PE X (.Attribute e n pos) (tXk X.K C n te) := by
  constructor
  intro pins s σ H Q I h
  refine attr_of hb (thn (he.run pins s σ H _ I h) fun u s1 hh => ?_)
  obtain ⟨y, H1, I1, ry, a, dd, fs, v, rfl, ea, ed, lk, q⟩ := hh
  obtain rfl : u = Value.ref a := ry
  obtain ⟨⟨oe, vs, h1, h2, h3⟩, _⟩ := (show ObjOk X.prog X.w H1 s1.heap a (exK a (.ref C) (some dd)) from I1.hok a _ ea)
  obtain ⟨mA, hns, hr⟩ := (show ObjOk X.prog X.w H1 s1.heap dd (.xd fs) from I1.hok dd _ ed)
  obtain ⟨od, ho, hl⟩ := lookIn_ns hns
  obtain ⟨u, hu, ru⟩ := RelO.some_of (v := v) (o := mA n) (by rw [← lk]; exact hr n)
  have J : PySem.W.InstAt s1.heap a oe C (some od) := ⟨h1, h2.1, by unfold PySem.W.notCls; rw [h3] <;> rfl, by rw [h2.2]; exact ho⟩
  have found := PySem.W.findObj_own T.hdC hno rfl (show PySem.W.lookIn n od = some (some u) by rw [hl, hu])
  have done : EP X pins σ Q u { s1 with toks := s1.toks + 1 } := ⟨v, H1, I1.tok _, ru, q⟩
  exact HandSPX.exc_get I1.kIn J T.ga T.gg T.exC found (handed_of ru) done
/-! ### a method by names alone -/
structure MeK (P : Program) (w : World) (K : PySem.W.Frag) (mg : Str → Option Value) (base : Heap) (k : Nat) (C : Addr) (m : Str) (ks : List Str) (gV : List V → List V → List V) (sp : Sp) : Prop where
  cl : Cls K C
  ex : ∃ f fd ps g, FnOk P w K mg base CX0 k f fd ps sp ∧ PySem.W.findIn K (.ref C) m = some (some (.ref f)) ∧ PySem.W.isFn K (.ref f) = true ∧ PySem.W.keepIn K (.ref f) = true ∧ KBn K fd ps 1 ks g gV
def tMethK (C : Addr) (m : Str) (n : Nat) (sp : Sp) (gV : List V → List V → List V) (E : XK) (ta : TE) (tk : TA) : TE := fun σ H Q => ta σ H fun x H1 => ∃ a dx fs, x = .ref a ∧ H1 a = some (.ins C dx fs) ∧ fs.lookup m = none ∧ tk σ H1 fun zs H2 => zs.length = n ∧ sp (gV [x] zs) H2 Q E
section
variable {X : Cx} {k j : Nat} {sp : Sp} {C : Addr} {m : Str} {ks : List Str} {gV : List V → List V → List V} {o : Expr} {kws : List Keyword} {ta : TE} {tk : TA} {pos apos : Pos}
theorem pe_mtK {pl : Sem Bool} (M : MeK X.prog X.w X.K X.mg X.base k C m ks gV sp) (hr : Room j X.A) (hk : k ≤ j) (he : PE X o ta) (hkw : PK X kws tk)
    (hall : (backToKw pos (keywordEach kws X.env)).all (·.1.isSome) = true := by rfl) (hks : (backToKw pos (keywordEach kws X.env)).filterMap (·.1) = ks := by rfl)
    (hpl : ((backTo pos (starEach [] X.env)).any (·.1) || (backToKw pos (keywordEach kws X.env)).any (·.1.isNone)) = false := by rfl)
    (ht : eval (.Call (.Attribute o m apos) [] kws pos) X.env = (do
      let ov ← eval o X.env
      standAt apos.atName
      let (f, first) ← holding [ov] (getMethod ov m pl)
      callWith pos f first (backTo pos (starEach [] X.env)) (backToKw pos (keywordEach kws X.env))) := by rfl) :
    PE X (.Call (.Attribute o m apos) [] kws pos) (tMethK C m ks.length sp gV E0 ta tk) := by
  obtain ⟨f, fd, ps, g, F, hs, hf, kp, hb⟩ := M.ex
  constructor
  intro pins s σ H Q I h
  refine PySem.W.methodCall_KW (pl := pl) (thn (he.run pins s σ H _ I h) fun u s1 hh => ?_) ht
  obtain ⟨y, H1, I1, ry, a, dx, fs, rfl, ea, lk, q⟩ := hh
  obtain rfl : u = Value.ref a := ry
  refine getmeth_ok I1 ea M.cl ⟨hs, hf, kp⟩ lk ?_
  refine PySem.W.callWith_KW0 (first := [.ref a]) (h₀ := X.base) I.ok.mod.kin kp hall (thn (hkw.run pos pins s1 σ H1 _ I1 q) fun ws s2 hh => ?_) hpl
  obtain ⟨zs, H2, I2, rz, l2, q2⟩ := hh
  refine ⟨I2.kIn, ?_⟩
  rw [hks]
  exact run_fnN (us := [.ref a]) (vs := [.ref a]) F (hr.mono hk) hb pass0 I2 (.cons rfl .nil) rz rfl l2 q2
end
/-! ### == and != by an own __eq__, whatever it tells -/
section
variable {prog : Program} {w : World} {A : Around} {E : Value → Shared → Prop} {s : Shared} {K : PySem.W.Frag} {x C f : Addr} {ox : Obj} {od : Option Obj}
open PySem.W PySem.Calls
theorem bound_builtin {M : Model} {name : Str} {id : String} {args : List Value} {Q : Option Value → Shared → Prop} (X : K.In s.heap) (I : InstAt s.heap x ox C od) (hs : findIn K (.ref C) name = some (some (.builtin id)))
    (hb : ∀ self, bindSpecial (.builtin id) self = pure (.builtin id, [self])) (h : wpAny M A (call (.builtin id) (.ref x :: args)) (fun v => Q (some v)) E s) : wpAny M A (callSpecialIfBound? (.ref x) name args) Q E s := by
  have told : wpAny M A (call (.builtin id) ([.ref x] ++ args) >>= fun v => pure (some v)) Q E s := wpAny_bind (wpAny_mono h (fun _ _ z => wpAny_pure z) fun _ _ z => z)
  unfold callSpecialIfBound? bindSpecialIfBound?
  refine wpAny_holding (wpAny_bind (wpAny_bind (wpAny_bind (I.type.here ((looks_findIn X hs).here ?_)))))
  refine wpAny_bind (wpAny_askSetting (wpAny_ite ?_))
  split
  · exact wpAny_bind ((Looks.of_pure (hb _)).here (wpAny_pure (by exact told)))
  · exact wpAny_tryCatch (wpAny_bind ((Looks.of_pure (hb _)).here (wpAny_pure (by exact told))))
open Builtin in
theorem ne_object {b : Value} {Q : Value → Shared → Prop} (hu : A.in1.units < cLine) (X : K.In s.heap) (I : InstAt s.heap x ox C od) (hm : mroIn K C (.type "object") = some true) (hs : findIn K (.ref C) "__eq__" = some (some (.ref f))) (hf : isFn K (.ref f) = true)
    (h : wpAny (model prog w) A.in1 (call (.ref f) [.ref x, b]) (fun v s' => ∃ r, v = .bool r ∧ Q (.bool (!r)) s') E s) : wpAny (model prog w) A (call (.builtin "object.__ne__") [.ref x, b]) Q E s := by
  refine wpAny_call (codeAny_call_builtin PySem.F.slot_object_ne.plain PySem.F.entry_object_ne (check_slot (i := "object.__ne__") (owner := "object") (n := "__ne__") (by decide +kernel) (by decide +kernel) (I.type.andThen (looks_mroIn X hm)) (PySem.F.args_object_ne_2 _ _) ?_))
  unfold Builtin.«object.__ne__»
  refine wpAny_bind (m := slotArgs "__ne__" 1 _) (wpAny_pure ?_)
  refine wpAny_bind (m := cRoomFor _ _) (wpAny_cRoomFor hu ?_)
  refine wpAny_bind (m := callSpecialIfBound? (.ref x) (Str.ofString "__eq__") _) (ifBound_K X I hs hf (wpAny_mono h (fun v s' hv => ?_) fun _ _ z => z))
  obtain ⟨r, rfl, q⟩ := hv
  first
    | exact wpAny_bind (wpAny_pure (wpAny_pure ⟨_, rfl, q⟩))
    | exact wpAny_bind (wpAny_pure (wpAny_pure q))
    | exact wpAny_bind (wpAny_truthy_bool (wpAny_pure ⟨_, rfl, q⟩))
/-- x == b, x != b where b is an object of the same class -/
theorem cmp_same {op : CmpOp} {b : Addr} {Q : Value → Shared → Prop} (hu : A.units < cLine) (I : InstAt s.heap x ox C od) (hb : Looks (model prog w) s.heap (typeOf (.ref b)) (.ref C))
    (h : wpAny (model prog w) A (tryCompare (.ref x) (cmpInfo op).2.1 (.ref b)) (fun r s' => ∃ v, r = some v ∧ Q v s') E s) : wpAny (model prog w) A (richCompare op (.ref x) (.ref b)) Q E s := by
  unfold richCompare
  simp only [oneThing_ref]
  refine wpAny_holding (wpAny_bind (wpAny_cRoomFor hu (wpAny_bind (I.type.here (wpAny_bind (hb.here ?_))))))
  have first_ : wpAny (model prog w) A (tryCompare (.ref x) (cmpInfo op).2.1 (.ref b)) (fun r s' => ∃ v, r = some v ∧ Q v s') E s := h
  split
  · rename_i q
    simp at q
  · refine wpAny_bind (wpAny_pure ?_)
    simp only [Bool.false_eq_true, if_false]
    refine wpAny_bind (wpAny_mono first_ (fun r s' z => ?_) fun _ _ z => z)
    obtain ⟨v, rfl, hq⟩ := z
    exact wpAny_pure hq
end
section
variable {X : Cx} {n : Nat} {C : Addr} {sp : Sp}
/-- the method m of the class at C keeps the promise sp -/
structure OwnE (P : Program) (w : World) (K : PySem.W.Frag) (mg : Str → Option Value) (base : Heap) (n : Nat) (C : Addr) (sp : Sp) : Prop where
  ex : ∃ f fd ps, FnOk P w K mg base CX0 n f fd ps sp ∧ PySem.W.findIn K (.ref C) "__eq__" = some (some (.ref f)) ∧ PySem.W.isFn K (.ref f) = true ∧ Binds K fd ps []
  ne : PySem.W.findIn K (.ref C) "__ne__" = some (some (.builtin "object.__ne__"))
  hm : PySem.W.mroIn K C (.type "object") = some true
def rOwnE (C : Addr) (sp : Sp) (turn : Bool → Bool) : R2 := fun x y H Q => ∃ a b dx dy fs gs, x = .ref a ∧ y = .ref b ∧ H a = some (.ins C dx fs) ∧ H b = some (.ins C dy gs) ∧ sp [.ref a, .ref b] H (fun v H' => ∃ r, v = .bl r ∧ Q (.bl (turn r)) H') E0
theorem run_fn2 {A : Around} {f : Addr} {fd : FuncData} {ps : List Str} {pins : List (Addr × Obj)} {σ : L2.St} {H : Hp} {s : Shared} {vs : List V} {us : List Value} {Q : VK}
    (F : FnOk X.prog X.w X.K X.mg X.base CX0 n f fd ps sp) (hb : Binds X.K fd ps []) (I : Inv X pins σ H s) (hr : Room n A) (fr : A.frames = X.A.frames) (r : Vals vs us) (h : sp vs H Q E0) :
    wpAny (model X.prog X.w) A (call (.ref f) us) (EP X pins σ Q) X.xe s := by
  have e := I.env0
  have e0 : Env0 X.prog X.w X.K X.mg X.base A X.stack s H := ⟨by rw [fr]; exact e.frames, e.mod, e.bs, e.bsz, e.funs, e.frf, e.hok, e.bare⟩
  have hl := F.len _ _ _ _ h
  have bd : BindsTo s fd ⟨us, []⟩ (ps.zip us) := by
    have z := hb s us I.kIn (by rw [List.append_nil, ← r.length]; exact hl)
    rw [List.append_nil] at z
    exact z
  refine wpAny_call (codeAny_mono (F.run A X.stack s H ⟨us, []⟩ us vs Q E0 hr e0 bd r h) fun r s' hq => ?_)
  match r, hq with
  | .error _, hq => exact hq.elim
  | .ok (.ret _), hq => exact I.after hq
  | .ok .next, hq => exact hq.elim
  | .ok .brk, hq => exact hq.elim
  | .ok .cont, hq => exact hq.elim
theorem op_eqB (O : OwnE X.prog X.w X.K X.mg X.base n C sp) (hr : Room n X.A) : OpR X (compareOp .Eq) (rOwnE C sp id) := by
  obtain ⟨f, fd, ps, F, hs, hf, hb⟩ := O.ex
  intro pins s σ H x y v u Q I rx ry h
  obtain ⟨a, b, dx, dy, fs, gs, rfl, rfl, ha, hb', h⟩ := h
  cases rx
  cases ry
  obtain ⟨mA, J, _⟩ := ins_get I.hok ha
  obtain ⟨mB, J', _⟩ := ins_get I.hok hb'
  obtain ⟨od, J, _⟩ := J.look
  obtain ⟨od', J', _⟩ := J'.look
  show wpAny (model X.prog X.w) X.A (richCompare .Eq _ _) _ _ _
  refine cmp_same hr.units0 J J'.type ?_
  unfold tryCompare
  refine wpAny_bind (PySem.W.ifBound_K I.kIn J hs hf (wpAny_mono (run_fn2 (vs := [.ref a, .ref b]) F hb I hr rfl (.cons rfl (.cons rfl .nil)) h) (fun w s' hw => ?_) fun _ _ z => z))
  obtain ⟨z, H', I', rz, r, rfl, q⟩ := hw
  cases rz
  exact wpAny_pure ⟨_, rfl, .bl r, H', I', rfl, q⟩
theorem op_neB (O : OwnE X.prog X.w X.K X.mg X.base n C sp) (hr : Room (n + 1) X.A) : OpR X (compareOp .NotEq) (rOwnE C sp (!·)) := by
  obtain ⟨f, fd, ps, F, hs, hf, hb⟩ := O.ex
  intro pins s σ H x y v u Q I rx ry h
  obtain ⟨a, b, dx, dy, fs, gs, rfl, rfl, ha, hb', h⟩ := h
  cases rx
  cases ry
  obtain ⟨mA, J, _⟩ := ins_get I.hok ha
  obtain ⟨mB, J', _⟩ := ins_get I.hok hb'
  obtain ⟨od, J, _⟩ := J.look
  obtain ⟨od', J', _⟩ := J'.look
  show wpAny (model X.prog X.w) X.A (richCompare .NotEq _ _) _ _ _
  refine cmp_same hr.units0 J J'.type ?_
  unfold tryCompare
  refine wpAny_bind (bound_builtin I.kIn J O.ne PySem.F.slot_object_ne.bind (ne_object (by have := hr.un; show X.A.units + 1 < cLine; omega) I.kIn J O.hm hs hf (wpAny_mono (run_fn2 (vs := [.ref a, .ref b]) F hb I hr.in1 rfl (.cons rfl (.cons rfl .nil)) h) (fun w s' hw => ?_) fun _ _ z => z)))
  obtain ⟨z, H', I', rz, r, rfl, q⟩ := hw
  cases rz
  exact ⟨r, rfl, wpAny_pure ⟨_, rfl, .bl (!r), H', I', rfl, q⟩⟩
end
end My

namespace My
open PySem PySem.Spec PyProof.Rows L2
/-! ### methods that may raise, within a try -/
structure MeX (P : Program) (w : World) (K : PySem.W.Frag) (mg : Str → Option Value) (base : Heap) (k : Nat) (C : Addr) (m : Str) (sp : Sp) : Prop where
  cl : Cls K C
  ex : ∃ f fd ps, FnOk P w K mg base (L2.CX P w) k f fd ps sp ∧ PySem.W.findIn K (.ref C) m = some (some (.ref f)) ∧ PySem.W.isFn K (.ref f) = true ∧ PySem.W.keepIn K (.ref f) = true ∧ Binds K fd ps []
structure MeKX (P : Program) (w : World) (K : PySem.W.Frag) (mg : Str → Option Value) (base : Heap) (k : Nat) (C : Addr) (m : Str) (ks : List Str) (gV : List V → List V → List V) (sp : Sp) : Prop where
  cl : Cls K C
  ex : ∃ f fd ps g, FnOk P w K mg base (L2.CX P w) k f fd ps sp ∧ PySem.W.findIn K (.ref C) m = some (some (.ref f)) ∧ PySem.W.isFn K (.ref f) = true ∧ PySem.W.keepIn K (.ref f) = true ∧ KBn K fd ps 1 ks g gV
def tMethS (C : Addr) (m : Str) (sp : Sp) (E : L2.St → XK) (ta : TE) (t : TA) : TE := fun σ H Q => ta σ H fun x H1 => ∃ a dx fs, x = .ref a ∧ H1 a = some (.ins C dx fs) ∧ fs.lookup m = none ∧ t σ H1 fun vs H2 => sp (x :: vs) H2 Q (E σ)
def tMethKS (C : Addr) (m : Str) (n : Nat) (sp : Sp) (gV : List V → List V → List V) (E : L2.St → XK) (ta : TE) (tk : TA) : TE := fun σ H Q => ta σ H fun x H1 => ∃ a dx fs, x = .ref a ∧ H1 a = some (.ins C dx fs) ∧ fs.lookup m = none ∧ tk σ H1 fun zs H2 => zs.length = n ∧ sp (gV [x] zs) H2 Q (E σ)
section
variable {X : Cx} {k j : Nat} {sp : Sp} {C : Addr} {m : Str} {ks : List Str} {gV : List V → List V → List V} {o e : Expr} {es : List Expr} {kws : List Keyword} {ta : TE} {t tk : TA} {pos apos : Pos} {W : WX}
theorem pe_mtS {pl : Sem Bool} (M : MeX X.prog X.w X.K X.mg X.base k C m sp) (hr : Room j X.A) (hk : k ≤ j) (tw : Takes X W) (he : PE X o ta) (ha : PA X (e :: es) t)
    (hst : starEach (e :: es) X.env = (false, eval e X.env) :: starEach es X.env := by rfl) (hpl : (backTo pos (starEach es X.env)).any (·.1) = false := by rfl)
    (ht : eval (.Call (.Attribute o m apos) (e :: es) [] pos) X.env = (do
      let ov ← eval o X.env
      standAt apos.atName
      let (f, first) ← holding [ov] (getMethod ov m pl)
      callWith pos f first (backTo pos (starEach (e :: es) X.env)) (backToKw pos (keywordEach [] X.env))) := by rfl) :
    PE X (.Call (.Attribute o m apos) (e :: es) [] pos) (tMethS C m sp (WE W) ta t) := by
  obtain ⟨f, fd, ps, F, hs, hf, kp, hb⟩ := M.ex
  constructor
  intro pins s σ H Q I h
  refine PySem.W.methodCall_KW (pl := pl) (thn (he.run pins s σ H _ I h) fun u s1 hh => ?_) ht
  obtain ⟨y, H1, I1, ry, a, dx, fs, rfl, ea, lk, q⟩ := hh
  obtain rfl : u = Value.ref a := ry
  refine getmeth_ok I1 ea M.cl ⟨hs, hf, kp⟩ lk ?_
  refine PySem.W.callWith_K (first := [.ref a]) (h₀ := X.base) I.ok.mod.kin kp (thn (ha.run pos pins s1 σ H1 _ I1 q) fun us s2 hh => ?_) hst hpl
  obtain ⟨vs, H2, I2, r, q2⟩ := hh
  refine ⟨I2.kIn, ?_⟩
  exact run_fnS (E := WE W) (us := .ref a :: us) (vs := .ref a :: vs) F (hr.mono hk) hb (passAt tw σ) I2 (.cons rfl r) q2
theorem pe_mtKS {pl : Sem Bool} (M : MeKX X.prog X.w X.K X.mg X.base k C m ks gV sp) (hr : Room j X.A) (hk : k ≤ j) (tw : Takes X W) (he : PE X o ta) (hkw : PK X kws tk)
    (hall : (backToKw pos (keywordEach kws X.env)).all (·.1.isSome) = true := by rfl) (hks : (backToKw pos (keywordEach kws X.env)).filterMap (·.1) = ks := by rfl)
    (hpl : ((backTo pos (starEach [] X.env)).any (·.1) || (backToKw pos (keywordEach kws X.env)).any (·.1.isNone)) = false := by rfl)
    (ht : eval (.Call (.Attribute o m apos) [] kws pos) X.env = (do
      let ov ← eval o X.env
      standAt apos.atName
      let (f, first) ← holding [ov] (getMethod ov m pl)
      callWith pos f first (backTo pos (starEach [] X.env)) (backToKw pos (keywordEach kws X.env))) := by rfl) :
    PE X (.Call (.Attribute o m apos) [] kws pos) (tMethKS C m ks.length sp gV (WE W) ta tk) := by
  obtain ⟨f, fd, ps, g, F, hs, hf, kp, hb⟩ := M.ex
  constructor
  intro pins s σ H Q I h
  refine PySem.W.methodCall_KW (pl := pl) (thn (he.run pins s σ H _ I h) fun u s1 hh => ?_) ht
  obtain ⟨y, H1, I1, ry, a, dx, fs, rfl, ea, lk, q⟩ := hh
  obtain rfl : u = Value.ref a := ry
  refine getmeth_ok I1 ea M.cl ⟨hs, hf, kp⟩ lk ?_
  refine PySem.W.callWith_KW0 (first := [.ref a]) (h₀ := X.base) I.ok.mod.kin kp hall (thn (hkw.run pos pins s1 σ H1 _ I1 q) fun ws s2 hh => ?_) hpl
  obtain ⟨zs, H2, I2, rz, l2, q2⟩ := hh
  refine ⟨I2.kIn, ?_⟩
  rw [hks]
  have r2 := hb.rel (.cons (show RelV (.ref a) (.ref a) from rfl) .nil) rz
  have bd := hb.to s2 [.ref a] ws I2.kIn rfl (rz.length.symm.trans l2)
  refine wpAny_call (codeAny_mono (F.run X.A X.stack s2 H2 ⟨[.ref a], ks.zip ws⟩ _ _ Q (WE W σ) (hr.mono hk) I2.env0 bd r2 q2) fun r s' hq => ?_)
  match r, hq with
  | .error e, hq => exact passAt tw σ pins H2 s2 e s' I2 hq
  | .ok (.ret _), hq => exact I2.after hq
  | .ok .next, hq => exact hq.elim
  | .ok .brk, hq => exact hq.elim
  | .ok .cont, hq => exact hq.elim
end
end My

namespace My
open PySem PySem.Spec PyProof.Rows L2
def topS (i : Nat) : Stmt := PySem.Challenge.pw_cardlines_k04_lines_had_and_places_moved.main.body.getD i (.Pass ⟨0, 0, 0, 0⟩)
abbrev s_BadPlace_init : Stmt := inClass (topS 1) 0
theorem sc_BadPlace_init : FnScope ["self", "part"] ["self", "part"] (defScope s_BadPlace_init) := ⟨rfl, rfl, rfl, by decide +kernel, rfl, by decide +kernel, by decide +kernel⟩
abbrev s_is_whole : Stmt := topS 5
theorem sc_is_whole : FnScope ["thing"] ["thing"] (defScope s_is_whole) := ⟨rfl, rfl, rfl, by decide +kernel, rfl, by decide +kernel, by decide +kernel⟩
abbrev s_is_number : Stmt := topS 6
theorem sc_is_number : FnScope ["thing", "low", "high"] ["thing", "low", "high"] (defScope s_is_number) := ⟨rfl, rfl, rfl, by decide +kernel, rfl, by decide +kernel, by decide +kernel⟩
abbrev s_wrong_columns : Stmt := topS 9
theorem sc_wrong_columns : FnScope ["begin", "end", "one_line", "low"] ["begin", "end", "one_line"] (defScope s_wrong_columns) := ⟨rfl, rfl, rfl, by decide +kernel, rfl, by decide +kernel, by decide +kernel⟩
abbrev s_wrong_of_nowhere : Stmt := topS 10
theorem sc_wrong_of_nowhere : FnScope ["last", "begin", "end", "word", "thing"] ["last", "begin", "end"] (defScope s_wrong_of_nowhere) := ⟨rfl, rfl, rfl, by decide +kernel, rfl, by decide +kernel, by decide +kernel⟩
abbrev s_wrong_part : Stmt := topS 11
theorem sc_wrong_part : FnScope ["line", "last", "begin", "end"] ["line", "last", "begin", "end"] (defScope s_wrong_part) := ⟨rfl, rfl, rfl, by decide +kernel, rfl, by decide +kernel, by decide +kernel⟩
abbrev s_Place_init : Stmt := inClass (topS 12) 0
theorem sc_Place_init : FnScope ["self", "line", "last", "begin", "end", "part"] ["self", "line", "last", "begin", "end"] (defScope s_Place_init) := ⟨rfl, rfl, rfl, by decide +kernel, rfl, by decide +kernel, by decide +kernel⟩
abbrev s_Place_has : Stmt := inClass (topS 12) 1
theorem sc_Place_has : FnScope ["self", "line"] ["self", "line"] (defScope s_Place_has) := ⟨rfl, rfl, rfl, by decide +kernel, rfl, by decide +kernel, by decide +kernel⟩
abbrev s_Place_moved : Stmt := inClass (topS 12) 2
theorem sc_Place_moved : FnScope ["self", "by"] ["self", "by"] (defScope s_Place_moved) := ⟨rfl, rfl, rfl, by decide +kernel, rfl, by decide +kernel, by decide +kernel⟩
abbrev s_Place_eq : Stmt := inClass (topS 12) 3
theorem sc_Place_eq : FnScope ["self", "other"] ["self", "other"] (defScope s_Place_eq) := ⟨rfl, rfl, rfl, by decide +kernel, rfl, by decide +kernel, by decide +kernel⟩
abbrev s_Place_len : Stmt := inClass (topS 12) 4
theorem sc_Place_len : FnScope ["self"] ["self"] (defScope s_Place_len) := ⟨rfl, rfl, rfl, by decide +kernel, rfl, by decide +kernel, by decide +kernel⟩
abbrev s_Place_str : Stmt := inClass (topS 12) 5
theorem sc_Place_str : FnScope ["self"] ["self"] (defScope s_Place_str) := ⟨rfl, rfl, rfl, by decide +kernel, rfl, by decide +kernel, by decide +kernel⟩
abbrev s_Place_repr : Stmt := inClass (topS 12) 6
theorem sc_Place_repr : FnScope ["self"] ["self"] (defScope s_Place_repr) := ⟨rfl, rfl, rfl, by decide +kernel, rfl, by decide +kernel, by decide +kernel⟩
abbrev s_l_cell_at : Stmt := topS 14
theorem sc_l_cell_at : FnScope ["_law_script", "_law_k"] ["_law_script", "_law_k"] (defScope s_l_cell_at) := ⟨rfl, rfl, rfl, by decide +kernel, rfl, by decide +kernel, by decide +kernel⟩
abbrev s_l_box : Stmt := topS 15
theorem sc_l_box : FnScope ["_law_script", "_law_k", "_law_cell"] ["_law_script", "_law_k"] (defScope s_l_box) := ⟨rfl, rfl, rfl, by decide +kernel, rfl, by decide +kernel, by decide +kernel⟩
abbrev s_l_take : Stmt := topS 16
theorem sc_l_take : FnScope ["_law_box_here", "_law_many", "_law_found", "_law_once", "_law_twice"] ["_law_box_here", "_law_many"] (defScope s_l_take) := ⟨rfl, rfl, rfl, by decide +kernel, rfl, by decide +kernel, by decide +kernel⟩
abbrev s_l_spot : Stmt := topS 17
theorem sc_l_spot : FnScope ["_law_box_here", "_law_wide", "_law_way", "_law_first", "_law_left", "_law_below"] ["_law_box_here", "_law_wide"] (defScope s_l_spot) := ⟨rfl, rfl, rfl, by decide +kernel, rfl, by decide +kernel, by decide +kernel⟩
abbrev s_l_place : Stmt := topS 18
theorem sc_l_place : FnScope ["_law_spot_here"] ["_law_spot_here"] (defScope s_l_place) := ⟨rfl, rfl, rfl, by decide +kernel, rfl, by decide +kernel, by decide +kernel⟩
abbrev s_l_same : Stmt := topS 19
theorem sc_l_same : FnScope ["_law_found", "_law_due_here", "_law_one", "_law_two"] ["_law_found", "_law_due_here"] (defScope s_l_same) := ⟨rfl, rfl, rfl, by decide +kernel, rfl, by decide +kernel, by decide +kernel⟩
abbrev s_l_seen : Stmt := topS 20
theorem sc_l_seen : FnScope ["_law_place_here"] ["_law_place_here"] (defScope s_l_seen) := ⟨rfl, rfl, rfl, by decide +kernel, rfl, by decide +kernel, by decide +kernel⟩
abbrev s_l_far : Stmt := topS 21
theorem sc_l_far : FnScope ["_law_box_here", "_law_spot_here", "_law_low", "_law_high", "_law_some"] ["_law_box_here", "_law_spot_here"] (defScope s_l_far) := ⟨rfl, rfl, rfl, by decide +kernel, rfl, by decide +kernel, by decide +kernel⟩
abbrev s_l_told : Stmt := topS 22
theorem sc_l_told : FnScope ["_law_box_here", "_law_place_here", "_law_far_here", "_law_caught", "_law_found", "error"] ["_law_box_here", "_law_place_here", "_law_far_here"] (defScope s_l_told) := ⟨rfl, rfl, rfl, by decide +kernel, rfl, by decide +kernel, by decide +kernel⟩
abbrev s_l_due : Stmt := topS 23
theorem sc_l_due : FnScope ["_law_spot_here", "_law_far_here"] ["_law_spot_here", "_law_far_here"] (defScope s_l_due) := ⟨rfl, rfl, rfl, by decide +kernel, rfl, by decide +kernel, by decide +kernel⟩
abbrev s_l_has_right : Stmt := topS 24
theorem sc_l_has_right : FnScope ["_law_box_here", "_law_place_here", "_law_spot_here", "_law_low", "_law_high", "_law_some", "_law_number"] ["_law_box_here", "_law_place_here", "_law_spot_here"] (defScope s_l_has_right) := ⟨rfl, rfl, rfl, by decide +kernel, rfl, by decide +kernel, by decide +kernel⟩
abbrev s_law : Stmt := topS 25
theorem sc_law : FnScope ["_law_script", "_law_k", "_law_box_here", "_law_wide", "_law_spot_here", "_law_place_here", "_law_far_here", "_law_due_here"] ["_law_script"] (defScope s_law) := ⟨rfl, rfl, rfl, by decide +kernel, rfl, by decide +kernel, by decide +kernel⟩

/-! ### calls by a bundle -/
/-- the def x of the text, as it is called by place: its promise sp, level k -/
structure Cal (P : Program) (w : World) (K : PySem.W.Frag) (mg : Str → Option Value) (base : Heap) (k : Nat) (x : Str) (ps : List Str) (sp : Sp) : Prop where
  ex : ∃ f fd, FnOk P w K mg base CX0 k f fd ps sp ∧ mg x = some (.ref f) ∧ PySem.W.keepIn K (.ref f) = true ∧ Binds K fd ps []
/-- the same by names alone -/
structure CalK (P : Program) (w : World) (K : PySem.W.Frag) (mg : Str → Option Value) (base : Heap) (k : Nat) (x : Str) (ks ps : List Str) (gV : List V → List V → List V) (sp : Sp) : Prop where
  ex : ∃ f fd g, FnOk P w K mg base CX0 k f fd ps sp ∧ mg x = some (.ref f) ∧ PySem.W.keepIn K (.ref f) = true ∧ KBn K fd ps 0 ks g gV
section
variable {X : Cx} {k j : Nat} {ps ks : List Str} {sp : Sp} {x : Str} {p pos : Pos} {e : Expr} {es : List Expr} {kws : List Keyword} {t tk : TA} {gV : List V → List V → List V}
theorem pe_c (C : Cal X.prog X.w X.K X.mg X.base k x ps sp) (hr : Room j X.A) (hk : k ≤ j) (hg : Gl X x) (ha : PA X (e :: es) t) (hdb : (x == ("__debug__" : Str)) = false := by decide)
    (he : starEach (e :: es) X.env = (false, eval e X.env) :: starEach es X.env := by rfl) (hpl : (backTo pos (starEach es X.env)).any (·.1) = false := by rfl) :
    PE X (.Call (.Name x p) (e :: es) [] pos) (tCall sp [] E0 t) := by
  obtain ⟨f, fd, F, hm, hkp, hb⟩ := C.ex
  exact pe_call F (hr.mono hk) hg hm hkp hb .nil pass0 ha hdb he hpl
theorem pe_ck0 (C : CalK X.prog X.w X.K X.mg X.base k x ks ps gV sp) (hr : Room j X.A) (hk : k ≤ j) (hg : Gl X x) (hkw : PK X kws tk)
    (hall : (backToKw pos (keywordEach kws X.env)).all (·.1.isSome) = true := by rfl) (hks : (backToKw pos (keywordEach kws X.env)).filterMap (·.1) = ks := by rfl) (hdb : (x == ("__debug__" : Str)) = false := by decide)
    (hpl : ((backTo pos (starEach [] X.env)).any (·.1) || (backToKw pos (keywordEach kws X.env)).any (·.1.isNone)) = false := by rfl) :
    PE X (.Call (.Name x p) [] kws pos) (tCallN 0 ks.length sp gV E0 tNil tk) := by
  obtain ⟨f, fd, g, F, hm, hkp, hb⟩ := C.ex
  refine ⟨fun pins s σ H Q I h => ?_⟩
  refine wpAny_Call_Name_kw (ld_glob I hg hm ?_ hdb)
  refine PySem.W.callWith_KW0 (h₀ := X.base) I.ok.mod.kin hkp hall ?_ hpl
  refine thn (hkw.run pos pins s σ H _ I h) fun ws s2 ⟨zs, H2, I2, rz, l1, l2, q2⟩ => ⟨I2.kIn, ?_⟩
  rw [hks]
  exact run_fnN (us := []) (vs := []) F (hr.mono hk) hb pass0 I2 .nil rz rfl l2 q2
end
def sw2 {α : Type} : List α → List α
  | [a, b] => [b, a]
  | l => l
theorem vals_sw2 : ∀ {zs : List V} {ws : List Value}, Vals zs ws → Vals (sw2 zs) (sw2 ws)
  | _, _, .nil => .nil
  | _, _, .cons a .nil => .cons a .nil
  | _, _, .cons a (.cons b .nil) => .cons b (.cons a .nil)
  | _, _, .cons a (.cons b (.cons c d)) => .cons a (.cons b (.cons c d))

/-! ### heaps -/
theorem same_upd {H : Hp} {p : Addr} {o : HO} (h : H p = none) : Same H (upd H p o) := fun b x e => by
  rw [upd_ne (ne_of_none e h)]
  exact e
theorem sameT {K : PySem.W.Frag} {H H' : Hp} {a : Addr} {xs : List V} (e : Same H H') (h : SqT K H a xs) : SqT K H' a xs := by
  rcases h with (h | ⟨o, h⟩) | h
  · exact .inl (.inl (e _ _ h))
  · exact .inl (.inr ⟨o, e _ _ h⟩)
  · exact .inr h
/-- all but what stands at b is as it was -/
def But (b : Addr) (H H' : Hp) : Prop := ∀ a o, a ≠ b → H a = some o → H' a = some o
theorem But.trans {b : Addr} {H H1 H2 : Hp} (u : But b H H1) (v : But b H1 H2) : But b H H2 := fun a o n h => v a o n (u a o n h)
theorem Same.but {b : Addr} {H H' : Hp} (u : Same H H') : But b H H' := fun a o _ h => u a o h
theorem But.upd {b : Addr} {H : Hp} {o : HO} : But b H (upd H b o) := fun a x n h => by
  rw [upd_ne n]
  exact h
theorem sqT {K : PySem.W.Frag} {H : Hp} {a : Addr} {xs : List V} (h : H a = some (.tup xs)) : SqT K H a xs := .inl (.inl h)
theorem sqL {K : PySem.W.Frag} {H : Hp} {a : Addr} {xs : List V} (h : H a = some (.lst xs)) : SqL K H a xs := .inl (.inl h)
theorem line_ge {n : Nat} (h : n ≤ 100000) : n ≤ sizeLine := Nat.le_trans h (by decide)
theorem line_gt {n : Nat} (h : n ≤ 100000) : n < sizeLine := Nat.lt_of_le_of_lt h (by decide)

/-! ### data at any depth stays where the heap only grows -/
mutual
theorem dp_same {K : PySem.W.Frag} {H H' : Hp} (e : Same H H') : ∀ (d : PyData) (v : V), Dp K H v d → Dp K H' v d
  | .none, _, h => by cases h; exact .non
  | .bool b, _, h => by cases h; exact .bl b
  | .int i, _, h => by cases h; exact .int i
  | .str x, _, h => by cases h; exact .str x
  | .list ds, _, h => by cases h with | lst hs ha => exact .lst (e.seq hs) (dpAll_same e ds _ ha)
  | .tuple ds, _, h => by cases h with | tup hs ha => exact .tup (sameT e hs) (dpAll_same e ds _ ha)
  | .dict _, _, h => by cases h
theorem dpAll_same {K : PySem.W.Frag} {H H' : Hp} (e : Same H H') : ∀ (ds : List PyData) (vs : List V), DpAll K H vs ds → DpAll K H' vs ds
  | [], _, h => by cases h; exact .nil
  | d :: ds, _, h => by cases h with | cons a b => exact .cons (dp_same e d _ a) (dpAll_same e ds _ b)
end
theorem dp_ints {K : PySem.W.Frag} {H : Hp} : ∀ ns : List Int, DpAll K H (ns.map V.int) (ns.map PyData.int)
  | [] => .nil
  | n :: ns => .cons (.int n) (dp_ints ns)

/-! ### the box of a law: three numbers, the third how often it was asked -/
def BoxL (n : Nat) (xs : List V) : Prop := ∃ x y c : Int, xs = [.int x, .int y, .int c] ∧ 0 ≤ y ∧ y < 2 ^ 62 ∧ 0 ≤ c ∧ c ≤ (n : Int)
def Bx (n : Nat) (b : Addr) (H : Hp) : Prop := ∃ xs, H b = some (.lst xs) ∧ BoxL n xs
theorem Bx.mono {n m : Nat} {b : Addr} {H : Hp} (h : Bx n b H) (l : n ≤ m) : Bx m b H := by
  obtain ⟨xs, e, x, y, c, r, h1, h2, h3, h4⟩ := h
  exact ⟨xs, e, x, y, c, r, h1, h2, h3, by omega⟩
theorem Bx.same {n : Nat} {b : Addr} {H H' : Hp} (h : Bx n b H) (s : Same H H') : Bx n b H' := by
  obtain ⟨xs, e, r⟩ := h
  exact ⟨xs, s _ _ e, r⟩
theorem Bx.ne {n : Nat} {b p : Addr} {H : Hp} (h : Bx n b H) (e : H p = none) : p ≠ b := by
  obtain ⟨xs, z, _⟩ := h
  exact (ne_of_none z e).symm
theorem Bx.new {n : Nat} {b p : Addr} {H : Hp} {o : HO} (h : Bx n b H) (e : H p = none) : Bx n b (upd H p o) := h.same (same_upd e)
/-- behind some asks of the box: it stands with at most n, all else as it was -/
structure Aft (b : Addr) (n : Nat) (H H' : Hp) : Prop where
  box : Bx n b H'
  but : But b H H'
theorem Aft.trans {b : Addr} {n m : Nat} {H H1 H2 : Hp} (u : Aft b n H H1) (v : Aft b m H1 H2) : Aft b m H H2 := ⟨v.box, u.but.trans v.but⟩
theorem Aft.same {b : Addr} {n : Nat} {H H1 H2 : Hp} (u : Aft b n H H1) (v : Same H1 H2) : Aft b n H H2 := ⟨u.box.same v, u.but.trans (Same.but v)⟩
theorem Aft.new {b p : Addr} {n : Nat} {H H1 : Hp} {o : HO} (u : Aft b n H H1) (v : H1 p = none) : Aft b n H (upd H1 p o) := u.same (same_upd v)
theorem Aft.mono {b : Addr} {n m : Nat} {H H1 : Hp} (u : Aft b n H H1) (l : n ≤ m) : Aft b m H H1 := ⟨u.box.mono l, u.but⟩
theorem Aft.get {b a : Addr} {n : Nat} {H H' : Hp} {o : HO} (u : Aft b n H H') (h : H a = some o) (ne : a ≠ b) : H' a = some o := u.but a o ne h
theorem Aft.free {b p : Addr} {n m : Nat} {H H' : Hp} (u : Aft b n H H') (h : H' p = none) (hb : Bx m b H) : H p = none := by
  cases q : H p with
  | none => rfl
  | some o =>
    by_cases e : p = b
    · subst e
      obtain ⟨xs, z, _⟩ := u.box
      rw [h] at z
      cases z
    · rw [u.but p o e q] at h
      cases h

/-! ### places -/
/-- columns that are so, of one line or of several -/
def Cols (one : Bool) (bg en : V) : Prop := (one = true ∧ bg = .non ∧ en = .non) ∨ ∃ b e : Int, bg = .int b ∧ en = .int e ∧ 0 ≤ b ∧ b ≤ 10000 ∧ (one = true → b ≤ e) ∧ 0 ≤ e ∧ e ≤ 10000
/-- arguments of which a Place can be made -/
def Good (ln la bg en : V) : Prop := (ln = .non ∧ la = .non ∧ bg = .non ∧ en = .non) ∨ ∃ l : Int, ln = .int l ∧ 1 ≤ l ∧ l ≤ 1000000 ∧ ((la = .non ∧ Cols true bg en) ∨ ∃ m : Int, la = .int m ∧ l ≤ m ∧ m ≤ l + 99 ∧ m ≤ 1000000 ∧ Cols (decide (m = l)) bg en)
/-- what last comes to -/
def lastOf (ln la : V) : V := if la = .non then ln else la
def fsOf (ln la bg en : V) : List (Str × V) := [("line", ln), ("last", lastOf ln la), ("begin", bg), ("end", en)]
def spNum : Sp := fun vs H Q _ => ∃ (t : V) (lo hi : Int), vs = [t, .int lo, .int hi] ∧ ((∃ i : Int, t = .int i ∧ Q (.bl (decide (lo ≤ i ∧ i ≤ hi))) H) ∨ (t = .non ∧ Q (.bl false) H))
def spCols : Sp := fun vs H Q _ => ∃ (bg en : V) (one : Bool), vs = [bg, en, .bl one] ∧ Cols one bg en ∧ Q .non H
def spNow : Sp := fun vs H Q _ => vs = [.non, .non, .non] ∧ ∀ H', Same H H' → Q .non H'
def spPart : Sp := fun vs H Q _ => ∃ ln la bg en : V, vs = [ln, la, bg, en] ∧ Good ln la bg en ∧ ∀ H', Same H H' → Q .non H'
section
variable {P : Program} {w : World} {K : PySem.W.Frag} {mg : Str → Option Value} {base : Heap}
def spWhole : Sp := fun vs H Q _ => ∃ t : V, vs = [t] ∧ ((∃ i : Int, t = .int i ∧ Q (.bl true) H) ∨ (t = .non ∧ Q (.bl false) H))
theorem ok_is_whole {f : Addr} {fd : FuncData} (F : Fun K "is_whole" "is_whole" s_is_whole f fd) (z_isinstance : mg "isinstance" = none) (z_int : mg "int" = none) (z_bool : mg "bool" = none) : FnOk P w K mg base CX0 1 f fd ["thing"] spWhole := by
  refine F.ok sc_is_whole (fun vs H Q E h => ?_) (fun cdv A outer s H vs Q E hr h => ?_)
  · obtain ⟨t, rfl, _⟩ := h
    rfl
  · obtain ⟨t, rfl, h⟩ := h
    refine ⟨_, (pss_one (ps_ret (pe_and (pe_callB (call_isi) (by rfl) z_isinstance (by decide +kernel) (pa_cons (pv 0) (pa_cons (pe_bltn (v := .ty "int") (by rfl) z_int (by decide +kernel) rfl) pa_nil))) (pe_one (pe_not (pe_callB (call_isi) (by rfl) z_isinstance (by decide +kernel) (pa_cons (pv 0) (pa_cons (pe_bltn (v := .ty "bool") (by rfl) z_bool (by decide +kernel) rfl) pa_nil)))))))), ?_⟩
    rcases h with ⟨i, rfl, q⟩ | ⟨rfl, q⟩
    · refine ⟨_, rfl, _, _, _, _, _, rfl, .ty _, .base (.int i), kit_ty (by decide +kernel : kitB "int" "int" = some true), _, rfl, iteT ?_⟩
      exact ⟨_, rfl, _, _, _, _, _, rfl, .ty _, .base (.int i), kit_ty (by decide +kernel : kitB "int" "bool" = some false), _, rfl, q⟩
    · exact ⟨_, rfl, _, _, _, _, _, rfl, .ty _, .base .non, kit_ty (by decide +kernel : kitB "NoneType" "int" = some false), _, rfl, iteF q⟩
theorem ok_is_number {f : Addr} {fd : FuncData} (F : Fun K "is_number" "is_number" s_is_number f fd) (c_is_whole : Cal P w K mg base 1 "is_whole" ["thing"] spWhole) : FnOk P w K mg base CX0 2 f fd ["thing", "low", "high"] spNum := by
  refine F.ok sc_is_number (fun vs H Q E h => ?_) (fun cdv A outer s H vs Q E hr h => ?_)
  · obtain ⟨t, lo, hi, rfl, _⟩ := h
    rfl
  · obtain ⟨t, lo, hi, rfl, h⟩ := h
    refine ⟨_, (pss_one (ps_ret (pe_and (pe_c c_is_whole hr (by first | decide | exact Nat.le_refl _) (by rfl) (pa_cons (pv 0) pa_nil)) (pe_one (pe_chain (op_le) (op_le) (pv 1) (pv 0) (pv 2)))))), ?_⟩
    rcases h with ⟨i, rfl, q⟩ | ⟨rfl, q⟩
    · refine ⟨_, rfl, _, rfl, .inl ⟨i, rfl, ?_⟩⟩
      refine ⟨_, rfl, iteT ?_⟩
      refine ⟨_, rfl, _, rfl, _, _, rfl, rfl, _, rfl, ite2 (fun c => ?_) (fun c => ?_)⟩
      · have c' : lo ≤ i := of_decide_eq_true c
        refine ⟨_, rfl, _, _, rfl, rfl, ?_⟩
        have e : decide (lo ≤ i ∧ i ≤ hi) = decide (i ≤ hi) := by
          by_cases h : i ≤ hi
          · rw [decide_eq_true h, decide_eq_true ⟨c', h⟩]
          · rw [decide_eq_false h, decide_eq_false fun z => h z.2]
        rw [e] at q
        exact q
      · have c' : ¬ lo ≤ i := fun h => c (decide_eq_true h)
        rw [decide_eq_false fun z => c' z.1] at q
        exact q
    · exact ⟨_, rfl, _, rfl, .inr ⟨rfl, _, rfl, iteF q⟩⟩
theorem ok_wrong_columns {f : Addr} {fd : FuncData} (F : Fun K "wrong_columns" "wrong_columns" s_wrong_columns f fd) {tC : Nat} (g_LAST_COLUMN : mg "LAST_COLUMN" = some (.int 10000 tC)) (c_is_number : Cal P w K mg base 2 "is_number" ["thing", "low", "high"] spNum) : FnOk P w K mg base CX0 3 f fd ["begin", "end", "one_line"] spCols := by
  refine F.ok sc_wrong_columns (fun vs H Q E h => ?_) (fun cdv A outer s H vs Q E hr h => ?_)
  · obtain ⟨bg, en, one, rfl, _⟩ := h
    rfl
  · obtain ⟨bg, en, one, rfl, hC, q⟩ := h
    refine ⟨_, (pss_cons (ps_if (PW.pt (pw_and (pt_cmpR (op_isN) (pv 0) (pe_non) (nomark _)) (pw_and1 (pt_val (pv 2))))) (pss_one (ps_ret (pe_ifExp (pt_cmpR (op_isN) (pv 1) (pe_non) (nomark _)) (pe_non) (pe_str)))) pss_nil)
      (pss_cons (ps_if (pt_not (pt_val (pe_c c_is_number hr (by first | decide | exact Nat.le_refl _) (by rfl) (pa_cons (pv 0) (pa_cons (pe_int) (pa_cons (pe_glob (v := .int 10000) (by rfl) g_LAST_COLUMN ⟨_, rfl⟩) pa_nil)))))) (pss_one (ps_ret (pe_str))) pss_nil)
      (pss_cons (ps_set (i := 3) sc_wrong_columns.nd rfl (Or.inl rfl) (pe_ifExp (pt_val (pv 2)) (pv 0) (pe_int)))
      (pss_one (ps_ret (pe_ifExp (pt_val (pe_c c_is_number hr (by first | decide | exact Nat.le_refl _) (by rfl) (pa_cons (pv 1) (pa_cons (pv 3) (pa_cons (pe_glob (v := .int 10000) (by rfl) g_LAST_COLUMN ⟨_, rfl⟩) pa_nil))))) (pe_non) (pe_str))))))), ?_⟩
    rcases hC with ⟨rfl, rfl, rfl⟩ | ⟨b, e, rfl, rfl, b0, b1, be, e0, e1⟩
    · refine ⟨_, rfl, rfl, _, rfl, iteT ⟨_, rfl, _, rfl, iteT ?_⟩⟩
      exact ⟨_, rfl, rfl, _, rfl, iteT q⟩
    · refine ⟨_, rfl, rfl, _, rfl, iteF (iteF ?_)⟩
      refine ⟨_, rfl, _, _, _, rfl, .inl ⟨b, rfl, _, rfl, ?_⟩⟩
      rw [decide_eq_true (show (0 : Int) ≤ b ∧ b ≤ 10000 from ⟨b0, b1⟩)]
      refine iteF ?_
      cases one with
      | true =>
        refine ⟨_, rfl, _, rfl, iteT ⟨_, rfl, ?_⟩⟩
        refine ⟨_, rfl, _, rfl, _, _, _, rfl, .inl ⟨e, rfl, _, rfl, ?_⟩⟩
        rw [decide_eq_true (show b ≤ e ∧ e ≤ 10000 from ⟨be rfl, e1⟩)]
        exact iteT q
      | false =>
        refine ⟨_, rfl, _, rfl, iteF ?_⟩
        refine ⟨_, rfl, _, rfl, _, _, _, rfl, .inl ⟨e, rfl, _, rfl, ?_⟩⟩
        rw [decide_eq_true (show (0 : Int) ≤ e ∧ e ≤ 10000 from ⟨e0, e1⟩)]
        exact iteT q
theorem ok_wrong_of_nowhere {f : Addr} {fd : FuncData} (F : Fun K "wrong_of_nowhere" "wrong_of_nowhere" s_wrong_of_nowhere f fd) : FnOk P w K mg base CX0 2 f fd ["last", "begin", "end"] spNow := by
  refine F.ok sc_wrong_of_nowhere (fun vs H Q E h => ?_) (fun cdv A outer s H vs Q E hr h => ?_)
  · obtain ⟨rfl, _⟩ := h
    rfl
  · obtain ⟨rfl, q⟩ := h
    refine ⟨_, (pss_cons (ps_for PassesOwn.never rfl (pi_tup (pe_tup (pa_cons (pe_tup (pa_cons (pe_str) (pa_cons (pv 0) pa_nil))) (pa_cons (pe_tup (pa_cons (pe_str) (pa_cons (pv 1) pa_nil))) (pa_cons (pe_tup (pa_cons (pe_str) (pa_cons (pv 2) pa_nil))) pa_nil))))) (pg_tup rfl (pgs_cons (pg_name (i := 3) sc_wrong_of_nowhere.nd rfl (Or.inl rfl)) (pgs_cons (pg_name (i := 4) sc_wrong_of_nowhere.nd rfl (Or.inl rfl)) pgs_nil))) (pss_one (ps_if (pt_cmpR (op_notN) (pv 4) (pe_non) (nomark _)) (pss_one (ps_ret (pv 3))) pss_nil)))
      (pss_one (ps_ret (pe_non)))), ?_⟩
    refine ⟨_, rfl, (by show 2 ≤ sizeLine; decide), fun t1 n1 => ⟨_, rfl, (by show 2 ≤ sizeLine; decide), fun t2 n2 => ⟨_, rfl, (by show 2 ≤ sizeLine; decide), fun t3 n3 => ⟨(by show 3 ≤ sizeLine; decide), fun tt ntt => ?_⟩⟩⟩⟩
    have s1 := same_upd (o := .tup [.str "last", .non]) n1
    have s2 := same_upd (o := .tup [.str "begin", .non]) n2
    have s3 := same_upd (o := .tup [.str "end", .non]) n3
    have s4 := same_upd (o := .tup [.ref t1, .ref t2, .ref t3]) ntt
    have e1 := ((s2.trans s3).trans s4) _ _ (upd_same : upd H t1 (.tup [.str "last", .non]) t1 = _)
    have e2 := (s3.trans s4) _ _ (upd_same : upd (upd H t1 (.tup [.str "last", .non])) t2 (.tup [.str "begin", .non]) t2 = _)
    have e3 := s4 _ _ (upd_same : upd (upd (upd H t1 (.tup [.str "last", .non])) t2 (.tup [.str "begin", .non])) t3 (.tup [.str "end", .non]) t3 = _)
    have e4 : upd (upd (upd (upd H t1 (.tup [.str "last", .non])) t2 (.tup [.str "begin", .non])) t3 (.tup [.str "end", .non])) tt (.tup [.ref t1, .ref t2, .ref t3]) tt = some (.tup [.ref t1, .ref t2, .ref t3]) := upd_same
    have S := ((s1.trans s2).trans s3).trans s4
    generalize upd (upd (upd (upd H t1 (.tup [.str "last", .non])) t2 (.tup [.str "begin", .non])) t3 (.tup [.str "end", .non])) tt (.tup [.ref t1, .ref t2, .ref t3]) = H4 at e1 e2 e3 e4 S
    refine ⟨tt, rfl, ⟨_, sqT e4⟩, ?_⟩
    refine for_tup (K := K) (a := tt) (xs := [.ref t1, .ref t2, .ref t3]) (fun i σ H' => H' = H4 ∧ ∃ y3 y4, σ = [some .non, some .non, some .non, y3, y4]) ⟨rfl, none, none, rfl⟩ (fun i σ H' _ h => by rw [h.1]; exact sqT e4) ?_ ?_
    · rintro i x σ H' hx ⟨rfl, y3, y4, rfl⟩
      have hx' : ∃ (t : Addr) (z : Str), x = .ref t ∧ H' t = some (.tup [.str z, .non]) := by
        match i, hx with
        | 0, hx => cases hx; exact ⟨t1, _, rfl, e1⟩
        | 1, hx => cases hx; exact ⟨t2, _, rfl, e2⟩
        | 2, hx => cases hx; exact ⟨t3, _, rfl, e3⟩
      obtain ⟨t, z, rfl, et⟩ := hx'
      exact ⟨t, _, rfl, sqT et, rfl, _, _, rfl, _, _, rfl, rfl, _, rfl, rfl, _, rfl, iteF ⟨rfl, _, _, rfl⟩⟩
    · rintro σ H' ⟨rfl, y3, y4, rfl⟩
      exact q _ S
theorem ok_wrong_part {f : Addr} {fd : FuncData} (F : Fun K "wrong_part" "wrong_part" s_wrong_part f fd) {tL tM : Nat} (g_LAST_LINE : mg "LAST_LINE" = some (.int 1000000 tL)) (g_MOST_LINES_BEHIND : mg "MOST_LINES_BEHIND" = some (.int 99 tM)) (z_min : mg "min" = none)
    (c_is_number : Cal P w K mg base 2 "is_number" ["thing", "low", "high"] spNum) (c_wrong_columns : Cal P w K mg base 3 "wrong_columns" ["begin", "end", "one_line"] spCols) (c_wrong_of_nowhere : Cal P w K mg base 2 "wrong_of_nowhere" ["last", "begin", "end"] spNow) : FnOk P w K mg base CX0 4 f fd ["line", "last", "begin", "end"] spPart := by
  refine F.ok sc_wrong_part (fun vs H Q E h => ?_) (fun cdv A outer s H vs Q E hr h => ?_)
  · obtain ⟨ln, la, bg, en, rfl, _⟩ := h
    rfl
  · obtain ⟨ln, la, bg, en, rfl, hG, q⟩ := h
    refine ⟨_, (pss_cons (ps_if (pt_cmpR (op_isN) (pv 0) (pe_non) (nomark _)) (pss_one (ps_ret (pe_c c_wrong_of_nowhere hr (by first | decide | exact Nat.le_refl _) (by rfl) (pa_cons (pv 1) (pa_cons (pv 2) (pa_cons (pv 3) pa_nil)))))) pss_nil)
      (pss_cons (ps_if (pt_not (pt_val (pe_c c_is_number hr (by first | decide | exact Nat.le_refl _) (by rfl) (pa_cons (pv 0) (pa_cons (pe_int) (pa_cons (pe_glob (v := .int 1000000) (by rfl) g_LAST_LINE ⟨_, rfl⟩) pa_nil)))))) (pss_one (ps_ret (pe_str))) pss_nil)
      (pss_cons (ps_if (pt_cmpR (op_isN) (pv 1) (pe_non) (nomark _)) (pss_one (ps_ret (pe_c c_wrong_columns hr (by first | decide | exact Nat.le_refl _) (by rfl) (pa_cons (pv 2) (pa_cons (pv 3) (pa_cons (pe_bl) pa_nil)))))) pss_nil)
      (pss_cons (ps_if (pt_not (pt_val (pe_c c_is_number hr (by first | decide | exact Nat.le_refl _) (by rfl) (pa_cons (pv 1) (pa_cons (pv 0) (pa_cons (pe_callB (call_min2 rfl) (by rfl) z_min (by decide +kernel) (pa_cons (pe_op op_add (pv 0) (pe_glob (v := .int 99) (by rfl) g_MOST_LINES_BEHIND ⟨_, rfl⟩)) (pa_cons (pe_glob (v := .int 1000000) (by rfl) g_LAST_LINE ⟨_, rfl⟩) pa_nil))) pa_nil)))))) (pss_one (ps_ret (pe_str))) pss_nil)
      (pss_one (ps_ret (pe_c c_wrong_columns hr (by first | decide | exact Nat.le_refl _) (by rfl) (pa_cons (pv 2) (pa_cons (pv 3) (pa_cons (pe_cmpR (op_eq) (pv 1) (pv 0) (nomark _)) pa_nil)))))))))), ?_⟩
    rcases hG with ⟨rfl, rfl, rfl, rfl⟩ | ⟨l, rfl, l1, l2, hG⟩
    · exact ⟨_, rfl, rfl, _, rfl, iteT ⟨_, rfl, _, rfl, _, rfl, rfl, q⟩⟩
    · refine ⟨_, rfl, rfl, _, rfl, iteF ?_⟩
      refine ⟨_, rfl, _, _, _, rfl, .inl ⟨l, rfl, _, rfl, ?_⟩⟩
      rw [decide_eq_true (show (1 : Int) ≤ l ∧ l ≤ 1000000 from ⟨l1, l2⟩)]
      refine iteF ?_
      rcases hG with ⟨rfl, hC⟩ | ⟨m, rfl, m1, m2, m3, hC⟩
      · exact ⟨_, rfl, rfl, _, rfl, iteT ⟨_, rfl, _, rfl, _, _, true, rfl, hC, q _ (Same.refl _)⟩⟩
      · refine ⟨_, rfl, rfl, _, rfl, iteF ?_⟩
        refine ⟨_, rfl, _, rfl, _, rfl, _, _, rfl, rfl, _, _, rfl, _, _, _, rfl, .inl ⟨m, rfl, _, rfl, ?_⟩⟩
        rw [decide_eq_true (show l ≤ m ∧ m ≤ (if (1000000 : Int) < l + 99 then 1000000 else l + 99) by
          refine ⟨m1, ?_⟩
          split <;> omega)]
        refine iteF ?_
        refine ⟨_, rfl, _, rfl, _, rfl, _, rfl, rfl, _, _, decide (m = l), ?_, hC, q _ (Same.refl _)⟩
        show [bg, en, V.bl (decide (V.int m = V.int l))] = [bg, en, V.bl (decide (m = l))]
        rw [show decide (V.int m = V.int l) = decide (m = l) by
          by_cases h : m = l
          · rw [h, decide_eq_true rfl, decide_eq_true rfl]
          · rw [decide_eq_false h, decide_eq_false fun z => h (V.int.inj z)]]
end
end My

namespace My
open PySem PySem.Spec PyProof.Rows L2
/-- what the walk asks of the class Place, at C -/
structure PlT (K : PySem.W.Frag) (mg : Str → Option Value) (C : Addr) : Prop where
  cl : Cls K C
  nLine : NoAttr K C "line"
  nLast : NoAttr K C "last"
  nBegin : NoAttr K C "begin"
  nEnd : NoAttr K C "end"
def spInit (C : Addr) : Sp := fun vs H Q _ => ∃ (x dx : Addr) (ln la bg en : V), vs = [.ref x, ln, la, bg, en] ∧ H x = some (.ins C dx []) ∧ Good ln la bg en ∧ ∀ H', (∀ a o, a ≠ x → H a = some o → H' a = some o) → H' x = some (.ins C dx (fsOf ln la bg en)) → Q .non H'
section
variable {P : Program} {w : World} {K : PySem.W.Frag} {mg : Str → Option Value} {base : Heap}
abbrev FInit (K : PySem.W.Frag) (f : Addr) (fd : FuncData) : Prop := FunD K "__init__" "Place.__init__" (defArgs s_Place_init) (defBody s_Place_init) (defScope s_Place_init) [.non, .non] [("begin", .non), ("end", .non)] f fd
theorem ok_Place_init {f C : Addr} {fd : FuncData} (F : FInit K f fd) (T : PlT K mg C) (c_wrong_part : Cal P w K mg base 4 "wrong_part" ["line", "last", "begin", "end"] spPart) : FnOk P w K mg base CX0 5 f fd ["self", "line", "last", "begin", "end"] (spInit C) := by
  refine F.ok sc_Place_init (fun vs H Q E h => ?_) (fun cdv A outer s H vs Q E hr h => ?_)
  · obtain ⟨x, dx, ln, la, bg, en, rfl, _⟩ := h
    rfl
  · obtain ⟨x, dx, ln, la, bg, en, rfl, hx, hG, q⟩ := h
    refine ⟨_, (pss_cons (ps_set (i := 5) sc_Place_init.nd rfl (Or.inl rfl) (pe_c c_wrong_part hr (by first | decide | exact Nat.le_refl _) (by rfl) (pa_cons (pv 1) (pa_cons (pv 2) (pa_cons (pv 3) (pa_cons (pv 4) pa_nil))))))
      (pss_cons (ps_if (pt_cmpR (op_notN) (pv 5) (pe_non) (nomark _)) (pss_one (ps_never)) pss_nil)
      (pss_cons (ps_fld (pv 0) (pv 1) rfl)
      (pss_cons (ps_fld (pv 0) (pe_ifExp (pt_cmpR (op_isN) (pv 2) (pe_non) (nomark _)) (pv 1) (pv 2)) rfl)
      (pss_cons (ps_fld (pv 0) (pv 3) rfl)
      (pss_one (ps_fld (pv 0) (pv 4) rfl))))))), ?_⟩
    refine ⟨_, rfl, _, rfl, _, rfl, _, rfl, ln, la, bg, en, rfl, hG, fun H1 s1 => ?_⟩
    have hx1 := s1 _ _ hx
    refine ⟨_, rfl, rfl, _, rfl, iteF ?_⟩
    refine ⟨_, rfl, _, rfl, x, C, dx, _, rfl, hx1, T.cl, T.nLine, by decide, ?_⟩
    have p1 : putF "line" ln [] = ([("line", ln)] : List (Str × V)) := rfl
    have p2 : ∀ y : V, putF "last" y [("line", ln)] = ([("line", ln), ("last", y)] : List (Str × V)) := fun y => by
      unfold putF
      rw [if_neg (by decide)]
      rfl
    have p3 : ∀ y : V, putF "begin" bg [("line", ln), ("last", y)] = ([("line", ln), ("last", y), ("begin", bg)] : List (Str × V)) := fun y => by
      unfold putF
      rw [if_neg (by decide)]
      unfold putF
      rw [if_neg (by decide)]
      rfl
    have p4 : ∀ y : V, putF "end" en [("line", ln), ("last", y), ("begin", bg)] = ([("line", ln), ("last", y), ("begin", bg), ("end", en)] : List (Str × V)) := fun y => by
      unfold putF
      rw [if_neg (by decide)]
      unfold putF
      rw [if_neg (by decide)]
      unfold putF
      rw [if_neg (by decide)]
      rfl
    have fin : ∀ y : V, y = lastOf ln la → Q .non (upd (upd (upd (upd H1 x (.ins C dx [("line", ln)])) x (.ins C dx [("line", ln), ("last", y)])) x (.ins C dx [("line", ln), ("last", y), ("begin", bg)])) x (.ins C dx [("line", ln), ("last", y), ("begin", bg), ("end", en)])) := fun y ey => by
      subst ey
      refine q _ (fun a o na ea => ?_) upd_same
      rw [upd_ne na, upd_ne na, upd_ne na, upd_ne na]
      exact s1 _ _ ea
    rw [p1]
    have hx2 : upd H1 x (.ins C dx [("line", ln)]) x = some (.ins C dx [("line", ln)]) := upd_same
    refine ⟨_, rfl, rfl, _, rfl, ite2 (fun c => ?_) (fun c => ?_)⟩
    · have c' : la = .non := of_decide_eq_true c
      refine ⟨_, rfl, _, rfl, x, C, dx, _, rfl, hx2, T.cl, T.nLast, (by show 1 < 1000; decide), ?_⟩
      rw [p2]
      refine ⟨_, rfl, _, rfl, x, C, dx, _, rfl, upd_same, T.cl, T.nBegin, (by show 2 < 1000; decide), ?_⟩
      rw [p3]
      refine ⟨_, rfl, _, rfl, x, C, dx, _, rfl, upd_same, T.cl, T.nEnd, (by show 3 < 1000; decide), ?_⟩
      rw [p4]
      exact fin _ (by unfold lastOf; rw [if_pos c'])
    · have c' : la ≠ .non := fun e => c (decide_eq_true e)
      refine ⟨_, rfl, _, rfl, x, C, dx, _, rfl, hx2, T.cl, T.nLast, (by show 1 < 1000; decide), ?_⟩
      rw [p2]
      refine ⟨_, rfl, _, rfl, x, C, dx, _, rfl, upd_same, T.cl, T.nBegin, (by show 2 < 1000; decide), ?_⟩
      rw [p3]
      refine ⟨_, rfl, _, rfl, x, C, dx, _, rfl, upd_same, T.cl, T.nEnd, (by show 3 < 1000; decide), ?_⟩
      rw [p4]
      exact fin _ (by unfold lastOf; rw [if_neg c'])
end
end My

namespace My
open PySem PySem.Spec PyProof.Rows L2
/-! ### own str, repr, len, == -/
/-- the method m of the class at C keeps the promise sp -/
structure OwnM (P : Program) (w : World) (K : PySem.W.Frag) (mg : Str → Option Value) (base : Heap) (n : Nat) (C : Addr) (m : Str) (sp : Sp) : Prop where
  ex : ∃ f fd ps, FnOk P w K mg base CX0 n f fd ps sp ∧ PySem.W.findIn K (.ref C) m = some (some (.ref f)) ∧ PySem.W.isFn K (.ref f) = true ∧ PySem.W.keepIn K (.ref f) = true ∧ Binds K fd ps []
section
variable {X : Cx}
theorem run_own {A : Around} {n : Nat} {f : Addr} {fd : FuncData} {ps : List Str} {sp : Sp} {pins : List (Addr × Obj)} {σ : L2.St} {H : Hp} {s : Shared} {vs : List V} {us : List Value} {Q : VK}
    (F : FnOk X.prog X.w X.K X.mg X.base CX0 n f fd ps sp) (hb : Binds X.K fd ps []) (I : Inv X pins σ H s) (hr : Room n A) (fr : A.frames = X.A.frames) (r : Vals vs us) (h : sp vs H Q E0) :
    wpAny (model X.prog X.w) A (call (.ref f) us) (EP X pins σ Q) X.xe s := by
  have e0 : Env0 X.prog X.w X.K X.mg X.base A X.stack s H := by
    have e := I.env0
    exact ⟨by rw [fr]; exact e.frames, e.mod, e.bs, e.bsz, e.funs, e.frf, e.hok, e.bare⟩
  have hl := F.len _ _ _ _ h
  have hbb : BindsTo s fd ⟨us, []⟩ (ps.zip us) := by
    have := hb s us I.kIn (by rw [List.append_nil, ← r.length]; exact hl)
    rw [List.append_nil] at this
    exact this
  refine wpAny_call (codeAny_mono (F.run A X.stack s H ⟨us, []⟩ us vs Q E0 hr e0 hbb r h) fun r s' hq => ?_)
  cases r with
  | error e => exact hq.elim
  | ok fl =>
    cases fl with
    | ret u => exact I.after hq
    | next => exact False.elim hq
    | brk => exact False.elim hq
    | cont => exact False.elim hq
def rOwnS (C : Addr) (sp : Sp) : List V → Hp → VK → Prop := fun xs H Q => ∃ a dx fs, xs = [.ref a] ∧ H a = some (.ins C dx fs) ∧ sp [.ref a] H (fun v H' => ∃ z : Str, v = .str z ∧ Q (.str z) H') E0
def rOwnL (C : Addr) (sp : Sp) : List V → Hp → VK → Prop := fun xs H Q => ∃ a dx fs, xs = [.ref a] ∧ H a = some (.ins C dx fs) ∧ sp [.ref a] H (fun v H' => ∃ i : Int, v = .int i ∧ (0 ≤ i ∧ i < 2 ^ 63) ∧ Q (.int i) H') E0
theorem call_strOwn {n : Nat} {C : Addr} {sp : Sp} (O : OwnM X.prog X.w X.K X.mg X.base n C "__str__" sp) (hr : Room (n + 2) X.A) : CallR X (.type "str") (rOwnS C sp) := by
  obtain ⟨f, fd, ps, F, hs, hf, _, hb⟩ := O.ex
  intro pins s σ H xs us Q I r h
  obtain ⟨a, dx, fs, rfl, ha, h⟩ := h
  obtain ⟨u, rfl, rx⟩ := vals1 r
  cases rx
  obtain ⟨mA, J, _⟩ := ins_get I.hok ha
  obtain ⟨od, J, _⟩ := J.look
  refine PySem.W.kso_call (by have := hr.un; show X.A.units + 1 + 1 < cLine; omega) I.kIn J hs hf (wpAny_mono (run_own (vs := [.ref a]) F hb I hr.in1.in1 rfl (.cons rfl .nil) h) (fun u s' hu => ?_) fun _ _ y => y)
  obtain ⟨v, H', I', rv, z, rfl, q⟩ := hu
  obtain ⟨t, rfl⟩ := rv
  exact ⟨.str z, H', I', ⟨t, rfl⟩, q⟩
theorem call_reprOwn {n : Nat} {C : Addr} {sp : Sp} (O : OwnM X.prog X.w X.K X.mg X.base n C "__repr__" sp) (hr : Room (n + 1) X.A) : CallR X (.builtin "repr") (rOwnS C sp) := by
  obtain ⟨f, fd, ps, F, hs, hf, _, hb⟩ := O.ex
  intro pins s σ H xs us Q I r h
  obtain ⟨a, dx, fs, rfl, ha, h⟩ := h
  obtain ⟨u, rfl, rx⟩ := vals1 r
  cases rx
  obtain ⟨mA, J, _⟩ := ins_get I.hok ha
  obtain ⟨od, J, _⟩ := J.look
  obtain ⟨m, hF⟩ := I.fr
  refine PySem.W.repr_K (by have := hr.un; show X.A.units + 1 < cLine; omega) hF I.ok.mod.kin J hs hf (wpAny_mono (run_own (vs := [.ref a]) F hb I hr.in1 rfl (.cons rfl .nil) h) (fun u s' hu => ?_) fun _ _ y => y)
  obtain ⟨v, H', I', rv, z, rfl, q⟩ := hu
  obtain ⟨t, rfl⟩ := rv
  exact ⟨.str z, H', I', ⟨t, rfl⟩, q⟩
theorem call_lenOwn {n : Nat} {C : Addr} {sp : Sp} (O : OwnM X.prog X.w X.K X.mg X.base n C "__len__" sp) (hr : Room (n + 1) X.A) : CallR X (.builtin "len") (rOwnL C sp) := by
  obtain ⟨f, fd, ps, F, hs, hf, _, hb⟩ := O.ex
  intro pins s σ H xs us Q I r h
  obtain ⟨a, dx, fs, rfl, ha, h⟩ := h
  obtain ⟨u, rfl, rx⟩ := vals1 r
  cases rx
  obtain ⟨mA, J, _⟩ := ins_get I.hok ha
  obtain ⟨od, J, _⟩ := J.look
  obtain ⟨m, hF⟩ := I.fr
  refine PySem.W.len_K hF I.ok.mod.kin J hs hf (wpAny_mono (run_own (vs := [.ref a]) F hb I hr.in1 rfl (.cons rfl .nil) h) (fun u s' hu => ?_) fun _ _ y => y)
  obtain ⟨v, H', I', rv, i, rfl, hi, q⟩ := hu
  obtain ⟨t, rfl⟩ := rv
  exact ⟨hi, .int i, H', I'.tok _, ⟨_, rfl⟩, q⟩
/-- len(range(a, b)) -/
theorem call_lenRng : CallR X (.builtin "len") (fun xs H Q => ∃ (a : Addr) (lo hi : Int) (n : Nat), xs = [.ref a] ∧ H a = some (.rng lo hi) ∧ Builtin.Range.rangeSize lo hi 1 = (n : Int) ∧ (n : Int) < 2 ^ 63 ∧ Q (.int n) H) := by
  intro pins s σ H xs us Q I r h
  obtain ⟨a, lo, hi, n, rfl, ha, hn, hf, q⟩ := h
  obtain ⟨u, rfl, rx⟩ := vals1 r
  cases rx
  obtain ⟨t, u, v, ho⟩ := (show ObjOk X.prog X.w H s.heap a (.rng lo hi) from I.hok a _ ha)
  exact call_len_range (a := lo) (b := hi) (c := 1) ho hn hf ⟨.int n, H, I.tok _, ⟨_, rfl⟩, q⟩
end
end My

namespace My
open PySem PySem.Spec PyProof.Rows L2
/-! ### making an object of a class: by place with defaults, by names -/
structure MkP (P : Program) (w : World) (K : PySem.W.Frag) (mg : Str → Option Value) (base : Heap) (k : Nat) (x : Str) (C : Addr) (dvs : List V) (sp : Sp) : Prop where
  ex : ∃ f fd ps ds, Mk K C f ∧ FnOk P w K mg base CX0 k f fd ps sp ∧ mg x = some (.ref C) ∧ Binds K fd ps ds ∧ Vals dvs ds
structure MkN (P : Program) (w : World) (K : PySem.W.Frag) (mg : Str → Option Value) (base : Heap) (k : Nat) (x : Str) (C : Addr) (n : Nat) (ks : List Str) (gV : List V → List V → List V) (sp : Sp) : Prop where
  ex : ∃ f fd ps g, Mk K C f ∧ FnOk P w K mg base CX0 k f fd ps sp ∧ mg x = some (.ref C) ∧ KBn K fd ps (n + 1) ks g gV
section
variable {X : Cx} {k j n : Nat} {ks : List Str} {sp : Sp} {x : Str} {C : Addr} {p pos : Pos} {e : Expr} {es : List Expr} {kws : List Keyword} {t tk : TA} {dvs : List V} {gV : List V → List V → List V}
theorem pe_mkP (M : MkP X.prog X.w X.K X.mg X.base k x C dvs sp) (hr : Room j X.A) (hk : k + 1 ≤ j) (hg : Gl X x) (ha : PA X (e :: es) t) (hdb : (x == ("__debug__" : Str)) = false := by decide)
    (he : starEach (e :: es) X.env = (false, eval e X.env) :: starEach es X.env := by rfl) (hpl : (backTo pos (starEach es X.env)).any (·.1) = false := by rfl) : PE X (.Call (.Name x p) (e :: es) [] pos) (tMake C sp dvs E0 t) := by
  obtain ⟨f, fd, ps, ds, M1, F, hm, hb, hd⟩ := M.ex
  exact pe_make M1 F (hr.mono hk) hg hm hb hd pass0 ha hdb he hpl
theorem pe_mkP0 (M : MkP X.prog X.w X.K X.mg X.base k x C dvs sp) (hr : Room j X.A) (hk : k + 1 ≤ j) (hg : Gl X x) (hdb : (x == ("__debug__" : Str)) = false := by decide) : PE X (.Call (.Name x p) [] [] pos) (tMake C sp dvs E0 tNil) := by
  obtain ⟨f, fd, ps, ds, M1, F, hm, hb, hd⟩ := M.ex
  exact pe_make0 M1 F (hr.mono hk) hg hm hb hd pass0 hdb
theorem pe_mkN (M : MkN X.prog X.w X.K X.mg X.base k x C n ks gV sp) (hr : Room j X.A) (hk : k + 1 ≤ j) (hg : Gl X x) (ha : PA X (e :: es) t) (hkw : PK X kws tk)
    (hall : (backToKw pos (keywordEach kws X.env)).all (·.1.isSome) = true := by rfl) (hks : (backToKw pos (keywordEach kws X.env)).filterMap (·.1) = ks := by rfl) (hdb : (x == ("__debug__" : Str)) = false := by decide)
    (he : starEach (e :: es) X.env = (false, eval e X.env) :: starEach es X.env := by rfl) (hpl : ((backTo pos (starEach (e :: es) X.env)).any (·.1) || (backToKw pos (keywordEach kws X.env)).any (·.1.isNone)) = false := by rfl) :
    PE X (.Call (.Name x p) (e :: es) kws pos) (tMakeK C n ks.length sp gV E0 t tk) := by
  obtain ⟨f, fd, ps, g, M1, F, hm, hb⟩ := M.ex
  exact pe_makeK M1 F (hr.mono hk) hg hm hb pass0 ha hkw hall hks hdb he hpl
theorem pe_mkN0 (M : MkN X.prog X.w X.K X.mg X.base k x C 0 ks gV sp) (hr : Room j X.A) (hk : k + 1 ≤ j) (hg : Gl X x) (hkw : PK X kws tk)
    (hall : (backToKw pos (keywordEach kws X.env)).all (·.1.isSome) = true := by rfl) (hks : (backToKw pos (keywordEach kws X.env)).filterMap (·.1) = ks := by rfl) (hdb : (x == ("__debug__" : Str)) = false := by decide)
    (hpl : ((backTo pos (starEach [] X.env)).any (·.1) || (backToKw pos (keywordEach kws X.env)).any (·.1.isNone)) = false := by rfl) :
    PE X (.Call (.Name x p) [] kws pos) (tMakeK C 0 ks.length sp gV E0 tNil tk) := by
  obtain ⟨f, fd, ps, g, M1, F, hm, hb⟩ := M.ex
  exact pe_makeK0 M1 F (hr.mono hk) hg hm hb pass0 hkw hall hks hdb hpl
end
/-- a Place with these fields -/
def PlaceAt (C : Addr) (H : Hp) (x : Addr) (ln la bg en : V) : Prop := ∃ dx, H x = some (.ins C dx [("line", ln), ("last", la), ("begin", bg), ("end", en)])
theorem PlaceAt.same {C : Addr} {H H' : Hp} {x : Addr} {ln la bg en : V} (h : PlaceAt C H x ln la bg en) (s : Same H H') : PlaceAt C H' x ln la bg en := let ⟨dx, e⟩ := h; ⟨dx, s _ _ e⟩
/-- the fields that a Place may have -/
def Spot (ln la bg en : V) : Prop := (ln = .non ∧ la = .non ∧ bg = .non ∧ en = .non) ∨ ∃ l m : Int, ln = .int l ∧ la = .int m ∧ Good (.int l) (.int m) bg en
theorem Spot.good {ln la bg en : V} (h : Spot ln la bg en) : Good ln la bg en := by
  rcases h with ⟨rfl, rfl, rfl, rfl⟩ | ⟨l, m, rfl, rfl, g⟩
  · exact .inl ⟨rfl, rfl, rfl, rfl⟩
  · exact g
/-- from the promise of __init__ to what a call of the class gives -/
theorem made {C : Addr} {H : Hp} {ln la bg en la' : V} {Q : VK} (hG : Good ln la bg en) (hl : lastOf ln la = la') (q : ∀ H' x, Same H H' → H x = none → PlaceAt C H' x ln la' bg en → Q (.ref x) H') :
    ∀ x dx, H x = none → H dx = none → dx ≠ x → spInit C [.ref x, ln, la, bg, en] (upd (upd H dx (.own x)) x (.ins C dx [])) (fun v H2 => v = .non ∧ Q (.ref x) H2) E0 := by
  intro x dx nx ndx ne
  refine ⟨x, dx, ln, la, bg, en, rfl, upd_same, hG, fun H' k hx => ⟨rfl, q H' x (fun b o e => ?_) nx ⟨dx, ?_⟩⟩⟩
  · have nb : b ≠ x := ne_of_none e nx
    have nd : b ≠ dx := ne_of_none e ndx
    refine k b o nb ?_
    rw [upd_ne nb, upd_ne nd]
    exact e
  · rw [hx, ← hl]
    rfl
theorem lastOf_non {ln : V} : lastOf ln .non = ln := by unfold lastOf; rw [if_pos rfl]
theorem lastOf_int {ln : V} {m : Int} : lastOf ln (.int m) = .int m := by unfold lastOf; rw [if_neg (fun h => by cases h)]
/-- moved(by), where it comes to lines that are so -/
def spMv (C : Addr) : Sp := fun vs H Q _ => ∃ (x : Addr) (by' : Int) (ln la bg en : V), vs = [.ref x, .int by'] ∧ PlaceAt C H x ln la bg en ∧
  ((ln = .non ∧ Q (.ref x) H) ∨ ∃ l m : Int, ln = .int l ∧ la = .int m ∧ Good (.int (l + by')) (.int (m + by')) bg en ∧ ∀ H' y, Same H H' → H y = none → PlaceAt C H' y (.int (l + by')) (.int (m + by')) bg en → Q (.ref y) H')
section
variable {P : Program} {w : World} {K : PySem.W.Frag} {mg : Str → Option Value} {base : Heap}
theorem ok_Place_moved {f C : Addr} {fd : FuncData} (F : Fun K "moved" "Place.moved" s_Place_moved f fd) (T : PlT K mg C) (mk_Place_2_begin_end : MkN P w K mg base 5 "Place" C 2 ["begin", "end"] (fun vs zs => vs ++ zs) (spInit C)) : FnOk P w K mg base CX0 7 f fd ["self", "by"] (spMv C) := by
  refine F.ok sc_Place_moved (fun vs H Q E h => ?_) (fun cdv A outer s H vs Q E hr h => ?_)
  · obtain ⟨x, by', ln, la, bg, en, rfl, _⟩ := h
    rfl
  · obtain ⟨x, by', ln, la, bg, en, rfl, ⟨dx, hx⟩, h⟩ := h
    refine ⟨_, (pss_cons (ps_if (pt_cmpR (op_isN) (pe_fld (pv 0) rfl) (pe_non) (nomark _)) (pss_one (ps_ret (pv 0))) pss_nil)
      (pss_one (ps_ret (pe_mkN mk_Place_2_begin_end hr (by first | decide | exact Nat.le_refl _) (by rfl) (pa_cons (pe_op op_add (pe_fld (pv 0) rfl) (pv 1)) (pa_cons (pe_op op_add (pe_fld (pv 0) rfl) (pv 1)) pa_nil)) (pk_cons (pe_fld (pv 0) rfl) (pk_cons (pe_fld (pv 0) rfl) pk_nil)))))), ?_⟩
    rcases h with ⟨rfl, q⟩ | ⟨l, m, rfl, rfl, hG, q⟩
    · exact ⟨_, rfl, x, C, dx, _, _, rfl, hx, T.cl, T.nLine, rfl, rfl, _, rfl, iteT ⟨_, rfl, q⟩⟩
    · refine ⟨_, rfl, x, C, dx, _, _, rfl, hx, T.cl, T.nLine, rfl, rfl, _, rfl, iteF ?_⟩
      refine ⟨_, rfl, x, C, dx, _, _, rfl, hx, T.cl, T.nLine, rfl, _, rfl, _, _, rfl, rfl, _, rfl, x, C, dx, _, _, rfl, hx, T.cl, T.nLast, rfl, _, rfl, _, _, rfl, rfl, ?_⟩
      refine ⟨_, rfl, x, C, dx, _, _, rfl, hx, T.cl, T.nBegin, rfl, _, rfl, x, C, dx, _, _, rfl, hx, T.cl, T.nEnd, rfl, rfl, rfl, ?_⟩
      exact made hG lastOf_int fun H' y s1 ny hy => q H' y s1 ny hy
end
end My

namespace My
open PySem PySem.Spec PyProof.Rows L2
theorem Spot.cases {ln la bg en : V} (h : Spot ln la bg en) : (ln = .non ∧ la = .non ∧ bg = .non ∧ en = .non) ∨ (∃ l : Int, ln = .int l ∧ la = .int l ∧ bg = .non ∧ en = .non ∧ 1 ≤ l ∧ l ≤ 1000000) ∨
    ∃ l m b e : Int, ln = .int l ∧ la = .int m ∧ bg = .int b ∧ en = .int e ∧ 1 ≤ l ∧ l ≤ m ∧ m ≤ l + 99 ∧ m ≤ 1000000 ∧ 0 ≤ b ∧ b ≤ 10000 ∧ 0 ≤ e ∧ e ≤ 10000 ∧ (m = l → b ≤ e) := by
  rcases h with h | ⟨l, m, rfl, rfl, ⟨h, _⟩ | ⟨l', hl, l1, l2, ⟨h, _⟩ | ⟨m', hm, m1, m2, m3, hC⟩⟩⟩
  · exact .inl h
  · cases h
  · cases h
  · cases hl
    cases hm
    rcases hC with ⟨h1, rfl, rfl⟩ | ⟨b, e, rfl, rfl, b0, b1, be, e0, e1⟩
    · have e := of_decide_eq_true h1
      subst e
      exact .inr (.inl ⟨_, rfl, rfl, rfl, rfl, l1, l2⟩)
    · exact .inr (.inr ⟨_, _, b, e, rfl, rfl, rfl, rfl, l1, m1, m2, m3, b0, b1, e0, e1, fun z => be (decide_eq_true z)⟩)
theorem Spot.scal {ln la bg en : V} (h : Spot ln la bg en) : L2.scal ln ln = true ∧ L2.scal la la = true ∧ L2.scal bg bg = true ∧ L2.scal en en = true := by
  rcases h.cases with ⟨rfl, rfl, rfl, rfl⟩ | ⟨l, rfl, rfl, rfl, rfl, _⟩ | ⟨l, m, b, e, rfl, rfl, rfl, rfl, _⟩ <;> exact ⟨rfl, rfl, rfl, rfl⟩
/-- what isinstance asks of the class -/
structure PlI (K : PySem.W.Frag) (C : Addr) : Prop where
  ha : PySem.W.findIn K (.ref C) "__class__" = some (some (.builtin "object.__class__"))
  hn : PySem.W.specialIn K (.builtin "object.__class__") "__get__" = some (some (.builtin "getset_descriptor.__get__"))
  htk : PySem.W.takesIn K (.builtin "object.__class__") = some true
  hm : PySem.W.mroIn K C (.type "object") = some true
  kit : PySem.W.kitOne K (.ref C) (.ref C) = some true
theorem PlI.ty {K : PySem.W.Frag} {mg : Str → Option Value} {C : Addr} (T : PlT K mg C) (J : PlI K C) {H : Hp} {x dx : Addr} {fs : List (Str × V)} (h : H x = some (.ins C dx fs)) : TyX K H (.ref x) (.ref C) := .base (.ins h T.cl J.ha J.hn J.htk J.hm)
/-! ### texts of places -/
def txt (i : Int) : Str := Str.ofString (toString i)
def plStr (ln la bg en : V) : Str := match ln, la, bg, en with
  | .int l, .int m, .int b, .int e => if l = m then Str.empty ++ txt l ++ "." ++ txt b ++ "-" ++ txt e else Str.empty ++ txt l ++ "." ++ txt b ++ "-" ++ txt m ++ "." ++ txt e
  | .int l, _, _, _ => txt l
  | _, _, _, _ => "-"
def plRepr (ln la bg en : V) : Str := Str.empty ++ "Place(" ++ plStr ln la bg en ++ ")"
def lenOf (ln la : V) : Int := match ln, la with
  | .int l, .int m => m - l + 1
  | _, _ => 0
theorem log_small {i : Int} (h0 : 0 ≤ i) (h1 : i ≤ 1000000) : i.natAbs.log2 < 1920 := by
  by_cases hz : i.natAbs = 0
  · rw [hz]; decide
  · exact (Nat.log2_lt hz).mpr (Nat.lt_of_lt_of_le (show i.natAbs < 2 ^ 20 by omega) (Nat.pow_le_pow_right (by decide) (by decide)))
theorem txt_len {i : Int} (h0 : 0 ≤ i) (h1 : i ≤ 1000000) : (txt i).length ≤ 7 := PyProof.Rows.toString_length_le h0 (by decide) (by omega)
theorem sig_len : ("." : Str).length = 1 ∧ ("-" : Str).length = 1 ∧ ("Place(" : Str).length = 6 ∧ (")" : Str).length = 1 ∧ Str.empty.length = 0 := by decide
theorem plStr_len {ln la bg en : V} (h : Spot ln la bg en) : (plStr ln la bg en).length ≤ 40 := by
  obtain ⟨d1, d2, _, _, d5⟩ := sig_len
  rcases h.cases with ⟨rfl, rfl, rfl, rfl⟩ | ⟨l, rfl, rfl, rfl, rfl, l1, l2⟩ | ⟨l, m, b, e, rfl, rfl, rfl, rfl, l1, lm, _, m1, b0, b1, e0, e1, _⟩
  · show ("-" : Str).length ≤ 40
    omega
  · have := txt_len (i := l) (by omega) l2
    show (txt l).length ≤ 40
    omega
  · have h1 := txt_len (i := l) (by omega) (by omega)
    have h2 := txt_len (i := m) (by omega) m1
    have h3 := txt_len (i := b) b0 (by omega)
    have h4 := txt_len (i := e) e0 (by omega)
    show (if l = m then Str.empty ++ txt l ++ "." ++ txt b ++ "-" ++ txt e else Str.empty ++ txt l ++ "." ++ txt b ++ "-" ++ txt m ++ "." ++ txt e).length ≤ 40
    split <;> simp only [Str.length_append, d1, d2, d5] <;> omega
theorem fits {z : Str} (h : z.length ≤ 1000) : z.length ≤ sizeLine := line_ge (by omega)
def RPl (C : Addr) : Addr → Addr → Hp → Prop := fun a b H => ∃ ln la bg en, PlaceAt C H a ln la bg en ∧ PlaceAt C H b ln la bg en ∧ Spot ln la bg en
def spLen (C : Addr) : Sp := fun vs H Q _ => ∃ (x : Addr) (ln la bg en : V), vs = [.ref x] ∧ PlaceAt C H x ln la bg en ∧ Spot ln la bg en ∧ ∀ H', Same H H' → Q (.int (lenOf ln la)) H'
def spStr (C : Addr) : Sp := fun vs H Q _ => ∃ (x : Addr) (ln la bg en : V), vs = [.ref x] ∧ PlaceAt C H x ln la bg en ∧ Spot ln la bg en ∧ Q (.str (plStr ln la bg en)) H
def spRepr (C : Addr) : Sp := fun vs H Q _ => ∃ (x : Addr) (ln la bg en : V), vs = [.ref x] ∧ PlaceAt C H x ln la bg en ∧ Spot ln la bg en ∧ Q (.str (plRepr ln la bg en)) H
section
variable {P : Program} {w : World} {K : PySem.W.Frag} {mg : Str → Option Value} {base : Heap}
theorem ok_Place_eq {f C : Addr} {fd : FuncData} (F : Fun K "__eq__" "Place.__eq__" s_Place_eq f fd) (T : PlT K mg C) (J : PlI K C) (g_Place : mg "Place" = some (.ref C)) (z_isinstance : mg "isinstance" = none) : FnOk P w K mg base CX0 2 f fd ["self", "other"] (spEq (RPl C)) := by
  refine F.ok sc_Place_eq (fun vs H Q E h => ?_) (fun cdv A outer s H vs Q E hr h => ?_)
  · obtain ⟨a, b, rfl, _⟩ := h
    rfl
  · obtain ⟨x, y, rfl, ⟨ln, la, bg, en, ⟨dx, hx⟩, ⟨dy, hy⟩, hS⟩, q⟩ := h
    refine ⟨_, (pss_one (ps_ret (pe_and (pe_callB (call_isi) (by rfl) z_isinstance (by decide +kernel) (pa_cons (pv 1) (pa_cons (pe_glob (v := .ref _) (by rfl) g_Place rfl) pa_nil))) (pe_and (pe_cmpR (op_eq) (pe_fld (pv 0) rfl) (pe_fld (pv 1) rfl) (nomark _)) (pe_and (pe_cmpR (op_eq) (pe_fld (pv 0) rfl) (pe_fld (pv 1) rfl) (nomark _)) (pe_and (pe_cmpR (op_eq) (pe_fld (pv 0) rfl) (pe_fld (pv 1) rfl) (nomark _)) (pe_one (pe_cmpR (op_eq) (pe_fld (pv 0) rfl) (pe_fld (pv 1) rfl) (nomark _))))))))), ?_⟩
    obtain ⟨c1, c2, c3, c4⟩ := hS.scal
    refine ⟨_, rfl, _, _, _, _, _, rfl, .own C, PlI.ty T J hy, J.kit, _, rfl, iteT ?_⟩
    refine ⟨_, rfl, x, C, _, _, _, rfl, hx, T.cl, T.nLine, rfl, _, rfl, y, C, _, _, _, rfl, hy, T.cl, T.nLine, rfl, c1, _, rfl, ite2 (fun _ => ?_) (fun h => absurd (decide_eq_true rfl) h)⟩
    refine ⟨_, rfl, x, C, _, _, _, rfl, hx, T.cl, T.nLast, rfl, _, rfl, y, C, _, _, _, rfl, hy, T.cl, T.nLast, rfl, c2, _, rfl, ite2 (fun _ => ?_) (fun h => absurd (decide_eq_true rfl) h)⟩
    refine ⟨_, rfl, x, C, _, _, _, rfl, hx, T.cl, T.nBegin, rfl, _, rfl, y, C, _, _, _, rfl, hy, T.cl, T.nBegin, rfl, c3, _, rfl, ite2 (fun _ => ?_) (fun h => absurd (decide_eq_true rfl) h)⟩
    refine ⟨_, rfl, x, C, _, _, _, rfl, hx, T.cl, T.nEnd, rfl, _, rfl, y, C, _, _, _, rfl, hy, T.cl, T.nEnd, rfl, c4, ?_⟩
    have q' := q H (Same.refl H)
    rw [← decide_eq_true (rfl : en = en)] at q'
    exact q'
theorem ok_Place_len {f C : Addr} {fd : FuncData} (F : Fun K "__len__" "Place.__len__" s_Place_len f fd) (T : PlT K mg C) (z_len : mg "len" = none) (z_range : mg "range" = none) : FnOk P w K mg base CX0 2 f fd ["self"] (spLen C) := by
  refine F.ok sc_Place_len (fun vs H Q E h => ?_) (fun cdv A outer s H vs Q E hr h => ?_)
  · obtain ⟨x, _, _, _, _, rfl, _⟩ := h
    rfl
  · obtain ⟨x, ln, la, bg, en, rfl, ⟨dx, hx⟩, hS, q⟩ := h
    refine ⟨_, (pss_cons (ps_if (pt_cmpR (op_isN) (pe_fld (pv 0) rfl) (pe_non) (nomark _)) (pss_one (ps_ret (pe_int))) pss_nil)
      (pss_one (ps_ret (pe_callB (call_lenRng) (by rfl) z_len (by decide +kernel) (pa_cons (pe_callTy (cr_range2) (by rfl) z_range (by decide +kernel) (pa_cons (pe_fld (pv 0) rfl) (pa_cons (pe_op op_add (pe_fld (pv 0) rfl) (pe_int)) pa_nil))) pa_nil))))), ?_⟩
    have key : ∀ l m : Int, ln = .int l → la = .int m → l ≤ m → m ≤ 1000000 → 1 ≤ l → ∀ p, H p = none → ∃ (a : Addr) (lo hi : Int) (n : Nat), [V.ref p] = [.ref a] ∧ upd H p (.rng l (m + 1)) a = some (.rng lo hi) ∧ Builtin.Range.rangeSize lo hi 1 = (n : Int) ∧ (n : Int) < 2 ^ 63 ∧ Q (.int n) (upd H p (.rng l (m + 1))) := by
      intro l m e1 e2 lm m1 l1 p np
      refine ⟨p, l, m + 1, (m - l + 1).toNat, rfl, upd_same, ?_, by omega, ?_⟩
      · unfold Builtin.Range.rangeSize
        rw [if_pos (by decide), if_pos (by omega)]
        omega
      · have q' := q _ (same_upd (o := .rng l (m + 1)) np)
        rw [e1, e2] at q'
        have e : (((m - l + 1).toNat : Nat) : Int) = lenOf (.int l) (.int m) := by
          show _ = m - l + 1
          omega
        rw [e]
        exact q'
    rcases hS.cases with ⟨rfl, rfl, rfl, rfl⟩ | ⟨l, rfl, rfl, rfl, rfl, l1, l2⟩ | ⟨l, m, b, e, rfl, rfl, rfl, rfl, l1, lm, _, m1, _⟩
    · exact ⟨_, rfl, x, C, _, _, _, rfl, hx, T.cl, T.nLine, rfl, rfl, _, rfl, iteT (q _ (Same.refl _))⟩
    · refine ⟨_, rfl, x, C, _, _, _, rfl, hx, T.cl, T.nLine, rfl, rfl, _, rfl, iteF ⟨_, rfl, x, C, _, _, _, rfl, hx, T.cl, T.nLine, rfl, _, rfl, x, C, _, _, _, rfl, hx, T.cl, T.nLast, rfl, _, _, rfl, rfl, _, _, rfl, fun p np => ?_⟩⟩
      exact key l l rfl rfl (by omega) l2 l1 p np
    · refine ⟨_, rfl, x, C, _, _, _, rfl, hx, T.cl, T.nLine, rfl, rfl, _, rfl, iteF ⟨_, rfl, x, C, _, _, _, rfl, hx, T.cl, T.nLine, rfl, _, rfl, x, C, _, _, _, rfl, hx, T.cl, T.nLast, rfl, _, _, rfl, rfl, _, _, rfl, fun p np => ?_⟩⟩
      exact key l m rfl rfl lm m1 l1 p np
theorem ok_Place_str {f C : Addr} {fd : FuncData} (F : Fun K "__str__" "Place.__str__" s_Place_str f fd) (T : PlT K mg C) : FnOk P w K mg base CX0 2 f fd ["self"] (spStr C) := by
  refine F.ok sc_Place_str (fun vs H Q E h => ?_) (fun cdv A outer s H vs Q E hr h => ?_)
  · obtain ⟨x, _, _, _, _, rfl, _⟩ := h
    rfl
  · obtain ⟨x, ln, la, bg, en, rfl, ⟨dx, hx⟩, hS, q⟩ := h
    refine ⟨_, (pss_cons (ps_if (pt_cmpR (op_isN) (pe_fld (pv 0) rfl) (pe_non) (nomark _)) (pss_one (ps_ret (pe_str))) pss_nil)
      (pss_cons (ps_if (pt_cmpR (op_isN) (pe_fld (pv 0) rfl) (pe_non) (nomark _)) (pss_one (ps_ret (pe_joined1 (pe_fmt (pe_fld (pv 0) rfl))))) pss_nil)
      (pss_cons (ps_if (pt_cmpR (op_eq) (pe_fld (pv 0) rfl) (pe_fld (pv 0) rfl) (nomark _)) (pss_one (ps_ret (pe_joined (PJ.cons (pe_fmt (pe_fld (pv 0) rfl)) (PJ.cons (pe_str) (PJ.cons (pe_fmt (pe_fld (pv 0) rfl)) (PJ.cons (pe_str) (PJ.cons (pe_fmt (pe_fld (pv 0) rfl)) PJ.nil)))))))) pss_nil)
      (pss_one (ps_ret (pe_joined (PJ.cons (pe_fmt (pe_fld (pv 0) rfl)) (PJ.cons (pe_str) (PJ.cons (pe_fmt (pe_fld (pv 0) rfl)) (PJ.cons (pe_str) (PJ.cons (pe_fmt (pe_fld (pv 0) rfl)) (PJ.cons (pe_str) (PJ.cons (pe_fmt (pe_fld (pv 0) rfl)) PJ.nil))))))))))))), ?_⟩
    obtain ⟨g1, g2, _, _, g5⟩ := sig_len
    rcases hS.cases with ⟨rfl, rfl, rfl, rfl⟩ | ⟨l, rfl, rfl, rfl, rfl, l1, l2⟩ | ⟨l, m, b, e, rfl, rfl, rfl, rfl, l1, lm, _, m1, b0, b1, e0, e1, _⟩
    · exact ⟨_, rfl, x, C, _, _, _, rfl, hx, T.cl, T.nLine, rfl, rfl, _, rfl, iteT q⟩
    · refine ⟨_, rfl, x, C, _, _, _, rfl, hx, T.cl, T.nLine, rfl, rfl, _, rfl, iteF ⟨_, rfl, x, C, _, _, _, rfl, hx, T.cl, T.nBegin, rfl, rfl, _, rfl, iteT ⟨_, rfl, x, C, _, _, _, rfl, hx, T.cl, T.nLine, rfl, .inr ⟨l, rfl, log_small (by omega) l2, q⟩⟩⟩⟩
    · have h1 := txt_len (i := l) (by omega) (by omega)
      have h2 := txt_len (i := m) (by omega) m1
      have h3 := txt_len (i := b) b0 (by omega)
      have h4 := txt_len (i := e) e0 (by omega)
      have k1 := log_small (i := l) (by omega) (by omega)
      have k2 := log_small (i := m) (by omega) m1
      have k3 := log_small (i := b) b0 (by omega)
      have k4 := log_small (i := e) e0 (by omega)
      have L1 : (Str.empty ++ txt l).length ≤ 1000 := by simp only [Str.length_append, g5]; omega
      have L2 : (Str.empty ++ txt l ++ ".").length ≤ 1000 := by simp only [Str.length_append, g1, g5]; omega
      have L3 : (Str.empty ++ txt l ++ "." ++ txt b).length ≤ 1000 := by simp only [Str.length_append, g1, g5]; omega
      have L4 : (Str.empty ++ txt l ++ "." ++ txt b ++ "-").length ≤ 1000 := by simp only [Str.length_append, g1, g2, g5]; omega
      refine ⟨_, rfl, x, C, _, _, _, rfl, hx, T.cl, T.nLine, rfl, rfl, _, rfl, iteF ⟨_, rfl, x, C, _, _, _, rfl, hx, T.cl, T.nBegin, rfl, rfl, _, rfl, iteF ⟨_, rfl, x, C, _, _, _, rfl, hx, T.cl, T.nLine, rfl, _, rfl, x, C, _, _, _, rfl, hx, T.cl, T.nLast, rfl, rfl, _, rfl, ite2 (fun c => ?_) (fun c => ?_)⟩⟩⟩
      · have c' : l = m := V.int.inj (of_decide_eq_true c)
        subst c'
        have L5 : (Str.empty ++ txt l ++ "." ++ txt b ++ "-" ++ txt e).length ≤ 1000 := by simp only [Str.length_append, g1, g2, g5]; omega
        have ez : plStr (.int l) (.int l) (.int b) (.int e) = Str.empty ++ txt l ++ "." ++ txt b ++ "-" ++ txt e := by
          show (if l = l then _ else _) = _
          rw [if_pos rfl]
        rw [ez] at q
        exact ⟨_, rfl, x, C, _, _, _, rfl, hx, T.cl, T.nLine, rfl, .inr ⟨l, rfl, k1, _, rfl, fits L1, _, rfl, fits L2, _, rfl, x, C, _, _, _, rfl, hx, T.cl, T.nBegin, rfl, .inr ⟨b, rfl, k3, _, rfl, fits L3, _, rfl, fits L4, _, rfl, x, C, _, _, _, rfl, hx, T.cl, T.nEnd, rfl, .inr ⟨e, rfl, k4, _, rfl, fits L5, q⟩⟩⟩⟩
      · have c' : l ≠ m := fun e => c (decide_eq_true (congrArg V.int e))
        have L5 : (Str.empty ++ txt l ++ "." ++ txt b ++ "-" ++ txt m).length ≤ 1000 := by simp only [Str.length_append, g1, g2, g5]; omega
        have L6 : (Str.empty ++ txt l ++ "." ++ txt b ++ "-" ++ txt m ++ ".").length ≤ 1000 := by simp only [Str.length_append, g1, g2, g5]; omega
        have L7 : (Str.empty ++ txt l ++ "." ++ txt b ++ "-" ++ txt m ++ "." ++ txt e).length ≤ 1000 := by simp only [Str.length_append, g1, g2, g5]; omega
        have ez : plStr (.int l) (.int m) (.int b) (.int e) = Str.empty ++ txt l ++ "." ++ txt b ++ "-" ++ txt m ++ "." ++ txt e := by
          show (if l = m then _ else _) = _
          rw [if_neg c']
        rw [ez] at q
        exact ⟨_, rfl, x, C, _, _, _, rfl, hx, T.cl, T.nLine, rfl, .inr ⟨l, rfl, k1, _, rfl, fits L1, _, rfl, fits L2, _, rfl, x, C, _, _, _, rfl, hx, T.cl, T.nBegin, rfl, .inr ⟨b, rfl, k3, _, rfl, fits L3, _, rfl, fits L4, _, rfl, x, C, _, _, _, rfl, hx, T.cl, T.nLast, rfl, .inr ⟨m, rfl, k2, _, rfl, fits L5, _, rfl, fits L6, _, rfl, x, C, _, _, _, rfl, hx, T.cl, T.nEnd, rfl, .inr ⟨e, rfl, k4, _, rfl, fits L7, q⟩⟩⟩⟩⟩
theorem ok_Place_repr {f C : Addr} {fd : FuncData} (F : Fun K "__repr__" "Place.__repr__" s_Place_repr f fd) (z_str : mg "str" = none) (o_str : OwnM P w K mg base 2 C "__str__" (spStr C)) : FnOk P w K mg base CX0 5 f fd ["self"] (spRepr C) := by
  refine F.ok sc_Place_repr (fun vs H Q E h => ?_) (fun cdv A outer s H vs Q E hr h => ?_)
  · obtain ⟨x, _, _, _, _, rfl, _⟩ := h
    rfl
  · obtain ⟨x, ln, la, bg, en, rfl, ⟨dx, hx⟩, hS, q⟩ := h
    refine ⟨_, (pss_one (ps_ret (pe_joined (PJ.cons (pe_str) (PJ.cons (pe_fmt (pe_callTy (call_strOwn o_str (hr.mono (by decide))) (by rfl) z_str (by decide +kernel) (pa_cons (pv 0) pa_nil))) (PJ.cons (pe_str) PJ.nil)))))), ?_⟩
    obtain ⟨g1, g2, g3, g4, g5⟩ := sig_len
    have hl := plStr_len hS
    have L1 : (Str.empty ++ "Place(").length ≤ 1000 := by simp only [Str.length_append, g3, g5]; omega
    have L2 : (Str.empty ++ "Place(" ++ plStr ln la bg en).length ≤ 1000 := by simp only [Str.length_append, g3, g5]; omega
    have L3 : (Str.empty ++ "Place(" ++ plStr ln la bg en ++ ")").length ≤ 1000 := by simp only [Str.length_append, g3, g4, g5]; omega
    exact ⟨_, rfl, fits L1, _, rfl, x, dx, _, rfl, hx, x, ln, la, bg, en, rfl, ⟨dx, hx⟩, hS, _, rfl, .inl ⟨_, rfl, fits (by omega), _, rfl, fits L2, _, rfl, fits L3, q⟩⟩
end
end My

namespace My
open PySem PySem.Spec PyProof.Rows L2
theorem mul01 {c : Prop} [Decidable c] : -(2 ^ 64) < (if c then (1 : Int) else 0) ∧ (if c then (1 : Int) else 0) < 2 ^ 64 := by
  split <;> constructor <;> decide
def spCell (K : PySem.W.Frag) : Sp := fun vs H Q _ => ∃ (a : Addr) (ns : List Int) (k : Nat), vs = [.ref a, .int k] ∧ SqL K H a (ns.map V.int) ∧ ∀ v : Int, Q (.int v) H
def spBox (K : PySem.W.Frag) : Sp := fun vs H Q _ => ∃ (a : Addr) (ns : List Int) (k : Nat), vs = [.ref a, .int k] ∧ SqL K H a (ns.map V.int) ∧ k ≤ 63 ∧ ∀ H' p, Same H H' → H p = none → Bx 0 p H' → Q (.ref p) H'
def spTake : Sp := fun vs H Q _ => ∃ (b : Addr) (m : Int) (n : Nat), vs = [.ref b, .int m] ∧ 0 < m ∧ m < 1073741824 ∧ Bx n b H ∧ n ≤ 1000000 ∧ ∀ (v : Nat) H', (v : Int) < m → Aft b (n + 1) H H' → (∀ p, H p = none → H' p = none) → Q (.int v) H'
/-! ### things that are the same, kind by kind -/
def Scal (x : V) : Prop := x = .non ∨ (∃ b, x = .bl b) ∨ (∃ i, x = .int i) ∨ ∃ z, x = .str z
/-- x and y are the same plain thing, or both lists, or both tuples, of as many things that are so by R -/
def Up (K : PySem.W.Frag) (R : Hp → V → V → Prop) : Hp → V → V → Prop := fun H x y => (Scal x ∧ x = y) ∨ ∃ (a b : Addr) (xs ys : List V), x = .ref a ∧ y = .ref b ∧ xs.length = ys.length ∧ xs.length ≤ 100000 ∧
  (∀ (i : Nat) (u v : V), xs[i]? = some u → ys[i]? = some v → R H u v) ∧ ((SqL K H a xs ∧ SqL K H b ys) ∨ (SqT K H a xs ∧ SqT K H b ys))
def Twin (K : PySem.W.Frag) : Nat → Hp → V → V → Prop
  | 0 => fun _ _ _ => False
  | n + 1 => Up K (Twin K n)
theorem Twin.same {K : PySem.W.Frag} : ∀ {n : Nat} {H H' : Hp} {x y : V}, Same H H' → Twin K n H x y → Twin K n H' x y
  | 0, _, _, _, _, _, h => h.elim
  | n + 1, H, H', x, y, s, h => by
    rcases h with h | ⟨a, b, xs, ys, e1, e2, l1, l2, it, q⟩
    · exact .inl h
    · exact .inr ⟨a, b, xs, ys, e1, e2, l1, l2, fun i u v h1 h2 => Twin.same s (it i u v h1 h2), q.elim (fun q => .inl ⟨s.seq q.1, s.seq q.2⟩) (fun q => .inr ⟨sameT s q.1, sameT s q.2⟩)⟩
theorem twin_int {K : PySem.W.Frag} {n : Nat} {H : Hp} (i : Int) : Twin K (n + 1) H (.int i) (.int i) := .inl ⟨.inr (.inr (.inl ⟨i, rfl⟩)), rfl⟩
theorem twin_ints {K : PySem.W.Frag} {n : Nat} {H : Hp} {ns : List Int} (i : Nat) (u v : V) (h1 : (ns.map V.int)[i]? = some u) (h2 : (ns.map V.int)[i]? = some v) : Twin K (n + 1) H u v := by
  rw [h1] at h2
  cases h2
  rw [List.getElem?_map] at h1
  cases e : ns[i]? with
  | none => rw [e] at h1; cases h1
  | some z =>
    rw [e] at h1
    cases h1
    exact twin_int z
theorem twin_intL {K : PySem.W.Frag} {n : Nat} {H : Hp} {ns : List Int} {a b : Addr} (hl : ns.length ≤ 100000) (ha : SqL K H a (ns.map V.int)) (hb : SqL K H b (ns.map V.int)) : Twin K (n + 2) H (.ref a) (.ref b) :=
  .inr ⟨a, b, _, _, rfl, rfl, rfl, by rw [List.length_map]; exact hl, twin_ints, .inl ⟨ha, hb⟩⟩
theorem twin_intT {K : PySem.W.Frag} {n : Nat} {H : Hp} {ns : List Int} {a b : Addr} (hl : ns.length ≤ 100000) (ha : SqT K H a (ns.map V.int)) (hb : SqT K H b (ns.map V.int)) : Twin K (n + 2) H (.ref a) (.ref b) :=
  .inr ⟨a, b, _, _, rfl, rfl, rfl, by rw [List.length_map]; exact hl, twin_ints, .inr ⟨ha, hb⟩⟩
def spSm (R : Hp → V → V → Prop) : Sp := fun vs H Q _ => ∃ x y, vs = [x, y] ∧ R H x y ∧ ∀ H', Same H H' → Q (.bl true) H'
theorem walk_zipT {K : PySem.W.Frag} {a b : Addr} {xs ys : List V} {n : Nat} (hn : n = min xs.length ys.length) : Walk (RZ.ItzT K a b) n (fun H => SqT K H a xs ∧ SqT K H b ys) (YPair (fun i => xs[i]?) (fun i => ys[i]?)) := by
  subst hn
  refine ⟨fun i _ hi q => ?_, fun _ q => ⟨xs, ys, q.1, q.2, by omega⟩, fun i H v H' _ q y => ?_⟩
  · have h1 : i < xs.length := by omega
    have h2 : i < ys.length := by omega
    exact ⟨xs, ys, xs[i], ys[i], q.1, q.2, by simp [h1], by simp [h2]⟩
  · obtain ⟨T, x, z, h1, h2, h3, h4, h5⟩ := y
    exact ⟨T, x, z, h1, h2, h3, h4 xs q.1, h5 ys q.2⟩
theorem tyL {K : PySem.W.Frag} {H : Hp} {a : Addr} {xs : List V} (h : SqL K H a xs) : TyX K H (.ref a) (.type "list") := by
  rcases h with (h | ⟨o, h⟩) | ⟨o, its, n, h1, h2, _⟩
  · exact .base (.lst h)
  · exact .base (.frz h)
  · exact .kList h1 h2
theorem tyT {K : PySem.W.Frag} {H : Hp} {a : Addr} {xs : List V} (h : SqT K H a xs) : TyX K H (.ref a) (.type "tuple") := by
  rcases h with (h | ⟨o, h⟩) | ⟨o, its, n, h1, h2, _⟩
  · exact .base (.tup h)
  · exact .fTuple h
  · exact .kTuple h1 h2
theorem scal_ty {K : PySem.W.Frag} {H : Hp} {x : V} (h : Scal x) : ∃ (t : String) (b1 b2 : Bool), TyX K H x (.type t) ∧ kitB t "list" = some false ∧ kitB t "tuple" = some false ∧ kitB t "bool" = some b1 ∧ kitB t "int" = some b2 ∧ scal x x = true := by
  rcases h with rfl | ⟨b, rfl⟩ | ⟨i, rfl⟩ | ⟨z, rfl⟩
  · exact ⟨"NoneType", false, false, .base .non, by decide +kernel, by decide +kernel, by decide +kernel, by decide +kernel, rfl⟩
  · exact ⟨"bool", true, true, .base (.bl b), by decide +kernel, by decide +kernel, by decide +kernel, by decide +kernel, rfl⟩
  · exact ⟨"int", false, true, .base (.int i), by decide +kernel, by decide +kernel, by decide +kernel, by decide +kernel, rfl⟩
  · exact ⟨"str", false, false, .base (.str z), by decide +kernel, by decide +kernel, by decide +kernel, by decide +kernel, rfl⟩
theorem kit2 {K : PySem.W.Frag} {t a b : String} {p q : Bool} (h1 : kitB t a = some p) (h2 : kitB t b = some q) : PySem.W.kitAny K (.type t) [.type a, .type b] = some (p || q) := by
  refine kitAny_cons (kit_ty h1) (fun e => ?_) (fun e => by rw [e]; rfl)
  rw [e]
  exact kitAny_cons (kit_ty h2) (fun e => by rw [e]; rfl) (fun e => by rw [e]; rfl)
theorem all_true (n : Nat) : (List.replicate n true).all id = true := by
  induction n with
  | zero => rfl
  | succ n ih => rw [List.replicate_succ, List.all_cons, ih]; rfl
theorem rep_more {n : Nat} : List.replicate n (V.bl true) ++ [V.bl true] = List.replicate (n + 1) (V.bl true) := by
  rw [← List.replicate_succ']
theorem same_but {H H4 : Hp} {D : Addr} {o : HO} (s : Same H H4) (h : H D = none) : Same H (upd H4 D o) := fun b x e => by
  rw [upd_ne (ne_of_none e h)]
  exact s _ _ e

section
variable {P : Program} {w : World} {K : PySem.W.Frag} {mg : Str → Option Value} {base : Heap}
theorem ok_l_cell_at {f : Addr} {fd : FuncData} (F : Fun K "_law_cell_at" "_law_cell_at" s_l_cell_at f fd) (z_len : mg "len" = none) : FnOk P w K mg base CX0 2 f fd ["_law_script", "_law_k"] (spCell K) := by
  refine F.ok sc_l_cell_at (fun vs H Q E h => ?_) (fun cdv A outer s H vs Q E hr h => ?_)
  · obtain ⟨a, ns, k, rfl, _⟩ := h
    rfl
  · obtain ⟨a, ns, j, rfl, hS, q⟩ := h
    refine ⟨_, (pss_cons (ps_if (pt_cmpR (op_lt) (pv 1) (pe_callB (call_len_seq) (by rfl) z_len (by decide +kernel) (pa_cons (pv 0) pa_nil)) (nomark _)) (pss_one (ps_ret (pe_ix ix_list (pv 0) (pv 1) (fun _ _ => rfl)))) pss_nil)
      (pss_one (ps_ret (pe_int)))), ?_⟩
    refine ⟨_, rfl, _, rfl, a, _, rfl, .inl hS, _, _, rfl, rfl, _, rfl, ite2 (fun c => ?_) (fun c => q 0)⟩
    have c' : (j : Int) < ((ns.map V.int).length : Int) := of_decide_eq_true c
    rw [List.length_map] at c'
    have hlt : j < ns.length := by omega
    have hat : atI (ns.map V.int) (j : Int) = some (.int ns[j]) := atI_nat (by
      rw [List.getElem?_map, List.getElem?_eq_getElem hlt]
      rfl)
    exact ⟨_, rfl, _, rfl, a, _, _, _, rfl, rfl, hS, hat, q _⟩
theorem ok_l_box {f : Addr} {fd : FuncData} (F : Fun K "_law_box" "_law_box" s_l_box f fd) (z_abs : mg "abs" = none) (z_int : mg "int" = none) (c_l_cell_at : Cal P w K mg base 2 "_law_cell_at" ["_law_script", "_law_k"] (spCell K)) : FnOk P w K mg base CX0 3 f fd ["_law_script", "_law_k"] (spBox K) := by
  refine F.ok sc_l_box (fun vs H Q E h => ?_) (fun cdv A outer s H vs Q E hr h => ?_)
  · obtain ⟨a, ns, k, rfl, _⟩ := h
    rfl
  · obtain ⟨a, ns, j, rfl, hS, hj, q⟩ := h
    refine ⟨_, (pss_cons (ps_set (i := 2) sc_l_box.nd rfl (Or.inl rfl) (pe_c c_l_cell_at hr (by first | decide | exact Nat.le_refl _) (by rfl) (pa_cons (pv 0) (pa_cons (pv 1) pa_nil))))
      (pss_one (ps_ret (pe_lst (pa_cons (pe_op op_mul (pe_callB (call_abs) (by rfl) z_abs (by decide +kernel) (pa_cons (pv 2) pa_nil)) (pe_callTy (call_int1) (by rfl) z_int (by decide +kernel) (pa_cons (pe_cmpR (op_ge) (pe_callB (call_abs) (by rfl) z_abs (by decide +kernel) (pa_cons (pv 2) pa_nil)) (pe_op op_pow (pe_int) (pe_int)) (nomark _)) pa_nil))) (pa_cons (pe_op op_add (pe_op op_add (pe_op op_mod (pv 2) (pe_int)) (pe_op op_mul (pe_int) (pv 1))) (pe_int)) (pa_cons (pe_int) pa_nil))))))), ?_⟩
    have fin : ∀ z : Int, ∀ (x : Int), ∀ p, H p = none → Q (.ref p) (upd H p (.lst [.int x, .int (z % 2305843009213693951 + 39373 * (j : Int) + 17), .int 0])) := fun z x p hp =>
      q _ p (same_upd hp) hp ⟨_, upd_same, _, _, _, rfl, by
        have h1 := Int.emod_nonneg z (show (2305843009213693951 : Int) ≠ 0 by decide)
        omega, by
        have h1 := Int.emod_lt_of_pos z (show (0 : Int) < 2305843009213693951 by decide)
        omega, by decide, by decide⟩
    refine ⟨_, rfl, _, rfl, a, ns, j, rfl, hS, fun v => ?_⟩
    refine ⟨_, rfl, _, rfl, _, rfl, _, rfl, _, _, rfl, rfl, ⟨by decide, by decide, by decide⟩, _, _, rfl, rfl, .inr ⟨_, rfl, ?_⟩⟩
    refine ⟨_, _, rfl, rfl, .inr ?_, _, rfl, _, _, rfl, rfl, (by show (0 : Int) < 2305843009213693951; decide), _, rfl, _, _, rfl, rfl, .inl ⟨by decide, by decide⟩, _, _, rfl, rfl, _, _, rfl, rfl, (by show 3 ≤ sizeLine; decide), fun p hp => fin _ _ p hp⟩
    exact mul01
theorem ok_l_take {f : Addr} {fd : FuncData} {k : Nat} (F : Fun K "_law_take" "_law_take" s_l_take f fd) : FnOk P w K mg base CX0 (k + 1) f fd ["_law_box_here", "_law_many"] spTake := by
  refine F.ok sc_l_take (fun vs H Q E h => ?_) (fun cdv A outer s H vs Q E hr h => ?_)
  · obtain ⟨b, m, n, rfl, _⟩ := h
    rfl
  · obtain ⟨b, m, n, rfl, m0, m1, ⟨xs, hb, x, y, c, rfl, y0, y1, c0, c1⟩, hn, q⟩ := h
    refine ⟨_, (pss_cons (ps_if (pt_cmpR (op_gt) (pe_ix ix_list (pv 0) (pe_int) (fun _ _ => rfl)) (pe_int) (nomark _)) (pss_cons (ps_set (i := 2) sc_l_take.nd rfl (Or.inl rfl) (pe_op op_mod (pe_ix ix_list (pv 0) (pe_int) (fun _ _ => rfl)) (pv 1)))
      (pss_cons (ps_asg (pe_op op_fdiv (pe_ix ix_list (pv 0) (pe_int) (fun _ _ => rfl)) (pv 1)) (pg_sub (pv 0) (pe_int) set_list))
      (pss_one (ps_ret (pv 2))))) pss_nil)
      (pss_cons (ps_asg (pe_op op_add (pe_ix ix_list (pv 0) (pe_int) (fun _ _ => rfl)) (pe_int)) (pg_sub (pv 0) (pe_int) set_list))
      (pss_cons (ps_set (i := 3) sc_l_take.nd rfl (Or.inl rfl) (pe_op op_mod (pe_op op_mul (pe_op op_add (pe_ix ix_list (pv 0) (pe_int) (fun _ _ => rfl)) (pe_op op_mul (pe_int) (pe_ix ix_list (pv 0) (pe_int) (fun _ _ => rfl)))) (pe_op op_add (pe_int) (pe_ix ix_list (pv 0) (pe_int) (fun _ _ => rfl)))) (pe_int)))
      (pss_cons (ps_set (i := 4) sc_l_take.nd rfl (Or.inl rfl) (pe_op op_mod (pe_op op_mul (pe_op op_add (pe_op op_add (pv 3) (pe_ix ix_list (pv 0) (pe_int) (fun _ _ => rfl))) (pe_op op_fdiv (pe_ix ix_list (pv 0) (pe_int) (fun _ _ => rfl)) (pe_int))) (pe_op op_add (pe_op op_mod (pv 3) (pe_int)) (pe_int))) (pe_int)))
      (pss_one (ps_ret (pe_op op_mod (pe_op op_fdiv (pe_op op_mod (pe_op op_add (pe_op op_mul (pv 4) (pe_int)) (pv 3)) (pe_int)) (pe_int)) (pv 1)))))))), ?_⟩
    have q0 := q
    replace q : ∀ (t : Int) H', 0 ≤ t → t < m → Aft b (n + 1) H H' → (∀ p, H p = none → H' p = none) → Q (.int t) H' := fun t H' t0 t1 af fr => by
      have h := q0 t.toNat H' (by omega) af fr
      rw [Int.toNat_of_nonneg t0] at h
      exact h
    have fr : ∀ {o : HO}, ∀ p, H p = none → upd H b o p = none := fun p hp => by
      rw [upd_ne (ne_of_none hb hp).symm]
      exact hp
    refine ⟨_, rfl, b, _, _, _, rfl, rfl, sqL hb, rfl, _, _, rfl, rfl, _, rfl, ite2 (fun t => ?_) (fun t => ?_)⟩
    · refine ⟨_, rfl, b, _, _, _, rfl, rfl, sqL hb, rfl, _, rfl, _, _, rfl, rfl, m0, ?_⟩
      refine ⟨_, rfl, b, _, _, _, rfl, rfl, sqL hb, rfl, _, rfl, _, _, rfl, rfl, ⟨m0, m1⟩, _, rfl, b, _, _, 0, rfl, rfl, hb, rfl, ?_⟩
      refine ⟨_, rfl, q _ _ (Int.emod_nonneg _ (by omega)) (Int.emod_lt_of_pos _ m0) ⟨⟨_, upd_same, _, _, _, rfl, y0, y1, c0, by omega⟩, But.upd⟩ fr⟩
    · refine ⟨_, rfl, b, _, _, _, rfl, rfl, sqL hb, rfl, _, _, rfl, rfl, _, rfl, b, _, _, 2, rfl, rfl, hb, rfl, ?_⟩
      have hb1 : upd H b (.lst [.int x, .int y, .int (c + 1)]) b = some (.lst [.int x, .int y, .int (c + 1)]) := upd_same
      refine ⟨_, rfl, b, _, _, _, rfl, rfl, sqL hb1, rfl, _, rfl, b, _, _, _, rfl, rfl, sqL hb1, rfl, _, _, rfl, rfl, .inl ⟨by decide, by decide⟩, _, _, rfl, rfl, _, rfl, b, _, _, _, rfl, rfl, sqL hb1, rfl, _, _, rfl, rfl, _, _, rfl, rfl, .inr ⟨by omega, by omega⟩, _, _, rfl, rfl, (by show (0 : Int) < 2147483647; decide), ?_⟩
      refine ⟨_, rfl, _, rfl, b, _, _, _, rfl, rfl, sqL hb1, rfl, _, _, rfl, rfl, _, rfl, b, _, _, _, rfl, rfl, sqL hb1, rfl, _, _, rfl, rfl, ⟨by decide, by decide⟩, _, _, rfl, rfl, _, rfl, _, _, rfl, rfl, (by show (0 : Int) < 40009; decide), _, _, rfl, rfl, _, _, rfl, rfl, .inr ?_, _, _, rfl, rfl, (by show (0 : Int) < 2147483629; decide), ?_⟩
      · generalize hg : (y + 48271 * (c + 1)) * (39373 + (c + 1)) % 2147483647 = g
        have h1 := Int.emod_nonneg g (show (40009 : Int) ≠ 0 by decide)
        have h2 := Int.emod_lt_of_pos g (show (0 : Int) < 40009 by decide)
        constructor <;> omega
      refine ⟨_, rfl, _, _, rfl, rfl, .inr ⟨by decide, by decide⟩, _, rfl, _, _, rfl, rfl, _, _, rfl, rfl, (by show (0 : Int) < 2147483587; decide), _, _, rfl, rfl, ⟨by decide, by decide⟩, _, rfl, _, _, rfl, rfl, m0, ?_⟩
      exact q _ _ (Int.emod_nonneg _ (by omega)) (Int.emod_lt_of_pos _ m0) ⟨⟨_, upd_same, _, _, _, rfl, y0, y1, by omega, by omega⟩, But.upd⟩ fr
theorem ok_l_same {f : Addr} {fd : FuncData} {n : Nat} (F : Fun K "_law_same" "_law_same" s_l_same f fd) (z_isinstance : mg "isinstance" = none) (z_list : mg "list" = none) (z_tuple : mg "tuple" = none) (z_bool : mg "bool" = none) (z_int : mg "int" = none) (z_str : mg "str" = none) (z_len : mg "len" = none) (z_all : mg "all" = none) (z_zip : mg "zip" = none)
    (c_l_same : Cal P w K mg base n "_law_same" ["_law_found", "_law_due_here"] (spSm (Twin K n))) : FnOk P w K mg base CX0 (n + 1) f fd ["_law_found", "_law_due_here"] (spSm (Twin K (n + 1))) := by
  refine F.ok sc_l_same (fun vs H Q E h => ?_) (fun cdv A outer s H vs Q E hr h => ?_)
  · obtain ⟨x, y, rfl, _⟩ := h
    rfl
  · obtain ⟨x, y, rfl, hT, q⟩ := h
    refine ⟨_, (pss_cons (ps_if (pt_val (pe_callB (call_isiT) (by rfl) z_isinstance (by decide +kernel) (pa_cons (pv 1) (pa_cons (pe_tup (pa_cons (pe_bltn (v := .ty "list") (by rfl) z_list (by decide +kernel) rfl) (pa_cons (pe_bltn (v := .ty "tuple") (by rfl) z_tuple (by decide +kernel) rfl) pa_nil))) pa_nil)))) (pss_cons (ps_if (PW.pt (pw_or (pt_cmpR (op_ne) (pe_callB (call_isi) (by rfl) z_isinstance (by decide +kernel) (pa_cons (pv 0) (pa_cons (pe_bltn (v := .ty "list") (by rfl) z_list (by decide +kernel) rfl) pa_nil))) (pe_callB (call_isi) (by rfl) z_isinstance (by decide +kernel) (pa_cons (pv 1) (pa_cons (pe_bltn (v := .ty "list") (by rfl) z_list (by decide +kernel) rfl) pa_nil))) (nomark _)) (pw_or1 (pt_cmpR (op_ne) (pe_callB (call_isi) (by rfl) z_isinstance (by decide +kernel) (pa_cons (pv 0) (pa_cons (pe_bltn (v := .ty "tuple") (by rfl) z_tuple (by decide +kernel) rfl) pa_nil))) (pe_callB (call_isi) (by rfl) z_isinstance (by decide +kernel) (pa_cons (pv 1) (pa_cons (pe_bltn (v := .ty "tuple") (by rfl) z_tuple (by decide +kernel) rfl) pa_nil))) (nomark _))))) (pss_one (ps_ret (pe_bl))) pss_nil)
      (pss_one (ps_ret (pe_and (pe_cmpR (op_eq) (pe_callB (call_len_seq) (by rfl) z_len (by decide +kernel) (pa_cons (pv 0) pa_nil)) (pe_callB (call_len_seq) (by rfl) z_len (by decide +kernel) (pa_cons (pv 1) pa_nil)) (nomark _)) (pe_one (pe_callB (cr_all rfl) (by rfl) z_all (by decide +kernel) (pa_cons (pe_lc (own := [("_law_one", 2), ("_law_two", 3)]) (g := (gTup K 2 (gCons (gName 2) (gCons (gName 3) gNil)))) (tt := tYes) rfl sc_l_same.nd (RZ.pi_zipA (by rfl) z_zip (pa_cons (pv 0) (pa_cons (pv 1) pa_nil))) (blkOk_by (own := [("_law_one", 2), ("_law_two", 3)]) (N := ["_law_found", "_law_due_here", "_law_one", "_law_two"]) (sc := defScope s_l_same) (by decide +kernel)) (fun _ _ _ _ _ => (pg_tup rfl (pgs_cons (pg_name (i := 2) sc_l_same.nd rfl (Or.inl rfl)) (pgs_cons (pg_name (i := 3) sc_l_same.nd rfl (Or.inl rfl)) pgs_nil)))) (fun _ _ _ _ _ => pts_nil) (fun _ _ _ _ _ => (pe_c c_l_same hr (by first | decide | exact Nat.le_refl _) (by rfl) (pa_cons (pv 2) (pa_cons (pv 3) pa_nil))))) pa_nil))))))) pss_nil)
      (pss_cons (ps_if (PW.pt (pw_or (pt_cmpR (op_isN) (pv 1) (pe_non) (nomark _)) (pw_or1 (pt_val (pe_callB (call_isi) (by rfl) z_isinstance (by decide +kernel) (pa_cons (pv 1) (pa_cons (pe_bltn (v := .ty "str") (by rfl) z_str (by decide +kernel) rfl) pa_nil))))))) (pss_one (ps_ret (pe_and (pe_cmpR (op_eq) (pe_callB (call_isi) (by rfl) z_isinstance (by decide +kernel) (pa_cons (pv 0) (pa_cons (pe_bltn (v := .ty "str") (by rfl) z_str (by decide +kernel) rfl) pa_nil))) (pe_callB (call_isi) (by rfl) z_isinstance (by decide +kernel) (pa_cons (pv 1) (pa_cons (pe_bltn (v := .ty "str") (by rfl) z_str (by decide +kernel) rfl) pa_nil))) (nomark _)) (pe_one (pe_cmpR (op_eq) (pv 0) (pv 1) (nomark _)))))) pss_nil)
      (pss_one (ps_ret (pe_and (pe_callB (call_isi) (by rfl) z_isinstance (by decide +kernel) (pa_cons (pv 0) (pa_cons (pe_bltn (v := .ty "int") (by rfl) z_int (by decide +kernel) rfl) pa_nil))) (pe_and (pe_cmpR (op_eq) (pe_callB (call_isi) (by rfl) z_isinstance (by decide +kernel) (pa_cons (pv 0) (pa_cons (pe_bltn (v := .ty "bool") (by rfl) z_bool (by decide +kernel) rfl) pa_nil))) (pe_callB (call_isi) (by rfl) z_isinstance (by decide +kernel) (pa_cons (pv 1) (pa_cons (pe_bltn (v := .ty "bool") (by rfl) z_bool (by decide +kernel) rfl) pa_nil))) (nomark _)) (pe_one (pe_cmpR (op_eq) (pv 0) (pv 1) (nomark _))))))))), ?_⟩
    refine ⟨_, rfl, (by show 2 ≤ sizeLine; decide), fun tp htp => ?_⟩
    have s1 : Same H (upd H tp (.tup [.ty "list", .ty "tuple"])) := same_upd htp
    have hT1 : Twin K (n + 1) (upd H tp (.tup [.ty "list", .ty "tuple"])) x y := Twin.same s1 hT
    have hcs : Paired ClsV [V.ty "list", V.ty "tuple"] [Value.type "list", Value.type "tuple"] := .cons (.ty _) (.cons (.ty _) .nil)
    rcases hT1 with ⟨hs, rfl⟩ | ⟨a, b, xs, ys, rfl, rfl, hl, hlm, it, hq⟩
    · have q' := q _ s1
      rw [← decide_eq_true (rfl : x = x)] at q'
      rcases hs with rfl | ⟨bb, rfl⟩ | ⟨ii, rfl⟩ | ⟨zz, rfl⟩
      · have ty : TyX K (upd H tp (.tup [.ty "list", .ty "tuple"])) V.non (.type "NoneType") := .base .non
        have kS : kitB "NoneType" "str" = some false := by decide +kernel
        refine ⟨_, tp, _, _, _, _, rfl, upd_same, hcs, ty, kit2 (by decide +kernel : kitB "NoneType" "list" = some false) (by decide +kernel : kitB "NoneType" "tuple" = some false), _, rfl, iteF ?_⟩
        refine ⟨_, rfl, rfl, _, rfl, iteT (iteT ?_)⟩
        exact ⟨_, rfl, _, _, _, _, _, rfl, .ty _, ty, kit_ty kS, _, rfl, _, _, _, _, _, rfl, .ty _, ty, kit_ty kS, rfl, _, rfl, ite2 (fun _ => ⟨_, rfl, _, rfl, rfl, q'⟩) (fun h => absurd (decide_eq_true rfl) h)⟩
      · have ty : TyX K (upd H tp (.tup [.ty "list", .ty "tuple"])) (V.bl bb) (.type "bool") := .base (.bl bb)
        have kS : kitB "bool" "str" = some false := by decide +kernel
        have kI : kitB "bool" "int" = some true := by decide +kernel
        have kB : kitB "bool" "bool" = some true := by decide +kernel
        refine ⟨_, tp, _, _, _, _, rfl, upd_same, hcs, ty, kit2 (by decide +kernel : kitB "bool" "list" = some false) (by decide +kernel : kitB "bool" "tuple" = some false), _, rfl, iteF ?_⟩
        refine ⟨_, rfl, rfl, _, rfl, iteF ⟨_, rfl, _, _, _, _, _, rfl, .ty _, ty, kit_ty kS, _, rfl, iteF ?_⟩⟩
        exact ⟨_, rfl, _, _, _, _, _, rfl, .ty _, ty, kit_ty kI, _, rfl, iteT ⟨_, rfl, _, _, _, _, _, rfl, .ty _, ty, kit_ty kB, _, rfl, _, _, _, _, _, rfl, .ty _, ty, kit_ty kB, rfl, _, rfl, ite2 (fun _ => ⟨_, rfl, _, rfl, rfl, q'⟩) (fun h => absurd (decide_eq_true rfl) h)⟩⟩
      · have ty : TyX K (upd H tp (.tup [.ty "list", .ty "tuple"])) (V.int ii) (.type "int") := .base (.int ii)
        have kS : kitB "int" "str" = some false := by decide +kernel
        have kI : kitB "int" "int" = some true := by decide +kernel
        have kB : kitB "int" "bool" = some false := by decide +kernel
        refine ⟨_, tp, _, _, _, _, rfl, upd_same, hcs, ty, kit2 (by decide +kernel : kitB "int" "list" = some false) (by decide +kernel : kitB "int" "tuple" = some false), _, rfl, iteF ?_⟩
        refine ⟨_, rfl, rfl, _, rfl, iteF ⟨_, rfl, _, _, _, _, _, rfl, .ty _, ty, kit_ty kS, _, rfl, iteF ?_⟩⟩
        exact ⟨_, rfl, _, _, _, _, _, rfl, .ty _, ty, kit_ty kI, _, rfl, iteT ⟨_, rfl, _, _, _, _, _, rfl, .ty _, ty, kit_ty kB, _, rfl, _, _, _, _, _, rfl, .ty _, ty, kit_ty kB, rfl, _, rfl, ite2 (fun _ => ⟨_, rfl, _, rfl, rfl, q'⟩) (fun h => absurd (decide_eq_true rfl) h)⟩⟩
      · have ty : TyX K (upd H tp (.tup [.ty "list", .ty "tuple"])) (V.str zz) (.type "str") := .base (.str zz)
        have kS : kitB "str" "str" = some true := by decide +kernel
        refine ⟨_, tp, _, _, _, _, rfl, upd_same, hcs, ty, kit2 (by decide +kernel : kitB "str" "list" = some false) (by decide +kernel : kitB "str" "tuple" = some false), _, rfl, iteF ?_⟩
        refine ⟨_, rfl, rfl, _, rfl, iteF ⟨_, rfl, _, _, _, _, _, rfl, .ty _, ty, kit_ty kS, _, rfl, iteT ?_⟩⟩
        exact ⟨_, rfl, _, _, _, _, _, rfl, .ty _, ty, kit_ty kS, _, rfl, _, _, _, _, _, rfl, .ty _, ty, kit_ty kS, rfl, _, rfl, ite2 (fun _ => ⟨_, rfl, _, rfl, rfl, q'⟩) (fun h => absurd (decide_eq_true rfl) h)⟩
    · rcases hq with ⟨ha, hb⟩ | ⟨ha, hb⟩
      · have ka : kitB "list" "list" = some true := by decide +kernel
        have kb : kitB "list" "tuple" = some false := by decide +kernel
        refine ⟨_, tp, _, _, _, _, rfl, upd_same, hcs, tyL hb, kit2 ka kb, _, rfl, iteT ?_⟩
        refine ⟨_, rfl, _, _, _, _, _, rfl, .ty _, tyL ha, kit_ty ka, _, rfl, _, _, _, _, _, rfl, .ty _, tyL hb, kit_ty ka, rfl, _, rfl, iteNS rfl ?_⟩
        refine ⟨_, rfl, _, _, _, _, _, rfl, .ty _, tyL ha, kit_ty kb, _, rfl, _, _, _, _, _, rfl, .ty _, tyL hb, kit_ty kb, rfl, _, rfl, iteNS rfl ?_⟩
        refine ⟨_, rfl, a, xs, rfl, .inl ha, _, rfl, b, ys, rfl, .inl hb, rfl, _, rfl, ite2 (fun _ => ?_) (fun h => absurd (decide_eq_true (by rw [hl])) h)⟩
        refine ⟨_, rfl, _, rfl, a, b, xs, ys, rfl, .inl ⟨ha, hb, fun D hD => ?_⟩⟩
        generalize hH1 : upd H tp (.tup [.ty "list", .ty "tuple"]) = H1 at *
        refine lc_it (walk_zip (K := K) (a := a) (b := b) (xs := xs) (ys := ys) (n := xs.length) (by omega)) (fun i H' => Same H1 H' ∧ H' D = some (.lst (List.replicate i (.bl true)))) ⟨same_upd hD, upd_same⟩ (fun i H' _ p => ⟨p.1.seq ha, p.1.seq hb⟩) ?_ ?_
        · rintro i v H2 H3 hi ⟨sm, eD⟩ ⟨T, u, v', rfl, nT, rfl, e1, e2⟩
          refine ⟨T, _, rfl, sqT upd_same, rfl, _, _, rfl, _, _, rfl, rfl, rfl, _, rfl, _, rfl, u, v', rfl, Twin.same (sm.trans (same_upd nT)) (it i u v' e1 e2), fun H4 s4 => ?_⟩
          have s5 := (same_upd (o := .tup [u, v']) nT).trans s4
          refine ⟨_, s5 _ _ eD, by rw [List.length_replicate]; exact line_gt (by omega), same_but (sm.trans s5) hD, ?_⟩
          rw [upd_same, rep_more]
        · rintro H2 ⟨sm, eD⟩
          refine ⟨D, List.replicate xs.length true, rfl, by rw [List.map_replicate]; exact sqL eD, ?_⟩
          rw [all_true]
          exact q _ (s1.trans sm)
      · have ka : kitB "tuple" "list" = some false := by decide +kernel
        have kb : kitB "tuple" "tuple" = some true := by decide +kernel
        refine ⟨_, tp, _, _, _, _, rfl, upd_same, hcs, tyT hb, kit2 ka kb, _, rfl, iteT ?_⟩
        refine ⟨_, rfl, _, _, _, _, _, rfl, .ty _, tyT ha, kit_ty ka, _, rfl, _, _, _, _, _, rfl, .ty _, tyT hb, kit_ty ka, rfl, _, rfl, iteNS rfl ?_⟩
        refine ⟨_, rfl, _, _, _, _, _, rfl, .ty _, tyT ha, kit_ty kb, _, rfl, _, _, _, _, _, rfl, .ty _, tyT hb, kit_ty kb, rfl, _, rfl, iteNS rfl ?_⟩
        refine ⟨_, rfl, a, xs, rfl, .inr ha, _, rfl, b, ys, rfl, .inr hb, rfl, _, rfl, ite2 (fun _ => ?_) (fun h => absurd (decide_eq_true (by rw [hl])) h)⟩
        refine ⟨_, rfl, _, rfl, a, b, xs, ys, rfl, .inr ⟨ha, hb, fun D hD => ?_⟩⟩
        generalize hH1 : upd H tp (.tup [.ty "list", .ty "tuple"]) = H1 at *
        refine lc_it (walk_zipT (K := K) (a := a) (b := b) (xs := xs) (ys := ys) (n := xs.length) (by omega)) (fun i H' => Same H1 H' ∧ H' D = some (.lst (List.replicate i (.bl true)))) ⟨same_upd hD, upd_same⟩ (fun i H' _ p => ⟨sameT p.1 ha, sameT p.1 hb⟩) ?_ ?_
        · rintro i v H2 H3 hi ⟨sm, eD⟩ ⟨T, u, v', rfl, nT, rfl, e1, e2⟩
          refine ⟨T, _, rfl, sqT upd_same, rfl, _, _, rfl, _, _, rfl, rfl, rfl, _, rfl, _, rfl, u, v', rfl, Twin.same (sm.trans (same_upd nT)) (it i u v' e1 e2), fun H4 s4 => ?_⟩
          have s5 := (same_upd (o := .tup [u, v']) nT).trans s4
          refine ⟨_, s5 _ _ eD, by rw [List.length_replicate]; exact line_gt (by omega), same_but (sm.trans s5) hD, ?_⟩
          rw [upd_same, rep_more]
        · rintro H2 ⟨sm, eD⟩
          refine ⟨D, List.replicate xs.length true, rfl, by rw [List.map_replicate]; exact sqL eD, ?_⟩
          rw [all_true]
          exact q _ (s1.trans sm)
theorem cal_same0 {f : Addr} {fd : FuncData} (gm : mg "_law_same" = some (.ref f)) (kp : PySem.W.keepIn K (.ref f) = true) (bs : Binds K fd ["_law_found", "_law_due_here"] []) : Cal P w K mg base 0 "_law_same" ["_law_found", "_law_due_here"] (spSm (Twin K 0)) :=
  ⟨f, fd, ⟨fun vs H Q E h => by obtain ⟨x, y, rfl, _⟩ := h; rfl, fun A outer s H args us vs Q E _ _ _ _ h => by obtain ⟨x, y, rfl, h, _⟩ := h; exact h.elim⟩, gm, kp, bs⟩
end
end My

namespace My
open PySem PySem.Spec PyProof.Rows L2
def pA : List Int := [4, 60, 10 ^ Int.toNat 4 + 1]
def pB : List Int := [3, 80, 10 ^ Int.toNat 4]
def pC : List Int := [2, 99]
theorem pA_in {c : Int} (h : c ∈ pA) : 0 < c ∧ c ≤ 10001 := by
  have : ∀ c ∈ pA, 0 < c ∧ c ≤ 10001 := by decide +kernel
  exact this c h
theorem pB_in {c : Int} (h : c ∈ pB) : 0 < c ∧ c ≤ 10000 := by
  have : ∀ c ∈ pB, 0 < c ∧ c ≤ 10000 := by decide +kernel
  exact this c h
theorem pC_in {c : Int} (h : c ∈ pC) : 0 < c ∧ c ≤ 99 := by
  have : ∀ c ∈ pC, 0 < c ∧ c ≤ 99 := by decide +kernel
  exact this c h
theorem pick {L : List Int} {v : Nat} (h : v < L.length) : ∃ c ∈ L, atI (L.map V.int) (v : Int) = some (.int c) :=
  ⟨L[v], List.getElem_mem h, atI_nat (by rw [List.getElem?_map, List.getElem?_eq_getElem h]; rfl)⟩
theorem ten4' : (10 : Int) ^ Int.toNat 4 = 10000 := by decide
theorem ten6' : (10 : Int) ^ Int.toNat 6 = 1000000 := by decide
/-- a new tuple of the four fields of some place -/
def spSpot : Sp := fun vs H Q _ => ∃ (b : Addr) (wd : Int) (n : Nat), vs = [.ref b, .int wd] ∧ 0 < wd ∧ wd ≤ 1000000 ∧ Bx n b H ∧ n ≤ 900000 ∧ ∀ ln la bg en H' t, Spot ln la bg en → Aft b (n + 8) H H' → H t = none → H' t = some (.tup [ln, la, bg, en]) → Q (.ref t) H'
theorem spot_line {l : Int} (h1 : 1 ≤ l) (h2 : l ≤ 1000000) : Spot (.int l) (.int l) .non .non :=
  .inr ⟨l, l, rfl, rfl, .inr ⟨l, rfl, h1, h2, .inr ⟨l, rfl, by omega, by omega, h2, .inl ⟨decide_eq_true rfl, rfl, rfl⟩⟩⟩⟩
theorem spot_part {l m b e : Int} (h1 : 1 ≤ l) (lm : l ≤ m) (h2 : m ≤ l + 99) (h3 : m ≤ 1000000) (b0 : 0 ≤ b) (b1 : b ≤ 10000) (e0 : 0 ≤ e) (e1 : e ≤ 10000) (be : m = l → b ≤ e) : Spot (.int l) (.int m) (.int b) (.int e) :=
  .inr ⟨l, m, rfl, rfl, .inr ⟨l, rfl, h1, by omega, .inr ⟨m, rfl, lm, h2, h3, .inr ⟨b, e, rfl, rfl, b0, b1, fun z => be (of_decide_eq_true z), e0, e1⟩⟩⟩⟩
section
variable {P : Program} {w : World} {K : PySem.W.Frag} {mg : Str → Option Value} {base : Heap}
theorem ok_l_spot {f : Addr} {fd : FuncData} (F : Fun K "_law_spot" "_law_spot" s_l_spot f fd) (z_min : mg "min" = none) (c_l_take : Cal P w K mg base 2 "_law_take" ["_law_box_here", "_law_many"] spTake) : FnOk P w K mg base CX0 3 f fd ["_law_box_here", "_law_wide"] spSpot := by
  refine F.ok sc_l_spot (fun vs H Q E h => ?_) (fun cdv A outer s H vs Q E hr h => ?_)
  · obtain ⟨b, wd, n, rfl, _⟩ := h
    rfl
  · obtain ⟨b, wd, n, rfl, w0, w1, hb, hn, q⟩ := h
    refine ⟨_, (pss_cons (ps_par (by rfl) sc_l_spot.nd (i := 2) (j := 3) rfl rfl (by decide) rfl rfl (pa_cons (pe_c c_l_take hr (by first | decide | exact Nat.le_refl _) (by rfl) (pa_cons (pv 0) (pa_cons (pe_int) pa_nil))) (pa_cons (pe_op op_add (pe_int) (pe_c c_l_take hr (by first | decide | exact Nat.le_refl _) (by rfl) (pa_cons (pv 0) (pa_cons (pv 1) pa_nil)))) pa_nil)) (by rfl))
      (pss_cons (ps_if (pt_cmpR (op_eq) (pv 2) (pe_int) (nomark _)) (pss_one (ps_ret (pe_tup (pa_cons (pe_non) (pa_cons (pe_non) (pa_cons (pe_non) (pa_cons (pe_non) pa_nil))))))) pss_nil)
      (pss_cons (ps_if (pt_cmpR (op_lt) (pv 2) (pe_int) (nomark _)) (pss_one (ps_ret (pe_tup (pa_cons (pv 3) (pa_cons (pv 3) (pa_cons (pe_non) (pa_cons (pe_non) pa_nil))))))) pss_nil)
      (pss_cons (ps_set (i := 4) sc_l_spot.nd rfl (Or.inl rfl) (pe_c c_l_take hr (by first | decide | exact Nat.le_refl _) (by rfl) (pa_cons (pv 0) (pa_cons (pe_ix ix_list (pe_lst (pa_cons (pe_int) (pa_cons (pe_int) (pa_cons (pe_op op_add (pe_op op_pow (pe_int) (pe_int)) (pe_int)) pa_nil)))) (pe_c c_l_take hr (by first | decide | exact Nat.le_refl _) (by rfl) (pa_cons (pv 0) (pa_cons (pe_int) pa_nil))) (fun _ _ => rfl)) pa_nil))))
      (pss_cons (ps_if (pt_cmpR (op_lt) (pv 2) (pe_int) (nomark _)) (pss_one (ps_ret (pe_tup (pa_cons (pv 3) (pa_cons (pv 3) (pa_cons (pv 4) (pa_cons (pe_callB (call_min2 rfl) (by rfl) z_min (by decide +kernel) (pa_cons (pe_op op_pow (pe_int) (pe_int)) (pa_cons (pe_op op_add (pv 4) (pe_c c_l_take hr (by first | decide | exact Nat.le_refl _) (by rfl) (pa_cons (pv 0) (pa_cons (pe_ix ix_list (pe_lst (pa_cons (pe_int) (pa_cons (pe_int) (pa_cons (pe_op op_pow (pe_int) (pe_int)) pa_nil)))) (pe_c c_l_take hr (by first | decide | exact Nat.le_refl _) (by rfl) (pa_cons (pv 0) (pa_cons (pe_int) pa_nil))) (fun _ _ => rfl)) pa_nil)))) pa_nil))) pa_nil))))))) pss_nil)
      (pss_cons (ps_set (i := 5) sc_l_spot.nd rfl (Or.inl rfl) (pe_callB (call_min2 rfl) (by rfl) z_min (by decide +kernel) (pa_cons (pe_op op_pow (pe_int) (pe_int)) (pa_cons (pe_op op_add (pe_op op_add (pv 3) (pe_int)) (pe_c c_l_take hr (by first | decide | exact Nat.le_refl _) (by rfl) (pa_cons (pv 0) (pa_cons (pe_ix ix_list (pe_lst (pa_cons (pe_int) (pa_cons (pe_int) pa_nil))) (pe_c c_l_take hr (by first | decide | exact Nat.le_refl _) (by rfl) (pa_cons (pv 0) (pa_cons (pe_int) pa_nil))) (fun _ _ => rfl)) pa_nil)))) pa_nil))))
      (pss_cons (ps_if (pt_cmpR (op_eq) (pv 5) (pv 3) (nomark _)) (pss_one (ps_ret (pe_tup (pa_cons (pv 3) (pa_cons (pv 3) (pa_cons (pe_non) (pa_cons (pe_non) pa_nil))))))) pss_nil)
      (pss_one (ps_ret (pe_tup (pa_cons (pv 3) (pa_cons (pv 5) (pa_cons (pv 4) (pa_cons (pe_c c_l_take hr (by first | decide | exact Nat.le_refl _) (by rfl) (pa_cons (pv 0) (pa_cons (pe_ix ix_list (pe_lst (pa_cons (pe_int) (pa_cons (pe_int) (pa_cons (pe_op op_add (pe_op op_pow (pe_int) (pe_int)) (pe_int)) pa_nil)))) (pe_c c_l_take hr (by first | decide | exact Nat.le_refl _) (by rfl) (pa_cons (pv 0) (pa_cons (pe_int) pa_nil))) (fun _ _ => rfl)) pa_nil))) pa_nil)))))))))))))), ?_⟩
    have fin : ∀ (ln la bg en : V) (k : Nat) (H' : Hp), Spot ln la bg en → k ≤ 8 → Aft b (n + k) H H' → ∀ t, H' t = none → Q (.ref t) (upd H' t (.tup [ln, la, bg, en])) := fun ln la bg en k H' hS hk a t nt =>
      q ln la bg en _ t hS ((a.new nt).mono (by omega)) (a.free nt hb) upd_same
    refine ⟨_, rfl, b, 6, n, rfl, by decide, by decide, hb, by omega, fun vw H1 hw a1 _ => ?_⟩
    refine ⟨_, rfl, _, rfl, b, wd, n + 1, rfl, w0, by omega, a1.box, by omega, fun vf H2 hf a2 _ => ⟨_, _, rfl, rfl, _, _, rfl, ?_⟩⟩
    have A2 : Aft b (n + 2) H H2 := a1.trans a2
    have f1 : 1 ≤ 1 + (vf : Int) := by omega
    have f2 : 1 + (vf : Int) ≤ 1000000 := by omega
    refine ⟨_, rfl, rfl, _, rfl, ite2 (fun c0 => ?_) (fun c0 => ?_)⟩
    · exact ⟨(by show 4 ≤ sizeLine; decide), fun t nt => fin _ _ _ _ 2 _ (.inl ⟨rfl, rfl, rfl, rfl⟩) (by decide) A2 t nt⟩
    refine ⟨_, rfl, _, _, rfl, rfl, _, rfl, ite2 (fun c3 => ?_) (fun c3 => ?_)⟩
    · exact ⟨_, rfl, _, rfl, (by show 4 ≤ sizeLine; decide), fun t nt => fin _ _ _ _ 2 _ (spot_line f1 f2) (by decide) A2 t nt⟩
    refine ⟨_, rfl, _, _, rfl, rfl, ⟨by decide, by decide, by decide⟩, _, _, rfl, rfl, (by show 3 ≤ sizeLine; decide), fun l1d nl1d => ?_⟩
    have nl1d' : H2 l1d = none := nl1d
    have sl1d := same_upd (o := .lst (pA.map V.int)) nl1d'
    have lb1d := A2.box.ne nl1d'
    refine ⟨_, rfl, b, 3, n + 2, rfl, by decide, by decide, A2.box.same sl1d, by omega, fun v1d Hx1d hv1d ax1d _ => ?_⟩
    obtain ⟨c1d, hc1d, hat1d⟩ := pick (L := pA) (v := v1d) (by show v1d < 3; omega)
    have A1dx : Aft b (n + 2 + 1) H Hx1d := (A2.same sl1d).trans ax1d
    refine ⟨l1d, pA.map V.int, _, _, rfl, rfl, sqL (ax1d.get (upd_same : upd H2 l1d (.lst (pA.map V.int)) l1d = _) lb1d), hat1d, ?_⟩
    refine ⟨b, c1d, n + 2 + 1, rfl, (pA_in hc1d).1, by have := (pA_in hc1d).2; omega, A1dx.box, by omega, fun u1d H1d hu1d ay1d _ => ?_⟩
    have A1d : Aft b (n + 2 + 2) H H1d := A1dx.trans ay1d
    have hb1d := (pA_in hc1d).2
    refine ⟨_, rfl, _, _, rfl, rfl, _, rfl, ite2 (fun c5 => ?_) (fun c5 => ?_)⟩
    · refine ⟨_, rfl, _, rfl, _, rfl, _, _, rfl, rfl, ⟨by decide, by decide, by decide⟩, _, rfl, ?_⟩
      refine ⟨_, rfl, _, _, rfl, rfl, ⟨by decide, by decide, by decide⟩, (by show 3 ≤ sizeLine; decide), fun l2d nl2d => ?_⟩
      have nl2d' : H1d l2d = none := nl2d
      have sl2d := same_upd (o := .lst (pB.map V.int)) nl2d'
      have lb2d := A1d.box.ne nl2d'
      refine ⟨_, rfl, b, 3, n + 2 + 2, rfl, by decide, by decide, A1d.box.same sl2d, by omega, fun v2d Hx2d hv2d ax2d _ => ?_⟩
      obtain ⟨c2d, hc2d, hat2d⟩ := pick (L := pB) (v := v2d) (by show v2d < 3; omega)
      have A2dx : Aft b (n + 2 + 2 + 1) H Hx2d := (A1d.same sl2d).trans ax2d
      refine ⟨l2d, pB.map V.int, _, _, rfl, rfl, sqL (ax2d.get (upd_same : upd H1d l2d (.lst (pB.map V.int)) l2d = _) lb2d), hat2d, ?_⟩
      refine ⟨b, c2d, n + 2 + 2 + 1, rfl, (pB_in hc2d).1, by have := (pB_in hc2d).2; omega, A2dx.box, by omega, fun u2d H2d hu2d ay2d _ => ?_⟩
      have A2d : Aft b (n + 2 + 2 + 2) H H2d := A2dx.trans ay2d
      have hb2d := (pB_in hc2d).2
      refine ⟨_, _, rfl, rfl, _, _, rfl, (by show 4 ≤ sizeLine; decide), fun t nt => ?_⟩
      refine fin _ _ _ _ 6 _ ?_ (by decide) A2d t nt
      have e : (10 : Int) ^ Int.toNat 4 = 10000 := ten4'
      split
      · exact spot_part f1 (by omega) (by omega) f2 (by omega) (by omega) (by omega) (by omega) (fun _ => by omega)
      · exact spot_part f1 (by omega) (by omega) f2 (by omega) (by omega) (by omega) (by omega) (fun _ => by omega)
    refine ⟨_, _, rfl, rfl, ⟨by decide, by decide, by decide⟩, _, rfl, _, _, rfl, rfl, ?_⟩
    refine ⟨_, rfl, (by show 2 ≤ sizeLine; decide), fun l3d nl3d => ?_⟩
    have nl3d' : H1d l3d = none := nl3d
    have sl3d := same_upd (o := .lst (pC.map V.int)) nl3d'
    have lb3d := A1d.box.ne nl3d'
    refine ⟨_, rfl, b, 2, n + 2 + 2, rfl, by decide, by decide, A1d.box.same sl3d, by omega, fun v3d Hx3d hv3d ax3d _ => ?_⟩
    obtain ⟨c3d, hc3d, hat3d⟩ := pick (L := pC) (v := v3d) (by show v3d < 2; omega)
    have A3dx : Aft b (n + 2 + 2 + 1) H Hx3d := (A1d.same sl3d).trans ax3d
    refine ⟨l3d, pC.map V.int, _, _, rfl, rfl, sqL (ax3d.get (upd_same : upd H1d l3d (.lst (pC.map V.int)) l3d = _) lb3d), hat3d, ?_⟩
    refine ⟨b, c3d, n + 2 + 2 + 1, rfl, (pC_in hc3d).1, by have := (pC_in hc3d).2; omega, A3dx.box, by omega, fun u3d H3d hu3d ay3d _ => ?_⟩
    have A3d : Aft b (n + 2 + 2 + 2) H H3d := A3dx.trans ay3d
    have hb3d := (pC_in hc3d).2
    refine ⟨_, _, rfl, rfl, _, _, rfl, ?_⟩
    have e6 : (10 : Int) ^ Int.toNat 6 = 1000000 := ten6'
    have hm : ∃ m : Int, m = (if (1 + (vf : Int)) + 1 + (u3d : Int) < (10 : Int) ^ Int.toNat 6 then (1 + (vf : Int)) + 1 + (u3d : Int) else (10 : Int) ^ Int.toNat 6) ∧ (1 + (vf : Int)) ≤ m ∧ m ≤ (1 + (vf : Int)) + 99 ∧ m ≤ 1000000 := by
      refine ⟨_, rfl, ?_⟩
      split <;> omega
    obtain ⟨m, em, m1, m2, m3⟩ := hm
    refine ⟨.int m, by rw [em] <;> rfl, _, rfl, rfl, _, rfl, ite2 (fun cb => ?_) (fun cb => ?_)⟩
    · exact ⟨_, rfl, _, rfl, (by show 4 ≤ sizeLine; decide), fun t nt => fin _ _ _ _ 6 _ (spot_line f1 f2) (by decide) A3d t nt⟩
    refine ⟨_, rfl, .int m, by rw [em] <;> rfl, _, rfl, ?_⟩
    refine ⟨_, rfl, _, _, rfl, rfl, ⟨by decide, by decide, by decide⟩, _, _, rfl, rfl, (by show 3 ≤ sizeLine; decide), fun l4d nl4d => ?_⟩
    have nl4d' : H3d l4d = none := nl4d
    have sl4d := same_upd (o := .lst (pA.map V.int)) nl4d'
    have lb4d := A3d.box.ne nl4d'
    refine ⟨_, rfl, b, 3, n + 2 + 2 + 2, rfl, by decide, by decide, A3d.box.same sl4d, by omega, fun v4d Hx4d hv4d ax4d _ => ?_⟩
    obtain ⟨c4d, hc4d, hat4d⟩ := pick (L := pA) (v := v4d) (by show v4d < 3; omega)
    have A4dx : Aft b (n + 2 + 2 + 2 + 1) H Hx4d := (A3d.same sl4d).trans ax4d
    refine ⟨l4d, pA.map V.int, _, _, rfl, rfl, sqL (ax4d.get (upd_same : upd H3d l4d (.lst (pA.map V.int)) l4d = _) lb4d), hat4d, ?_⟩
    refine ⟨b, c4d, n + 2 + 2 + 2 + 1, rfl, (pA_in hc4d).1, by have := (pA_in hc4d).2; omega, A4dx.box, by omega, fun u4d H4d hu4d ay4d _ => ?_⟩
    have A4d : Aft b (n + 2 + 2 + 2 + 2) H H4d := A4dx.trans ay4d
    have hb4d := (pA_in hc4d).2
    refine ⟨(by show 4 ≤ sizeLine; decide), fun t nt => ?_⟩
    refine fin _ _ _ _ 8 _ ?_ (by decide) A4d t nt
    have hne : m ≠ (1 + (vf : Int)) := fun z => cb (decide_eq_true (by rw [z] <;> rfl))
    exact spot_part f1 m1 m2 m3 (by omega) (by omega) (by omega) (by omega) (fun z => absurd z hne)
end
end My

namespace My
open PySem PySem.Spec PyProof.Rows L2
/-! ### the refusal -/
def spBP (B : Addr) : Sp := fun vs H Q _ => ∃ (a : Addr) (part : Str), vs = [.ref a, .str part] ∧ part.length ≤ 100 ∧ H a = some (exo a B none) ∧ ∀ dx, H dx = none → dx ≠ a → Q .non (upd (upd H dx (exd dx [("part", .str part)])) a (exo a B (some dx)))
/-- what stands wrong, by its word -/
def OffP (ln la : V) (part : Str) : Prop := (∃ l : Int, ln = .int l ∧ ¬ (1 ≤ l ∧ l ≤ 1000000) ∧ part = "line") ∨ ∃ l m : Int, ln = .int l ∧ la = .int m ∧ 1 ≤ l ∧ l ≤ 1000000 ∧ l ≤ m ∧ 1000000 < m ∧ part = "last"
theorem OffP.len {ln la : V} {part : Str} (h : OffP ln la part) : part.length ≤ 100 := by
  rcases h with ⟨l, _, _, rfl⟩ | ⟨l, m, _, _, _, _, _, _, rfl⟩ <;> decide +kernel
def spPartX : Sp := fun vs H Q _ => ∃ ln la bg en : V, vs = [ln, la, bg, en] ∧ ((Good ln la bg en ∧ ∀ H', Same H H' → Q .non H') ∨ ∃ part, OffP ln la part ∧ Q (.str part) H)
def spInitX (C B : Addr) : Sp := fun vs H Q E => ∃ (x dx : Addr) (ln la bg en : V), vs = [.ref x, ln, la, bg, en] ∧ H x = some (.ins C dx []) ∧
  ((Good ln la bg en ∧ ∀ H', (∀ a o, a ≠ x → H a = some o → H' a = some o) → H' x = some (.ins C dx (fsOf ln la bg en)) → Q .non H') ∨ ∃ part, OffP ln la part ∧ ∀ H' d, Same H H' → H' d = some (.xd [("part", .str part)]) → E (.ref B) (some d) H')
def spMvX (C B : Addr) : Sp := fun vs H Q E => ∃ (x : Addr) (by' : Int) (ln la bg en : V), vs = [.ref x, .int by'] ∧ PlaceAt C H x ln la bg en ∧
  ((ln = .non ∧ Q (.ref x) H) ∨ ∃ l m : Int, ln = .int l ∧ la = .int m ∧ ((Good (.int (l + by')) (.int (m + by')) bg en ∧ ∀ H' y, Same H H' → H y = none → PlaceAt C H' y (.int (l + by')) (.int (m + by')) bg en → Q (.ref y) H') ∨
    ∃ part, OffP (.int (l + by')) (.int (m + by')) part ∧ ∀ H' d, Same H H' → H' d = some (.xd [("part", .str part)]) → E (.ref B) (some d) H'))
structure MkNX (P : Program) (w : World) (K : PySem.W.Frag) (mg : Str → Option Value) (base : Heap) (k : Nat) (x : Str) (C : Addr) (n : Nat) (ks : List Str) (gV : List V → List V → List V) (sp : Sp) : Prop where
  ex : ∃ f fd ps g, Mk K C f ∧ FnOk P w K mg base (L2.CX P w) k f fd ps sp ∧ mg x = some (.ref C) ∧ KBn K fd ps (n + 1) ks g gV
section
variable {X : Cx} {k j n : Nat} {ks : List Str} {sp : Sp} {x : Str} {C : Addr} {p pos : Pos} {e : Expr} {es : List Expr} {kws : List Keyword} {t tk : TA} {E : XK} {gV : List V → List V → List V}
theorem pe_mkNX (M : MkNX X.prog X.w X.K X.mg X.base k x C n ks gV sp) (hr : Room j X.A) (hk : k + 1 ≤ j) (hg : Gl X x) (hx : Passes (L2.CX X.prog X.w) X E) (ha : PA X (e :: es) t) (hkw : PK X kws tk)
    (hall : (backToKw pos (keywordEach kws X.env)).all (·.1.isSome) = true := by rfl) (hks : (backToKw pos (keywordEach kws X.env)).filterMap (·.1) = ks := by rfl) (hdb : (x == ("__debug__" : Str)) = false := by decide)
    (he : starEach (e :: es) X.env = (false, eval e X.env) :: starEach es X.env := by rfl) (hpl : ((backTo pos (starEach (e :: es) X.env)).any (·.1) || (backToKw pos (keywordEach kws X.env)).any (·.1.isNone)) = false := by rfl) :
    PE X (.Call (.Name x p) (e :: es) kws pos) (tMakeK C n ks.length sp gV E t tk) := by
  obtain ⟨f, fd, ps, g, M1, F, hm, hb⟩ := M.ex
  exact pe_makeK M1 F (hr.mono hk) hg hm hb hx ha hkw hall hks hdb he hpl
end
section
variable {P : Program} {w : World} {K : PySem.W.Frag} {mg : Str → Option Value} {base : Heap}
theorem ok_BP_init {f B : Addr} {fd : FuncData} (F : Fun K "__init__" "BadPlace.__init__" s_BadPlace_init f fd) (OB : OexC K B) (hno : PySem.W.findIn K (.ref B) "part" = some none) (z_ValueError : mg "ValueError" = none) (vV : PySem.W.findCls K (.type "ValueError") (.type "type") "__init__" = some (.val (.builtin "ValueError.__init__"))) :
    FnOk P w K mg base CX0 2 f fd ["self", "part"] (spBP B) := by
  refine F.ok sc_BadPlace_init (fun vs H Q E h => ?_) (fun cdv A outer s H vs Q E hr h => ?_)
  · obtain ⟨a, _, rfl, _⟩ := h
    rfl
  · obtain ⟨a, part, rfl, hl, ha, q⟩ := h
    refine ⟨_, (pss_cons (ps_expr (pe_veinit (by rfl) z_ValueError vV (pa_cons (pv 0) (pa_cons (pe_joined (PJ.cons (pe_str) (PJ.cons (pe_fmt (pv 1)) PJ.nil))) pa_nil))))
      (pss_one (ps_ost (pv 0) (pv 1)))), ?_⟩
    have g1 : (Str.empty : Str).length = 0 := by decide +kernel
    have g2 : ("no place has such a " : Str).length = 20 := by decide +kernel
    have L1 : (Str.empty ++ "no place has such a ").length ≤ 1000 := by simp only [Str.length_append, g1, g2]; omega
    have L2 : (Str.empty ++ "no place has such a " ++ part).length ≤ 1000 := by simp only [Str.length_append, g1, g2]; omega
    refine ⟨_, rfl, _, rfl, fits L1, _, rfl, .inl ⟨_, rfl, fits (by omega), _, rfl, fits L2, ?_⟩⟩
    refine ⟨a, B, _, rfl, (by show 1 ≤ 1000; decide), OB, ha, ?_⟩
    exact ⟨_, rfl, _, rfl, a, B, rfl, OB, hno, .inl ⟨ha, q⟩⟩
theorem ok_wrong_partX {f : Addr} {fd : FuncData} (F : Fun K "wrong_part" "wrong_part" s_wrong_part f fd) {tL tM : Nat} (g_LAST_LINE : mg "LAST_LINE" = some (.int 1000000 tL)) (g_MOST_LINES_BEHIND : mg "MOST_LINES_BEHIND" = some (.int 99 tM)) (z_min : mg "min" = none)
    (c_is_number : Cal P w K mg base 2 "is_number" ["thing", "low", "high"] spNum) (c_wrong_columns : Cal P w K mg base 3 "wrong_columns" ["begin", "end", "one_line"] spCols) (c_wrong_of_nowhere : Cal P w K mg base 2 "wrong_of_nowhere" ["last", "begin", "end"] spNow) : FnOk P w K mg base CX0 4 f fd ["line", "last", "begin", "end"] spPartX := by
  refine F.ok sc_wrong_part (fun vs H Q E h => ?_) (fun cdv A outer s H vs Q E hr h => ?_)
  · obtain ⟨ln, la, bg, en, rfl, _⟩ := h
    rfl
  · obtain ⟨ln, la, bg, en, rfl, h⟩ := h
    refine ⟨_, (pss_cons (ps_if (pt_cmpR (op_isN) (pv 0) (pe_non) (nomark _)) (pss_one (ps_ret (pe_c c_wrong_of_nowhere hr (by first | decide | exact Nat.le_refl _) (by rfl) (pa_cons (pv 1) (pa_cons (pv 2) (pa_cons (pv 3) pa_nil)))))) pss_nil)
      (pss_cons (ps_if (pt_not (pt_val (pe_c c_is_number hr (by first | decide | exact Nat.le_refl _) (by rfl) (pa_cons (pv 0) (pa_cons (pe_int) (pa_cons (pe_glob (v := .int 1000000) (by rfl) g_LAST_LINE ⟨_, rfl⟩) pa_nil)))))) (pss_one (ps_ret (pe_str))) pss_nil)
      (pss_cons (ps_if (pt_cmpR (op_isN) (pv 1) (pe_non) (nomark _)) (pss_one (ps_ret (pe_c c_wrong_columns hr (by first | decide | exact Nat.le_refl _) (by rfl) (pa_cons (pv 2) (pa_cons (pv 3) (pa_cons (pe_bl) pa_nil)))))) pss_nil)
      (pss_cons (ps_if (pt_not (pt_val (pe_c c_is_number hr (by first | decide | exact Nat.le_refl _) (by rfl) (pa_cons (pv 1) (pa_cons (pv 0) (pa_cons (pe_callB (call_min2 rfl) (by rfl) z_min (by decide +kernel) (pa_cons (pe_op op_add (pv 0) (pe_glob (v := .int 99) (by rfl) g_MOST_LINES_BEHIND ⟨_, rfl⟩)) (pa_cons (pe_glob (v := .int 1000000) (by rfl) g_LAST_LINE ⟨_, rfl⟩) pa_nil))) pa_nil)))))) (pss_one (ps_ret (pe_str))) pss_nil)
      (pss_one (ps_ret (pe_c c_wrong_columns hr (by first | decide | exact Nat.le_refl _) (by rfl) (pa_cons (pv 2) (pa_cons (pv 3) (pa_cons (pe_cmpR (op_eq) (pv 1) (pv 0) (nomark _)) pa_nil)))))))))), ?_⟩
    rcases h with ⟨hG, q⟩ | ⟨part, hO, q⟩
    · rcases hG with ⟨rfl, rfl, rfl, rfl⟩ | ⟨l, rfl, l1, l2, hG⟩
      · exact ⟨_, rfl, rfl, _, rfl, iteT ⟨_, rfl, _, rfl, _, rfl, rfl, q⟩⟩
      · refine ⟨_, rfl, rfl, _, rfl, iteF ?_⟩
        refine ⟨_, rfl, _, _, _, rfl, .inl ⟨l, rfl, _, rfl, ?_⟩⟩
        rw [decide_eq_true (show (1 : Int) ≤ l ∧ l ≤ 1000000 from ⟨l1, l2⟩)]
        refine iteF ?_
        rcases hG with ⟨rfl, hC⟩ | ⟨m, rfl, m1, m2, m3, hC⟩
        · exact ⟨_, rfl, rfl, _, rfl, iteT ⟨_, rfl, _, rfl, _, _, true, rfl, hC, q _ (Same.refl _)⟩⟩
        · refine ⟨_, rfl, rfl, _, rfl, iteF ?_⟩
          refine ⟨_, rfl, _, rfl, _, rfl, _, _, rfl, rfl, _, _, rfl, _, _, _, rfl, .inl ⟨m, rfl, _, rfl, ?_⟩⟩
          rw [decide_eq_true (show l ≤ m ∧ m ≤ (if (1000000 : Int) < l + 99 then 1000000 else l + 99) by
            refine ⟨m1, ?_⟩
            split <;> omega)]
          refine iteF ?_
          refine ⟨_, rfl, _, rfl, _, rfl, _, rfl, rfl, _, _, decide (m = l), ?_, hC, q _ (Same.refl _)⟩
          show [bg, en, V.bl (decide (V.int m = V.int l))] = [bg, en, V.bl (decide (m = l))]
          rw [show decide (V.int m = V.int l) = decide (m = l) by
            by_cases h : m = l
            · rw [h, decide_eq_true rfl, decide_eq_true rfl]
            · rw [decide_eq_false h, decide_eq_false fun z => h (V.int.inj z)]]
    · rcases hO with ⟨l, rfl, hn, rfl⟩ | ⟨l, m, rfl, rfl, l1, l2, lm, m3, rfl⟩
      · refine ⟨_, rfl, rfl, _, rfl, iteF ?_⟩
        refine ⟨_, rfl, _, _, _, rfl, .inl ⟨l, rfl, _, rfl, ?_⟩⟩
        rw [decide_eq_false hn]
        exact iteT q
      · refine ⟨_, rfl, rfl, _, rfl, iteF ?_⟩
        refine ⟨_, rfl, _, _, _, rfl, .inl ⟨l, rfl, _, rfl, ?_⟩⟩
        rw [decide_eq_true (show (1 : Int) ≤ l ∧ l ≤ 1000000 from ⟨l1, l2⟩)]
        refine iteF ?_
        refine ⟨_, rfl, rfl, _, rfl, iteF ?_⟩
        refine ⟨_, rfl, _, rfl, _, rfl, _, _, rfl, rfl, _, _, rfl, _, _, _, rfl, .inl ⟨m, rfl, _, rfl, ?_⟩⟩
        rw [decide_eq_false (show ¬ (l ≤ m ∧ m ≤ (if (1000000 : Int) < l + 99 then 1000000 else l + 99)) by
          rintro ⟨_, h⟩
          revert h
          split <;> omega)]
        exact iteT q
theorem ok_Place_initX {f C B fB : Addr} {fd fdB : FuncData} (F : FInit K f fd) (T : PlT K mg C) (c_wrong_part : Cal P w K mg base 4 "wrong_part" ["line", "last", "begin", "end"] spPartX)
    (OB : OexC K B) (iB : PySem.W.findIn K (.ref B) "__init__" = some (some (.ref fB))) (tB : PySem.W.typeIn K (.ref fB) = some (.type "function")) (g_BadPlace : mg "BadPlace" = some (.ref B)) (bB : Binds K fdB ["self", "part"] [])
    (FB : FnOk P w K mg base CX0 2 fB fdB ["self", "part"] (spBP B)) : FnOk P w K mg base (L2.CX P w) 5 f fd ["self", "line", "last", "begin", "end"] (spInitX C B) := by
  refine F.ok sc_Place_init (fun vs H Q E h => ?_) (fun cdv A outer s H vs Q E hr h => ?_)
  · obtain ⟨x, dx, ln, la, bg, en, rfl, _⟩ := h
    rfl
  · obtain ⟨x, dx, ln, la, bg, en, rfl, hx, h⟩ := h
    refine ⟨_, (pss_cons (ps_set (i := 5) sc_Place_init.nd rfl (Or.inl rfl) (pe_c c_wrong_part hr (by first | decide | exact Nat.le_refl _) (by rfl) (pa_cons (pv 1) (pa_cons (pv 2) (pa_cons (pv 3) (pa_cons (pv 4) pa_nil))))))
      (pss_cons (ps_if (pt_cmpR (op_notN) (pv 5) (pe_non) (nomark _)) (pss_one (ps_raise rfl (takes_of rfl rfl rfl rfl) (pmk_oex OB iB tB FB (hr.mono (by decide)) bB .nil pass0 (by rfl) g_BadPlace (pa_cons (pv 5) pa_nil)))) pss_nil)
      (pss_cons (ps_fld (pv 0) (pv 1) rfl)
      (pss_cons (ps_fld (pv 0) (pe_ifExp (pt_cmpR (op_isN) (pv 2) (pe_non) (nomark _)) (pv 1) (pv 2)) rfl)
      (pss_cons (ps_fld (pv 0) (pv 3) rfl)
      (pss_one (ps_fld (pv 0) (pv 4) rfl))))))), ?_⟩
    refine ⟨_, rfl, _, rfl, _, rfl, _, rfl, ln, la, bg, en, rfl, ?_⟩
    rcases h with ⟨hG, q⟩ | ⟨part, hO, q⟩
    · refine .inl ⟨hG, fun H1 s1 => ?_⟩
      have hx1 := s1 _ _ hx
      refine ⟨_, rfl, rfl, _, rfl, iteF ?_⟩
      refine ⟨_, rfl, _, rfl, x, C, dx, _, rfl, hx1, T.cl, T.nLine, by decide, ?_⟩
      have p1 : putF "line" ln [] = ([("line", ln)] : List (Str × V)) := rfl
      have p2 : ∀ y : V, putF "last" y [("line", ln)] = ([("line", ln), ("last", y)] : List (Str × V)) := fun y => by
        unfold putF
        rw [if_neg (by decide)]
        rfl
      have p3 : ∀ y : V, putF "begin" bg [("line", ln), ("last", y)] = ([("line", ln), ("last", y), ("begin", bg)] : List (Str × V)) := fun y => by
        unfold putF
        rw [if_neg (by decide)]
        unfold putF
        rw [if_neg (by decide)]
        rfl
      have p4 : ∀ y : V, putF "end" en [("line", ln), ("last", y), ("begin", bg)] = ([("line", ln), ("last", y), ("begin", bg), ("end", en)] : List (Str × V)) := fun y => by
        unfold putF
        rw [if_neg (by decide)]
        unfold putF
        rw [if_neg (by decide)]
        unfold putF
        rw [if_neg (by decide)]
        rfl
      have fin : ∀ y : V, y = lastOf ln la → Q .non (upd (upd (upd (upd H1 x (.ins C dx [("line", ln)])) x (.ins C dx [("line", ln), ("last", y)])) x (.ins C dx [("line", ln), ("last", y), ("begin", bg)])) x (.ins C dx [("line", ln), ("last", y), ("begin", bg), ("end", en)])) := fun y ey => by
        subst ey
        refine q _ (fun a o na ea => ?_) upd_same
        rw [upd_ne na, upd_ne na, upd_ne na, upd_ne na]
        exact s1 _ _ ea
      rw [p1]
      have hx2 : upd H1 x (.ins C dx [("line", ln)]) x = some (.ins C dx [("line", ln)]) := upd_same
      refine ⟨_, rfl, rfl, _, rfl, ite2 (fun c => ?_) (fun c => ?_)⟩
      · have c' : la = .non := of_decide_eq_true c
        refine ⟨_, rfl, _, rfl, x, C, dx, _, rfl, hx2, T.cl, T.nLast, (by show 1 < 1000; decide), ?_⟩
        rw [p2]
        refine ⟨_, rfl, _, rfl, x, C, dx, _, rfl, upd_same, T.cl, T.nBegin, (by show 2 < 1000; decide), ?_⟩
        rw [p3]
        refine ⟨_, rfl, _, rfl, x, C, dx, _, rfl, upd_same, T.cl, T.nEnd, (by show 3 < 1000; decide), ?_⟩
        rw [p4]
        exact fin _ (by unfold lastOf; rw [if_pos c'])
      · have c' : la ≠ .non := fun e => c (decide_eq_true e)
        refine ⟨_, rfl, _, rfl, x, C, dx, _, rfl, hx2, T.cl, T.nLast, (by show 1 < 1000; decide), ?_⟩
        rw [p2]
        refine ⟨_, rfl, _, rfl, x, C, dx, _, rfl, upd_same, T.cl, T.nBegin, (by show 2 < 1000; decide), ?_⟩
        rw [p3]
        refine ⟨_, rfl, _, rfl, x, C, dx, _, rfl, upd_same, T.cl, T.nEnd, (by show 3 < 1000; decide), ?_⟩
        rw [p4]
        exact fin _ (by unfold lastOf; rw [if_neg c'])
    · refine .inr ⟨part, hO, ?_⟩
      refine ⟨_, rfl, rfl, _, rfl, iteT ?_⟩
      refine ⟨_, rfl, (by show 1 ≤ 1000; decide), fun a na => ⟨a, part, rfl, hO.len, upd_same, fun d nd nda => ⟨rfl, d, [("part", .str part)], upd_same, ?_, ?_, ?_⟩⟩⟩
      · rw [upd_ne nda, upd_same]
      · rw [upd_ne nda] at nd
        exact nd
      · rw [upd_ne nda] at nd
        refine q _ d (fun b o e => ?_) upd_same
        have nb : b ≠ a := ne_of_none e na
        have nd' : b ≠ d := ne_of_none e nd
        rw [upd_ne nd', del_ne nb, upd_ne nb, upd_ne nd', upd_ne nb]
        exact e
theorem ok_Place_movedX {f C B : Addr} {fd : FuncData} (F : Fun K "moved" "Place.moved" s_Place_moved f fd) (T : PlT K mg C) (mx : MkNX P w K mg base 5 "Place" C 2 ["begin", "end"] (fun vs zs => vs ++ zs) (spInitX C B)) : FnOk P w K mg base (L2.CX P w) 7 f fd ["self", "by"] (spMvX C B) := by
  refine F.okX sc_Place_moved (fun vs H Q E h => ?_) (fun cdv A outer s H vs Q E hr h => ?_)
  · obtain ⟨x, by', ln, la, bg, en, rfl, _⟩ := h
    rfl
  · obtain ⟨x, by', ln, la, bg, en, rfl, ⟨dx, hx⟩, h⟩ := h
    refine ⟨_, (pss_cons (ps_if (pt_cmpR (op_isN) (pe_fld (pv 0) rfl) (pe_non) (nomark _)) (pss_one (ps_ret (pv 0))) pss_nil)
      (pss_one (ps_ret (pe_mkNX mx hr (by decide) (by rfl) (passes_call (takes_of rfl rfl rfl rfl) (fun _ _ _ _ h => h)) (pa_cons (pe_op op_add (pe_fld (pv 0) rfl) (pv 1)) (pa_cons (pe_op op_add (pe_fld (pv 0) rfl) (pv 1)) pa_nil)) (pk_cons (pe_fld (pv 0) rfl) (pk_cons (pe_fld (pv 0) rfl) pk_nil)))))), ?_⟩
    rcases h with ⟨rfl, q⟩ | ⟨l, m, rfl, rfl, h⟩
    · exact ⟨_, rfl, x, C, dx, _, _, rfl, hx, T.cl, T.nLine, rfl, rfl, _, rfl, iteT ⟨_, rfl, q⟩⟩
    · refine ⟨_, rfl, x, C, dx, _, _, rfl, hx, T.cl, T.nLine, rfl, rfl, _, rfl, iteF ?_⟩
      refine ⟨_, rfl, x, C, dx, _, _, rfl, hx, T.cl, T.nLine, rfl, _, rfl, _, _, rfl, rfl, _, rfl, x, C, dx, _, _, rfl, hx, T.cl, T.nLast, rfl, _, rfl, _, _, rfl, rfl, ?_⟩
      refine ⟨_, rfl, x, C, dx, _, _, rfl, hx, T.cl, T.nBegin, rfl, _, rfl, x, C, dx, _, _, rfl, hx, T.cl, T.nEnd, rfl, rfl, rfl, ?_⟩
      intro y dy ny ndy ne
      refine ⟨y, dy, _, _, _, _, rfl, upd_same, ?_⟩
      rcases h with ⟨hG, q⟩ | ⟨part, hO, q⟩
      · refine .inl ⟨hG, fun H' k hy => ⟨rfl, q H' y (fun b o e => ?_) ny ⟨dy, ?_⟩⟩⟩
        · have nb : b ≠ y := ne_of_none e ny
          have nd : b ≠ dy := ne_of_none e ndy
          refine k b o nb ?_
          rw [upd_ne nb, upd_ne nd]
          exact e
        · rw [hy]
          rfl
      · refine .inr ⟨part, hO, fun H' d s' hd => q H' d (fun b o e => s' _ _ ?_) hd⟩
        have nb : b ≠ y := ne_of_none e ny
        have nd : b ≠ dy := ne_of_none e ndy
        rw [upd_ne nb, upd_ne nd]
        exact e
end
end My

namespace My
open PySem PySem.Spec PyProof.Rows L2
theorem made2 {C : Addr} {H : Hp} {ln la bg en la' : V} {Qv : VK} (hG : Good ln la bg en) (hl : lastOf ln la = la') {x dx : Addr} (nx : H x = none) (ndx : H dx = none) (ne : dx ≠ x) (q : ∀ H', Same H H' → PlaceAt C H' x ln la' bg en → Qv .non H') :
    spInit C [.ref x, ln, la, bg, en] (upd (upd H dx (.own x)) x (.ins C dx [])) Qv E0 := by
  refine ⟨x, dx, ln, la, bg, en, rfl, upd_same, hG, fun H' k hx => q H' (fun b o e => ?_) ⟨dx, ?_⟩⟩
  · have nb : b ≠ x := ne_of_none e nx
    have nd : b ≠ dx := ne_of_none e ndx
    refine k b o nb ?_
    rw [upd_ne nb, upd_ne nd]
    exact e
  · rw [hx, ← hl]
    rfl
theorem good_line0 {l : Int} (h1 : 1 ≤ l) (h2 : l ≤ 1000000) : Good (.int l) .non .non .non := .inr ⟨l, rfl, h1, h2, .inl ⟨rfl, .inl ⟨rfl, rfl, rfl⟩⟩⟩
def spHas (C : Addr) : Sp := fun vs H Q _ => ∃ (x : Addr) (n : Int) (ln la bg en : V), vs = [.ref x, .int n] ∧ PlaceAt C H x ln la bg en ∧ ((ln = .non ∧ Q (.bl false) H) ∨ ∃ l m : Int, ln = .int l ∧ la = .int m ∧ Q (.bl (decide (l ≤ n ∧ n ≤ m))) H)
def spSeen (C : Addr) : Sp := fun vs H Q _ => ∃ (x : Addr) (ln la bg en : V), vs = [.ref x] ∧ PlaceAt C H x ln la bg en ∧ ∀ t, H t = none → Q (.ref t) (upd H t (.tup [ln, la, bg, en]))
def spPlc (C : Addr) : Sp := fun vs H Q _ => ∃ (t : Addr) (ln la bg en : V), vs = [.ref t] ∧ H t = some (.tup [ln, la, bg, en]) ∧ Spot ln la bg en ∧ ∀ H' x, Same H H' → PlaceAt C H' x ln la bg en → Q (.ref x) H'
def spFar : Sp := fun vs H Q _ => ∃ (b t : Addr) (n : Nat) (ln la bg en : V), vs = [.ref b, .ref t] ∧ Bx n b H ∧ n ≤ 900000 ∧ H t = some (.tup [ln, la, bg, en]) ∧ Spot ln la bg en ∧ ∀ (far : Int) H', Aft b (n + 2) H H' → Q (.int far) H'
/-- what comes of a move -/
def Tl (H : Hp) (v ln la bg en : V) (far : Int) : Prop := (ln = .non ∧ ∃ t, v = .ref t ∧ H t = some (.tup [ln, la, bg, en])) ∨ ∃ l m : Int, ln = .int l ∧ la = .int m ∧
  ((1 ≤ l + far ∧ l + far ≤ 1000000 ∧ m + far ≤ 1000000 ∧ ∃ t, v = .ref t ∧ H t = some (.tup [.int (l + far), .int (m + far), bg, en])) ∨ (¬ (1 ≤ l + far ∧ l + far ≤ 1000000) ∧ v = .str "line") ∨ (1 ≤ l + far ∧ l + far ≤ 1000000 ∧ 1000000 < m + far ∧ v = .str "last"))
def spDue : Sp := fun vs H Q _ => ∃ (t : Addr) (far : Int) (ln la bg en : V), vs = [.ref t, .int far] ∧ H t = some (.tup [ln, la, bg, en]) ∧ Spot ln la bg en ∧ ∀ H' v, Same H H' → Tl H' v ln la bg en far → Q v H'
section
variable {P : Program} {w : World} {K : PySem.W.Frag} {mg : Str → Option Value} {base : Heap}
theorem ok_Place_has {f C : Addr} {fd : FuncData} (F : Fun K "has" "Place.has" s_Place_has f fd) (T : PlT K mg C) : FnOk P w K mg base CX0 2 f fd ["self", "line"] (spHas C) := by
  refine F.ok sc_Place_has (fun vs H Q E h => ?_) (fun cdv A outer s H vs Q E hr h => ?_)
  · obtain ⟨x, n, _, _, _, _, rfl, _⟩ := h
    rfl
  · obtain ⟨x, n, ln, la, bg, en, rfl, ⟨dx, hx⟩, h⟩ := h
    refine ⟨_, (pss_one (ps_ret (pe_and (pe_cmpR (op_notN) (pe_fld (pv 0) rfl) (pe_non) (nomark _)) (pe_one (pe_chain (op_le) (op_le) (pe_fld (pv 0) rfl) (pv 1) (pe_fld (pv 0) rfl)))))), ?_⟩
    rcases h with ⟨rfl, q⟩ | ⟨l, m, rfl, rfl, q⟩
    · exact ⟨_, rfl, x, C, dx, _, _, rfl, hx, T.cl, T.nLine, rfl, rfl, _, rfl, iteF q⟩
    · refine ⟨_, rfl, x, C, dx, _, _, rfl, hx, T.cl, T.nLine, rfl, rfl, _, rfl, iteT ?_⟩
      refine ⟨_, rfl, x, C, dx, _, _, rfl, hx, T.cl, T.nLine, rfl, _, rfl, _, _, rfl, rfl, _, rfl, ite2 (fun c => ?_) (fun c => ?_)⟩
      · have c' : l ≤ n := of_decide_eq_true c
        refine ⟨_, rfl, x, C, dx, _, _, rfl, hx, T.cl, T.nLast, rfl, _, _, rfl, rfl, ?_⟩
        have e : decide (l ≤ n ∧ n ≤ m) = decide (n ≤ m) := by
          by_cases h : n ≤ m
          · rw [decide_eq_true h, decide_eq_true ⟨c', h⟩]
          · rw [decide_eq_false h, decide_eq_false fun z => h z.2]
        rw [e] at q
        exact q
      · have c' : ¬ l ≤ n := fun h => c (decide_eq_true h)
        rw [decide_eq_false fun z => c' z.1] at q
        exact q
theorem ok_l_seen {f C : Addr} {fd : FuncData} (F : Fun K "_law_seen" "_law_seen" s_l_seen f fd) (T : PlT K mg C) (J : PlI K C) (g_Place : mg "Place" = some (.ref C)) (z_isinstance : mg "isinstance" = none) : FnOk P w K mg base CX0 2 f fd ["_law_place_here"] (spSeen C) := by
  refine F.ok sc_l_seen (fun vs H Q E h => ?_) (fun cdv A outer s H vs Q E hr h => ?_)
  · obtain ⟨x, _, _, _, _, rfl, _⟩ := h
    rfl
  · obtain ⟨x, ln, la, bg, en, rfl, ⟨dx, hx⟩, q⟩ := h
    refine ⟨_, (pss_one (ps_ret (pe_ifExp (pt_val (pe_callB (call_isi) (by rfl) z_isinstance (by decide +kernel) (pa_cons (pv 0) (pa_cons (pe_glob (v := .ref _) (by rfl) g_Place rfl) pa_nil)))) (pe_tup (pa_cons (pe_fld (pv 0) rfl) (pa_cons (pe_fld (pv 0) rfl) (pa_cons (pe_fld (pv 0) rfl) (pa_cons (pe_fld (pv 0) rfl) pa_nil))))) (pe_lst (pa_cons (pv 0) pa_nil))))), ?_⟩
    exact ⟨_, rfl, _, _, _, _, _, rfl, .own C, PlI.ty T J hx, J.kit, _, rfl, iteT ⟨_, rfl, x, C, _, _, _, rfl, hx, T.cl, T.nLine, rfl, _, rfl, x, C, _, _, _, rfl, hx, T.cl, T.nLast, rfl, _, rfl, x, C, _, _, _, rfl, hx, T.cl, T.nBegin, rfl, _, rfl, x, C, _, _, _, rfl, hx, T.cl, T.nEnd, rfl, (by show 4 ≤ sizeLine; decide), q⟩⟩
theorem ok_l_place {f C : Addr} {fd : FuncData} (F : Fun K "_law_place" "_law_place" s_l_place f fd) (mk_Place_0 : MkP P w K mg base 5 "Place" C [.non, .non, .non, .non] (spInit C)) (mk_Place_1 : MkP P w K mg base 5 "Place" C [.non, .non, .non] (spInit C))
    (mk_Place_2_begin_end : MkN P w K mg base 5 "Place" C 2 ["begin", "end"] (fun vs zs => vs ++ zs) (spInit C)) : FnOk P w K mg base CX0 7 f fd ["_law_spot_here"] (spPlc C) := by
  refine F.ok sc_l_place (fun vs H Q E h => ?_) (fun cdv A outer s H vs Q E hr h => ?_)
  · obtain ⟨t, _, _, _, _, rfl, _⟩ := h
    rfl
  · obtain ⟨t, ln, la, bg, en, rfl, ht, hS, q⟩ := h
    refine ⟨_, (pss_cons (ps_if (pt_cmpR (op_isN) (pe_ix ix_tup (pv 0) (pe_int) (fun _ _ => rfl)) (pe_non) (nomark _)) (pss_one (ps_ret (pe_mkP0 mk_Place_0 hr (by first | decide | exact Nat.le_refl _) (by rfl)))) pss_nil)
      (pss_cons (ps_if (pt_cmpR (op_isN) (pe_ix ix_tup (pv 0) (pe_int) (fun _ _ => rfl)) (pe_non) (nomark _)) (pss_one (ps_ret (pe_mkP mk_Place_1 hr (by first | decide | exact Nat.le_refl _) (by rfl) (pa_cons (pe_ix ix_tup (pv 0) (pe_int) (fun _ _ => rfl)) pa_nil)))) pss_nil)
      (pss_one (ps_ret (pe_mkN mk_Place_2_begin_end hr (by first | decide | exact Nat.le_refl _) (by rfl) (pa_cons (pe_ix ix_tup (pv 0) (pe_int) (fun _ _ => rfl)) (pa_cons (pe_ix ix_tup (pv 0) (pe_int) (fun _ _ => rfl)) pa_nil)) (pk_cons (pe_ix ix_tup (pv 0) (pe_int) (fun _ _ => rfl)) (pk_cons (pe_ix ix_tup (pv 0) (pe_int) (fun _ _ => rfl)) pk_nil))))))), ?_⟩
    rcases hS.cases with ⟨rfl, rfl, rfl, rfl⟩ | ⟨l, rfl, rfl, rfl, rfl, l1, l2⟩ | ⟨l, m, b, e, rfl, rfl, rfl, rfl, l1, lm, lm9, m1, b0, b1, e0, e1, be⟩
    · refine ⟨_, rfl, t, _, _, _, rfl, rfl, sqT ht, rfl, rfl, _, rfl, iteT ?_⟩
      exact fun x1 dx1 n1 m1 o1 => made2 (C := C) (.inl ⟨rfl, rfl, rfl, rfl⟩) lastOf_non n1 m1 o1 fun H1 s1 p1 => ⟨rfl, q H1 x1 s1 p1⟩
    · refine ⟨_, rfl, t, _, _, _, rfl, rfl, sqT ht, rfl, rfl, _, rfl, iteF ?_⟩
      refine ⟨_, rfl, t, _, _, _, rfl, rfl, sqT ht, rfl, rfl, _, rfl, iteT ?_⟩
      refine ⟨_, rfl, t, _, _, _, rfl, rfl, sqT ht, rfl, ?_⟩
      exact fun x1 dx1 n1 m1 o1 => made2 (C := C) (good_line0 l1 l2) lastOf_non n1 m1 o1 fun H1 s1 p1 => ⟨rfl, q H1 x1 s1 p1⟩
    · refine ⟨_, rfl, t, _, _, _, rfl, rfl, sqT ht, rfl, rfl, _, rfl, iteF ?_⟩
      refine ⟨_, rfl, t, _, _, _, rfl, rfl, sqT ht, rfl, rfl, _, rfl, iteF ?_⟩
      refine ⟨_, rfl, t, _, _, _, rfl, rfl, sqT ht, rfl, _, rfl, t, _, _, _, rfl, rfl, sqT ht, rfl, _, rfl, t, _, _, _, rfl, rfl, sqT ht, rfl, _, rfl, t, _, _, _, rfl, rfl, sqT ht, rfl, rfl, rfl, ?_⟩
      exact fun x1 dx1 n1 m1 o1 => made2 (C := C) hS.good lastOf_int n1 m1 o1 fun H1 s1 p1 => ⟨rfl, q H1 x1 s1 p1⟩
theorem ok_l_due {f : Addr} {fd : FuncData} (F : Fun K "_law_due" "_law_due" s_l_due f fd) : FnOk P w K mg base CX0 2 f fd ["_law_spot_here", "_law_far_here"] spDue := by
  refine F.ok sc_l_due (fun vs H Q E h => ?_) (fun cdv A outer s H vs Q E hr h => ?_)
  · obtain ⟨t, far, _, _, _, _, rfl, _⟩ := h
    rfl
  · obtain ⟨t, far, ln, la, bg, en, rfl, ht, hS, q⟩ := h
    refine ⟨_, (pss_cons (ps_if (pt_cmpR (op_isN) (pe_ix ix_tup (pv 0) (pe_int) (fun _ _ => rfl)) (pe_non) (nomark _)) (pss_one (ps_ret (pv 0))) pss_nil)
      (pss_cons (ps_if (pt_not (pt_chain (op_le) (op_le) (pe_int) (pe_op op_add (pe_ix ix_tup (pv 0) (pe_int) (fun _ _ => rfl)) (pv 1)) (pe_op op_pow (pe_int) (pe_int)))) (pss_one (ps_ret (pe_str))) pss_nil)
      (pss_one (ps_ret (pe_ifExp (pt_cmpR (op_le) (pe_op op_add (pe_ix ix_tup (pv 0) (pe_int) (fun _ _ => rfl)) (pv 1)) (pe_op op_pow (pe_int) (pe_int)) (nomark _)) (pe_op op_catT (pe_tup (pa_cons (pe_op op_add (pe_ix ix_tup (pv 0) (pe_int) (fun _ _ => rfl)) (pv 1)) (pa_cons (pe_op op_add (pe_ix ix_tup (pv 0) (pe_int) (fun _ _ => rfl)) (pv 1)) pa_nil))) (pe_slice sl_tup (pv 0) (po_some (pe_int)) po_none)) (pe_str)))))), ?_⟩
    have e6 : (10 : Int) ^ Int.toNat 6 = 1000000 := ten6'
    rcases hS with ⟨rfl, rfl, rfl, rfl⟩ | ⟨l, m, rfl, rfl, hG⟩
    · exact ⟨_, rfl, t, _, _, _, rfl, rfl, sqT ht, rfl, rfl, _, rfl, iteT ⟨_, rfl, q H _ (Same.refl _) (.inl ⟨rfl, t, rfl, ht⟩)⟩⟩
    · refine ⟨_, rfl, t, _, _, _, rfl, rfl, sqT ht, rfl, rfl, _, rfl, iteF ?_⟩
      have offL : ¬ (1 ≤ l + far ∧ l + far ≤ 1000000) → Q (.str "line") H := fun h => q H _ (Same.refl _) (.inr ⟨l, m, rfl, rfl, .inr (.inl ⟨h, rfl⟩)⟩)
      refine ⟨_, rfl, t, _, _, _, rfl, rfl, sqT ht, rfl, _, rfl, _, _, rfl, rfl, _, _, rfl, rfl, _, rfl, ite2 (fun c => ?_) (fun c => ?_)⟩
      · have c' : 1 ≤ l + far := of_decide_eq_true c
        refine ⟨_, _, rfl, rfl, ⟨by decide, by decide, by decide⟩, _, _, rfl, rfl, _, rfl, ite2 (fun d => ?_) (fun d => ?_)⟩
        · refine offL fun z => ?_
          rw [e6, decide_eq_true z.2] at d
          exact absurd d (by decide)
        · have d' : l + far ≤ 1000000 := by
            refine Decidable.byContradiction fun z => d ?_
            rw [e6, decide_eq_false z]
            rfl
          refine ⟨_, rfl, t, _, _, _, rfl, rfl, sqT ht, rfl, _, rfl, _, _, rfl, rfl, _, _, rfl, rfl, ⟨by decide, by decide, by decide⟩, _, _, rfl, rfl, _, rfl, ite2 (fun g => ?_) (fun g => ?_)⟩
          · have g' : m + far ≤ 1000000 := by
              have := of_decide_eq_true g
              omega
            refine ⟨_, rfl, t, _, _, _, rfl, rfl, sqT ht, rfl, _, rfl, _, _, rfl, rfl, _, rfl, t, _, _, _, rfl, rfl, sqT ht, rfl, _, rfl, _, _, rfl, rfl, (by show 2 ≤ sizeLine; decide), fun t1 n1 => ?_⟩
            have s1 := same_upd (o := .tup [.int (l + far), .int (m + far)]) n1
            have e1 : upd H t1 (.tup [.int (l + far), .int (m + far)]) t1 = some (.tup [.int (l + far), .int (m + far)]) := upd_same
            have ht1 := s1 _ _ ht
            have q1 : ∀ H' v, Same (upd H t1 (.tup [.int (l + far), .int (m + far)])) H' → Tl H' v (.int l) (.int m) bg en far → Q v H' := fun H' v s' z => q H' v (s1.trans s') z
            generalize upd H t1 (.tup [.int (l + far), .int (m + far)]) = H1 at s1 e1 ht1 q1
            refine ⟨_, rfl, 2, rfl, t, [.int l, .int m, bg, en], rfl, sqT ht1, ?_, fun t2 n2 => ?_⟩
            · rw [show HT.sIx [V.int l, V.int m, bg, en].length 0 (some (2 : Int)) = 2 from HT.sIx_nat 4 0 2]
              rintro ⟨z, _⟩
              exact absurd z (by decide)
            rw [show cutV [V.int l, V.int m, bg, en] (some (2 : Int)) none = [bg, en] by
              unfold cutV
              rw [show HT.sIx [V.int l, V.int m, bg, en].length 0 (some (2 : Int)) = 2 from HT.sIx_nat 4 0 2, HT.sIx_none]
              rfl]
            have s2 := same_upd (o := .tup [bg, en]) n2
            refine ⟨t1, t2, [.int (l + far), .int (m + far)], [bg, en], rfl, rfl, sqT (s2 _ _ e1), sqT upd_same, (fun z => by cases z), (by show 4 ≤ sizeLine; decide), (fun z => by cases z), fun _ t3 n3 => ?_⟩
            exact q1 _ _ (s2.trans (same_upd n3)) (.inr ⟨l, m, rfl, rfl, .inl ⟨c', d', g', t3, rfl, upd_same⟩⟩)
          · refine q H _ (Same.refl _) (.inr ⟨l, m, rfl, rfl, .inr (.inr ⟨c', d', ?_, rfl⟩)⟩)
            refine Decidable.byContradiction fun z => g (decide_eq_true ?_)
            omega
      · refine ⟨_, rfl, ite2 (fun d => ?_) (fun d => ?_)⟩
        · exact offL fun z => c (decide_eq_true z.1)
        · exact absurd rfl d
def ends (v : Nat) : List Int := [(v : Int) - 1000, -(10 ^ Int.toNat 6), 10 ^ Int.toNat 6]
def fars (lo hi : Int) : List Int := [0, 1, -1, 1 - lo, -lo, 10 ^ Int.toNat 6 - hi, 10 ^ Int.toNat 6 + 1 - hi, 10 ^ Int.toNat 6 - lo, 10 ^ Int.toNat 6 + 1 - lo]
theorem far_end {K : PySem.W.Frag} {b t : Addr} {n : Nat} {H H0 : Hp} {Q : VK} {lo hi : Int} (hb : Bx n b H) (hn : n ≤ 900000) (s0 : Same H H0) (q : ∀ (far : Int) H', Aft b (n + 2) H H' → Q (.int far) H') :
    (tSeq (tAsg (tLst (tCons (tC (V.int 0)) (tCons (tC (V.int 1)) (tCons (tUn (rU fun i => V.int (-i)) (tC (V.int 1))) (tCons (tOp (rI0 fun i j => V.int (i - j)) (tC (V.int 1)) (tVar 2)) (tCons (tUn (rU fun i => V.int (-i)) (tVar 2))
      (tCons (tOp (rI0 fun i j => V.int (i - j)) (tOp (rI CPow fun i j => V.int (i ^ j.toNat)) (tC (V.int 10)) (tC (V.int 6))) (tVar 3))
      (tCons (tOp (rI0 fun i j => V.int (i - j)) (tOp (rI0 fun i j => V.int (i + j)) (tOp (rI CPow fun i j => V.int (i ^ j.toNat)) (tC (V.int 10)) (tC (V.int 6))) (tC (V.int 1))) (tVar 3))
      (tCons (tOp (rI0 fun i j => V.int (i - j)) (tOp (rI CPow fun i j => V.int (i ^ j.toNat)) (tC (V.int 10)) (tC (V.int 6))) (tVar 2))
      (tCons (tOp (rI0 fun i j => V.int (i - j)) (tOp (rI0 fun i j => V.int (i + j)) (tOp (rI CPow fun i j => V.int (i ^ j.toNat)) (tC (V.int 10)) (tC (V.int 6))) (tC (V.int 1))) (tVar 2)) tNil)))))))))) (gName 4))
      (tRet (tOp (rIxL K) (tOp rCat (tVar 4) (tLst (tCons (tOp (rI0 fun i j => V.int (i - j)) (tCall spTake [] E0 (tCons (tVar 0) (tCons (tC (V.int 2000)) tNil))) (tC (V.int 1000)))
        (tCons (tUn (rU fun i => V.int (-i)) (tOp (rI CPow fun i j => V.int (i ^ j.toNat)) (tC (V.int 10)) (tC (V.int 6)))) (tCons (tOp (rI CPow fun i j => V.int (i ^ j.toNat)) (tC (V.int 10)) (tC (V.int 6))) tNil)))))
        (tCall spTake [] E0 (tCons (tVar 0) (tCons (tC (V.int 12)) tNil))))))
    { nx := fun _ H' => Q V.non H', rt := Q } [some (.ref b), some (.ref t), some (.int lo), some (.int hi), none] H0 := by
  have pw : CPow 10 6 := ⟨by decide, by decide, by decide⟩
  refine ⟨1, rfl, _, rfl, _, _, rfl, rfl, _, rfl, _, rfl, _, _, rfl, rfl, pw, _, rfl, _, _, rfl, rfl, _, _, rfl, rfl, pw, _, _, rfl, rfl, _, rfl, _, _, rfl, rfl, ?_⟩
  refine ⟨_, _, rfl, rfl, pw, _, rfl, _, _, rfl, rfl, _, _, rfl, rfl, pw, _, _, rfl, rfl, _, rfl, _, _, rfl, rfl, (by show 9 ≤ sizeLine; decide), fun la nla => ?_⟩
  have sa := s0.trans (same_upd (o := .lst ((fars lo hi).map V.int)) nla)
  have ea : upd H0 la (.lst ((fars lo hi).map V.int)) la = some (.lst ((fars lo hi).map V.int)) := upd_same
  have nla' : H la = none := by
    cases z : H la with
    | none => rfl
    | some o => rw [s0 _ _ z] at nla; cases nla
  have lab := hb.ne nla'
  refine ⟨_, rfl, _, rfl, b, 2000, n, rfl, by decide, by decide, hb.same sa, by omega, fun v1 H1 hv1 a1 _ => ?_⟩
  refine ⟨_, _, rfl, rfl, _, _, rfl, rfl, pw, _, rfl, _, _, rfl, rfl, pw, (by show 3 ≤ sizeLine; decide), fun lb nlb => ?_⟩
  have A1 : Aft b (n + 1) H H1 := ⟨a1.box, (Same.but sa).trans a1.but⟩
  refine ⟨la, lb, (fars lo hi).map V.int, (ends v1).map V.int, rfl, rfl, same_upd nlb _ _ (a1.get ea lab), upd_same, (by show 9 + 3 ≤ sizeLine; decide), fun lz nlz => ?_⟩
  have nlz' : upd H1 lb (.lst ((ends v1).map V.int)) lz = none := nlz
  have A2 := (A1.new (o := .lst ((ends v1).map V.int)) nlb).new (o := .lst ((fars lo hi ++ (ends v1)).map V.int)) nlz
  have lzb := (A1.new (o := .lst ((ends v1).map V.int)) nlb).box.ne nlz'
  refine ⟨_, rfl, b, 12, n + 1, rfl, by decide, by decide, A2.box, by omega, fun v2 H2 hv2 a2 _ => ?_⟩
  obtain ⟨c, hc, hat⟩ := pick (L := fars lo hi ++ (ends v1)) (v := v2) (by show v2 < 12; omega)
  exact ⟨lz, _, _, _, rfl, rfl, sqL (a2.get upd_same lzb), hat, q c H2 (A2.trans a2)⟩
theorem ok_l_far {f : Addr} {fd : FuncData} (F : Fun K "_law_far" "_law_far" s_l_far f fd) (c_l_take : Cal P w K mg base 2 "_law_take" ["_law_box_here", "_law_many"] spTake) : FnOk P w K mg base CX0 3 f fd ["_law_box_here", "_law_spot_here"] spFar := by
  refine F.ok sc_l_far (fun vs H Q E h => ?_) (fun cdv A outer s H vs Q E hr h => ?_)
  · obtain ⟨b, t, n, _, _, _, _, rfl, _⟩ := h
    rfl
  · obtain ⟨b, t, n, ln, la, bg, en, rfl, hb, hn, ht, hS, q⟩ := h
    refine ⟨_, (pss_cons (ps_asg (pe_ifExp (pt_cmpR (op_notN) (pe_ix ix_tup (pv 1) (pe_int) (fun _ _ => rfl)) (pe_non) (nomark _)) (pe_tup (pa_cons (pe_ix ix_tup (pv 1) (pe_int) (fun _ _ => rfl)) (pa_cons (pe_ix ix_tup (pv 1) (pe_int) (fun _ _ => rfl)) pa_nil))) (pe_tup (pa_cons (pe_int) (pa_cons (pe_int) pa_nil)))) (pg_tup rfl (pgs_cons (pg_name (i := 2) sc_l_far.nd rfl (Or.inl rfl)) (pgs_cons (pg_name (i := 3) sc_l_far.nd rfl (Or.inl rfl)) pgs_nil))))
      (pss_cons (ps_set (i := 4) sc_l_far.nd rfl (Or.inl rfl) (pe_lst (pa_cons (pe_int) (pa_cons (pe_int) (pa_cons (pe_un un_neg (pe_int)) (pa_cons (pe_op op_sub (pe_int) (pv 2)) (pa_cons (pe_un un_neg (pv 2)) (pa_cons (pe_op op_sub (pe_op op_pow (pe_int) (pe_int)) (pv 3)) (pa_cons (pe_op op_sub (pe_op op_add (pe_op op_pow (pe_int) (pe_int)) (pe_int)) (pv 3)) (pa_cons (pe_op op_sub (pe_op op_pow (pe_int) (pe_int)) (pv 2)) (pa_cons (pe_op op_sub (pe_op op_add (pe_op op_pow (pe_int) (pe_int)) (pe_int)) (pv 2)) pa_nil)))))))))))
      (pss_one (ps_ret (pe_ix ix_list (pe_op op_cat (pv 4) (pe_lst (pa_cons (pe_op op_sub (pe_c c_l_take hr (by first | decide | exact Nat.le_refl _) (by rfl) (pa_cons (pv 0) (pa_cons (pe_int) pa_nil))) (pe_int)) (pa_cons (pe_un un_neg (pe_op op_pow (pe_int) (pe_int))) (pa_cons (pe_op op_pow (pe_int) (pe_int)) pa_nil))))) (pe_c c_l_take hr (by first | decide | exact Nat.le_refl _) (by rfl) (pa_cons (pv 0) (pa_cons (pe_int) pa_nil))) (fun _ _ => rfl)))))), ?_⟩
    have e6 : (10 : Int) ^ Int.toNat 6 = 1000000 := ten6'
    rcases hS with ⟨rfl, rfl, rfl, rfl⟩ | ⟨l, m, rfl, rfl, hG⟩
    · refine ⟨_, rfl, t, _, _, _, rfl, rfl, sqT ht, rfl, rfl, _, rfl, iteF ?_⟩
      refine ⟨(by show 2 ≤ sizeLine; decide), fun t0 n0 => ⟨t0, [.int 1, .int 1], rfl, sqT upd_same, rfl, _, _, rfl, _, _, rfl, rfl, ?_⟩⟩
      exact far_end hb hn (same_upd n0) q
    · refine ⟨_, rfl, t, _, _, _, rfl, rfl, sqT ht, rfl, rfl, _, rfl, iteT ?_⟩
      refine ⟨_, rfl, t, _, _, _, rfl, rfl, sqT ht, rfl, _, rfl, t, _, _, _, rfl, rfl, sqT ht, rfl, (by show 2 ≤ sizeLine; decide), fun t0 n0 => ⟨t0, [.int l, .int m], rfl, sqT upd_same, rfl, _, _, rfl, _, _, rfl, rfl, ?_⟩⟩
      exact far_end hb hn (same_upd n0) q
end
end My

namespace My
open PySem PySem.Spec PyProof.Rows L2
structure MeM (P : Program) (w : World) (K : PySem.W.Frag) (mg : Str → Option Value) (base : Heap) (k : Nat) (C : Addr) (m : Str) (sp : Sp) : Prop where
  cl : Cls K C
  own : OwnM P w K mg base k C m sp
section
variable {X : Cx} {k j : Nat} {sp : Sp} {C : Addr} {m : Str} {o e : Expr} {es : List Expr} {ta : TE} {t : TA} {pos apos : Pos}
theorem pe_mt {pl : Sem Bool} (M : MeM X.prog X.w X.K X.mg X.base k C m sp) (hr : Room j X.A) (hk : k ≤ j) (he : PE X o ta) (ha : PA X (e :: es) t)
    (hst : starEach (e :: es) X.env = (false, eval e X.env) :: starEach es X.env := by rfl) (hpl : (backTo pos (starEach es X.env)).any (·.1) = false := by rfl)
    (ht : eval (.Call (.Attribute o m apos) (e :: es) [] pos) X.env = (do
      let ov ← eval o X.env
      standAt apos.atName
      let (f, first) ← holding [ov] (getMethod ov m pl)
      callWith pos f first (backTo pos (starEach (e :: es) X.env)) (backToKw pos (keywordEach [] X.env))) := by rfl) :
    PE X (.Call (.Attribute o m apos) (e :: es) [] pos) (tMeth C m sp [] E0 ta t) := by
  obtain ⟨f, fd, ps, F, hs, hf, kp, hb⟩ := M.own.ex
  exact pe_meth he M.cl ⟨hs, hf, kp⟩ F (hr.mono hk) hb .nil pass0 ha hst hpl ht
end
theorem good_moved {l m far : Int} {bg en : V} (h : Good (.int l) (.int m) bg en) (h1 : 1 ≤ l + far) (h2 : l + far ≤ 1000000) (h3 : m + far ≤ 1000000) : Good (.int (l + far)) (.int (m + far)) bg en := by
  rcases h with ⟨h, _⟩ | ⟨l', hl, l1, l2, ⟨h, _⟩ | ⟨m', hm, m1, m2, m3, hC⟩⟩
  · cases h
  · cases h
  · cases hl
    cases hm
    refine .inr ⟨_, rfl, h1, h2, .inr ⟨_, rfl, by omega, by omega, h3, ?_⟩⟩
    rw [show decide (m + far = l + far) = decide (m = l) by
      by_cases e : m = l
      · rw [decide_eq_true e, decide_eq_true (by omega)]
      · rw [decide_eq_false e, decide_eq_false (by omega)]]
    exact hC
theorem good_le {l m : Int} {bg en : V} (h : Good (.int l) (.int m) bg en) : l ≤ m := by
  rcases h with ⟨h, _⟩ | ⟨l', hl, l1, l2, ⟨h, _⟩ | ⟨m', hm, m1, m2, m3, hC⟩⟩
  · cases h
  · cases h
  · cases hl
    cases hm
    exact m1
def spTold (C : Addr) : Sp := fun vs H Q _ => ∃ (b x : Addr) (far : Int) (n : Nat) (ln la bg en : V), vs = [.ref b, .ref x, .int far] ∧ Bx n b H ∧ n ≤ 900000 ∧ PlaceAt C H x ln la bg en ∧ Spot ln la bg en ∧ ∀ H' v, Aft b (n + 1) H H' → Tl H' v ln la bg en far → Q v H'
def Lims (ln la : V) (lo hi : Int) : Prop := (ln = .non ∧ lo = 0 ∧ hi = -1) ∨ (ln = .int lo ∧ la = .int hi)
theorem has_lims {C x : Addr} {H : Hp} {ln la bg en : V} {lo hi n : Int} {Q : VK} (hp : PlaceAt C H x ln la bg en) (hl : Lims ln la lo hi) (q : Q (.bl (decide (lo ≤ n ∧ n ≤ hi))) H) : spHas C [.ref x, .int n] H Q E0 := by
  refine ⟨x, n, ln, la, bg, en, rfl, hp, ?_⟩
  rcases hl with ⟨rfl, rfl, rfl⟩ | ⟨rfl, rfl⟩
  · rw [decide_eq_false (by omega)] at q
    exact .inl ⟨rfl, q⟩
  · exact .inr ⟨lo, hi, rfl, rfl, q⟩
theorem ints_lt {ns : List Int} {i : Nat} {x : V} (h : (ns.map V.int)[i]? = some x) : i < ns.length := by
  have := (List.getElem?_eq_some_iff.mp h).1
  rw [List.length_map] at this
  exact this
theorem by_le {l n m : Int} (c : l ≤ n) : decide (l ≤ n ∧ n ≤ m) = decide (n ≤ m) := by
  by_cases h : n ≤ m
  · rw [decide_eq_true h, decide_eq_true ⟨c, h⟩]
  · rw [decide_eq_false h, decide_eq_false fun z => h z.2]
def hsL (lo hi : Int) (v : Nat) : List Int := [lo - 1, lo, lo + 1, hi - 1, hi, hi + 1, 1, 10 ^ Int.toNat 6, 1 + (v : Int)]
theorem ints_at {ns : List Int} {i : Nat} {x : V} (h : (ns.map V.int)[i]? = some x) : ∃ z, z ∈ ns ∧ x = .int z := by
  rw [List.getElem?_map] at h
  cases e : ns[i]? with
  | none => rw [e] at h; cases h
  | some z => rw [e] at h; exact ⟨z, List.mem_of_getElem? e, (Option.some.inj h).symm⟩
def spHr (C : Addr) : Sp := fun vs H Q _ => ∃ (b x t : Addr) (n : Nat) (ln la bg en : V), vs = [.ref b, .ref x, .ref t] ∧ Bx n b H ∧ n ≤ 900000 ∧ PlaceAt C H x ln la bg en ∧ H t = some (.tup [ln, la, bg, en]) ∧ Spot ln la bg en ∧ ∀ H', Aft b (n + 1) H H' → Q (.bl true) H'
theorem PlaceAt.aft {C b x : Addr} {n m : Nat} {H H' : Hp} {ln la bg en : V} (h : PlaceAt C H x ln la bg en) (a : Aft b n H H') (hb : Bx m b H) : PlaceAt C H' x ln la bg en := by
  obtain ⟨dx, e⟩ := h
  refine ⟨dx, a.get e fun z => ?_⟩
  obtain ⟨xs, e', _⟩ := hb
  rw [z, e'] at e
  cases e
section
variable {P : Program} {w : World} {K : PySem.W.Frag} {mg : Str → Option Value} {base : Heap}
theorem ok_l_told {f C B : Addr} {fd : FuncData} (F : Fun K "_law_told" "_law_told" s_l_told f fd) (g_BadPlace : mg "BadPlace" = some (.ref B)) (XB : XfC K B) (hnoB : PySem.W.findIn K (.ref B) "part" = some none) (exB : PySem.W.exmOne K (.ref B) (.ref B) = some true)
    (c_l_take : Cal P w K mg base 2 "_law_take" ["_law_box_here", "_law_many"] spTake) (c_l_seen : Cal P w K mg base 2 "_law_seen" ["_law_place_here"] (spSeen C))
    (mS : MeX P w K mg base 7 C "moved" (spMvX C B)) (mK : MeKX P w K mg base 7 C "moved" ["by"] (fun vs zs => vs ++ zs) (spMvX C B)) : FnOk P w K mg base CX0 8 f fd ["_law_box_here", "_law_place_here", "_law_far_here"] (spTold C) := by
  refine F.ok sc_l_told (fun vs H Q E h => ?_) (fun cdv A outer s H vs Q E hr h => ?_)
  · obtain ⟨b, x, far, n, _, _, _, _, rfl, _⟩ := h
    rfl
  · obtain ⟨b, x, far, n, ln, la, bg, en, rfl, hb, hn, hP, hS, q⟩ := h
    refine ⟨_, (pss_cons (ps_asg (pe_tup (pa_cons (pe_non) (pa_cons (pe_non) pa_nil))) (pg_tup rfl (pgs_cons (pg_name (i := 3) sc_l_told.nd rfl (Or.inl rfl)) (pgs_cons (pg_name (i := 4) sc_l_told.nd rfl (Or.inl rfl)) pgs_nil))))
      (pss_cons (ps_try_keep (i := 5) rfl rfl rfl sc_l_told.nd rfl rfl ⟨by rfl, by decide, .inl g_BadPlace⟩ takes0 (fun W pn xe tw po => (pss_one (ps_set (i := 4) sc_l_told.nd rfl (Or.inl rfl) (pe_ifExp (pt_cmpR (op_eq) (pe_c c_l_take hr (by first | decide | exact Nat.le_refl _) (by rfl) (pa_cons (pv 0) (pa_cons (pe_int) pa_nil))) (pe_int) (nomark _)) (pe_mtS mS hr (by decide) tw (pv 1) (pa_cons (pv 2) pa_nil)) (pe_mtKS mK hr (by decide) tw (pv 1) (pk_cons (pv 2) pk_nil)))))) (fun a oe cls d pn z v => (pss_one (ps_set (i := 3) sc_l_told.nd rfl (Or.inl rfl) (pv 5)))))
      (pss_one (ps_ret (pe_ifExp (pt_cmpR (op_isN) (pv 3) (pe_non) (nomark _)) (pe_c c_l_seen hr (by first | decide | exact Nat.le_refl _) (by rfl) (pa_cons (pv 4) pa_nil)) (pe_xk XB hnoB (pv 3))))))), ?_⟩
    refine ⟨(by show 2 ≤ sizeLine; decide), fun t0 n0 => ⟨t0, [.non, .non], rfl, sqT upd_same, rfl, _, _, rfl, _, _, rfl, rfl, ?_⟩⟩
    have s0 := same_upd (o := .tup [.non, .non]) n0
    refine ⟨_, rfl, b, 2, n, rfl, by decide, by decide, hb.same s0, by omega, fun v1 H1 hv1 a1 _ => ?_⟩
    have A1 : Aft b (n + 1) H H1 := ⟨a1.box, (Same.but s0).trans a1.but⟩
    obtain ⟨dx, hx1⟩ := hP.aft A1 hb
    refine ⟨rfl, _, rfl, ite2 (fun c => ?_) (fun c => ?_)⟩
    · refine ⟨_, rfl, x, dx, _, rfl, hx1, rfl, _, rfl, x, far, ln, la, bg, en, rfl, ⟨dx, hx1⟩, ?_⟩
      rcases hS with ⟨rfl, rfl, rfl, rfl⟩ | ⟨l, m, rfl, rfl, hG⟩
      · refine .inl ⟨rfl, _, rfl, rfl, _, rfl, iteT ?_⟩
        exact ⟨_, rfl, x, _, _, _, _, rfl, ⟨dx, hx1⟩, fun t nt => q _ _ (A1.new nt) (.inl ⟨rfl, t, rfl, upd_same⟩)⟩
      · refine .inr ⟨l, m, rfl, rfl, ?_⟩
        have lm := good_le hG
        by_cases h1 : 1 ≤ l + far ∧ l + far ≤ 1000000
        · by_cases h2 : m + far ≤ 1000000
          · refine .inl ⟨good_moved hG h1.1 h1.2 h2, fun H2 y s2 ny hy => ?_⟩
            refine ⟨_, rfl, rfl, _, rfl, iteT ?_⟩
            exact ⟨_, rfl, y, _, _, _, _, rfl, hy, fun t nt => q _ _ ((A1.same s2).new nt) (.inr ⟨l, m, rfl, rfl, .inl ⟨h1.1, h1.2, h2, t, rfl, upd_same⟩⟩)⟩
          · exact .inr ⟨"last", .inr ⟨_, _, rfl, rfl, h1.1, h1.2, by omega, by omega, rfl⟩, fun H2 d s2 hd => ⟨true, exB, fun _ a na => ⟨_, rfl, _, rfl, rfl, _, rfl, iteF ⟨_, rfl, a, d, _, _, rfl, upd_same, (by rw [upd_ne (ne_of_none hd na)]; exact hd), rfl, q _ _ ((A1.same s2).new na) (.inr ⟨l, m, rfl, rfl, .inr (.inr ⟨h1.1, h1.2, by omega, rfl⟩)⟩)⟩⟩, fun z => by cases z⟩⟩
        · exact .inr ⟨"line", .inl ⟨_, rfl, h1, rfl⟩, fun H2 d s2 hd => ⟨true, exB, fun _ a na => ⟨_, rfl, _, rfl, rfl, _, rfl, iteF ⟨_, rfl, a, d, _, _, rfl, upd_same, (by rw [upd_ne (ne_of_none hd na)]; exact hd), rfl, q _ _ ((A1.same s2).new na) (.inr ⟨l, m, rfl, rfl, .inr (.inl ⟨h1, rfl⟩)⟩)⟩⟩, fun z => by cases z⟩⟩
    · refine ⟨_, rfl, x, dx, _, rfl, hx1, rfl, _, rfl, rfl, x, far, ln, la, bg, en, rfl, ⟨dx, hx1⟩, ?_⟩
      rcases hS with ⟨rfl, rfl, rfl, rfl⟩ | ⟨l, m, rfl, rfl, hG⟩
      · refine .inl ⟨rfl, _, rfl, rfl, _, rfl, iteT ?_⟩
        exact ⟨_, rfl, x, _, _, _, _, rfl, ⟨dx, hx1⟩, fun t nt => q _ _ (A1.new nt) (.inl ⟨rfl, t, rfl, upd_same⟩)⟩
      · refine .inr ⟨l, m, rfl, rfl, ?_⟩
        have lm := good_le hG
        by_cases h1 : 1 ≤ l + far ∧ l + far ≤ 1000000
        · by_cases h2 : m + far ≤ 1000000
          · refine .inl ⟨good_moved hG h1.1 h1.2 h2, fun H2 y s2 ny hy => ?_⟩
            refine ⟨_, rfl, rfl, _, rfl, iteT ?_⟩
            exact ⟨_, rfl, y, _, _, _, _, rfl, hy, fun t nt => q _ _ ((A1.same s2).new nt) (.inr ⟨l, m, rfl, rfl, .inl ⟨h1.1, h1.2, h2, t, rfl, upd_same⟩⟩)⟩
          · exact .inr ⟨"last", .inr ⟨_, _, rfl, rfl, h1.1, h1.2, by omega, by omega, rfl⟩, fun H2 d s2 hd => ⟨true, exB, fun _ a na => ⟨_, rfl, _, rfl, rfl, _, rfl, iteF ⟨_, rfl, a, d, _, _, rfl, upd_same, (by rw [upd_ne (ne_of_none hd na)]; exact hd), rfl, q _ _ ((A1.same s2).new na) (.inr ⟨l, m, rfl, rfl, .inr (.inr ⟨h1.1, h1.2, by omega, rfl⟩)⟩)⟩⟩, fun z => by cases z⟩⟩
        · exact .inr ⟨"line", .inl ⟨_, rfl, h1, rfl⟩, fun H2 d s2 hd => ⟨true, exB, fun _ a na => ⟨_, rfl, _, rfl, rfl, _, rfl, iteF ⟨_, rfl, a, d, _, _, rfl, upd_same, (by rw [upd_ne (ne_of_none hd na)]; exact hd), rfl, q _ _ ((A1.same s2).new na) (.inr ⟨l, m, rfl, rfl, .inr (.inl ⟨h1, rfl⟩)⟩)⟩⟩, fun z => by cases z⟩⟩
theorem ok_l_has_right {f C : Addr} {fd : FuncData} (F : Fun K "_law_has_right" "_law_has_right" s_l_has_right f fd) (z_any : mg "any" = none) (c_l_take : Cal P w K mg base 2 "_law_take" ["_law_box_here", "_law_many"] spTake) (c_l_same : Cal P w K mg base 2 "_law_same" ["_law_found", "_law_due_here"] (spSm (Twin K 2)))
    (me_has : MeM P w K mg base 2 C "has" (spHas C)) (mkHas : MeK P w K mg base 2 C "has" ["line"] (fun vs zs => vs ++ zs) (spHas C)) : FnOk P w K mg base CX0 4 f fd ["_law_box_here", "_law_place_here", "_law_spot_here"] (spHr C) := by
  refine F.ok sc_l_has_right (fun vs H Q E h => ?_) (fun cdv A outer s H vs Q E hr h => ?_)
  · obtain ⟨b, x, t, n, _, _, _, _, rfl, _⟩ := h
    rfl
  · obtain ⟨b, x, t, n, ln, la, bg, en, rfl, hb, hn, hP, ht, hS, q⟩ := h
    refine ⟨_, (pss_cons (ps_asg (pe_ifExp (pt_cmpR (op_notN) (pe_ix ix_tup (pv 2) (pe_int) (fun _ _ => rfl)) (pe_non) (nomark _)) (pe_tup (pa_cons (pe_ix ix_tup (pv 2) (pe_int) (fun _ _ => rfl)) (pa_cons (pe_ix ix_tup (pv 2) (pe_int) (fun _ _ => rfl)) pa_nil))) (pe_tup (pa_cons (pe_int) (pa_cons (pe_un un_neg (pe_int)) pa_nil)))) (pg_tup rfl (pgs_cons (pg_name (i := 3) sc_l_has_right.nd rfl (Or.inl rfl)) (pgs_cons (pg_name (i := 4) sc_l_has_right.nd rfl (Or.inl rfl)) pgs_nil))))
      (pss_cons (ps_set (i := 5) sc_l_has_right.nd rfl (Or.inl rfl) (pe_lst (pa_cons (pe_op op_sub (pv 3) (pe_int)) (pa_cons (pv 3) (pa_cons (pe_op op_add (pv 3) (pe_int)) (pa_cons (pe_op op_sub (pv 4) (pe_int)) (pa_cons (pv 4) (pa_cons (pe_op op_add (pv 4) (pe_int)) (pa_cons (pe_int) (pa_cons (pe_op op_pow (pe_int) (pe_int)) (pa_cons (pe_op op_add (pe_int) (pe_c c_l_take hr (by first | decide | exact Nat.le_refl _) (by rfl) (pa_cons (pv 0) (pa_cons (pe_op op_pow (pe_int) (pe_int)) pa_nil)))) pa_nil)))))))))))
      (pss_cons (ps_for PassesOwn.never rfl (pi_list (pv 5)) (pg_name (i := 6) sc_l_has_right.nd rfl (Or.inl rfl)) (pss_one (ps_if (PW.pt (pw_and (pt_chain (op_le) (op_le) (pe_int) (pv 6) (pe_op op_pow (pe_int) (pe_int))) (pw_and1 (pt_not (pt_val (pe_c c_l_same hr (by first | decide | exact Nat.le_refl _) (by rfl) (pa_cons (pe_mt me_has hr (by first | decide | exact Nat.le_refl _) (pv 1) (pa_cons (pv 6) pa_nil)) (pa_cons (pe_chain (op_le) (op_le) (pv 3) (pv 6) (pv 4)) pa_nil)))))))) (pss_one (ps_ret (pe_bl))) pss_nil)))
      (pss_one (ps_ret (pe_not (pe_callB (cr_any rfl) (by rfl) z_any (by decide +kernel) (pa_cons (pe_lc (own := [("_law_number", 6)]) (g := (gName 6)) (tt := tYes) rfl sc_l_has_right.nd (pi_tup (pe_tup (pa_cons (pe_int) (pa_cons (pe_int) (pa_cons (pe_op op_pow (pe_int) (pe_int)) pa_nil))))) (blkOk_by (own := [("_law_number", 6)]) (N := ["_law_box_here", "_law_place_here", "_law_spot_here", "_law_low", "_law_high", "_law_some", "_law_number"]) (sc := defScope s_l_has_right) (by decide +kernel)) (fun _ _ _ _ _ => (pg_name (i := 6) sc_l_has_right.nd rfl (Or.inl rfl))) (fun _ _ _ _ _ => pts_nil) (fun _ _ _ _ _ => (pe_cmpR (op_ne) (pe_mtK mkHas hr (by decide) (pv 1) (pk_cons (pv 6) pk_nil)) (pe_mt me_has hr (by first | decide | exact Nat.le_refl _) (pv 1) (pa_cons (pv 6) pa_nil)) (nomark _)))) pa_nil)))))))), ?_⟩
    have pw : CPow 10 6 := ⟨by decide, by decide, by decide⟩
    rcases hS with ⟨rfl, rfl, rfl, rfl⟩ | ⟨l, m, rfl, rfl, hG⟩
    · have hL : Lims .non .non 0 (-1) := .inl ⟨rfl, rfl, rfl⟩
      refine ⟨_, rfl, t, _, _, _, rfl, rfl, sqT ht, rfl, rfl, _, rfl, iteF ?_⟩
      refine ⟨1, rfl, (by show 2 ≤ sizeLine; decide), fun t0 n0 => ⟨t0, [.int 0, .int (-1)], rfl, sqT upd_same, rfl, _, _, rfl, _, _, rfl, rfl, ?_⟩⟩
      have s0 := same_upd (o := .tup [.int 0, .int (-1)]) n0
      refine ⟨_, rfl, _, _, rfl, rfl, _, rfl, _, rfl, _, _, rfl, rfl, _, rfl, _, _, rfl, rfl, _, rfl, _, rfl, _, _, rfl, rfl, _, _, rfl, rfl, pw, ?_⟩
      refine ⟨_, rfl, _, _, rfl, rfl, pw, b, _, n, rfl, by decide, by decide, hb.same s0, by omega, fun v1 H1 hv1 a1 _ => ⟨_, _, rfl, rfl, (by show 9 ≤ sizeLine; decide), fun l5 nl5 => ?_⟩⟩
      have A1 : Aft b (n + 1) H H1 := ⟨a1.box, (Same.but s0).trans a1.but⟩
      have nl' : H1 l5 = none := nl5
      have el : upd H1 l5 (.lst ((hsL 0 (-1) v1).map V.int)) l5 = some (.lst ((hsL 0 (-1) v1).map V.int)) := upd_same
      have A2 : Aft b (n + 1) H (upd H1 l5 (.lst ((hsL 0 (-1) v1).map V.int))) := A1.new nl'
      have hP2 := hP.aft A2 hb
      refine ⟨_, rfl, l5, rfl, ⟨_, sqL el⟩, ?_⟩
      refine for_list (K := K) (a := l5) (xs := (hsL 0 (-1) v1).map V.int) (fun i σ H' => Same (upd H1 l5 (.lst ((hsL 0 (-1) v1).map V.int))) H' ∧ ∃ y, σ = [some (.ref b), some (.ref x), some (.ref t), some (.int 0), some (.int (-1)), some (.ref l5), y]) ⟨Same.refl _, _, rfl⟩ (fun i σ H' _ h => h.1.seq (sqL el)) ?_ ?_
      · rintro i y σ H' hy ⟨sm, y0, rfl⟩
        obtain ⟨z, _, rfl⟩ := ints_at hy
        obtain ⟨dx, hx⟩ := hP2.same sm
        refine ⟨_, rfl, _, _, rfl, rfl, _, rfl, ite2 (fun c => ?_) (fun c => ?_)⟩
        · refine ⟨_, _, rfl, rfl, pw, _, _, rfl, rfl, _, rfl, ite2 (fun d => ?_) (fun d => ?_)⟩
          · refine ⟨_, rfl, x, dx, _, rfl, hx, rfl, _, rfl, x, z, _, _, _, _, rfl, ⟨dx, hx⟩, .inl ⟨rfl, ?_⟩⟩
            refine ⟨_, rfl, _, rfl, _, _, rfl, rfl, _, rfl, ite2 (fun g => ?_) (fun g => ?_)⟩
            · refine ⟨_, rfl, _, _, rfl, rfl, _, _, rfl, .inl ⟨.inr (.inl ⟨_, rfl⟩), ?_⟩, fun H4 s4 => ⟨_, rfl, iteF ⟨sm.trans s4, _, rfl⟩⟩⟩
              exact congrArg V.bl (decide_eq_false (by have := of_decide_eq_true c; omega)).symm
            · refine ⟨_, _, rfl, .inl ⟨.inr (.inl ⟨_, rfl⟩), ?_⟩, fun H4 s4 => ⟨_, rfl, iteF ⟨sm.trans s4, _, rfl⟩⟩⟩
              exact congrArg V.bl rfl
          · exact ⟨sm, _, rfl⟩
        · exact ⟨_, rfl, iteF ⟨sm, _, rfl⟩⟩
      · rintro σ H' ⟨sm, y0, rfl⟩
        refine ⟨_, _, rfl, rfl, pw, (by show 3 ≤ sizeLine; decide), fun t3 nt3 => ?_⟩
        have s3 := sm.trans (same_upd (o := .tup ([1, 7, 10 ^ Int.toNat 6].map V.int)) nt3)
        have e3 : upd H' t3 (.tup ([1, 7, 10 ^ Int.toNat 6].map V.int)) t3 = some (.tup ([1, 7, 10 ^ Int.toNat 6].map V.int)) := upd_same
        refine ⟨t3, rfl, ⟨_, sqT e3⟩, fun D nD => ?_⟩
        refine lc_tup (K := K) (a := t3) (xs := [1, 7, 10 ^ Int.toNat 6].map V.int) (fun i H4 => Same (upd H' t3 (.tup ([1, 7, 10 ^ Int.toNat 6].map V.int))) H4 ∧ H4 D = some (.lst (List.replicate i (.bl false)))) ⟨same_upd nD, upd_same⟩ (fun i H4 _ h => sqT (h.1 _ _ e3)) ?_ ?_
        · rintro i y H4 hy ⟨sm4, eD⟩
          obtain ⟨z, _, rfl⟩ := ints_at hy
          obtain ⟨dx, hx⟩ := (hP2.same s3).same sm4
          refine ⟨rfl, _, rfl, x, dx, _, rfl, hx, rfl, _, rfl, rfl, x, z, _, _, _, _, rfl, ⟨dx, hx⟩, .inl ⟨rfl, ?_⟩⟩
          refine ⟨_, rfl, x, dx, _, rfl, hx, rfl, _, rfl, x, z, _, _, _, _, rfl, ⟨dx, hx⟩, .inl ⟨rfl, ?_⟩⟩
          refine ⟨rfl, _, eD, by rw [List.length_replicate]; exact line_gt (by have : i < 3 := ints_lt hy; omega), same_but sm4 nD, ?_⟩
          rw [upd_same, decide_eq_true rfl]
          exact congrArg (fun z => some (HO.lst z)) (by rw [List.replicate_succ']; rfl)
        · rintro H4 ⟨sm4, eD⟩
          refine ⟨D, List.replicate 3 false, rfl, by rw [List.map_replicate]; exact sqL eD, ?_⟩
          exact ⟨false, rfl, q _ ((A2.same s3).same sm4)⟩
    · have hL : Lims (.int l) (.int m) l m := .inr ⟨rfl, rfl⟩
      refine ⟨_, rfl, t, _, _, _, rfl, rfl, sqT ht, rfl, rfl, _, rfl, iteT ?_⟩
      refine ⟨_, rfl, t, _, _, _, rfl, rfl, sqT ht, rfl, _, rfl, t, _, _, _, rfl, rfl, sqT ht, rfl, (by show 2 ≤ sizeLine; decide), fun t0 n0 => ⟨t0, [.int l, .int m], rfl, sqT upd_same, rfl, _, _, rfl, _, _, rfl, rfl, ?_⟩⟩
      have s0 := same_upd (o := .tup [.int l, .int m]) n0
      refine ⟨_, rfl, _, _, rfl, rfl, _, rfl, _, rfl, _, _, rfl, rfl, _, rfl, _, _, rfl, rfl, _, rfl, _, rfl, _, _, rfl, rfl, _, _, rfl, rfl, pw, ?_⟩
      refine ⟨_, rfl, _, _, rfl, rfl, pw, b, _, n, rfl, by decide, by decide, hb.same s0, by omega, fun v1 H1 hv1 a1 _ => ⟨_, _, rfl, rfl, (by show 9 ≤ sizeLine; decide), fun l5 nl5 => ?_⟩⟩
      have A1 : Aft b (n + 1) H H1 := ⟨a1.box, (Same.but s0).trans a1.but⟩
      have nl' : H1 l5 = none := nl5
      have el : upd H1 l5 (.lst ((hsL l m v1).map V.int)) l5 = some (.lst ((hsL l m v1).map V.int)) := upd_same
      have A2 : Aft b (n + 1) H (upd H1 l5 (.lst ((hsL l m v1).map V.int))) := A1.new nl'
      have hP2 := hP.aft A2 hb
      refine ⟨_, rfl, l5, rfl, ⟨_, sqL el⟩, ?_⟩
      refine for_list (K := K) (a := l5) (xs := (hsL l m v1).map V.int) (fun i σ H' => Same (upd H1 l5 (.lst ((hsL l m v1).map V.int))) H' ∧ ∃ y, σ = [some (.ref b), some (.ref x), some (.ref t), some (.int l), some (.int m), some (.ref l5), y]) ⟨Same.refl _, _, rfl⟩ (fun i σ H' _ h => h.1.seq (sqL el)) ?_ ?_
      · rintro i y σ H' hy ⟨sm, y0, rfl⟩
        obtain ⟨z, _, rfl⟩ := ints_at hy
        obtain ⟨dx, hx⟩ := hP2.same sm
        refine ⟨_, rfl, _, _, rfl, rfl, _, rfl, ite2 (fun c => ?_) (fun c => ?_)⟩
        · refine ⟨_, _, rfl, rfl, pw, _, _, rfl, rfl, _, rfl, ite2 (fun d => ?_) (fun d => ?_)⟩
          · refine ⟨_, rfl, x, dx, _, rfl, hx, rfl, _, rfl, x, z, _, _, _, _, rfl, ⟨dx, hx⟩, .inr ⟨l, m, rfl, rfl, ?_⟩⟩
            refine ⟨_, rfl, _, rfl, _, _, rfl, rfl, _, rfl, ite2 (fun g => ?_) (fun g => ?_)⟩
            · refine ⟨_, rfl, _, _, rfl, rfl, _, _, rfl, .inl ⟨.inr (.inl ⟨_, rfl⟩), ?_⟩, fun H4 s4 => ⟨_, rfl, iteF ⟨sm.trans s4, _, rfl⟩⟩⟩
              exact congrArg V.bl (by_le (of_decide_eq_true g))
            · refine ⟨_, _, rfl, .inl ⟨.inr (.inl ⟨_, rfl⟩), ?_⟩, fun H4 s4 => ⟨_, rfl, iteF ⟨sm.trans s4, _, rfl⟩⟩⟩
              exact congrArg V.bl (decide_eq_false fun k => g (decide_eq_true k.1))
          · exact ⟨sm, _, rfl⟩
        · exact ⟨_, rfl, iteF ⟨sm, _, rfl⟩⟩
      · rintro σ H' ⟨sm, y0, rfl⟩
        refine ⟨_, _, rfl, rfl, pw, (by show 3 ≤ sizeLine; decide), fun t3 nt3 => ?_⟩
        have s3 := sm.trans (same_upd (o := .tup ([1, 7, 10 ^ Int.toNat 6].map V.int)) nt3)
        have e3 : upd H' t3 (.tup ([1, 7, 10 ^ Int.toNat 6].map V.int)) t3 = some (.tup ([1, 7, 10 ^ Int.toNat 6].map V.int)) := upd_same
        refine ⟨t3, rfl, ⟨_, sqT e3⟩, fun D nD => ?_⟩
        refine lc_tup (K := K) (a := t3) (xs := [1, 7, 10 ^ Int.toNat 6].map V.int) (fun i H4 => Same (upd H' t3 (.tup ([1, 7, 10 ^ Int.toNat 6].map V.int))) H4 ∧ H4 D = some (.lst (List.replicate i (.bl false)))) ⟨same_upd nD, upd_same⟩ (fun i H4 _ h => sqT (h.1 _ _ e3)) ?_ ?_
        · rintro i y H4 hy ⟨sm4, eD⟩
          obtain ⟨z, _, rfl⟩ := ints_at hy
          obtain ⟨dx, hx⟩ := (hP2.same s3).same sm4
          refine ⟨rfl, _, rfl, x, dx, _, rfl, hx, rfl, _, rfl, rfl, x, z, _, _, _, _, rfl, ⟨dx, hx⟩, .inr ⟨l, m, rfl, rfl, ?_⟩⟩
          refine ⟨_, rfl, x, dx, _, rfl, hx, rfl, _, rfl, x, z, _, _, _, _, rfl, ⟨dx, hx⟩, .inr ⟨l, m, rfl, rfl, ?_⟩⟩
          refine ⟨rfl, _, eD, by rw [List.length_replicate]; exact line_gt (by have : i < 3 := ints_lt hy; omega), same_but sm4 nD, ?_⟩
          rw [upd_same, decide_eq_true rfl]
          exact congrArg (fun z => some (HO.lst z)) (by rw [List.replicate_succ']; rfl)
        · rintro H4 ⟨sm4, eD⟩
          refine ⟨D, List.replicate 3 false, rfl, by rw [List.map_replicate]; exact sqL eD, ?_⟩
          exact ⟨false, rfl, q _ ((A2.same s3).same sm4)⟩
end
end My

namespace My
open PySem PySem.Spec PyProof.Rows L2
theorem Aft.tup {b t : Addr} {n m : Nat} {H H' : Hp} {xs : List V} (a : Aft b n H H') (hb : Bx m b H) (h : H t = some (.tup xs)) : H' t = some (.tup xs) := by
  refine a.get h fun z => ?_
  obtain ⟨xs, e', _⟩ := hb
  rw [z, e'] at h
  cases h
theorem Tl.map {H H' : Hp} {v ln la bg en : V} {far : Int} (h : Tl H v ln la bg en far) (k : ∀ t xs, H t = some (.tup xs) → H' t = some (.tup xs)) : Tl H' v ln la bg en far := by
  rcases h with ⟨e, t, ev, et⟩ | ⟨l, m, e1, e2, ⟨h1, h2, h3, t, ev, et⟩ | h | h⟩
  · exact .inl ⟨e, t, ev, k _ _ et⟩
  · exact .inr ⟨l, m, e1, e2, .inl ⟨h1, h2, h3, t, ev, k _ _ et⟩⟩
  · exact .inr ⟨l, m, e1, e2, .inr (.inl h)⟩
  · exact .inr ⟨l, m, e1, e2, .inr (.inr h)⟩
theorem spot_scal {ln la bg en : V} (h : Spot ln la bg en) : Scal ln ∧ Scal la ∧ Scal bg ∧ Scal en := by
  rcases h.cases with ⟨rfl, rfl, rfl, rfl⟩ | ⟨l, rfl, rfl, rfl, rfl, _⟩ | ⟨l, m, b, e, rfl, rfl, rfl, rfl, _⟩
  · exact ⟨.inl rfl, .inl rfl, .inl rfl, .inl rfl⟩
  · exact ⟨.inr (.inr (.inl ⟨_, rfl⟩)), .inr (.inr (.inl ⟨_, rfl⟩)), .inl rfl, .inl rfl⟩
  · exact ⟨.inr (.inr (.inl ⟨_, rfl⟩)), .inr (.inr (.inl ⟨_, rfl⟩)), .inr (.inr (.inl ⟨_, rfl⟩)), .inr (.inr (.inl ⟨_, rfl⟩))⟩
theorem twin_of {K : PySem.W.Frag} {H : Hp} {a b : Addr} {ln la bg en : V} (c1 : Scal ln) (c2 : Scal la) (c3 : Scal bg) (c4 : Scal en) (ha : H a = some (.tup [ln, la, bg, en])) (hb : H b = some (.tup [ln, la, bg, en])) : Twin K 2 H (.ref a) (.ref b) := by
  refine .inr ⟨a, b, [ln, la, bg, en], [ln, la, bg, en], rfl, rfl, rfl, (by show 4 ≤ 100000; decide), fun i u v e1 e2 => ?_, .inr ⟨sqT ha, sqT hb⟩⟩
  match i, e1, e2 with
  | 0, e1, e2 => cases e1; cases e2; exact .inl ⟨c1, rfl⟩
  | 1, e1, e2 => cases e1; cases e2; exact .inl ⟨c2, rfl⟩
  | 2, e1, e2 => cases e1; cases e2; exact .inl ⟨c3, rfl⟩
  | 3, e1, e2 => cases e1; cases e2; exact .inl ⟨c4, rfl⟩
  | i + 4, e1, e2 => cases e1
theorem twin_tl {K : PySem.W.Frag} {H : Hp} {v u ln la bg en : V} {far : Int} (hS : Spot ln la bg en) (h1 : Tl H v ln la bg en far) (h2 : Tl H u ln la bg en far) : Twin K 2 H v u := by
  obtain ⟨c1, c2, c3, c4⟩ := spot_scal hS
  rcases h1 with ⟨e, t, rfl, et⟩ | ⟨l, m, rfl, rfl, h1⟩
  · rcases h2 with ⟨_, t', rfl, et'⟩ | ⟨l, m, e', _⟩
    · exact twin_of c1 c2 c3 c4 et et'
    · rw [e] at e'
      cases e'
  · rcases h2 with ⟨e, _⟩ | ⟨l', m', e1, e2, h2⟩
    · cases e
    · cases e1
      cases e2
      have s : ∀ i : Int, Scal (.int i) := fun i => .inr (.inr (.inl ⟨_, rfl⟩))
      rcases h1 with ⟨a1, a2, a3, t, rfl, et⟩ | ⟨a1, rfl⟩ | ⟨a1, a2, a3, rfl⟩ <;> rcases h2 with ⟨b1, b2, b3, t', rfl, et'⟩ | ⟨b1, rfl⟩ | ⟨b1, b2, b3, rfl⟩
      · exact twin_of (s _) (s _) c3 c4 et et'
      · exact absurd ⟨a1, a2⟩ b1
      · omega
      · exact absurd ⟨b1, b2⟩ a1
      · exact .inl ⟨.inr (.inr (.inr ⟨_, rfl⟩)), rfl⟩
      · exact absurd ⟨b1, b2⟩ a1
      · omega
      · exact absurd ⟨a1, a2⟩ b1
      · exact .inl ⟨.inr (.inr (.inr ⟨_, rfl⟩)), rfl⟩
def spLaw (K : PySem.W.Frag) : Sp := fun vs H Q _ => ∃ (a : Addr) (ns : List Int), vs = [.ref a] ∧ SqL K H a (ns.map V.int) ∧ ns.length ≤ 63 ∧ ∀ H', Q (.bl true) H'
def wides : List Int := [9, 1000, 10 ^ Int.toNat 6, 3]
theorem wides_in {z : Int} (h : z ∈ wides) : 0 < z ∧ z ≤ 1000000 := by
  have e : (10 : Int) ^ Int.toNat 6 = 1000000 := ten6'
  unfold wides at h
  rw [e] at h
  simp only [List.mem_cons, List.not_mem_nil, or_false] at h
  omega
section
variable {P : Program} {w : World} {K : PySem.W.Frag} {mg : Str → Option Value} {base : Heap}
theorem ok_law {f C : Addr} {fd : FuncData} (F : Fun K "law" "law" s_law f fd) (z_range : mg "range" = none) (z_min : mg "min" = none) (z_len : mg "len" = none) (z_isinstance : mg "isinstance" = none) (z_tuple : mg "tuple" = none)
    (c_l_box : Cal P w K mg base 3 "_law_box" ["_law_script", "_law_k"] (spBox K)) (c_l_spot : Cal P w K mg base 3 "_law_spot" ["_law_box_here", "_law_wide"] spSpot)
    (c_l_place : Cal P w K mg base 7 "_law_place" ["_law_spot_here"] (spPlc C)) (c_l_far : Cal P w K mg base 3 "_law_far" ["_law_box_here", "_law_spot_here"] spFar) (c_l_due : Cal P w K mg base 2 "_law_due" ["_law_spot_here", "_law_far_here"] spDue)
    (c_l_has_right : Cal P w K mg base 4 "_law_has_right" ["_law_box_here", "_law_place_here", "_law_spot_here"] (spHr C)) (c_l_same : Cal P w K mg base 2 "_law_same" ["_law_found", "_law_due_here"] (spSm (Twin K 2)))
    (c_l_told : Cal P w K mg base 8 "_law_told" ["_law_box_here", "_law_place_here", "_law_far_here"] (spTold C)) (c_l_seen : Cal P w K mg base 2 "_law_seen" ["_law_place_here"] (spSeen C))
    (me_moved : MeM P w K mg base 7 C "moved" (spMv C)) (o_ne : OwnE P w K mg base 2 C (spEq (RPl C))) : FnOk P w K mg base CX0 9 f fd ["_law_script"] (spLaw K) := by
  refine F.ok sc_law (fun vs H Q E h => ?_) (fun cdv A outer s H vs Q E hr h => ?_)
  · obtain ⟨a, ns, rfl, _⟩ := h
    rfl
  · obtain ⟨a, ns, rfl, hS, hl, q⟩ := h
    refine ⟨_, (pss_cons (ps_for PassesOwn.never rfl (pi_range1 (by rfl) z_range (pa_cons (pe_op op_add (pe_int) (pe_callB (call_min2 rfl) (by rfl) z_min (by decide +kernel) (pa_cons (pe_int) (pa_cons (pe_callB (call_len_seq) (by rfl) z_len (by decide +kernel) (pa_cons (pv 0) pa_nil)) pa_nil)))) pa_nil)) (pg_name (i := 1) sc_law.nd rfl (Or.inl rfl)) (pss_cons (ps_set (i := 2) sc_law.nd rfl (Or.inl rfl) (pe_c c_l_box hr (by first | decide | exact Nat.le_refl _) (by rfl) (pa_cons (pv 0) (pa_cons (pv 1) pa_nil))))
      (pss_one (ps_for PassesOwn.never rfl (pi_tup (pe_tup (pa_cons (pe_int) (pa_cons (pe_int) (pa_cons (pe_op op_pow (pe_int) (pe_int)) (pa_cons (pe_int) pa_nil)))))) (pg_name (i := 3) sc_law.nd rfl (Or.inl rfl)) (pss_cons (ps_set (i := 4) sc_law.nd rfl (Or.inl rfl) (pe_c c_l_spot hr (by first | decide | exact Nat.le_refl _) (by rfl) (pa_cons (pv 2) (pa_cons (pv 3) pa_nil))))
      (pss_cons (ps_par (by rfl) sc_law.nd (i := 5) (j := 6) rfl rfl (by decide) rfl rfl (pa_cons (pe_c c_l_place hr (by first | decide | exact Nat.le_refl _) (by rfl) (pa_cons (pv 4) pa_nil)) (pa_cons (pe_c c_l_far hr (by first | decide | exact Nat.le_refl _) (by rfl) (pa_cons (pv 2) (pa_cons (pv 4) pa_nil))) pa_nil)) (by rfl))
      (pss_cons (ps_set (i := 7) sc_law.nd rfl (Or.inl rfl) (pe_c c_l_due hr (by first | decide | exact Nat.le_refl _) (by rfl) (pa_cons (pv 4) (pa_cons (pv 6) pa_nil))))
      (pss_cons (ps_if (PW.pt (pw_or (pt_not (pt_val (pe_c c_l_has_right hr (by first | decide | exact Nat.le_refl _) (by rfl) (pa_cons (pv 2) (pa_cons (pv 5) (pa_cons (pv 4) pa_nil)))))) (pw_or1 (pt_not (pt_val (pe_c c_l_same hr (by first | decide | exact Nat.le_refl _) (by rfl) (pa_cons (pe_c c_l_told hr (by first | decide | exact Nat.le_refl _) (by rfl) (pa_cons (pv 2) (pa_cons (pv 5) (pa_cons (pv 6) pa_nil)))) (pa_cons (pv 7) pa_nil)))))))) (pss_one (ps_ret (pe_bl))) pss_nil)
      (pss_cons (ps_if (PW.pt (pw_and (pt_val (pe_callB (call_isi) (by rfl) z_isinstance (by decide +kernel) (pa_cons (pv 7) (pa_cons (pe_bltn (v := .ty "tuple") (by rfl) z_tuple (by decide +kernel) rfl) pa_nil)))) (pw_and1 (pt_cmpR (op_neB o_ne (hr.mono (by decide))) (pe_mt me_moved hr (by first | decide | exact Nat.le_refl _) (pe_mt me_moved hr (by first | decide | exact Nat.le_refl _) (pv 5) (pa_cons (pv 6) pa_nil)) (pa_cons (pe_un un_neg (pv 6)) pa_nil)) (pv 5) (nomark _))))) (pss_one (ps_ret (pe_bl))) pss_nil)
      (pss_one (ps_if (PW.pt (pw_or (pt_not (pt_val (pe_c c_l_same hr (by first | decide | exact Nat.le_refl _) (by rfl) (pa_cons (pe_c c_l_seen hr (by first | decide | exact Nat.le_refl _) (by rfl) (pa_cons (pv 5) pa_nil)) (pa_cons (pv 4) pa_nil))))) (pw_or1 (pt_not (pt_val (pe_c c_l_same hr (by first | decide | exact Nat.le_refl _) (by rfl) (pa_cons (pe_c c_l_told hr (by first | decide | exact Nat.le_refl _) (by rfl) (pa_cons (pv 2) (pa_cons (pv 5) (pa_cons (pv 6) pa_nil)))) (pa_cons (pv 7) pa_nil)))))))) (pss_one (ps_ret (pe_bl))) pss_nil)))))))))))
      (pss_one (ps_ret (pe_bl)))), ?_⟩
    have hN : ∃ N : Int, N = 1 + (if ((ns.map V.int).length : Int) < 11 then ((ns.map V.int).length : Int) else 11) ∧ 1 ≤ N ∧ N ≤ 12 := by
      refine ⟨_, rfl, ?_⟩
      split <;> omega
    obtain ⟨N, eN, N1, N2⟩ := hN
    refine ⟨_, rfl, a, _, rfl, .inl hS, _, _, rfl, _, _, rfl, rfl, N, by rw [eN] <;> rfl, by omega, by omega, ?_⟩
    refine for_range (lo := 0) (fun i σ H' => ∃ y1 y2 y3 y4 y5 y6 y7, σ = [some (.ref a), y1, y2, y3, y4, y5, y6, y7] ∧ Same H H') ⟨none, none, none, none, none, none, none, rfl, Same.refl _⟩ ?_ (fun σ H' _ => q _)
    rintro i σ H1 hi ⟨y1, y2, y3, y4, y5, y6, y7, rfl, s1⟩
    refine ⟨_, rfl, _, rfl, a, ns, i, by rw [Int.zero_add] <;> rfl, s1.seq hS, by omega, fun H2 p s2 np bx => ?_⟩
    refine ⟨_, _, rfl, rfl, ⟨by decide, by decide, by decide⟩, (by show 4 ≤ sizeLine; decide), fun tp ntp => ?_⟩
    have st := same_upd (o := .tup (wides.map V.int)) ntp
    have tpp := bx.ne ntp
    have e4 : upd H2 tp (.tup (wides.map V.int)) tp = some (.tup (wides.map V.int)) := upd_same
    have bx4 := bx.same st
    refine ⟨tp, rfl, ⟨_, sqT upd_same⟩, ?_⟩
    refine for_tup (K := K) (a := tp) (xs := wides.map V.int) (fun j σ H' => ∃ y3 y4 y5 y6 y7, σ = [some (.ref a), some (.int (0 + (i : Int))), some (.ref p), y3, y4, y5, y6, y7] ∧ Aft p (13 * j) (upd H2 tp (.tup (wides.map V.int))) H') ⟨_, _, _, _, _, rfl, ⟨bx4, fun _ _ _ h => h⟩⟩ (fun j σ H' _ ⟨_, _, _, _, _, _, aj⟩ => sqT (aj.get e4 tpp)) ?_ ?_
    · rintro j x σ H5 hx ⟨y3, y4, y5, y6, y7, rfl, aj⟩
      have hj : j < 4 := ints_lt hx
      obtain ⟨z, hz, rfl⟩ := ints_at hx
      obtain ⟨z0, z1⟩ := wides_in hz
      refine ⟨_, rfl, _, rfl, p, z, 13 * j, rfl, z0, z1, aj.box, by omega, fun ln la bg en H6 t hS6 a6 nt et => ?_⟩
      have A6 := aj.trans a6
      refine ⟨_, rfl, t, ln, la, bg, en, rfl, et, hS6, fun H7 x s7 hP7 => ?_⟩
      have A7 := A6.same s7
      refine ⟨_, rfl, _, rfl, p, t, 13 * j + 8, ln, la, bg, en, rfl, A7.box, by omega, s7 _ _ et, hS6, fun far H8 a8 => ⟨_, _, rfl, ?_⟩⟩
      have A8 := A7.trans a8
      have et8 := a8.tup A7.box (s7 _ _ et)
      have hP8 := hP7.aft a8 A7.box
      refine ⟨_, rfl, _, rfl, t, far, ln, la, bg, en, rfl, et8, hS6, fun H9 v9 s9 hT9 => ?_⟩
      have A9 := A8.same s9
      have et9 := s9 _ _ et8
      have hP9 := hP8.same s9
      refine ⟨_, rfl, _, rfl, _, rfl, p, x, t, 13 * j + 8 + 2, ln, la, bg, en, rfl, A9.box, by omega, hP9, et9, hS6, fun H10 a10 => ⟨_, rfl, iteF ?_⟩⟩
      have A10 := A9.trans a10
      have et10 := a10.tup A9.box et9
      have hP10 := hP9.aft a10 A9.box
      have hT10 := hT9.map fun t xs h => a10.tup A9.box h
      refine ⟨_, rfl, _, rfl, _, rfl, p, x, far, 13 * j + 8 + 2 + 1, ln, la, bg, en, rfl, A10.box, by omega, hP10, hS6, fun H11 v11 a11 hT11 => ?_⟩
      have A11 := A10.trans a11
      have et11 := a11.tup A10.box et10
      have hP11 := hP10.aft a11 A10.box
      have hD11 := hT10.map fun t xs h => a11.tup A10.box h
      refine ⟨_, rfl, _, _, rfl, twin_tl hS6 hT11 hD11, fun H12 s12 => ⟨_, rfl, iteF ?_⟩⟩
      have A12 := A11.same s12
      have et12 := s12 _ _ et11
      have hP12 := hP11.same s12
      have hD12 := hD11.map fun t xs h => s12 _ _ h
      obtain ⟨c1, c2, c3, c4⟩ := spot_scal hS6
      obtain ⟨dx, hx12⟩ := hP12
      have hP12 : PlaceAt C H12 x ln la bg en := ⟨dx, hx12⟩
      have hD12' := hD12
      rcases hD12 with ⟨rfl, td, rfl, etd⟩ | ⟨l, m, rfl, rfl, ⟨h1, h2, h3, td, rfl, etd⟩ | ⟨h1, rfl⟩ | ⟨h1, h2, h3, rfl⟩⟩
      · refine ⟨_, rfl, _, _, _, _, _, rfl, .ty _, .base (.tup etd), kit_ty (by decide +kernel : kitB "tuple" "tuple" = some true), _, rfl, iteT ?_⟩
        refine ⟨_, rfl, x, dx, _, rfl, hx12, rfl, _, rfl, x, far, _, _, _, _, rfl, hP12, .inl ⟨rfl, ?_⟩⟩
        refine ⟨x, dx, _, rfl, hx12, rfl, _, rfl, _, rfl, x, _, _, _, _, _, rfl, hP12, .inl ⟨rfl, ?_⟩⟩
        refine ⟨_, rfl, x, x, dx, dx, _, _, rfl, rfl, hx12, hx12, x, x, rfl, ⟨_, _, _, _, hP12, hP12, hS6⟩, fun H13 s13 => ⟨true, rfl, ?_⟩⟩
        have s13' : Same H12 H13 := s13
        refine ⟨_, rfl, ?_⟩
        show tNext _ _ _
        have A13 := A12.same s13'
        have et13 := s13' _ _ et12
        have hP13 := hP12.same s13'
        have hD13 := hD12'.map fun t xs h => s13' _ _ h
        refine ⟨_, rfl, x, _, _, _, _, rfl, hP13, fun t2 nt2 => ⟨_, rfl, _, _, rfl, twin_of c1 c2 c3 c4 upd_same (same_upd nt2 _ _ et13), fun H14 s14 => ⟨_, rfl, iteF ?_⟩⟩⟩
        have s14' := (same_upd nt2).trans s14
        have A14 := A13.same s14'
        refine ⟨_, rfl, _, rfl, _, rfl, p, x, far, 13 * j + 8 + 2 + 1 + 1, _, _, _, _, rfl, A14.box, by omega, hP13.same s14', hS6, fun H15 v15 a15 hT15 => ?_⟩
        have hD15 := (hD13.map fun t xs h => s14' _ _ h).map fun t xs h => a15.tup A14.box h
        exact ⟨_, rfl, _, _, rfl, twin_tl hS6 hT15 hD15, fun H16 s16 => ⟨_, rfl, iteF ⟨_, _, _, _, _, rfl, ((A14.trans a15).same s16).mono (by omega)⟩⟩⟩
      · have hG : Good (.int l) (.int m) bg en := by
          rcases hS6 with ⟨e, _⟩ | ⟨l', m', e1, e2, hG⟩
          · cases e
          · cases e1
            cases e2
            exact hG
        have el : l + far + -far = l := by omega
        have em : m + far + -far = m := by omega
        refine ⟨_, rfl, _, _, _, _, _, rfl, .ty _, .base (.tup etd), kit_ty (by decide +kernel : kitB "tuple" "tuple" = some true), _, rfl, iteT ?_⟩
        refine ⟨_, rfl, x, dx, _, rfl, hx12, rfl, _, rfl, x, far, _, _, _, _, rfl, hP12, .inr ⟨l, m, rfl, rfl, good_moved hG h1 h2 h3, fun Ha y sa ny hy => ?_⟩⟩
        obtain ⟨dy, ey⟩ := hy
        refine ⟨y, dy, _, rfl, ey, rfl, _, rfl, _, rfl, y, _, _, _, _, _, rfl, ⟨dy, ey⟩, .inr ⟨l + far, m + far, rfl, rfl, by rw [el, em]; exact hG, fun Hb u sb nu hu => ?_⟩⟩
        rw [el, em] at hu
        obtain ⟨du, eu⟩ := hu
        have sab := sa.trans sb
        have hxb := sab _ _ hx12
        refine ⟨_, rfl, u, x, du, dx, _, _, rfl, rfl, eu, hxb, u, x, rfl, ⟨_, _, _, _, ⟨du, eu⟩, ⟨dx, hxb⟩, hS6⟩, fun H13 s13 => ⟨true, rfl, ?_⟩⟩
        have s13' : Same H12 H13 := sab.trans s13
        refine ⟨_, rfl, ?_⟩
        show tNext _ _ _
        have A13 := A12.same s13'
        have et13 := s13' _ _ et12
        have hP13 := hP12.same s13'
        have hD13 := hD12'.map fun t xs h => s13' _ _ h
        refine ⟨_, rfl, x, _, _, _, _, rfl, hP13, fun t2 nt2 => ⟨_, rfl, _, _, rfl, twin_of c1 c2 c3 c4 upd_same (same_upd nt2 _ _ et13), fun H14 s14 => ⟨_, rfl, iteF ?_⟩⟩⟩
        have s14' := (same_upd nt2).trans s14
        have A14 := A13.same s14'
        refine ⟨_, rfl, _, rfl, _, rfl, p, x, far, 13 * j + 8 + 2 + 1 + 1, _, _, _, _, rfl, A14.box, by omega, hP13.same s14', hS6, fun H15 v15 a15 hT15 => ?_⟩
        have hD15 := (hD13.map fun t xs h => s14' _ _ h).map fun t xs h => a15.tup A14.box h
        exact ⟨_, rfl, _, _, rfl, twin_tl hS6 hT15 hD15, fun H16 s16 => ⟨_, rfl, iteF ⟨_, _, _, _, _, rfl, ((A14.trans a15).same s16).mono (by omega)⟩⟩⟩
      · refine ⟨_, rfl, _, _, _, _, _, rfl, .ty _, .base (.str _), kit_ty (by decide +kernel : kitB "str" "tuple" = some false), _, rfl, iteF ?_⟩
        have s13' : Same H12 H12 := Same.refl _
        have A13 := A12.same s13'
        have et13 := s13' _ _ et12
        have hP13 := hP12.same s13'
        have hD13 := hD12'.map fun t xs h => s13' _ _ h
        refine ⟨_, rfl, x, _, _, _, _, rfl, hP13, fun t2 nt2 => ⟨_, rfl, _, _, rfl, twin_of c1 c2 c3 c4 upd_same (same_upd nt2 _ _ et13), fun H14 s14 => ⟨_, rfl, iteF ?_⟩⟩⟩
        have s14' := (same_upd nt2).trans s14
        have A14 := A13.same s14'
        refine ⟨_, rfl, _, rfl, _, rfl, p, x, far, 13 * j + 8 + 2 + 1 + 1, _, _, _, _, rfl, A14.box, by omega, hP13.same s14', hS6, fun H15 v15 a15 hT15 => ?_⟩
        have hD15 := (hD13.map fun t xs h => s14' _ _ h).map fun t xs h => a15.tup A14.box h
        exact ⟨_, rfl, _, _, rfl, twin_tl hS6 hT15 hD15, fun H16 s16 => ⟨_, rfl, iteF ⟨_, _, _, _, _, rfl, ((A14.trans a15).same s16).mono (by omega)⟩⟩⟩
      · refine ⟨_, rfl, _, _, _, _, _, rfl, .ty _, .base (.str _), kit_ty (by decide +kernel : kitB "str" "tuple" = some false), _, rfl, iteF ?_⟩
        have s13' : Same H12 H12 := Same.refl _
        have A13 := A12.same s13'
        have et13 := s13' _ _ et12
        have hP13 := hP12.same s13'
        have hD13 := hD12'.map fun t xs h => s13' _ _ h
        refine ⟨_, rfl, x, _, _, _, _, rfl, hP13, fun t2 nt2 => ⟨_, rfl, _, _, rfl, twin_of c1 c2 c3 c4 upd_same (same_upd nt2 _ _ et13), fun H14 s14 => ⟨_, rfl, iteF ?_⟩⟩⟩
        have s14' := (same_upd nt2).trans s14
        have A14 := A13.same s14'
        refine ⟨_, rfl, _, rfl, _, rfl, p, x, far, 13 * j + 8 + 2 + 1 + 1, _, _, _, _, rfl, A14.box, by omega, hP13.same s14', hS6, fun H15 v15 a15 hT15 => ?_⟩
        have hD15 := (hD13.map fun t xs h => s14' _ _ h).map fun t xs h => a15.tup A14.box h
        exact ⟨_, rfl, _, _, rfl, twin_tl hS6 hT15 hD15, fun H16 s16 => ⟨_, rfl, iteF ⟨_, _, _, _, _, rfl, ((A14.trans a15).same s16).mono (by omega)⟩⟩⟩
    · rintro σ H5 ⟨y3, y4, y5, y6, y7, rfl, aj⟩
      refine ⟨_, _, _, _, _, _, _, rfl, s1.trans fun b o e => ?_⟩
      exact aj.but b o (ne_of_none e np) (st _ _ (s2 _ _ e))
end
end My

namespace My
open PySem PySem.Spec PyProof.Rows L2
/-! ### how arguments come to the parameters of __init__ -/
theorem rel_at : ∀ {vs : List V} {us : List Value} (i : Nat), Vals vs us → RelV (vs.getD i .non) (us.getD i .none)
  | _, _, _, .nil => rfl
  | _, _, 0, .cons r _ => r
  | _, _, i + 1, .cons _ t => rel_at i t
theorem nones : ∀ {its : List Value}, Vals [.non, .non] its → its = [.none, .none]
  | _, .cons a (.cons b .nil) => by cases a; cases b; rfl
theorem init_kbn {K : PySem.W.Frag} {f : Addr} {fd : FuncData} (F : FInit K f fd) {n : Nat} {ks : List Str} (ms : List Str) {g : List Value → List Value → List Value} {gV : List V → List V → List V} (hms : ∀ q ∈ ms, q = "begin" ∨ q = "end")
    (rel : ∀ {vs : List V} {us : List Value} {zs : List V} {ws : List Value}, Vals vs us → Vals zs ws → Vals (gV vs zs) (g us ws))
    (h : ∀ (T D : Addr) (doc pm : Value) (an : Option Addr) (cdv ct : Value) (us ws : List Value), us.length = n → ws.length = ks.length →
      ∃ k, bindArgs (PySem.W.fnOf "__init__" "Place.__init__" (defArgs s_Place_init) (defBody s_Place_init) (defScope s_Place_init) (.ref T) (.ref D) doc pm an cdv ct) ⟨us, ks.zip ws⟩ = seqItems? (.ref T) >>= k ∧ KwChain D (ms.map fun m => (m, Value.none)) (k (some #[.none, .none])) ((["self", "line", "last", "begin", "end"] : List Str).zip (g us ws))) : KBn K fd ["self", "line", "last", "begin", "end"] n ks g gV := by
  obtain ⟨oc, od, dV, kV, doc, pm, an, cdv, ct, osl, rfl, lk, hcd, hD, hK⟩ := F.ex
  rcases hD with ⟨e, _⟩ | ⟨_, T, o, its, m, rfl, lT, oT, rT⟩
  · cases e
  · rcases hK with e | ⟨D, rfl, hq⟩
    · cases e
    · have ei := nones rT
      subst ei
      have hb : ∀ q : Str, q = "begin" ∨ q = "end" → PySem.W.nsIn K D q = some (some .none) := fun q hq' => by
        rcases hq' with rfl | rfl
        · obtain ⟨u, h1, h2⟩ := hq ("begin", .non) (List.mem_cons_self ..)
          cases h2
          exact h1
        · obtain ⟨u, h1, h2⟩ := hq ("end", .non) (List.mem_cons_of_mem _ (List.mem_cons_self ..))
          cases h2
          exact h1
      refine ⟨fun s us ws X l1 l2 => BindsTo.of_looks fun M => ?_, rel⟩
      obtain ⟨k, e1, e2⟩ := h T D doc pm an cdv ct us ws l1 l2
      rw [e1]
      refine looks_items X lT oT (KwChain.looks X (fun q hq' => ?_) e2)
      obtain ⟨m', hm', rfl⟩ := List.mem_map.mp hq'
      exact hb m' (hms m' hm')
theorem init_binds {K : PySem.W.Frag} {f : Addr} {fd : FuncData} (F : FInit K f fd) (n j : Nat) (hn : n + ((2 - j) + 2) = 5)
    (h : ∀ (T D : Addr) (doc pm : Value) (an : Option Addr) (cdv ct : Value) (us its ks : List Value), us.length = n → its.length = 2 → ks.length = 2 →
      ∃ k, bindArgs (PySem.W.fnOf "__init__" "Place.__init__" (defArgs s_Place_init) (defBody s_Place_init) (defScope s_Place_init) (.ref T) (.ref D) doc pm an cdv ct) ⟨us, []⟩ = seqItems? (.ref T) >>= k ∧ KwChain D ((["begin", "end"] : List Str).zip ks) (k (some its.toArray)) ((["self", "line", "last", "begin", "end"] : List Str).zip (us ++ (its.drop j ++ ks)))) :
    ∃ ds, Vals (([.non, .non] : List V).drop j ++ [.non, .non]) ds ∧ Binds K fd ["self", "line", "last", "begin", "end"] ds := F.binds n j (by simp) hn h (by simp)
theorem kbn_2_begin_end {K : PySem.W.Frag} {f : Addr} {fd : FuncData} (F : FInit K f fd) : KBn K fd ["self", "line", "last", "begin", "end"] 3 ["begin", "end"] (fun us ws => us ++ ws) (fun vs zs => vs ++ zs) :=
  init_kbn F [] (fun q hq => by cases hq) (fun r1 r2 => r1.append r2) fun T D doc pm an cdv ct us ws l1 l2 => match us, l1, ws, l2 with | [_, _, _], _, [_, _], _ => ⟨_, rfl, rfl⟩
theorem bnd_0 {K : PySem.W.Frag} {f : Addr} {fd : FuncData} (F : FInit K f fd) : ∃ ds, Vals (([.non, .non] : List V).drop 0 ++ [.non, .non]) ds ∧ Binds K fd ["self", "line", "last", "begin", "end"] ds :=
  init_binds F 1 0 rfl fun T D doc pm an cdv ct us its ks l1 l2 l3 => match us, l1, its, l2, ks, l3 with | [_], _, [_, _], _, [_, _], _ => ⟨_, rfl, ⟨_, _, _, _, _, _, rfl, rfl, ⟨_, _, _, _, _, _, rfl, rfl, rfl⟩⟩⟩
theorem bnd_1 {K : PySem.W.Frag} {f : Addr} {fd : FuncData} (F : FInit K f fd) : ∃ ds, Vals (([.non, .non] : List V).drop 1 ++ [.non, .non]) ds ∧ Binds K fd ["self", "line", "last", "begin", "end"] ds :=
  init_binds F 2 1 rfl fun T D doc pm an cdv ct us its ks l1 l2 l3 => match us, l1, its, l2, ks, l3 with | [_, _], _, [_, _], _, [_, _], _ => ⟨_, rfl, ⟨_, _, _, _, _, _, rfl, rfl, ⟨_, _, _, _, _, _, rfl, rfl, rfl⟩⟩⟩
theorem all_mk {l : PySem.W.OpenLaw} {w : World} {K : PySem.W.Frag} {h : Heap} {mg : Str → Option Value} {fa : Addr} (X : K.In h) (G : h.Ns mainGlobals mg) (hfa : mg "law" = some (.ref fa))
    {C fI TI DI : Addr} {odI anI odT : Option Addr} {slI slT : Array (Option Value)} {ocI dcI pmI cdI ctI ocT : Value} {nT : Nat} {f_Pmoved : Addr} {od_Pmoved an_Pmoved : Option Addr} {sl_Pmoved : Array (Option Value)} {oc_Pmoved kV_Pmoved dc_Pmoved pm_Pmoved cd_Pmoved ct_Pmoved : Value} {f_Peq : Addr} {od_Peq an_Peq : Option Addr} {sl_Peq : Array (Option Value)} {oc_Peq kV_Peq dc_Peq pm_Peq cd_Peq ct_Peq : Value} {f_Phas : Addr} {od_Phas an_Phas : Option Addr} {sl_Phas : Array (Option Value)} {oc_Phas kV_Phas dc_Phas pm_Phas cd_Phas ct_Phas : Value} {B fB NB : Addr} {nmB qB : Str} {bsB subB : List Value} {snB : List Str} {abB : Bool} {colB : Option Bool} {ddB : Option Addr} {m0B m1B m2B m3B m5B : Option Value} {odB anB : Option Addr} {slB : Array (Option Value)} {ocB kVB dcB pmB cdB ctB : Value}
    (aC : PySem.W.nsIn K mainGlobals "Place" = some (some (.ref C)))
    (pg : PySem.W.plainGet K C Str.empty = true)
    (hd : PySem.W.hasDictIn K C = true)
    (po : PySem.W.plainOver K C = true)
    (sa : PySem.W.findIn K (.ref C) "__setattr__" = some (some (.builtin "object.__setattr__")))
    (n_line : PySem.W.findIn K (.ref C) "line" = some none)
    (n_last : PySem.W.findIn K (.ref C) "last" = some none)
    (n_begin : PySem.W.findIn K (.ref C) "begin" = some none)
    (n_end : PySem.W.findIn K (.ref C) "end" = some none)
    (iha : PySem.W.findIn K (.ref C) "__class__" = some (some (.builtin "object.__class__")))
    (ihn : PySem.W.specialIn K (.builtin "object.__class__") "__get__" = some (some (.builtin "getset_descriptor.__get__")))
    (iht : PySem.W.takesIn K (.builtin "object.__class__") = some true)
    (ihm : PySem.W.mroIn K C (.type "object") = some true)
    (ikt : PySem.W.kitOne K (.ref C) (.ref C) = some true)
    (ine : PySem.W.findIn K (.ref C) "__ne__" = some (some (.builtin "object.__ne__")))
    (mk1 : PySem.W.makesIn K C = true)
    (mk2 : PySem.W.findIn K (.ref C) "__init__" = some (some (.ref fI)))
    (mk3 : PySem.W.isFn K (.ref fI) = true)
    (mk4 : PySem.W.keepIn K (.ref C) = true)
    (lI : K.lookup fI = some ⟨ocI, odI, .func (PySem.W.fnOf "__init__" "Place.__init__" (defArgs s_Place_init) (defBody s_Place_init) (defScope s_Place_init) (.ref TI) (.ref DI) dcI pmI anI cdI ctI), slI⟩)
    (cI : PySem.W.codeIn K cdI "Place.__init__" = true)
    (kI : PySem.W.keepIn K (.ref fI) = true)
    (lT : K.lookup TI = some ⟨ocT, odT, .seq #[.none, .none] nT, slT⟩)
    (qb : PySem.W.nsIn K DI "begin" = some (some .none))
    (qe : PySem.W.nsIn K DI "end" = some (some .none))
    (a_Pmoved : PySem.W.findIn K (.ref C) "moved" = some (some (.ref f_Pmoved)))
    (i_Pmoved : PySem.W.isFn K (.ref f_Pmoved) = true)
    (l_Pmoved : K.lookup f_Pmoved = some ⟨oc_Pmoved, od_Pmoved, .func (PySem.W.fnOf "moved" "Place.moved" (defArgs s_Place_moved) (defBody s_Place_moved) (defScope s_Place_moved) .none kV_Pmoved dc_Pmoved pm_Pmoved an_Pmoved cd_Pmoved ct_Pmoved), sl_Pmoved⟩)
    (c_Pmoved : PySem.W.codeIn K cd_Pmoved "Place.moved" = true)
    (k_Pmoved : PySem.W.keepIn K (.ref f_Pmoved) = true)
    (a_Peq : PySem.W.findIn K (.ref C) "__eq__" = some (some (.ref f_Peq)))
    (i_Peq : PySem.W.isFn K (.ref f_Peq) = true)
    (l_Peq : K.lookup f_Peq = some ⟨oc_Peq, od_Peq, .func (PySem.W.fnOf "__eq__" "Place.__eq__" (defArgs s_Place_eq) (defBody s_Place_eq) (defScope s_Place_eq) .none kV_Peq dc_Peq pm_Peq an_Peq cd_Peq ct_Peq), sl_Peq⟩)
    (c_Peq : PySem.W.codeIn K cd_Peq "Place.__eq__" = true)
    (k_Peq : PySem.W.keepIn K (.ref f_Peq) = true)
    (a_Phas : PySem.W.findIn K (.ref C) "has" = some (some (.ref f_Phas)))
    (i_Phas : PySem.W.isFn K (.ref f_Phas) = true)
    (l_Phas : K.lookup f_Phas = some ⟨oc_Phas, od_Phas, .func (PySem.W.fnOf "has" "Place.has" (defArgs s_Place_has) (defBody s_Place_has) (defScope s_Place_has) .none kV_Phas dc_Phas pm_Phas an_Phas cd_Phas ct_Phas), sl_Phas⟩)
    (c_Phas : PySem.W.codeIn K cd_Phas "Place.has" = true)
    (k_Phas : PySem.W.keepIn K (.ref f_Phas) = true)
    (aB : PySem.W.nsIn K mainGlobals "BadPlace" = some (some (.ref B)))
    (xB : K.lookup B = some (excClassObj nmB qB B NB bsB [.type "ValueError", .type "Exception", .type "BaseException", .type "object"] true snB subB abB colB ddB m0B m1B m2B m3B m5B "ValueError.__new__"))
    (saB : PySem.W.findIn K (.ref B) "__setattr__" = some (some (.builtin "object.__setattr__")))
    (gaB : PySem.W.findIn K (.ref B) "__getattribute__" = some (some (.builtin "BaseException.__getattribute__")))
    (ggB : PySem.W.findIn K (.ref B) "__getattr__" = some none)
    (noB : PySem.W.findIn K (.ref B) "part" = some none)
    (iB : PySem.W.findIn K (.ref B) "__init__" = some (some (.ref fB)))
    (tB : PySem.W.typeIn K (.ref fB) = some (.type "function"))
    (lB : K.lookup fB = some ⟨ocB, odB, .func (PySem.W.fnOf "__init__" "BadPlace.__init__" (defArgs s_BadPlace_init) (defBody s_BadPlace_init) (defScope s_BadPlace_init) .none kVB dcB pmB anB cdB ctB), slB⟩)
    (cB : PySem.W.codeIn K cdB "BadPlace.__init__" = true)
    (kfB : PySem.W.keepIn K (.ref fB) = true)
    (kB : PySem.W.keepIn K (.ref B) = true)
    (eB : PySem.W.subIn K (.ref B) (.type "BaseException") = some true)
    (tyB : PySem.W.typeIn K (.ref B) = some (.type "type"))
    (hdB : PySem.W.hasDictIn K B = true)
    (icB : PySem.W.isClsIn K B = true)
    (sB : PySem.W.subIn K (.ref B) (.ref B) = some true)
    (vV : PySem.W.findCls K (.type "ValueError") (.type "type") "__init__" = some (.val (.builtin "ValueError.__init__")))
    {od_is_whole an_is_whole : Option Addr} {sl_is_whole : Array (Option Value)} {oc_is_whole kV_is_whole dc_is_whole pm_is_whole cd_is_whole ct_is_whole : Value} {f_is_whole : Addr}
    (a_is_whole : PySem.W.nsIn K mainGlobals "is_whole" = some (some (.ref f_is_whole)))
    (l_is_whole : K.lookup f_is_whole = some ⟨oc_is_whole, od_is_whole, .func (PySem.W.fnOf "is_whole" "is_whole" (defArgs s_is_whole) (defBody s_is_whole) (defScope s_is_whole) .none kV_is_whole dc_is_whole pm_is_whole an_is_whole cd_is_whole ct_is_whole), sl_is_whole⟩)
    (c_is_whole : PySem.W.codeIn K cd_is_whole "is_whole" = true) (k_is_whole : PySem.W.keepIn K (.ref f_is_whole) = true)
    {od_is_number an_is_number : Option Addr} {sl_is_number : Array (Option Value)} {oc_is_number kV_is_number dc_is_number pm_is_number cd_is_number ct_is_number : Value} {f_is_number : Addr}
    (a_is_number : PySem.W.nsIn K mainGlobals "is_number" = some (some (.ref f_is_number)))
    (l_is_number : K.lookup f_is_number = some ⟨oc_is_number, od_is_number, .func (PySem.W.fnOf "is_number" "is_number" (defArgs s_is_number) (defBody s_is_number) (defScope s_is_number) .none kV_is_number dc_is_number pm_is_number an_is_number cd_is_number ct_is_number), sl_is_number⟩)
    (c_is_number : PySem.W.codeIn K cd_is_number "is_number" = true) (k_is_number : PySem.W.keepIn K (.ref f_is_number) = true)
    {od_wrong_columns an_wrong_columns : Option Addr} {sl_wrong_columns : Array (Option Value)} {oc_wrong_columns kV_wrong_columns dc_wrong_columns pm_wrong_columns cd_wrong_columns ct_wrong_columns : Value} {f_wrong_columns : Addr}
    (a_wrong_columns : PySem.W.nsIn K mainGlobals "wrong_columns" = some (some (.ref f_wrong_columns)))
    (l_wrong_columns : K.lookup f_wrong_columns = some ⟨oc_wrong_columns, od_wrong_columns, .func (PySem.W.fnOf "wrong_columns" "wrong_columns" (defArgs s_wrong_columns) (defBody s_wrong_columns) (defScope s_wrong_columns) .none kV_wrong_columns dc_wrong_columns pm_wrong_columns an_wrong_columns cd_wrong_columns ct_wrong_columns), sl_wrong_columns⟩)
    (c_wrong_columns : PySem.W.codeIn K cd_wrong_columns "wrong_columns" = true) (k_wrong_columns : PySem.W.keepIn K (.ref f_wrong_columns) = true)
    {od_wrong_of_nowhere an_wrong_of_nowhere : Option Addr} {sl_wrong_of_nowhere : Array (Option Value)} {oc_wrong_of_nowhere kV_wrong_of_nowhere dc_wrong_of_nowhere pm_wrong_of_nowhere cd_wrong_of_nowhere ct_wrong_of_nowhere : Value} {f_wrong_of_nowhere : Addr}
    (a_wrong_of_nowhere : PySem.W.nsIn K mainGlobals "wrong_of_nowhere" = some (some (.ref f_wrong_of_nowhere)))
    (l_wrong_of_nowhere : K.lookup f_wrong_of_nowhere = some ⟨oc_wrong_of_nowhere, od_wrong_of_nowhere, .func (PySem.W.fnOf "wrong_of_nowhere" "wrong_of_nowhere" (defArgs s_wrong_of_nowhere) (defBody s_wrong_of_nowhere) (defScope s_wrong_of_nowhere) .none kV_wrong_of_nowhere dc_wrong_of_nowhere pm_wrong_of_nowhere an_wrong_of_nowhere cd_wrong_of_nowhere ct_wrong_of_nowhere), sl_wrong_of_nowhere⟩)
    (c_wrong_of_nowhere : PySem.W.codeIn K cd_wrong_of_nowhere "wrong_of_nowhere" = true) (k_wrong_of_nowhere : PySem.W.keepIn K (.ref f_wrong_of_nowhere) = true)
    {od_wrong_part an_wrong_part : Option Addr} {sl_wrong_part : Array (Option Value)} {oc_wrong_part kV_wrong_part dc_wrong_part pm_wrong_part cd_wrong_part ct_wrong_part : Value} {f_wrong_part : Addr}
    (a_wrong_part : PySem.W.nsIn K mainGlobals "wrong_part" = some (some (.ref f_wrong_part)))
    (l_wrong_part : K.lookup f_wrong_part = some ⟨oc_wrong_part, od_wrong_part, .func (PySem.W.fnOf "wrong_part" "wrong_part" (defArgs s_wrong_part) (defBody s_wrong_part) (defScope s_wrong_part) .none kV_wrong_part dc_wrong_part pm_wrong_part an_wrong_part cd_wrong_part ct_wrong_part), sl_wrong_part⟩)
    (c_wrong_part : PySem.W.codeIn K cd_wrong_part "wrong_part" = true) (k_wrong_part : PySem.W.keepIn K (.ref f_wrong_part) = true)
    {od_l_cell_at an_l_cell_at : Option Addr} {sl_l_cell_at : Array (Option Value)} {oc_l_cell_at kV_l_cell_at dc_l_cell_at pm_l_cell_at cd_l_cell_at ct_l_cell_at : Value} {f_l_cell_at : Addr}
    (a_l_cell_at : PySem.W.nsIn K mainGlobals "_law_cell_at" = some (some (.ref f_l_cell_at)))
    (l_l_cell_at : K.lookup f_l_cell_at = some ⟨oc_l_cell_at, od_l_cell_at, .func (PySem.W.fnOf "_law_cell_at" "_law_cell_at" (defArgs s_l_cell_at) (defBody s_l_cell_at) (defScope s_l_cell_at) .none kV_l_cell_at dc_l_cell_at pm_l_cell_at an_l_cell_at cd_l_cell_at ct_l_cell_at), sl_l_cell_at⟩)
    (c_l_cell_at : PySem.W.codeIn K cd_l_cell_at "_law_cell_at" = true) (k_l_cell_at : PySem.W.keepIn K (.ref f_l_cell_at) = true)
    {od_l_box an_l_box : Option Addr} {sl_l_box : Array (Option Value)} {oc_l_box kV_l_box dc_l_box pm_l_box cd_l_box ct_l_box : Value} {f_l_box : Addr}
    (a_l_box : PySem.W.nsIn K mainGlobals "_law_box" = some (some (.ref f_l_box)))
    (l_l_box : K.lookup f_l_box = some ⟨oc_l_box, od_l_box, .func (PySem.W.fnOf "_law_box" "_law_box" (defArgs s_l_box) (defBody s_l_box) (defScope s_l_box) .none kV_l_box dc_l_box pm_l_box an_l_box cd_l_box ct_l_box), sl_l_box⟩)
    (c_l_box : PySem.W.codeIn K cd_l_box "_law_box" = true) (k_l_box : PySem.W.keepIn K (.ref f_l_box) = true)
    {od_l_take an_l_take : Option Addr} {sl_l_take : Array (Option Value)} {oc_l_take kV_l_take dc_l_take pm_l_take cd_l_take ct_l_take : Value} {f_l_take : Addr}
    (a_l_take : PySem.W.nsIn K mainGlobals "_law_take" = some (some (.ref f_l_take)))
    (l_l_take : K.lookup f_l_take = some ⟨oc_l_take, od_l_take, .func (PySem.W.fnOf "_law_take" "_law_take" (defArgs s_l_take) (defBody s_l_take) (defScope s_l_take) .none kV_l_take dc_l_take pm_l_take an_l_take cd_l_take ct_l_take), sl_l_take⟩)
    (c_l_take : PySem.W.codeIn K cd_l_take "_law_take" = true) (k_l_take : PySem.W.keepIn K (.ref f_l_take) = true)
    {od_l_spot an_l_spot : Option Addr} {sl_l_spot : Array (Option Value)} {oc_l_spot kV_l_spot dc_l_spot pm_l_spot cd_l_spot ct_l_spot : Value} {f_l_spot : Addr}
    (a_l_spot : PySem.W.nsIn K mainGlobals "_law_spot" = some (some (.ref f_l_spot)))
    (l_l_spot : K.lookup f_l_spot = some ⟨oc_l_spot, od_l_spot, .func (PySem.W.fnOf "_law_spot" "_law_spot" (defArgs s_l_spot) (defBody s_l_spot) (defScope s_l_spot) .none kV_l_spot dc_l_spot pm_l_spot an_l_spot cd_l_spot ct_l_spot), sl_l_spot⟩)
    (c_l_spot : PySem.W.codeIn K cd_l_spot "_law_spot" = true) (k_l_spot : PySem.W.keepIn K (.ref f_l_spot) = true)
    {od_l_place an_l_place : Option Addr} {sl_l_place : Array (Option Value)} {oc_l_place kV_l_place dc_l_place pm_l_place cd_l_place ct_l_place : Value} {f_l_place : Addr}
    (a_l_place : PySem.W.nsIn K mainGlobals "_law_place" = some (some (.ref f_l_place)))
    (l_l_place : K.lookup f_l_place = some ⟨oc_l_place, od_l_place, .func (PySem.W.fnOf "_law_place" "_law_place" (defArgs s_l_place) (defBody s_l_place) (defScope s_l_place) .none kV_l_place dc_l_place pm_l_place an_l_place cd_l_place ct_l_place), sl_l_place⟩)
    (c_l_place : PySem.W.codeIn K cd_l_place "_law_place" = true) (k_l_place : PySem.W.keepIn K (.ref f_l_place) = true)
    {od_l_same an_l_same : Option Addr} {sl_l_same : Array (Option Value)} {oc_l_same kV_l_same dc_l_same pm_l_same cd_l_same ct_l_same : Value} {f_l_same : Addr}
    (a_l_same : PySem.W.nsIn K mainGlobals "_law_same" = some (some (.ref f_l_same)))
    (l_l_same : K.lookup f_l_same = some ⟨oc_l_same, od_l_same, .func (PySem.W.fnOf "_law_same" "_law_same" (defArgs s_l_same) (defBody s_l_same) (defScope s_l_same) .none kV_l_same dc_l_same pm_l_same an_l_same cd_l_same ct_l_same), sl_l_same⟩)
    (c_l_same : PySem.W.codeIn K cd_l_same "_law_same" = true) (k_l_same : PySem.W.keepIn K (.ref f_l_same) = true)
    {od_l_seen an_l_seen : Option Addr} {sl_l_seen : Array (Option Value)} {oc_l_seen kV_l_seen dc_l_seen pm_l_seen cd_l_seen ct_l_seen : Value} {f_l_seen : Addr}
    (a_l_seen : PySem.W.nsIn K mainGlobals "_law_seen" = some (some (.ref f_l_seen)))
    (l_l_seen : K.lookup f_l_seen = some ⟨oc_l_seen, od_l_seen, .func (PySem.W.fnOf "_law_seen" "_law_seen" (defArgs s_l_seen) (defBody s_l_seen) (defScope s_l_seen) .none kV_l_seen dc_l_seen pm_l_seen an_l_seen cd_l_seen ct_l_seen), sl_l_seen⟩)
    (c_l_seen : PySem.W.codeIn K cd_l_seen "_law_seen" = true) (k_l_seen : PySem.W.keepIn K (.ref f_l_seen) = true)
    {od_l_far an_l_far : Option Addr} {sl_l_far : Array (Option Value)} {oc_l_far kV_l_far dc_l_far pm_l_far cd_l_far ct_l_far : Value} {f_l_far : Addr}
    (a_l_far : PySem.W.nsIn K mainGlobals "_law_far" = some (some (.ref f_l_far)))
    (l_l_far : K.lookup f_l_far = some ⟨oc_l_far, od_l_far, .func (PySem.W.fnOf "_law_far" "_law_far" (defArgs s_l_far) (defBody s_l_far) (defScope s_l_far) .none kV_l_far dc_l_far pm_l_far an_l_far cd_l_far ct_l_far), sl_l_far⟩)
    (c_l_far : PySem.W.codeIn K cd_l_far "_law_far" = true) (k_l_far : PySem.W.keepIn K (.ref f_l_far) = true)
    {od_l_told an_l_told : Option Addr} {sl_l_told : Array (Option Value)} {oc_l_told kV_l_told dc_l_told pm_l_told cd_l_told ct_l_told : Value} {f_l_told : Addr}
    (a_l_told : PySem.W.nsIn K mainGlobals "_law_told" = some (some (.ref f_l_told)))
    (l_l_told : K.lookup f_l_told = some ⟨oc_l_told, od_l_told, .func (PySem.W.fnOf "_law_told" "_law_told" (defArgs s_l_told) (defBody s_l_told) (defScope s_l_told) .none kV_l_told dc_l_told pm_l_told an_l_told cd_l_told ct_l_told), sl_l_told⟩)
    (c_l_told : PySem.W.codeIn K cd_l_told "_law_told" = true) (k_l_told : PySem.W.keepIn K (.ref f_l_told) = true)
    {od_l_due an_l_due : Option Addr} {sl_l_due : Array (Option Value)} {oc_l_due kV_l_due dc_l_due pm_l_due cd_l_due ct_l_due : Value} {f_l_due : Addr}
    (a_l_due : PySem.W.nsIn K mainGlobals "_law_due" = some (some (.ref f_l_due)))
    (l_l_due : K.lookup f_l_due = some ⟨oc_l_due, od_l_due, .func (PySem.W.fnOf "_law_due" "_law_due" (defArgs s_l_due) (defBody s_l_due) (defScope s_l_due) .none kV_l_due dc_l_due pm_l_due an_l_due cd_l_due ct_l_due), sl_l_due⟩)
    (c_l_due : PySem.W.codeIn K cd_l_due "_law_due" = true) (k_l_due : PySem.W.keepIn K (.ref f_l_due) = true)
    {od_l_has_right an_l_has_right : Option Addr} {sl_l_has_right : Array (Option Value)} {oc_l_has_right kV_l_has_right dc_l_has_right pm_l_has_right cd_l_has_right ct_l_has_right : Value} {f_l_has_right : Addr}
    (a_l_has_right : PySem.W.nsIn K mainGlobals "_law_has_right" = some (some (.ref f_l_has_right)))
    (l_l_has_right : K.lookup f_l_has_right = some ⟨oc_l_has_right, od_l_has_right, .func (PySem.W.fnOf "_law_has_right" "_law_has_right" (defArgs s_l_has_right) (defBody s_l_has_right) (defScope s_l_has_right) .none kV_l_has_right dc_l_has_right pm_l_has_right an_l_has_right cd_l_has_right ct_l_has_right), sl_l_has_right⟩)
    (c_l_has_right : PySem.W.codeIn K cd_l_has_right "_law_has_right" = true) (k_l_has_right : PySem.W.keepIn K (.ref f_l_has_right) = true)
    {od_law an_law : Option Addr} {sl_law : Array (Option Value)} {oc_law kV_law dc_law pm_law cd_law ct_law : Value} {f_law : Addr}
    (a_law : PySem.W.nsIn K mainGlobals "law" = some (some (.ref f_law)))
    (l_law : K.lookup f_law = some ⟨oc_law, od_law, .func (PySem.W.fnOf "law" "law" (defArgs s_law) (defBody s_law) (defScope s_law) .none kV_law dc_law pm_law an_law cd_law ct_law), sl_law⟩)
    (c_law : PySem.W.codeIn K cd_law "law" = true) (k_law : PySem.W.keepIn K (.ref f_law) = true)
    {t_LAST_COLUMN : Nat} (h_LAST_COLUMN : PySem.W.nsIn K mainGlobals "LAST_COLUMN" = some (some (.int 10000 t_LAST_COLUMN)))
    {t_LAST_LINE : Nat} (h_LAST_LINE : PySem.W.nsIn K mainGlobals "LAST_LINE" = some (some (.int 1000000 t_LAST_LINE)))
    {t_MOST_LINES_BEHIND : Nat} (h_MOST_LINES_BEHIND : PySem.W.nsIn K mainGlobals "MOST_LINES_BEHIND" = some (some (.int 99 t_MOST_LINES_BEHIND)))
    (y_ValueError : PySem.W.nsIn K mainGlobals "ValueError" = some none)
    (y_abs : PySem.W.nsIn K mainGlobals "abs" = some none)
    (y_all : PySem.W.nsIn K mainGlobals "all" = some none)
    (y_any : PySem.W.nsIn K mainGlobals "any" = some none)
    (y_bool : PySem.W.nsIn K mainGlobals "bool" = some none)
    (y_int : PySem.W.nsIn K mainGlobals "int" = some none)
    (y_isinstance : PySem.W.nsIn K mainGlobals "isinstance" = some none)
    (y_len : PySem.W.nsIn K mainGlobals "len" = some none)
    (y_list : PySem.W.nsIn K mainGlobals "list" = some none)
    (y_min : PySem.W.nsIn K mainGlobals "min" = some none)
    (y_range : PySem.W.nsIn K mainGlobals "range" = some none)
    (y_str : PySem.W.nsIn K mainGlobals "str" = some none)
    (y_tuple : PySem.W.nsIn K mainGlobals "tuple" = some none)
    (y_zip : PySem.W.nsIn K mainGlobals "zip" = some none) :
    ∃ fd : FuncData, (∀ (s : Shared) (v : Value), BindsTo s fd ⟨[v], []⟩ [("_law_script", v)]) ∧ ∀ base : Heap, K.In base → base.Ns mainGlobals mg → FnOk l.prog w K mg base CX0 9 fa fd ["_law_script"] (spLaw K) := by
  have e := hfa.symm.trans (PySem.W.mg_of X G a_law)
  cases e
  have F_is_whole := fun_mk (st := s_is_whole) l_is_whole c_is_whole k_is_whole
  have b_is_whole := F_is_whole.binds (ps := ["thing"]) fun _ _ _ _ _ _ us hl => match us, hl with | [_], _ => rfl
  have m_is_whole := PySem.W.mg_of X G a_is_whole
  have F_is_number := fun_mk (st := s_is_number) l_is_number c_is_number k_is_number
  have b_is_number := F_is_number.binds (ps := ["thing", "low", "high"]) fun _ _ _ _ _ _ us hl => match us, hl with | [_, _, _], _ => rfl
  have m_is_number := PySem.W.mg_of X G a_is_number
  have F_wrong_columns := fun_mk (st := s_wrong_columns) l_wrong_columns c_wrong_columns k_wrong_columns
  have b_wrong_columns := F_wrong_columns.binds (ps := ["begin", "end", "one_line"]) fun _ _ _ _ _ _ us hl => match us, hl with | [_, _, _], _ => rfl
  have m_wrong_columns := PySem.W.mg_of X G a_wrong_columns
  have F_wrong_of_nowhere := fun_mk (st := s_wrong_of_nowhere) l_wrong_of_nowhere c_wrong_of_nowhere k_wrong_of_nowhere
  have b_wrong_of_nowhere := F_wrong_of_nowhere.binds (ps := ["last", "begin", "end"]) fun _ _ _ _ _ _ us hl => match us, hl with | [_, _, _], _ => rfl
  have m_wrong_of_nowhere := PySem.W.mg_of X G a_wrong_of_nowhere
  have F_wrong_part := fun_mk (st := s_wrong_part) l_wrong_part c_wrong_part k_wrong_part
  have b_wrong_part := F_wrong_part.binds (ps := ["line", "last", "begin", "end"]) fun _ _ _ _ _ _ us hl => match us, hl with | [_, _, _, _], _ => rfl
  have m_wrong_part := PySem.W.mg_of X G a_wrong_part
  have F_l_cell_at := fun_mk (st := s_l_cell_at) l_l_cell_at c_l_cell_at k_l_cell_at
  have b_l_cell_at := F_l_cell_at.binds (ps := ["_law_script", "_law_k"]) fun _ _ _ _ _ _ us hl => match us, hl with | [_, _], _ => rfl
  have m_l_cell_at := PySem.W.mg_of X G a_l_cell_at
  have F_l_box := fun_mk (st := s_l_box) l_l_box c_l_box k_l_box
  have b_l_box := F_l_box.binds (ps := ["_law_script", "_law_k"]) fun _ _ _ _ _ _ us hl => match us, hl with | [_, _], _ => rfl
  have m_l_box := PySem.W.mg_of X G a_l_box
  have F_l_take := fun_mk (st := s_l_take) l_l_take c_l_take k_l_take
  have b_l_take := F_l_take.binds (ps := ["_law_box_here", "_law_many"]) fun _ _ _ _ _ _ us hl => match us, hl with | [_, _], _ => rfl
  have m_l_take := PySem.W.mg_of X G a_l_take
  have F_l_spot := fun_mk (st := s_l_spot) l_l_spot c_l_spot k_l_spot
  have b_l_spot := F_l_spot.binds (ps := ["_law_box_here", "_law_wide"]) fun _ _ _ _ _ _ us hl => match us, hl with | [_, _], _ => rfl
  have m_l_spot := PySem.W.mg_of X G a_l_spot
  have F_l_place := fun_mk (st := s_l_place) l_l_place c_l_place k_l_place
  have b_l_place := F_l_place.binds (ps := ["_law_spot_here"]) fun _ _ _ _ _ _ us hl => match us, hl with | [_], _ => rfl
  have m_l_place := PySem.W.mg_of X G a_l_place
  have F_l_same := fun_mk (st := s_l_same) l_l_same c_l_same k_l_same
  have b_l_same := F_l_same.binds (ps := ["_law_found", "_law_due_here"]) fun _ _ _ _ _ _ us hl => match us, hl with | [_, _], _ => rfl
  have m_l_same := PySem.W.mg_of X G a_l_same
  have F_l_seen := fun_mk (st := s_l_seen) l_l_seen c_l_seen k_l_seen
  have b_l_seen := F_l_seen.binds (ps := ["_law_place_here"]) fun _ _ _ _ _ _ us hl => match us, hl with | [_], _ => rfl
  have m_l_seen := PySem.W.mg_of X G a_l_seen
  have F_l_far := fun_mk (st := s_l_far) l_l_far c_l_far k_l_far
  have b_l_far := F_l_far.binds (ps := ["_law_box_here", "_law_spot_here"]) fun _ _ _ _ _ _ us hl => match us, hl with | [_, _], _ => rfl
  have m_l_far := PySem.W.mg_of X G a_l_far
  have F_l_told := fun_mk (st := s_l_told) l_l_told c_l_told k_l_told
  have b_l_told := F_l_told.binds (ps := ["_law_box_here", "_law_place_here", "_law_far_here"]) fun _ _ _ _ _ _ us hl => match us, hl with | [_, _, _], _ => rfl
  have m_l_told := PySem.W.mg_of X G a_l_told
  have F_l_due := fun_mk (st := s_l_due) l_l_due c_l_due k_l_due
  have b_l_due := F_l_due.binds (ps := ["_law_spot_here", "_law_far_here"]) fun _ _ _ _ _ _ us hl => match us, hl with | [_, _], _ => rfl
  have m_l_due := PySem.W.mg_of X G a_l_due
  have F_l_has_right := fun_mk (st := s_l_has_right) l_l_has_right c_l_has_right k_l_has_right
  have b_l_has_right := F_l_has_right.binds (ps := ["_law_box_here", "_law_place_here", "_law_spot_here"]) fun _ _ _ _ _ _ us hl => match us, hl with | [_, _, _], _ => rfl
  have m_l_has_right := PySem.W.mg_of X G a_l_has_right
  have F_law := fun_mk (st := s_law) l_law c_law k_law
  have b_law := F_law.binds (ps := ["_law_script"]) fun _ _ _ _ _ _ us hl => match us, hl with | [_], _ => rfl
  have m_law := PySem.W.mg_of X G a_law
  have g_LAST_COLUMN := PySem.W.mg_of X G h_LAST_COLUMN
  have g_LAST_LINE := PySem.W.mg_of X G h_LAST_LINE
  have g_MOST_LINES_BEHIND := PySem.W.mg_of X G h_MOST_LINES_BEHIND
  have z_ValueError := PySem.W.mg_none_of X G y_ValueError
  have z_abs := PySem.W.mg_none_of X G y_abs
  have z_all := PySem.W.mg_none_of X G y_all
  have z_any := PySem.W.mg_none_of X G y_any
  have z_bool := PySem.W.mg_none_of X G y_bool
  have z_int := PySem.W.mg_none_of X G y_int
  have z_isinstance := PySem.W.mg_none_of X G y_isinstance
  have z_len := PySem.W.mg_none_of X G y_len
  have z_list := PySem.W.mg_none_of X G y_list
  have z_min := PySem.W.mg_none_of X G y_min
  have z_range := PySem.W.mg_none_of X G y_range
  have z_str := PySem.W.mg_none_of X G y_str
  have z_tuple := PySem.W.mg_none_of X G y_tuple
  have z_zip := PySem.W.mg_none_of X G y_zip
  have g_Place := PySem.W.mg_of X G aC
  have g_BadPlace := PySem.W.mg_of X G aB
  have T : PlT K mg C := ⟨⟨pg, hd, po, sa⟩, n_line, n_last, n_begin, n_end⟩
  have J : PlI K C := ⟨iha, ihn, iht, ihm, ikt⟩
  have M : Mk K C fI := ⟨mk1, mk2, mk3, mk4⟩
  have OB : OexC K B := ⟨⟨nmB, qB, NB, bsB, _, snB, subB, abB, colB, ddB, m0B, m1B, m2B, m3B, m5B, xB, by decide +kernel⟩, saB, eB, tyB, kB⟩
  have XB : XfC K B := ⟨gaB, ggB, eB, hdB⟩
  have exB := PySem.W.exm_ref eB hdB tyB sB
  have FI : FInit K fI (PySem.W.fnOf "__init__" "Place.__init__" (defArgs s_Place_init) (defBody s_Place_init) (defScope s_Place_init) (.ref TI) (.ref DI) dcI pmI anI cdI ctI) :=
    ⟨⟨ocI, odI, .ref TI, .ref DI, dcI, pmI, anI, cdI, ctI, slI, rfl, lI, cI, .inr ⟨by simp, TI, _, [.none, .none], nT, rfl, lT, rfl, .cons rfl (.cons rfl .nil)⟩, .inr ⟨DI, rfl, fun q hq => by
      rcases List.mem_cons.mp hq with rfl | hq
      · exact ⟨_, qb, rfl⟩
      · rw [List.mem_singleton] at hq
        subst hq
        exact ⟨_, qe, rfl⟩⟩⟩, kI⟩
  have F_Pmoved := fun_mk (st := s_Place_moved) l_Pmoved c_Pmoved k_Pmoved
  have b_Pmoved := F_Pmoved.binds (ps := ["self", "by"]) fun _ _ _ _ _ _ us hl => match us, hl with | [_, _], _ => rfl
  have F_Peq := fun_mk (st := s_Place_eq) l_Peq c_Peq k_Peq
  have b_Peq := F_Peq.binds (ps := ["self", "other"]) fun _ _ _ _ _ _ us hl => match us, hl with | [_, _], _ => rfl
  have F_Phas := fun_mk (st := s_Place_has) l_Phas c_Phas k_Phas
  have b_Phas := F_Phas.binds (ps := ["self", "line"]) fun _ _ _ _ _ _ us hl => match us, hl with | [_, _], _ => rfl
  have kb_Pmoved : KBn K _ ["self", "by"] 1 ["by"] (fun us ws => us ++ ws) (fun vs zs => vs ++ zs) := ⟨fun s us ws _ h1 h2 => match us, h1, ws, h2 with | [_], _, [_], _ => (.of_eq rfl : BindsTo s (PySem.W.fnOf "moved" "Place.moved" (defArgs s_Place_moved) (defBody s_Place_moved) (defScope s_Place_moved) .none kV_Pmoved dc_Pmoved pm_Pmoved an_Pmoved cd_Pmoved ct_Pmoved) _ _), fun r1 r2 => r1.append r2⟩
  have kb_Phas : KBn K _ ["self", "line"] 1 ["line"] (fun us ws => us ++ ws) (fun vs zs => vs ++ zs) := ⟨fun s us ws _ h1 h2 => match us, h1, ws, h2 with | [_], _, [_], _ => (.of_eq rfl : BindsTo s (PySem.W.fnOf "has" "Place.has" (defArgs s_Place_has) (defBody s_Place_has) (defScope s_Place_has) .none kV_Phas dc_Phas pm_Phas an_Phas cd_Phas ct_Phas) _ _), fun r1 r2 => r1.append r2⟩
  have F_B := fun_mk (st := s_BadPlace_init) lB cB kfB
  have b_B := F_B.binds (ps := ["self", "part"]) fun _ _ _ _ _ _ us hl => match us, hl with | [_, _], _ => rfl
  refine ⟨PySem.W.fnOf "law" "law" (defArgs s_law) (defBody s_law) (defScope s_law) .none kV_law dc_law pm_law an_law cd_law ct_law, fun s v => .of_eq rfl, fun base _ _ => ?_⟩
  have C_who : Cal l.prog w K mg base 1 "is_whole" ["thing"] spWhole := ⟨_, _, ok_is_whole F_is_whole z_isinstance z_int z_bool, m_is_whole, k_is_whole, b_is_whole⟩
  have C_num : Cal l.prog w K mg base 2 "is_number" ["thing", "low", "high"] spNum := ⟨_, _, ok_is_number F_is_number C_who, m_is_number, k_is_number, b_is_number⟩
  have C_col : Cal l.prog w K mg base 3 "wrong_columns" ["begin", "end", "one_line"] spCols := ⟨_, _, ok_wrong_columns F_wrong_columns g_LAST_COLUMN C_num, m_wrong_columns, k_wrong_columns, b_wrong_columns⟩
  have C_now : Cal l.prog w K mg base 2 "wrong_of_nowhere" ["last", "begin", "end"] spNow := ⟨_, _, ok_wrong_of_nowhere F_wrong_of_nowhere, m_wrong_of_nowhere, k_wrong_of_nowhere, b_wrong_of_nowhere⟩
  have C_part : Cal l.prog w K mg base 4 "wrong_part" ["line", "last", "begin", "end"] spPart := ⟨_, _, ok_wrong_part F_wrong_part g_LAST_LINE g_MOST_LINES_BEHIND z_min C_num C_col C_now, m_wrong_part, k_wrong_part, b_wrong_part⟩
  have C_partX : Cal l.prog w K mg base 4 "wrong_part" ["line", "last", "begin", "end"] spPartX := ⟨_, _, ok_wrong_partX F_wrong_part g_LAST_LINE g_MOST_LINES_BEHIND z_min C_num C_col C_now, m_wrong_part, k_wrong_part, b_wrong_part⟩
  have OI : FnOk l.prog w K mg base CX0 5 fI _ ["self", "line", "last", "begin", "end"] (spInit C) := ok_Place_init FI T C_part
  have OBI : FnOk l.prog w K mg base CX0 2 fB _ ["self", "part"] (spBP B) := ok_BP_init F_B OB noB z_ValueError vV
  have OIX : FnOk l.prog w K mg base (L2.CX l.prog w) 5 fI _ ["self", "line", "last", "begin", "end"] (spInitX C B) := ok_Place_initX FI T C_partX OB iB tB g_BadPlace b_B OBI
  have mk_Place_0 : MkP l.prog w K mg base 5 "Place" C [.non, .non, .non, .non] (spInit C) := let ⟨ds, h1, h2⟩ := bnd_0 FI; ⟨fI, _, _, ds, M, OI, g_Place, h2, h1⟩
  have mk_Place_1 : MkP l.prog w K mg base 5 "Place" C [.non, .non, .non] (spInit C) := let ⟨ds, h1, h2⟩ := bnd_1 FI; ⟨fI, _, _, ds, M, OI, g_Place, h2, h1⟩
  have mk_Place_2_begin_end : MkN l.prog w K mg base 5 "Place" C 2 ["begin", "end"] (fun vs zs => vs ++ zs) (spInit C) := ⟨fI, _, _, _, M, OI, g_Place, kbn_2_begin_end FI⟩
  have mx : MkNX l.prog w K mg base 5 "Place" C 2 ["begin", "end"] (fun vs zs => vs ++ zs) (spInitX C B) := ⟨fI, _, _, _, M, OIX, g_Place, kbn_2_begin_end FI⟩
  have OMX : FnOk l.prog w K mg base (L2.CX l.prog w) 7 f_Pmoved _ ["self", "by"] (spMvX C B) := ok_Place_movedX F_Pmoved T mx
  have mS : MeX l.prog w K mg base 7 C "moved" (spMvX C B) := ⟨T.cl, ⟨_, _, _, OMX, a_Pmoved, i_Pmoved, k_Pmoved, b_Pmoved⟩⟩
  have mK : MeKX l.prog w K mg base 7 C "moved" ["by"] (fun vs zs => vs ++ zs) (spMvX C B) := ⟨T.cl, ⟨_, _, _, _, OMX, a_Pmoved, i_Pmoved, k_Pmoved, kb_Pmoved⟩⟩
  have o_ne : OwnE l.prog w K mg base 2 C (spEq (RPl C)) := ⟨⟨_, _, _, ok_Place_eq F_Peq T J g_Place z_isinstance, a_Peq, i_Peq, b_Peq⟩, ine, ihm⟩
  have me_moved : MeM l.prog w K mg base 7 C "moved" (spMv C) := ⟨T.cl, ⟨_, _, _, ok_Place_moved F_Pmoved T mk_Place_2_begin_end, a_Pmoved, i_Pmoved, k_Pmoved, b_Pmoved⟩⟩
  have OH : FnOk l.prog w K mg base CX0 2 f_Phas _ ["self", "line"] (spHas C) := ok_Place_has F_Phas T
  have me_has : MeM l.prog w K mg base 2 C "has" (spHas C) := ⟨T.cl, ⟨_, _, _, OH, a_Phas, i_Phas, k_Phas, b_Phas⟩⟩
  have mkHas : MeK l.prog w K mg base 2 C "has" ["line"] (fun vs zs => vs ++ zs) (spHas C) := ⟨T.cl, ⟨_, _, _, _, OH, a_Phas, i_Phas, k_Phas, kb_Phas⟩⟩
  have C_cell : Cal l.prog w K mg base 2 "_law_cell_at" ["_law_script", "_law_k"] (spCell K) := ⟨_, _, ok_l_cell_at F_l_cell_at z_len, m_l_cell_at, k_l_cell_at, b_l_cell_at⟩
  have C_box : Cal l.prog w K mg base 3 "_law_box" ["_law_script", "_law_k"] (spBox K) := ⟨_, _, ok_l_box F_l_box z_abs z_int C_cell, m_l_box, k_l_box, b_l_box⟩
  have C_take : Cal l.prog w K mg base 2 "_law_take" ["_law_box_here", "_law_many"] spTake := ⟨_, _, ok_l_take F_l_take, m_l_take, k_l_take, b_l_take⟩
  have C_spot : Cal l.prog w K mg base 3 "_law_spot" ["_law_box_here", "_law_wide"] spSpot := ⟨_, _, ok_l_spot F_l_spot z_min C_take, m_l_spot, k_l_spot, b_l_spot⟩
  have S0 : Cal l.prog w K mg base 0 "_law_same" ["_law_found", "_law_due_here"] (spSm (Twin K 0)) := cal_same0 m_l_same k_l_same b_l_same
  have S1 : Cal l.prog w K mg base 1 "_law_same" ["_law_found", "_law_due_here"] (spSm (Twin K 1)) := ⟨_, _, ok_l_same F_l_same z_isinstance z_list z_tuple z_bool z_int z_str z_len z_all z_zip S0, m_l_same, k_l_same, b_l_same⟩
  have S2 : Cal l.prog w K mg base 2 "_law_same" ["_law_found", "_law_due_here"] (spSm (Twin K 2)) := ⟨_, _, ok_l_same F_l_same z_isinstance z_list z_tuple z_bool z_int z_str z_len z_all z_zip S1, m_l_same, k_l_same, b_l_same⟩
  have C_seen : Cal l.prog w K mg base 2 "_law_seen" ["_law_place_here"] (spSeen C) := ⟨_, _, ok_l_seen F_l_seen T J g_Place z_isinstance, m_l_seen, k_l_seen, b_l_seen⟩
  have C_place : Cal l.prog w K mg base 7 "_law_place" ["_law_spot_here"] (spPlc C) := ⟨_, _, ok_l_place F_l_place mk_Place_0 mk_Place_1 mk_Place_2_begin_end, m_l_place, k_l_place, b_l_place⟩
  have C_far : Cal l.prog w K mg base 3 "_law_far" ["_law_box_here", "_law_spot_here"] spFar := ⟨_, _, ok_l_far F_l_far C_take, m_l_far, k_l_far, b_l_far⟩
  have C_due : Cal l.prog w K mg base 2 "_law_due" ["_law_spot_here", "_law_far_here"] spDue := ⟨_, _, ok_l_due F_l_due, m_l_due, k_l_due, b_l_due⟩
  have C_told : Cal l.prog w K mg base 8 "_law_told" ["_law_box_here", "_law_place_here", "_law_far_here"] (spTold C) := ⟨_, _, ok_l_told F_l_told g_BadPlace XB noB exB C_take C_seen mS mK, m_l_told, k_l_told, b_l_told⟩
  have C_hr : Cal l.prog w K mg base 4 "_law_has_right" ["_law_box_here", "_law_place_here", "_law_spot_here"] (spHr C) := ⟨_, _, ok_l_has_right F_l_has_right z_any C_take S2 me_has mkHas, m_l_has_right, k_l_has_right, b_l_has_right⟩
  exact ok_law F_law z_range z_min z_len z_isinstance z_tuple C_box C_spot C_place C_far C_due C_hr S2 C_told C_seen me_moved o_ne
end My
open PySem PySem.W PyProof.Rows
set_option maxRecDepth 100000 in
set_option maxHeartbeats 0 in
theorem PySem.Challenge.cw_cardlines_k04_lines_had_and_places_moved_holds : PySem.Challenge.rw_cardlines_k04_lines_had_and_places_moved.Holds := by
  w_on; o_law; k_head; (case hw => w_witness2)
  k_fill
  refine L2.walk_of (l := PySem.Challenge.rw_cardlines_k04_lines_had_and_places_moved) (n := 63) (k := 9) (x := "_law_script") (CX := fun _ => L2.CX0) (sp := fun w => My.spLaw _) rfl (by decide) rfl ⟨rfl, by decide, by decide⟩ (fun w h Y => PySem.W.kIn_of Y) ?F (fun _ _ a ns hl _ hS => ⟨a, ns, rfl, hS, hl, fun _ => rfl⟩) (fun _ _ _ _ _ h => h)
  case F =>
    intro w mg fa h KX G hmg
    refine' My.all_mk KX G hmg ?aC ?pg ?hd ?po ?sa ?n_line ?n_last ?n_begin ?n_end ?iha ?ihn ?iht ?ihm ?ikt ?ine ?mk1 ?mk2 ?mk3 ?mk4 ?lI ?cI ?kI ?lT ?qb ?qe ?a_Pmoved ?i_Pmoved ?l_Pmoved ?c_Pmoved ?k_Pmoved ?a_Peq ?i_Peq ?l_Peq ?c_Peq ?k_Peq ?a_Phas ?i_Phas ?l_Phas ?c_Phas ?k_Phas ?aB ?xB ?saB ?gaB ?ggB ?noB ?iB ?tB ?lB ?cB ?kfB ?kB ?eB ?tyB ?hdB ?icB ?sB ?vV ?a_is_whole ?l_is_whole ?c_is_whole ?k_is_whole ?a_is_number ?l_is_number ?c_is_number ?k_is_number ?a_wrong_columns ?l_wrong_columns ?c_wrong_columns ?k_wrong_columns ?a_wrong_of_nowhere ?l_wrong_of_nowhere ?c_wrong_of_nowhere ?k_wrong_of_nowhere ?a_wrong_part ?l_wrong_part ?c_wrong_part ?k_wrong_part ?a_l_cell_at ?l_l_cell_at ?c_l_cell_at ?k_l_cell_at ?a_l_box ?l_l_box ?c_l_box ?k_l_box ?a_l_take ?l_l_take ?c_l_take ?k_l_take ?a_l_spot ?l_l_spot ?c_l_spot ?k_l_spot ?a_l_place ?l_l_place ?c_l_place ?k_l_place ?a_l_same ?l_l_same ?c_l_same ?k_l_same ?a_l_seen ?l_l_seen ?c_l_seen ?k_l_seen ?a_l_far ?l_l_far ?c_l_far ?k_l_far ?a_l_told ?l_l_told ?c_l_told ?k_l_told ?a_l_due ?l_l_due ?c_l_due ?k_l_due ?a_l_has_right ?l_l_has_right ?c_l_has_right ?k_l_has_right ?a_law ?l_law ?c_law ?k_law ?h_LAST_COLUMN ?h_LAST_LINE ?h_MOST_LINES_BEHIND ?y_ValueError ?y_abs ?y_all ?y_any ?y_bool ?y_int ?y_isinstance ?y_len ?y_list ?y_min ?y_range ?y_str ?y_tuple ?y_zip
    (case aC => first | k_is | rfl)
    (case pg => first | k_is | rfl)
    (case hd => first | k_is | rfl)
    (case po => first | k_is | rfl)
    (case sa => first | k_is | rfl)
    (case n_line => first | k_is | rfl)
    (case n_last => first | k_is | rfl)
    (case n_begin => first | k_is | rfl)
    (case n_end => first | k_is | rfl)
    (case iha => first | k_is | rfl)
    (case ihn => first | k_is | rfl)
    (case iht => first | k_is | rfl)
    (case ihm => first | k_is | rfl)
    (case ikt => first | k_is | rfl)
    (case ine => first | k_is | rfl)
    (case mk1 => first | k_is | rfl)
    (case mk2 => first | k_is | rfl)
    (case mk3 => first | k_is | rfl)
    (case mk4 => first | k_is | rfl)
    (case lI => first | k_is | rfl)
    (case cI => first | k_is | rfl)
    (case kI => first | k_is | rfl)
    (case lT => first | k_is | rfl)
    (case qb => first | k_is | rfl)
    (case qe => first | k_is | rfl)
    (case a_Pmoved => first | k_is | rfl)
    (case i_Pmoved => first | k_is | rfl)
    (case l_Pmoved => first | k_is | rfl)
    (case c_Pmoved => first | k_is | rfl)
    (case k_Pmoved => first | k_is | rfl)
    (case a_Peq => first | k_is | rfl)
    (case i_Peq => first | k_is | rfl)
    (case l_Peq => first | k_is | rfl)
    (case c_Peq => first | k_is | rfl)
    (case k_Peq => first | k_is | rfl)
    (case a_Phas => first | k_is | rfl)
    (case i_Phas => first | k_is | rfl)
    (case l_Phas => first | k_is | rfl)
    (case c_Phas => first | k_is | rfl)
    (case k_Phas => first | k_is | rfl)
    (case aB => first | k_is | rfl)
    (case xB => first | k_is | rfl)
    (case saB => first | k_is | rfl)
    (case gaB => first | k_is | rfl)
    (case ggB => first | k_is | rfl)
    (case noB => first | k_is | rfl)
    (case iB => first | k_is | rfl)
    (case tB => first | k_is | rfl)
    (case lB => first | k_is | rfl)
    (case cB => first | k_is | rfl)
    (case kfB => first | k_is | rfl)
    (case kB => first | k_is | rfl)
    (case eB => first | k_is | rfl)
    (case tyB => first | k_is | rfl)
    (case hdB => first | k_is | rfl)
    (case icB => first | k_is | rfl)
    (case sB => first | k_is | rfl)
    (case vV => first | k_is | rfl)
    (case a_is_whole => k_is)
    (case l_is_whole => k_is)
    (case c_is_whole => k_is)
    (case k_is_whole => k_is)
    (case a_is_number => k_is)
    (case l_is_number => k_is)
    (case c_is_number => k_is)
    (case k_is_number => k_is)
    (case a_wrong_columns => k_is)
    (case l_wrong_columns => k_is)
    (case c_wrong_columns => k_is)
    (case k_wrong_columns => k_is)
    (case a_wrong_of_nowhere => k_is)
    (case l_wrong_of_nowhere => k_is)
    (case c_wrong_of_nowhere => k_is)
    (case k_wrong_of_nowhere => k_is)
    (case a_wrong_part => k_is)
    (case l_wrong_part => k_is)
    (case c_wrong_part => k_is)
    (case k_wrong_part => k_is)
    (case a_l_cell_at => k_is)
    (case l_l_cell_at => k_is)
    (case c_l_cell_at => k_is)
    (case k_l_cell_at => k_is)
    (case a_l_box => k_is)
    (case l_l_box => k_is)
    (case c_l_box => k_is)
    (case k_l_box => k_is)
    (case a_l_take => k_is)
    (case l_l_take => k_is)
    (case c_l_take => k_is)
    (case k_l_take => k_is)
    (case a_l_spot => k_is)
    (case l_l_spot => k_is)
    (case c_l_spot => k_is)
    (case k_l_spot => k_is)
    (case a_l_place => k_is)
    (case l_l_place => k_is)
    (case c_l_place => k_is)
    (case k_l_place => k_is)
    (case a_l_same => k_is)
    (case l_l_same => k_is)
    (case c_l_same => k_is)
    (case k_l_same => k_is)
    (case a_l_seen => k_is)
    (case l_l_seen => k_is)
    (case c_l_seen => k_is)
    (case k_l_seen => k_is)
    (case a_l_far => k_is)
    (case l_l_far => k_is)
    (case c_l_far => k_is)
    (case k_l_far => k_is)
    (case a_l_told => k_is)
    (case l_l_told => k_is)
    (case c_l_told => k_is)
    (case k_l_told => k_is)
    (case a_l_due => k_is)
    (case l_l_due => k_is)
    (case c_l_due => k_is)
    (case k_l_due => k_is)
    (case a_l_has_right => k_is)
    (case l_l_has_right => k_is)
    (case c_l_has_right => k_is)
    (case k_l_has_right => k_is)
    (case a_law => k_is)
    (case l_law => k_is)
    (case c_law => k_is)
    (case k_law => k_is)
    (case h_LAST_COLUMN => k_is)
    (case h_LAST_LINE => k_is)
    (case h_MOST_LINES_BEHIND => k_is)
    (case y_ValueError => k_is)
    (case y_abs => k_is)
    (case y_all => k_is)
    (case y_any => k_is)
    (case y_bool => k_is)
    (case y_int => k_is)
    (case y_isinstance => k_is)
    (case y_len => k_is)
    (case y_list => k_is)
    (case y_min => k_is)
    (case y_range => k_is)
    (case y_str => k_is)
    (case y_tuple => k_is)
    (case y_zip => k_is)


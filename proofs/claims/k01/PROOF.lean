import PyProof.Rows.All
import Wide.All
import OpenK.AllK
import Wide.FinOn
import HandS.ForMost
import HandS.ForExc
import HandS.ExcField
import HandS.ExcInit
import HandS.ExcValue
import HandS.Defaults
import HandS.Codes
import HandS.Wide
import HandS.Zip
import HandS.IsInst
import HandS.Walk
import HandS.MakeKwOnly
import HandS.OwnEq
import HandS.FStr
import HandS.Sort
import KE.KCallOwn
import PySem.Challenge.RW_cardlines_k01_places_made
set_option Elab.async false
set_option linter.all false
set_option maxRecDepth 100000
set_option maxHeartbeats 4000000
namespace My
open PySem PySem.Spec PyProof.Rows L2
/-! ### an exception that is caught, and kept behind its except clause -/
/-- at a stands an exception of the class cls, its own dict at d -/
def exK (a : Addr) (cls : Value) (d : Option Addr) : HO := .ext fun h => ∃ (oe : Obj) (vs : Array Value), h.get? a = some oe ∧ Zc cls d oe ∧ oe.data = .fields vs
theorem exK_ok {P : Program} {w : World} {H : Hp} {h : Heap} {a : Addr} {cls : Value} {d : Option Addr} {oe : Obj} {vs : Array Value} (e : h.get? a = some oe) (z : Zc cls d oe) (hd : oe.data = .fields vs) : ObjOk P w H h a (exK a cls d) :=
  ⟨⟨oe, vs, e, z, hd⟩, ⟨oe, e⟩, fun _ _ ⟨o, v, q, r⟩ k => ⟨o, v, k o q, r⟩⟩
section
variable {X : Cx} {pins : List (Addr × Obj)} {σ : L2.St} {H : Hp} {s : Shared}
theorem track {a : Addr} {oe : Obj} {vs : Array Value} {cls : Value} {d : Option Addr} (I : Inv X pins σ H s) (ha : s.heap.get? a = some oe) (hz : Zc cls d oe) (hd : oe.data = .fields vs) (na : H a = none)
    (n0 : X.s_0.heap.get? a = none) (nL : a ≠ X.env.locals) (np : ∀ p ∈ X.pn ++ pins, p.1 ≠ a) : Inv X pins σ (upd H a (exK a cls d)) s := by
  have nc : ∀ x c, X.env.cells.lookup x = some c → c ≠ a := fun x c hc e => by
    obtain ⟨v, hv⟩ := I.cell x c hc
    subst e
    obtain ⟨o, ho, hdat⟩ := hv
    rw [ha] at ho
    cases ho
    rw [hd] at hdat
    cases hdat
  exact
    { ok := I.ok
      os := I.os
      bare := I.bare
      base :=
        { keep := I.base.keep
          slot := I.base.slot
          free := fun b o e n hx => by
            rw [upd_ne (fun z => by rw [z, n0] at e; cases e)]
            exact I.base.free b o e n hx
          there := I.base.there
          tups := fun b xs e => by
            have e1 := I.base.tups b xs e
            rw [upd_ne (ne_of_none e1 na)]
            exact e1
          frzs := fun b o u e => by
            have e1 := I.base.frzs b o u e
            rw [upd_ne (ne_of_none e1 na)]
            exact e1
          tbls := fun b ps e => by
            obtain ⟨more, e1⟩ := I.base.tbls b ps e
            exact ⟨more, by rw [upd_ne (ne_of_none e1 na)]; exact e1⟩ }
      loc := I.loc
      cell := I.cell
      free := by rw [upd_ne (Ne.symm nL)]; exact I.free
      freeC := fun x c hc => by rw [upd_ne (nc x c hc)]; exact I.freeC x c hc
      pin := fun p hp => by
        obtain ⟨h1, h2, h3⟩ := I.pin p hp
        exact ⟨h1, by rw [upd_ne (np p hp)]; exact h2, h3⟩
      hok := L2.HOk.laidN I.hok (fun _ _ q => q) na (exK_ok ha hz hd)
      len := I.len }
end
/-- where the suite's end goes on: the name is gone, the exception is kept at a -/
def keepEnds (D : Ends) (i : Nat) (a : Addr) (cls : Value) (d : Option Addr) : Ends :=
  { nx := fun σ' H' => D.nx (σ'.set i none) (upd H' a (exK a cls d)), rt := D.rt, bk := fun σ' H' => D.bk (σ'.set i none) H', ct := fun σ' H' => D.ct (σ'.set i none) H' }
def wKeep (K : PySem.W.Frag) (c : Value) (i : Nat) (ts : Addr → Value → Option Addr → TS) (Wout : WX) (D : Ends) : WX := fun cls d σ H =>
  ∃ b, PySem.W.exmOne K cls c = some b ∧ (b = true → ∀ a, H a = none → ts a cls d (keepEnds D i a cls d) (σ.set i (some (.ref a))) H) ∧ (b = false → Wout cls d σ H)
section
variable {X : Cx} {pins : List (Addr × Obj)} {σ : L2.St} {H : Hp} {s : Shared}
/-- out of the suite, the exception still pinned -/
theorem still {a b : Addr} {q : Addr × Obj} {pn' : List (Addr × Obj)} (I : Inv (X.suite b (q :: (X.pn ++ pins))) pn' σ H s) (ok : X.Ok) : Inv X (q :: pins) σ H s :=
  { ok := ok, os := I.os, bare := I.bare, base := I.base, loc := I.loc, cell := I.cell, free := I.free, freeC := I.freeC, hok := I.hok, len := I.len
    pin := fun p hp => I.pin p (List.mem_append_left _ (by
      rcases List.mem_append.mp hp with h | h
      · exact List.mem_cons_of_mem _ (List.mem_append_left _ h)
      · rcases List.mem_cons.mp h with h | h
        · rw [h]; exact List.mem_cons_self
        · exact List.mem_cons_of_mem _ (List.mem_append_right _ h))) }
theorem unpin {q : Addr × Obj} (I : Inv X (q :: pins) σ H s) : Inv X pins σ H s :=
  { ok := I.ok, os := I.os, bare := I.bare, base := I.base, loc := I.loc, cell := I.cell, free := I.free, freeC := I.freeC, hok := I.hok, len := I.len
    pin := fun p hp => I.pin p (by
      rcases List.mem_append.mp hp with h | h
      · exact List.mem_append_left _ h
      · exact List.mem_append_right _ (List.mem_cons_of_mem _ h)) }
end
section
variable {X : Cx} {x n : Str} {c : Value} {i : Nat} {body suite : List Stmt} {b₀ : Stmt} {np pos pos' : Pos} {tb : WX → TS} {ts : Addr → Value → Option Addr → TS} {Wout : WX}
/-- try: body / except x as n: suite, where behind the suite the exception is still told of -/
theorem ps_try_keep (hs : X.stack = X.env :: X.outer) (hf : X.env.frame = some X.env.locals) (hex : X.ex = []) (hN : X.N.Nodup) (hi : X.N[i]? = some n) (hln : X.env.kindOf n = some .local) (hc : Names X x c) (tk : Takes X Wout)
    (hb : ∀ (W : WX) (pn : List (Addr × Obj)) (xe : Value → Shared → Prop), Takes (X.tr pn xe) W → PassesOwn (model X.prog X.w) X.A X.env xe → PSs (X.tr pn xe) body (tb W))
    (hsu : ∀ (a : Addr) (oe : Obj) (cls : Value) (d : Option Addr) (pn : List (Addr × Obj)), Zc cls d oe → (∃ vs, oe.data = .fields vs) → PSs (X.suite a ((a, oe) :: pn)) (b₀ :: suite) (ts a cls d)) :
    PS X (.Try body [.ExceptHandler (some (.Name x np)) (some n) (b₀ :: suite) pos'] [] [] pos) (fun D σ H => tb (wKeep X.K c i ts Wout D) D σ H) := by
  constructor
  intro pins s σ H D I h
  have ok := I.ok
  have frames : X.A.frames = some (X.env :: X.outer) := by
    rw [ok.frames, hs]
  have run := (hb (wKeep X.K c i ts Wout D) (X.pn ++ pins) (fun e s₁ => wpAny (model X.prog X.w) X.A (noteFrame e X.env) (fun _ s₂ => wpAny (model X.prog X.w) X.A (setFlight e none) (fun _ s₃ =>
      wpAny (model X.prog X.w) X.A (handleBy e X.env [.ExceptHandler (some (.Name x np)) (some n) (b₀ :: suite) pos']) (SP X pins D) X.xe s₃) X.xe s₂) X.xe s₁) ?caught PassesOwn.looking).run [] s σ H D (I.toTry _) h
  · refine wpAny_Try_except (wpAny_mono run (fun fl s1 out => ?_) fun _ _ z => z)
    cases fl with
    | next => obtain ⟨σ1, H1, J1, q1⟩ := out; exact wpAny_execs_nil ⟨σ1, H1, J1.ofTry ok, q1⟩
    | ret u => obtain ⟨v1, σ1, H1, J1, r1, q1⟩ := out; exact ⟨v1, σ1, H1, J1.ofTry ok, r1, q1⟩
    | brk => obtain ⟨σ1, H1, J1, q1⟩ := out; exact ⟨σ1, H1, J1.ofTry ok, q1⟩
    | cont => obtain ⟨σ1, H1, J1, q1⟩ := out; exact ⟨σ1, H1, J1.ofTry ok, q1⟩
  · rintro u s' ⟨a, B, sI, pins', σ1, H1, cls, d, rfl, J1, ground, up, sky, na, os, ag, mt, em, yes, no⟩
    have J : Inv X pins σ1 H1 sI := J1.ofTry ok
    rw [show (X.tr (X.pn ++ pins) _).stack = X.env :: X.outer from hs] at sky
    refine Sky.land Zc.steady frames hf sky fun h3 fly up3 => ?_
    have Jl : Inv X pins σ1 H1 { s' with heap := h3 } := J.landed ground fly.1 (up.trans up3) os ag
    obtain ⟨oe, vs, he, hz, hdat⟩ := fly.there
    -- the exception is none of the frames
    have apart : ∀ {hh : Heap} {ob : Obj} {fv : Array Value}, hh.FunFrames B (X.env :: X.outer) → hh.get? a = some ob → ob.data = .fields fv → a ∉ frs (X.env :: X.outer) := by
      intro hh ob fv ff e1 e2 mem
      obtain ⟨_, ob', e3, nf⟩ := ff.mem mem
      rw [e1] at e3
      cases e3
      exact nf _ e2
    have nfr := apart fly.2.2.1 he hdat
    have nL : a ≠ X.env.locals := by
      intro z
      exact nfr (List.mem_filterMap.mpr ⟨X.env, List.mem_cons_self, by rw [hf, z]⟩)
    have nF : a ∉ X.fs := by
      intro hm
      obtain ⟨ev, hev, q⟩ := List.mem_filterMap.mp hm
      exact nfr (List.mem_filterMap.mpr ⟨ev, List.mem_cons_of_mem _ hev, q⟩)
    have away : ∀ b o, sI.heap.get? b = some o → b ∉ frs X.stack → b ≠ a := by
      intro b o e hb' z
      have gb := ground b o e hb'
      rw [z, fly.2.1] at gb
      cases gb
    have n0 : X.s_0.heap.get? a = none := by
      cases e0 : X.s_0.heap.get? a with
      | none => rfl
      | some o =>
        obtain ⟨o', e1⟩ := J.base.there a o e0 (by rw [hex]; exact fun z => nomatch z)
        exact absurd rfl (away a o' e1 (by rw [hs]; exact nfr))
    have npin : ∀ p ∈ X.pn ++ pins, p.1 ≠ a := by
      intro p hp
      obtain ⟨g1, _, g3, g4, _⟩ := J.pin p hp
      refine away p.1 p.2 g1 fun mem => ?_
      rw [hs] at mem
      obtain ⟨ev, hev, q⟩ := List.mem_filterMap.mp mem
      rcases List.mem_cons.mp hev with rfl | hev
      · rw [hf] at q
        exact g3 (Option.some.inj q).symm
      · exact g4 (List.mem_filterMap.mpr ⟨ev, hev, q⟩)
    have Sl := Jl.suite he hdat na nL nF
    refine wpAny_handleBy_cons (codeAny_handlers_test ?_) (by intro z; cases z)
    have ofCls : PySem.W.Looks (model X.prog X.w) h3 (typeOf (.ref a)) cls := by
      intro A Q E st kp q
      exact wpAny_typeOf_ref (kp _ _ he) (by rw [hz.1]; exact q)
    have fits_ := PySem.W.exm_one (M := model X.prog X.w) Jl.kIn ofCls em
    have named : ∀ {Q : Value → Shared → Prop} {E : Value → Shared → Prop}, Q c { s' with heap := h3 } → wpAny (model X.prog X.w) (X.A.mark (some (.ref a))) (eval (.Name x np) X.env) Q E { s' with heap := h3 } := by
      intro Q E q
      obtain ⟨gl, dbg, own | ⟨own, bt, nn⟩⟩ := hc
      · exact ld_glob (X := X.suite a ((a, oe) :: (X.pn ++ pins))) Sl gl own q dbg
      · exact ld_blt (X := X.suite a ((a, oe) :: (X.pn ++ pins))) Sl gl own bt q nn dbg
    refine named (fits_.here ?_)
    cases mt with
    | true =>
      refine codeAny_handlers_suite_as (HandSPX.lands_againZ fly fun h4 fly4 up4 => ?_)
      have Jm : Inv X pins σ1 H1 { s' with heap := h4 } := J.landed ground fly4.1 ((up.trans up3).trans up4) os ag
      obtain ⟨oe4, vs4, he4, hz4, hdat4⟩ := fly4.there
      refine store_ok (X := X.suite a ((a, oe4) :: (X.pn ++ pins))) (v := .ref a) (Jm.suite he4 hdat4 na nL nF) hN hi (.inl hln) rfl (fun s5 S5 => ?_) (.inr hln)
      refine wpAny_mono ((hsu a oe4 cls d (X.pn ++ pins) hz4 ⟨_, hdat4⟩).run [] s5 _ H1 _ S5 (yes rfl a na)) (fun fl s6 out => ?_) fun _ _ z => z.elim
      cases fl with
      | next =>
        obtain ⟨σ6, H6, S6, q6⟩ := out
        refine gone_ok (still (a := a) S6 ok) hN hi hln fun s7 J7 => ⟨_, _, ?_, q6⟩
        obtain ⟨g1, g2, _⟩ := J7.pin (a, oe4) (List.mem_append_right _ List.mem_cons_self)
        exact track (unpin J7) g1 hz4 hdat4 g2 n0 nL npin
      | ret u =>
        obtain ⟨v6, σ6, H6, S6, r6, q6⟩ := out
        exact gone_ok (S6.unsuite ok) hN hi hln fun s7 J7 => ⟨_, _, _, J7, r6, q6⟩
      | brk =>
        obtain ⟨σ6, H6, S6, q6⟩ := out
        exact gone_ok (S6.unsuite ok) hN hi hln fun s7 J7 => ⟨_, _, J7, q6⟩
      | cont =>
        obtain ⟨σ6, H6, S6, q6⟩ := out
        exact gone_ok (S6.unsuite ok) hN hi hln fun s7 J7 => ⟨_, _, J7, q6⟩
    | false =>
      refine (show wpAny (model X.prog X.w) X.A (handleBy (.ref a) X.env []) _ _ _ from wpAny_handleBy_nil ?_)
      obtain ⟨_, _, _, o5, fv, T, oT, tf, g1, g2, g3, g4, _⟩ := id fly
      have onward : wpAny (model X.prog X.w) X.A (setFlight (.ref a) X.env.frame) (fun _ s4 => wpAny (model X.prog X.w) X.A (throw (.ref a) : Sem Flow) (SP X pins D) X.xe s4) X.xe { s' with heap := h3 } := by
        rw [hf]
        refine HandSPX.setFlight_upZ fly fun h4 held up4 => wpAny_throw (tk _ _ ⟨a, B, sI, pins, σ1, H1, cls, d, rfl, J, ground, (up.trans up3).trans up4, .inr (.inr (by rw [hs]; exact held)), na, os, ag, no rfl⟩)
      unfold PySem.passOn
      refine wpAny_bind (wpAny_field g1 g3 g4 ?_)
      rw [if_neg (by simp : ¬ ((Value.ref T == Value.none) = true))]
      first
        | exact wpAny_bind onward
        | exact wpAny_bind (wpAny_pure (wpAny_bind onward))
end
/-! ### the fields of a kept exception -/
def tXk (K : PySem.W.Frag) (C : Addr) (f : Str) (te : TE) : TE := fun σ H Q => te σ H fun x H1 => ∃ (a dd : Addr) (fs : List (Str × V)) (v : V), x = .ref a ∧ H1 a = some (exK a (.ref C) (some dd)) ∧ H1 dd = some (.xd fs) ∧ fs.lookup f = some v ∧ Q v H1
theorem pe_xk {X : Cx} {C : Addr} {e : Expr} {te : TE} {pos : Pos} {n : Str} (T : XfC X.K C) (hno : PySem.W.findIn X.K (.ref C) n = some none) (he : PE X e te) (hb : attributeBase e n X.env (eval e X.env) = eval e X.env := by rfl) :
    PE X (.Attribute e n pos) (tXk X.K C n te) := by
  constructor
  intro pins s σ H Q I h
  refine attr_of hb (thn (he.run pins s σ H _ I h) fun u s1 hh => ?_)
  obtain ⟨y, H1, I1, ry, a, dd, fs, v, rfl, ea, ed, lk, q⟩ := hh
  obtain rfl : u = Value.ref a := ry
  obtain ⟨⟨oe, vs, h1, h2, h3⟩, _⟩ := (show ObjOk X.prog X.w H1 s1.heap a (exK a (.ref C) (some dd)) from I1.hok a _ ea)
  obtain ⟨mA, hns, hr⟩ := (show ObjOk X.prog X.w H1 s1.heap dd (.xd fs) from I1.hok dd _ ed)
  obtain ⟨od, ho, hl⟩ := lookIn_ns hns
  obtain ⟨u, hu, ru⟩ := RelO.some_of (v := v) (o := mA n) (by rw [← lk]; exact hr n)
  have J : PySem.W.InstAt s1.heap a oe C (some od) := ⟨h1, h2.1, by unfold PySem.W.notCls; rw [h3] <;> rfl, by rw [h2.2]; exact ho⟩
  have found := PySem.W.findObj_own T.hdC hno rfl (show PySem.W.lookIn n od = some (some u) by rw [hl, hu])
  have done : EP X pins σ Q u { s1 with toks := s1.toks + 1 } := ⟨v, H1, I1.tok _, ru, q⟩
  exact HandSPX.exc_get I1.kIn J T.ga T.gg T.exC found (handed_of ru) done
/-! ### a method by names alone -/
structure MeK (P : Program) (w : World) (K : PySem.W.Frag) (mg : Str → Option Value) (base : Heap) (k : Nat) (C : Addr) (m : Str) (ks : List Str) (gV : List V → List V → List V) (sp : Sp) : Prop where
  cl : Cls K C
  ex : ∃ f fd ps g, FnOk P w K mg base CX0 k f fd ps sp ∧ PySem.W.findIn K (.ref C) m = some (some (.ref f)) ∧ PySem.W.isFn K (.ref f) = true ∧ PySem.W.keepIn K (.ref f) = true ∧ KBn K fd ps 1 ks g gV
def tMethK (C : Addr) (m : Str) (n : Nat) (sp : Sp) (gV : List V → List V → List V) (E : XK) (ta : TE) (tk : TA) : TE := fun σ H Q => ta σ H fun x H1 => ∃ a dx fs, x = .ref a ∧ H1 a = some (.ins C dx fs) ∧ fs.lookup m = none ∧ tk σ H1 fun zs H2 => zs.length = n ∧ sp (gV [x] zs) H2 Q E
section
variable {X : Cx} {k j : Nat} {sp : Sp} {C : Addr} {m : Str} {ks : List Str} {gV : List V → List V → List V} {o : Expr} {kws : List Keyword} {ta : TE} {tk : TA} {pos apos : Pos}
theorem pe_mtK {pl : Sem Bool} (M : MeK X.prog X.w X.K X.mg X.base k C m ks gV sp) (hr : Room j X.A) (hk : k ≤ j) (he : PE X o ta) (hkw : PK X kws tk)
    (hall : (backToKw pos (keywordEach kws X.env)).all (·.1.isSome) = true := by rfl) (hks : (backToKw pos (keywordEach kws X.env)).filterMap (·.1) = ks := by rfl)
    (hpl : ((backTo pos (starEach [] X.env)).any (·.1) || (backToKw pos (keywordEach kws X.env)).any (·.1.isNone)) = false := by rfl)
    (ht : eval (.Call (.Attribute o m apos) [] kws pos) X.env = (do
      let ov ← eval o X.env
      standAt apos.atName
      let (f, first) ← holding [ov] (getMethod ov m pl)
      callWith pos f first (backTo pos (starEach [] X.env)) (backToKw pos (keywordEach kws X.env))) := by rfl) :
    PE X (.Call (.Attribute o m apos) [] kws pos) (tMethK C m ks.length sp gV E0 ta tk) := by
  obtain ⟨f, fd, ps, g, F, hs, hf, kp, hb⟩ := M.ex
  constructor
  intro pins s σ H Q I h
  refine PySem.W.methodCall_KW (pl := pl) (thn (he.run pins s σ H _ I h) fun u s1 hh => ?_) ht
  obtain ⟨y, H1, I1, ry, a, dx, fs, rfl, ea, lk, q⟩ := hh
  obtain rfl : u = Value.ref a := ry
  refine getmeth_ok I1 ea M.cl ⟨hs, hf, kp⟩ lk ?_
  refine PySem.W.callWith_KW0 (first := [.ref a]) (h₀ := X.base) I.ok.mod.kin kp hall (thn (hkw.run pos pins s1 σ H1 _ I1 q) fun ws s2 hh => ?_) hpl
  obtain ⟨zs, H2, I2, rz, l2, q2⟩ := hh
  refine ⟨I2.kIn, ?_⟩
  rw [hks]
  exact run_fnN (us := [.ref a]) (vs := [.ref a]) F (hr.mono hk) hb pass0 I2 (.cons rfl .nil) rz rfl l2 q2
end
/-! ### == and != by an own __eq__, whatever it tells -/
section
variable {prog : Program} {w : World} {A : Around} {E : Value → Shared → Prop} {s : Shared} {K : PySem.W.Frag} {x C f : Addr} {ox : Obj} {od : Option Obj}
open PySem.W PySem.Calls
theorem bound_builtin {M : Model} {name : Str} {id : String} {args : List Value} {Q : Option Value → Shared → Prop} (X : K.In s.heap) (I : InstAt s.heap x ox C od) (hs : findIn K (.ref C) name = some (some (.builtin id)))
    (hb : ∀ self, bindSpecial (.builtin id) self = pure (.builtin id, [self])) (h : wpAny M A (call (.builtin id) (.ref x :: args)) (fun v => Q (some v)) E s) : wpAny M A (callSpecialIfBound? (.ref x) name args) Q E s := by
  have told : wpAny M A (call (.builtin id) ([.ref x] ++ args) >>= fun v => pure (some v)) Q E s := wpAny_bind (wpAny_mono h (fun _ _ z => wpAny_pure z) fun _ _ z => z)
  unfold callSpecialIfBound? bindSpecialIfBound?
  refine wpAny_holding (wpAny_bind (wpAny_bind (wpAny_bind (I.type.here ((looks_findIn X hs).here ?_)))))
  refine wpAny_bind (wpAny_askSetting (wpAny_ite ?_))
  split
  · exact wpAny_bind ((Looks.of_pure (hb _)).here (wpAny_pure (by exact told)))
  · exact wpAny_tryCatch (wpAny_bind ((Looks.of_pure (hb _)).here (wpAny_pure (by exact told))))
open Builtin in
theorem ne_object {b : Value} {Q : Value → Shared → Prop} (hu : A.in1.units < cLine) (X : K.In s.heap) (I : InstAt s.heap x ox C od) (hm : mroIn K C (.type "object") = some true) (hs : findIn K (.ref C) "__eq__" = some (some (.ref f))) (hf : isFn K (.ref f) = true)
    (h : wpAny (model prog w) A.in1 (call (.ref f) [.ref x, b]) (fun v s' => ∃ r, v = .bool r ∧ Q (.bool (!r)) s') E s) : wpAny (model prog w) A (call (.builtin "object.__ne__") [.ref x, b]) Q E s := by
  refine wpAny_call (codeAny_call_builtin PySem.F.slot_object_ne.plain PySem.F.entry_object_ne (check_slot (i := "object.__ne__") (owner := "object") (n := "__ne__") (by decide +kernel) (by decide +kernel) (I.type.andThen (looks_mroIn X hm)) (PySem.F.args_object_ne_2 _ _) ?_))
  unfold Builtin.«object.__ne__»
  refine wpAny_bind (m := slotArgs "__ne__" 1 _) (wpAny_pure ?_)
  refine wpAny_bind (m := cRoomFor _ _) (wpAny_cRoomFor hu ?_)
  refine wpAny_bind (m := callSpecialIfBound? (.ref x) (Str.ofString "__eq__") _) (ifBound_K X I hs hf (wpAny_mono h (fun v s' hv => ?_) fun _ _ z => z))
  obtain ⟨r, rfl, q⟩ := hv
  first
    | exact wpAny_bind (wpAny_pure (wpAny_pure ⟨_, rfl, q⟩))
    | exact wpAny_bind (wpAny_pure (wpAny_pure q))
    | exact wpAny_bind (wpAny_truthy_bool (wpAny_pure ⟨_, rfl, q⟩))
/-- x == b, x != b where b is an object of the same class -/
theorem cmp_same {op : CmpOp} {b : Addr} {Q : Value → Shared → Prop} (hu : A.units < cLine) (I : InstAt s.heap x ox C od) (hb : Looks (model prog w) s.heap (typeOf (.ref b)) (.ref C))
    (h : wpAny (model prog w) A (tryCompare (.ref x) (cmpInfo op).2.1 (.ref b)) (fun r s' => ∃ v, r = some v ∧ Q v s') E s) : wpAny (model prog w) A (richCompare op (.ref x) (.ref b)) Q E s := by
  unfold richCompare
  simp only [oneThing_ref]
  refine wpAny_holding (wpAny_bind (wpAny_cRoomFor hu (wpAny_bind (I.type.here (wpAny_bind (hb.here ?_))))))
  have first_ : wpAny (model prog w) A (tryCompare (.ref x) (cmpInfo op).2.1 (.ref b)) (fun r s' => ∃ v, r = some v ∧ Q v s') E s := h
  split
  · rename_i q
    simp at q
  · refine wpAny_bind (wpAny_pure ?_)
    simp only [Bool.false_eq_true, if_false]
    refine wpAny_bind (wpAny_mono first_ (fun r s' z => ?_) fun _ _ z => z)
    obtain ⟨v, rfl, hq⟩ := z
    exact wpAny_pure hq
end
section
variable {X : Cx} {n : Nat} {C : Addr} {sp : Sp}
/-- the method m of the class at C keeps the promise sp -/
structure OwnE (P : Program) (w : World) (K : PySem.W.Frag) (mg : Str → Option Value) (base : Heap) (n : Nat) (C : Addr) (sp : Sp) : Prop where
  ex : ∃ f fd ps, FnOk P w K mg base CX0 n f fd ps sp ∧ PySem.W.findIn K (.ref C) "__eq__" = some (some (.ref f)) ∧ PySem.W.isFn K (.ref f) = true ∧ Binds K fd ps []
  ne : PySem.W.findIn K (.ref C) "__ne__" = some (some (.builtin "object.__ne__"))
  hm : PySem.W.mroIn K C (.type "object") = some true
def rOwnE (C : Addr) (sp : Sp) (turn : Bool → Bool) : R2 := fun x y H Q => ∃ a b dx dy fs gs, x = .ref a ∧ y = .ref b ∧ H a = some (.ins C dx fs) ∧ H b = some (.ins C dy gs) ∧ sp [.ref a, .ref b] H (fun v H' => ∃ r, v = .bl r ∧ Q (.bl (turn r)) H') E0
theorem run_fn2 {A : Around} {f : Addr} {fd : FuncData} {ps : List Str} {pins : List (Addr × Obj)} {σ : L2.St} {H : Hp} {s : Shared} {vs : List V} {us : List Value} {Q : VK}
    (F : FnOk X.prog X.w X.K X.mg X.base CX0 n f fd ps sp) (hb : Binds X.K fd ps []) (I : Inv X pins σ H s) (hr : Room n A) (fr : A.frames = X.A.frames) (r : Vals vs us) (h : sp vs H Q E0) :
    wpAny (model X.prog X.w) A (call (.ref f) us) (EP X pins σ Q) X.xe s := by
  have e := I.env0
  have e0 : Env0 X.prog X.w X.K X.mg X.base A X.stack s H := ⟨by rw [fr]; exact e.frames, e.mod, e.bs, e.bsz, e.funs, e.frf, e.hok, e.bare⟩
  have hl := F.len _ _ _ _ h
  have bd : BindsTo s fd ⟨us, []⟩ (ps.zip us) := by
    have z := hb s us I.kIn (by rw [List.append_nil, ← r.length]; exact hl)
    rw [List.append_nil] at z
    exact z
  refine wpAny_call (codeAny_mono (F.run A X.stack s H ⟨us, []⟩ us vs Q E0 hr e0 bd r h) fun r s' hq => ?_)
  match r, hq with
  | .error _, hq => exact hq.elim
  | .ok (.ret _), hq => exact I.after hq
  | .ok .next, hq => exact hq.elim
  | .ok .brk, hq => exact hq.elim
  | .ok .cont, hq => exact hq.elim
theorem op_eqB (O : OwnE X.prog X.w X.K X.mg X.base n C sp) (hr : Room n X.A) : OpR X (compareOp .Eq) (rOwnE C sp id) := by
  obtain ⟨f, fd, ps, F, hs, hf, hb⟩ := O.ex
  intro pins s σ H x y v u Q I rx ry h
  obtain ⟨a, b, dx, dy, fs, gs, rfl, rfl, ha, hb', h⟩ := h
  cases rx
  cases ry
  obtain ⟨mA, J, _⟩ := ins_get I.hok ha
  obtain ⟨mB, J', _⟩ := ins_get I.hok hb'
  obtain ⟨od, J, _⟩ := J.look
  obtain ⟨od', J', _⟩ := J'.look
  show wpAny (model X.prog X.w) X.A (richCompare .Eq _ _) _ _ _
  refine cmp_same hr.units0 J J'.type ?_
  unfold tryCompare
  refine wpAny_bind (PySem.W.ifBound_K I.kIn J hs hf (wpAny_mono (run_fn2 (vs := [.ref a, .ref b]) F hb I hr rfl (.cons rfl (.cons rfl .nil)) h) (fun w s' hw => ?_) fun _ _ z => z))
  obtain ⟨z, H', I', rz, r, rfl, q⟩ := hw
  cases rz
  exact wpAny_pure ⟨_, rfl, .bl r, H', I', rfl, q⟩
theorem op_neB (O : OwnE X.prog X.w X.K X.mg X.base n C sp) (hr : Room (n + 1) X.A) : OpR X (compareOp .NotEq) (rOwnE C sp (!·)) := by
  obtain ⟨f, fd, ps, F, hs, hf, hb⟩ := O.ex
  intro pins s σ H x y v u Q I rx ry h
  obtain ⟨a, b, dx, dy, fs, gs, rfl, rfl, ha, hb', h⟩ := h
  cases rx
  cases ry
  obtain ⟨mA, J, _⟩ := ins_get I.hok ha
  obtain ⟨mB, J', _⟩ := ins_get I.hok hb'
  obtain ⟨od, J, _⟩ := J.look
  obtain ⟨od', J', _⟩ := J'.look
  show wpAny (model X.prog X.w) X.A (richCompare .NotEq _ _) _ _ _
  refine cmp_same hr.units0 J J'.type ?_
  unfold tryCompare
  refine wpAny_bind (bound_builtin I.kIn J O.ne PySem.F.slot_object_ne.bind (ne_object (by have := hr.un; show X.A.units + 1 < cLine; omega) I.kIn J O.hm hs hf (wpAny_mono (run_fn2 (vs := [.ref a, .ref b]) F hb I hr.in1 rfl (.cons rfl (.cons rfl .nil)) h) (fun w s' hw => ?_) fun _ _ z => z)))
  obtain ⟨z, H', I', rz, r, rfl, q⟩ := hw
  cases rz
  exact ⟨r, rfl, wpAny_pure ⟨_, rfl, .bl (!r), H', I', rfl, q⟩⟩
end
end My

namespace My
open PySem PySem.Spec PyProof.Rows L2
/-! ### methods that may raise, within a try -/
structure MeX (P : Program) (w : World) (K : PySem.W.Frag) (mg : Str → Option Value) (base : Heap) (k : Nat) (C : Addr) (m : Str) (sp : Sp) : Prop where
  cl : Cls K C
  ex : ∃ f fd ps, FnOk P w K mg base (L2.CX P w) k f fd ps sp ∧ PySem.W.findIn K (.ref C) m = some (some (.ref f)) ∧ PySem.W.isFn K (.ref f) = true ∧ PySem.W.keepIn K (.ref f) = true ∧ Binds K fd ps []
structure MeKX (P : Program) (w : World) (K : PySem.W.Frag) (mg : Str → Option Value) (base : Heap) (k : Nat) (C : Addr) (m : Str) (ks : List Str) (gV : List V → List V → List V) (sp : Sp) : Prop where
  cl : Cls K C
  ex : ∃ f fd ps g, FnOk P w K mg base (L2.CX P w) k f fd ps sp ∧ PySem.W.findIn K (.ref C) m = some (some (.ref f)) ∧ PySem.W.isFn K (.ref f) = true ∧ PySem.W.keepIn K (.ref f) = true ∧ KBn K fd ps 1 ks g gV
def tMethS (C : Addr) (m : Str) (sp : Sp) (E : L2.St → XK) (ta : TE) (t : TA) : TE := fun σ H Q => ta σ H fun x H1 => ∃ a dx fs, x = .ref a ∧ H1 a = some (.ins C dx fs) ∧ fs.lookup m = none ∧ t σ H1 fun vs H2 => sp (x :: vs) H2 Q (E σ)
def tMethKS (C : Addr) (m : Str) (n : Nat) (sp : Sp) (gV : List V → List V → List V) (E : L2.St → XK) (ta : TE) (tk : TA) : TE := fun σ H Q => ta σ H fun x H1 => ∃ a dx fs, x = .ref a ∧ H1 a = some (.ins C dx fs) ∧ fs.lookup m = none ∧ tk σ H1 fun zs H2 => zs.length = n ∧ sp (gV [x] zs) H2 Q (E σ)
section
variable {X : Cx} {k j : Nat} {sp : Sp} {C : Addr} {m : Str} {ks : List Str} {gV : List V → List V → List V} {o e : Expr} {es : List Expr} {kws : List Keyword} {ta : TE} {t tk : TA} {pos apos : Pos} {W : WX}
theorem pe_mtS {pl : Sem Bool} (M : MeX X.prog X.w X.K X.mg X.base k C m sp) (hr : Room j X.A) (hk : k ≤ j) (tw : Takes X W) (he : PE X o ta) (ha : PA X (e :: es) t)
    (hst : starEach (e :: es) X.env = (false, eval e X.env) :: starEach es X.env := by rfl) (hpl : (backTo pos (starEach es X.env)).any (·.1) = false := by rfl)
    (ht : eval (.Call (.Attribute o m apos) (e :: es) [] pos) X.env = (do
      let ov ← eval o X.env
      standAt apos.atName
      let (f, first) ← holding [ov] (getMethod ov m pl)
      callWith pos f first (backTo pos (starEach (e :: es) X.env)) (backToKw pos (keywordEach [] X.env))) := by rfl) :
    PE X (.Call (.Attribute o m apos) (e :: es) [] pos) (tMethS C m sp (WE W) ta t) := by
  obtain ⟨f, fd, ps, F, hs, hf, kp, hb⟩ := M.ex
  constructor
  intro pins s σ H Q I h
  refine PySem.W.methodCall_KW (pl := pl) (thn (he.run pins s σ H _ I h) fun u s1 hh => ?_) ht
  obtain ⟨y, H1, I1, ry, a, dx, fs, rfl, ea, lk, q⟩ := hh
  obtain rfl : u = Value.ref a := ry
  refine getmeth_ok I1 ea M.cl ⟨hs, hf, kp⟩ lk ?_
  refine PySem.W.callWith_K (first := [.ref a]) (h₀ := X.base) I.ok.mod.kin kp (thn (ha.run pos pins s1 σ H1 _ I1 q) fun us s2 hh => ?_) hst hpl
  obtain ⟨vs, H2, I2, r, q2⟩ := hh
  refine ⟨I2.kIn, ?_⟩
  exact run_fnS (E := WE W) (us := .ref a :: us) (vs := .ref a :: vs) F (hr.mono hk) hb (passAt tw σ) I2 (.cons rfl r) q2
theorem pe_mtKS {pl : Sem Bool} (M : MeKX X.prog X.w X.K X.mg X.base k C m ks gV sp) (hr : Room j X.A) (hk : k ≤ j) (tw : Takes X W) (he : PE X o ta) (hkw : PK X kws tk)
    (hall : (backToKw pos (keywordEach kws X.env)).all (·.1.isSome) = true := by rfl) (hks : (backToKw pos (keywordEach kws X.env)).filterMap (·.1) = ks := by rfl)
    (hpl : ((backTo pos (starEach [] X.env)).any (·.1) || (backToKw pos (keywordEach kws X.env)).any (·.1.isNone)) = false := by rfl)
    (ht : eval (.Call (.Attribute o m apos) [] kws pos) X.env = (do
      let ov ← eval o X.env
      standAt apos.atName
      let (f, first) ← holding [ov] (getMethod ov m pl)
      callWith pos f first (backTo pos (starEach [] X.env)) (backToKw pos (keywordEach kws X.env))) := by rfl) :
    PE X (.Call (.Attribute o m apos) [] kws pos) (tMethKS C m ks.length sp gV (WE W) ta tk) := by
  obtain ⟨f, fd, ps, g, F, hs, hf, kp, hb⟩ := M.ex
  constructor
  intro pins s σ H Q I h
  refine PySem.W.methodCall_KW (pl := pl) (thn (he.run pins s σ H _ I h) fun u s1 hh => ?_) ht
  obtain ⟨y, H1, I1, ry, a, dx, fs, rfl, ea, lk, q⟩ := hh
  obtain rfl : u = Value.ref a := ry
  refine getmeth_ok I1 ea M.cl ⟨hs, hf, kp⟩ lk ?_
  refine PySem.W.callWith_KW0 (first := [.ref a]) (h₀ := X.base) I.ok.mod.kin kp hall (thn (hkw.run pos pins s1 σ H1 _ I1 q) fun ws s2 hh => ?_) hpl
  obtain ⟨zs, H2, I2, rz, l2, q2⟩ := hh
  refine ⟨I2.kIn, ?_⟩
  rw [hks]
  have r2 := hb.rel (.cons (show RelV (.ref a) (.ref a) from rfl) .nil) rz
  have bd := hb.to s2 [.ref a] ws I2.kIn rfl (rz.length.symm.trans l2)
  refine wpAny_call (codeAny_mono (F.run X.A X.stack s2 H2 ⟨[.ref a], ks.zip ws⟩ _ _ Q (WE W σ) (hr.mono hk) I2.env0 bd r2 q2) fun r s' hq => ?_)
  match r, hq with
  | .error e, hq => exact passAt tw σ pins H2 s2 e s' I2 hq
  | .ok (.ret _), hq => exact I2.after hq
  | .ok .next, hq => exact hq.elim
  | .ok .brk, hq => exact hq.elim
  | .ok .cont, hq => exact hq.elim
end
end My

namespace My
open PySem PySem.Spec PyProof.Rows L2
def topS (i : Nat) : Stmt := PySem.Challenge.pw_cardlines_k01_places_made.main.body.getD i (.Pass ⟨0, 0, 0, 0⟩)
abbrev s_BadPlace_init : Stmt := inClass (topS 1) 0
theorem sc_BadPlace_init : FnScope ["self", "part"] ["self", "part"] (defScope s_BadPlace_init) := ⟨rfl, rfl, rfl, by decide +kernel, rfl, by decide +kernel, by decide +kernel⟩
abbrev s_is_whole : Stmt := topS 5
theorem sc_is_whole : FnScope ["thing"] ["thing"] (defScope s_is_whole) := ⟨rfl, rfl, rfl, by decide +kernel, rfl, by decide +kernel, by decide +kernel⟩
abbrev s_is_number : Stmt := topS 6
theorem sc_is_number : FnScope ["thing", "low", "high"] ["thing", "low", "high"] (defScope s_is_number) := ⟨rfl, rfl, rfl, by decide +kernel, rfl, by decide +kernel, by decide +kernel⟩
abbrev s_wrong_columns : Stmt := topS 9
theorem sc_wrong_columns : FnScope ["begin", "end", "one_line", "low"] ["begin", "end", "one_line"] (defScope s_wrong_columns) := ⟨rfl, rfl, rfl, by decide +kernel, rfl, by decide +kernel, by decide +kernel⟩
abbrev s_wrong_of_nowhere : Stmt := topS 10
theorem sc_wrong_of_nowhere : FnScope ["last", "begin", "end", "word", "thing"] ["last", "begin", "end"] (defScope s_wrong_of_nowhere) := ⟨rfl, rfl, rfl, by decide +kernel, rfl, by decide +kernel, by decide +kernel⟩
abbrev s_wrong_part : Stmt := topS 11
theorem sc_wrong_part : FnScope ["line", "last", "begin", "end"] ["line", "last", "begin", "end"] (defScope s_wrong_part) := ⟨rfl, rfl, rfl, by decide +kernel, rfl, by decide +kernel, by decide +kernel⟩
abbrev s_Place_init : Stmt := inClass (topS 12) 0
theorem sc_Place_init : FnScope ["self", "line", "last", "begin", "end", "part"] ["self", "line", "last", "begin", "end"] (defScope s_Place_init) := ⟨rfl, rfl, rfl, by decide +kernel, rfl, by decide +kernel, by decide +kernel⟩
abbrev s_Place_has : Stmt := inClass (topS 12) 1
theorem sc_Place_has : FnScope ["self", "line"] ["self", "line"] (defScope s_Place_has) := ⟨rfl, rfl, rfl, by decide +kernel, rfl, by decide +kernel, by decide +kernel⟩
abbrev s_Place_moved : Stmt := inClass (topS 12) 2
theorem sc_Place_moved : FnScope ["self", "by"] ["self", "by"] (defScope s_Place_moved) := ⟨rfl, rfl, rfl, by decide +kernel, rfl, by decide +kernel, by decide +kernel⟩
abbrev s_Place_eq : Stmt := inClass (topS 12) 3
theorem sc_Place_eq : FnScope ["self", "other"] ["self", "other"] (defScope s_Place_eq) := ⟨rfl, rfl, rfl, by decide +kernel, rfl, by decide +kernel, by decide +kernel⟩
abbrev s_Place_len : Stmt := inClass (topS 12) 4
theorem sc_Place_len : FnScope ["self"] ["self"] (defScope s_Place_len) := ⟨rfl, rfl, rfl, by decide +kernel, rfl, by decide +kernel, by decide +kernel⟩
abbrev s_Place_str : Stmt := inClass (topS 12) 5
theorem sc_Place_str : FnScope ["self"] ["self"] (defScope s_Place_str) := ⟨rfl, rfl, rfl, by decide +kernel, rfl, by decide +kernel, by decide +kernel⟩
abbrev s_Place_repr : Stmt := inClass (topS 12) 6
theorem sc_Place_repr : FnScope ["self"] ["self"] (defScope s_Place_repr) := ⟨rfl, rfl, rfl, by decide +kernel, rfl, by decide +kernel, by decide +kernel⟩
abbrev s_l_cell_at : Stmt := topS 14
theorem sc_l_cell_at : FnScope ["_law_script", "_law_k"] ["_law_script", "_law_k"] (defScope s_l_cell_at) := ⟨rfl, rfl, rfl, by decide +kernel, rfl, by decide +kernel, by decide +kernel⟩
abbrev s_l_box : Stmt := topS 15
theorem sc_l_box : FnScope ["_law_script", "_law_k", "_law_cell"] ["_law_script", "_law_k"] (defScope s_l_box) := ⟨rfl, rfl, rfl, by decide +kernel, rfl, by decide +kernel, by decide +kernel⟩
abbrev s_l_take : Stmt := topS 16
theorem sc_l_take : FnScope ["_law_box_here", "_law_many", "_law_found", "_law_once", "_law_twice"] ["_law_box_here", "_law_many"] (defScope s_l_take) := ⟨rfl, rfl, rfl, by decide +kernel, rfl, by decide +kernel, by decide +kernel⟩
abbrev s_l_spot : Stmt := topS 17
theorem sc_l_spot : FnScope ["_law_box_here", "_law_wide", "_law_way", "_law_first", "_law_left", "_law_below"] ["_law_box_here", "_law_wide"] (defScope s_l_spot) := ⟨rfl, rfl, rfl, by decide +kernel, rfl, by decide +kernel, by decide +kernel⟩
abbrev s_l_same : Stmt := topS 18
theorem sc_l_same : FnScope ["_law_found", "_law_due", "_law_one", "_law_two"] ["_law_found", "_law_due"] (defScope s_l_same) := ⟨rfl, rfl, rfl, by decide +kernel, rfl, by decide +kernel, by decide +kernel⟩
abbrev s_l_seen : Stmt := topS 19
theorem sc_l_seen : FnScope ["_law_place"] ["_law_place"] (defScope s_l_seen) := ⟨rfl, rfl, rfl, by decide +kernel, rfl, by decide +kernel, by decide +kernel⟩
abbrev s_l_ways : Stmt := topS 20
theorem sc_l_ways : FnScope ["_law_spot_here", "_law_low", "_law_high", "_law_left", "_law_right_here", "_law_some"] ["_law_spot_here"] (defScope s_l_ways) := ⟨rfl, rfl, rfl, by decide +kernel, rfl, by decide +kernel, by decide +kernel⟩
abbrev s_l_right : Stmt := topS 21
theorem sc_l_right : FnScope ["_law_spot_here", "_law_made", "_law_one", "_law_told"] ["_law_spot_here"] (defScope s_l_right) := ⟨rfl, rfl, rfl, by decide +kernel, rfl, by decide +kernel, by decide +kernel⟩
abbrev s_law : Stmt := topS 22
theorem sc_law : FnScope ["_law_script", "_law_k", "_law_box_here", "_law_wide"] ["_law_script"] (defScope s_law) := ⟨rfl, rfl, rfl, by decide +kernel, rfl, by decide +kernel, by decide +kernel⟩

/-! ### calls by a bundle -/
/-- the def x of the text, as it is called by place: its promise sp, level k -/
structure Cal (P : Program) (w : World) (K : PySem.W.Frag) (mg : Str → Option Value) (base : Heap) (k : Nat) (x : Str) (ps : List Str) (sp : Sp) : Prop where
  ex : ∃ f fd, FnOk P w K mg base CX0 k f fd ps sp ∧ mg x = some (.ref f) ∧ PySem.W.keepIn K (.ref f) = true ∧ Binds K fd ps []
/-- the same by names alone -/
structure CalK (P : Program) (w : World) (K : PySem.W.Frag) (mg : Str → Option Value) (base : Heap) (k : Nat) (x : Str) (ks ps : List Str) (gV : List V → List V → List V) (sp : Sp) : Prop where
  ex : ∃ f fd g, FnOk P w K mg base CX0 k f fd ps sp ∧ mg x = some (.ref f) ∧ PySem.W.keepIn K (.ref f) = true ∧ KBn K fd ps 0 ks g gV
section
variable {X : Cx} {k j : Nat} {ps ks : List Str} {sp : Sp} {x : Str} {p pos : Pos} {e : Expr} {es : List Expr} {kws : List Keyword} {t tk : TA} {gV : List V → List V → List V}
theorem pe_c (C : Cal X.prog X.w X.K X.mg X.base k x ps sp) (hr : Room j X.A) (hk : k ≤ j) (hg : Gl X x) (ha : PA X (e :: es) t) (hdb : (x == ("__debug__" : Str)) = false := by decide)
    (he : starEach (e :: es) X.env = (false, eval e X.env) :: starEach es X.env := by rfl) (hpl : (backTo pos (starEach es X.env)).any (·.1) = false := by rfl) :
    PE X (.Call (.Name x p) (e :: es) [] pos) (tCall sp [] E0 t) := by
  obtain ⟨f, fd, F, hm, hkp, hb⟩ := C.ex
  exact pe_call F (hr.mono hk) hg hm hkp hb .nil pass0 ha hdb he hpl
theorem pe_ck0 (C : CalK X.prog X.w X.K X.mg X.base k x ks ps gV sp) (hr : Room j X.A) (hk : k ≤ j) (hg : Gl X x) (hkw : PK X kws tk)
    (hall : (backToKw pos (keywordEach kws X.env)).all (·.1.isSome) = true := by rfl) (hks : (backToKw pos (keywordEach kws X.env)).filterMap (·.1) = ks := by rfl) (hdb : (x == ("__debug__" : Str)) = false := by decide)
    (hpl : ((backTo pos (starEach [] X.env)).any (·.1) || (backToKw pos (keywordEach kws X.env)).any (·.1.isNone)) = false := by rfl) :
    PE X (.Call (.Name x p) [] kws pos) (tCallN 0 ks.length sp gV E0 tNil tk) := by
  obtain ⟨f, fd, g, F, hm, hkp, hb⟩ := C.ex
  refine ⟨fun pins s σ H Q I h => ?_⟩
  refine wpAny_Call_Name_kw (ld_glob I hg hm ?_ hdb)
  refine PySem.W.callWith_KW0 (h₀ := X.base) I.ok.mod.kin hkp hall ?_ hpl
  refine thn (hkw.run pos pins s σ H _ I h) fun ws s2 ⟨zs, H2, I2, rz, l1, l2, q2⟩ => ⟨I2.kIn, ?_⟩
  rw [hks]
  exact run_fnN (us := []) (vs := []) F (hr.mono hk) hb pass0 I2 .nil rz rfl l2 q2
end
def sw2 {α : Type} : List α → List α
  | [a, b] => [b, a]
  | l => l
theorem vals_sw2 : ∀ {zs : List V} {ws : List Value}, Vals zs ws → Vals (sw2 zs) (sw2 ws)
  | _, _, .nil => .nil
  | _, _, .cons a .nil => .cons a .nil
  | _, _, .cons a (.cons b .nil) => .cons b (.cons a .nil)
  | _, _, .cons a (.cons b (.cons c d)) => .cons a (.cons b (.cons c d))

/-! ### heaps -/
theorem same_upd {H : Hp} {p : Addr} {o : HO} (h : H p = none) : Same H (upd H p o) := fun b x e => by
  rw [upd_ne (ne_of_none e h)]
  exact e
theorem sameT {K : PySem.W.Frag} {H H' : Hp} {a : Addr} {xs : List V} (e : Same H H') (h : SqT K H a xs) : SqT K H' a xs := by
  rcases h with (h | ⟨o, h⟩) | h
  · exact .inl (.inl (e _ _ h))
  · exact .inl (.inr ⟨o, e _ _ h⟩)
  · exact .inr h
/-- all but what stands at b is as it was -/
def But (b : Addr) (H H' : Hp) : Prop := ∀ a o, a ≠ b → H a = some o → H' a = some o
theorem But.trans {b : Addr} {H H1 H2 : Hp} (u : But b H H1) (v : But b H1 H2) : But b H H2 := fun a o n h => v a o n (u a o n h)
theorem Same.but {b : Addr} {H H' : Hp} (u : Same H H') : But b H H' := fun a o _ h => u a o h
theorem But.upd {b : Addr} {H : Hp} {o : HO} : But b H (upd H b o) := fun a x n h => by
  rw [upd_ne n]
  exact h
theorem sqT {K : PySem.W.Frag} {H : Hp} {a : Addr} {xs : List V} (h : H a = some (.tup xs)) : SqT K H a xs := .inl (.inl h)
theorem sqL {K : PySem.W.Frag} {H : Hp} {a : Addr} {xs : List V} (h : H a = some (.lst xs)) : SqL K H a xs := .inl (.inl h)
theorem line_ge {n : Nat} (h : n ≤ 100000) : n ≤ sizeLine := Nat.le_trans h (by decide)
theorem line_gt {n : Nat} (h : n ≤ 100000) : n < sizeLine := Nat.lt_of_le_of_lt h (by decide)

/-! ### data at any depth stays where the heap only grows -/
mutual
theorem dp_same {K : PySem.W.Frag} {H H' : Hp} (e : Same H H') : ∀ (d : PyData) (v : V), Dp K H v d → Dp K H' v d
  | .none, _, h => by cases h; exact .non
  | .bool b, _, h => by cases h; exact .bl b
  | .int i, _, h => by cases h; exact .int i
  | .str x, _, h => by cases h; exact .str x
  | .list ds, _, h => by cases h with | lst hs ha => exact .lst (e.seq hs) (dpAll_same e ds _ ha)
  | .tuple ds, _, h => by cases h with | tup hs ha => exact .tup (sameT e hs) (dpAll_same e ds _ ha)
  | .dict _, _, h => by cases h
theorem dpAll_same {K : PySem.W.Frag} {H H' : Hp} (e : Same H H') : ∀ (ds : List PyData) (vs : List V), DpAll K H vs ds → DpAll K H' vs ds
  | [], _, h => by cases h; exact .nil
  | d :: ds, _, h => by cases h with | cons a b => exact .cons (dp_same e d _ a) (dpAll_same e ds _ b)
end
theorem dp_ints {K : PySem.W.Frag} {H : Hp} : ∀ ns : List Int, DpAll K H (ns.map V.int) (ns.map PyData.int)
  | [] => .nil
  | n :: ns => .cons (.int n) (dp_ints ns)

/-! ### the box of a law: three numbers, the third how often it was asked -/
def BoxL (n : Nat) (xs : List V) : Prop := ∃ x y c : Int, xs = [.int x, .int y, .int c] ∧ 0 ≤ y ∧ y < 2 ^ 62 ∧ 0 ≤ c ∧ c ≤ (n : Int)
def Bx (n : Nat) (b : Addr) (H : Hp) : Prop := ∃ xs, H b = some (.lst xs) ∧ BoxL n xs
theorem Bx.mono {n m : Nat} {b : Addr} {H : Hp} (h : Bx n b H) (l : n ≤ m) : Bx m b H := by
  obtain ⟨xs, e, x, y, c, r, h1, h2, h3, h4⟩ := h
  exact ⟨xs, e, x, y, c, r, h1, h2, h3, by omega⟩
theorem Bx.same {n : Nat} {b : Addr} {H H' : Hp} (h : Bx n b H) (s : Same H H') : Bx n b H' := by
  obtain ⟨xs, e, r⟩ := h
  exact ⟨xs, s _ _ e, r⟩
theorem Bx.ne {n : Nat} {b p : Addr} {H : Hp} (h : Bx n b H) (e : H p = none) : p ≠ b := by
  obtain ⟨xs, z, _⟩ := h
  exact (ne_of_none z e).symm
theorem Bx.new {n : Nat} {b p : Addr} {H : Hp} {o : HO} (h : Bx n b H) (e : H p = none) : Bx n b (upd H p o) := h.same (same_upd e)
/-- behind some asks of the box: it stands with at most n, all else as it was -/
structure Aft (b : Addr) (n : Nat) (H H' : Hp) : Prop where
  box : Bx n b H'
  but : But b H H'
theorem Aft.trans {b : Addr} {n m : Nat} {H H1 H2 : Hp} (u : Aft b n H H1) (v : Aft b m H1 H2) : Aft b m H H2 := ⟨v.box, u.but.trans v.but⟩
theorem Aft.same {b : Addr} {n : Nat} {H H1 H2 : Hp} (u : Aft b n H H1) (v : Same H1 H2) : Aft b n H H2 := ⟨u.box.same v, u.but.trans (Same.but v)⟩
theorem Aft.new {b p : Addr} {n : Nat} {H H1 : Hp} {o : HO} (u : Aft b n H H1) (v : H1 p = none) : Aft b n H (upd H1 p o) := u.same (same_upd v)
theorem Aft.mono {b : Addr} {n m : Nat} {H H1 : Hp} (u : Aft b n H H1) (l : n ≤ m) : Aft b m H H1 := ⟨u.box.mono l, u.but⟩
theorem Aft.get {b a : Addr} {n : Nat} {H H' : Hp} {o : HO} (u : Aft b n H H') (h : H a = some o) (ne : a ≠ b) : H' a = some o := u.but a o ne h
theorem Aft.free {b p : Addr} {n m : Nat} {H H' : Hp} (u : Aft b n H H') (h : H' p = none) (hb : Bx m b H) : H p = none := by
  cases q : H p with
  | none => rfl
  | some o =>
    by_cases e : p = b
    · subst e
      obtain ⟨xs, z, _⟩ := u.box
      rw [h] at z
      cases z
    · rw [u.but p o e q] at h
      cases h

/-! ### places -/
/-- columns that are so, of one line or of several -/
def Cols (one : Bool) (bg en : V) : Prop := (one = true ∧ bg = .non ∧ en = .non) ∨ ∃ b e : Int, bg = .int b ∧ en = .int e ∧ 0 ≤ b ∧ b ≤ 10000 ∧ (one = true → b ≤ e) ∧ 0 ≤ e ∧ e ≤ 10000
/-- arguments of which a Place can be made -/
def Good (ln la bg en : V) : Prop := (ln = .non ∧ la = .non ∧ bg = .non ∧ en = .non) ∨ ∃ l : Int, ln = .int l ∧ 1 ≤ l ∧ l ≤ 1000000 ∧ ((la = .non ∧ Cols true bg en) ∨ ∃ m : Int, la = .int m ∧ l ≤ m ∧ m ≤ l + 99 ∧ m ≤ 1000000 ∧ Cols (decide (m = l)) bg en)
/-- what last comes to -/
def lastOf (ln la : V) : V := if la = .non then ln else la
def fsOf (ln la bg en : V) : List (Str × V) := [("line", ln), ("last", lastOf ln la), ("begin", bg), ("end", en)]
def spNum : Sp := fun vs H Q _ => ∃ (t : V) (lo hi : Int), vs = [t, .int lo, .int hi] ∧ ((∃ i : Int, t = .int i ∧ Q (.bl (decide (lo ≤ i ∧ i ≤ hi))) H) ∨ (t = .non ∧ Q (.bl false) H))
def spCols : Sp := fun vs H Q _ => ∃ (bg en : V) (one : Bool), vs = [bg, en, .bl one] ∧ Cols one bg en ∧ Q .non H
def spNow : Sp := fun vs H Q _ => vs = [.non, .non, .non] ∧ ∀ H', Same H H' → Q .non H'
def spPart : Sp := fun vs H Q _ => ∃ ln la bg en : V, vs = [ln, la, bg, en] ∧ Good ln la bg en ∧ ∀ H', Same H H' → Q .non H'
section
variable {P : Program} {w : World} {K : PySem.W.Frag} {mg : Str → Option Value} {base : Heap}
def spWhole : Sp := fun vs H Q _ => ∃ t : V, vs = [t] ∧ ((∃ i : Int, t = .int i ∧ Q (.bl true) H) ∨ (t = .non ∧ Q (.bl false) H))
theorem ok_is_whole {f : Addr} {fd : FuncData} (F : Fun K "is_whole" "is_whole" s_is_whole f fd) (z_isinstance : mg "isinstance" = none) (z_int : mg "int" = none) (z_bool : mg "bool" = none) : FnOk P w K mg base CX0 1 f fd ["thing"] spWhole := by
  refine F.ok sc_is_whole (fun vs H Q E h => ?_) (fun cdv A outer s H vs Q E hr h => ?_)
  · obtain ⟨t, rfl, _⟩ := h
    rfl
  · obtain ⟨t, rfl, h⟩ := h
    refine ⟨_, (pss_one (ps_ret (pe_and (pe_callB (call_isi) (by rfl) z_isinstance (by decide +kernel) (pa_cons (pv 0) (pa_cons (pe_bltn (v := .ty "int") (by rfl) z_int (by decide +kernel) rfl) pa_nil))) (pe_one (pe_not (pe_callB (call_isi) (by rfl) z_isinstance (by decide +kernel) (pa_cons (pv 0) (pa_cons (pe_bltn (v := .ty "bool") (by rfl) z_bool (by decide +kernel) rfl) pa_nil)))))))), ?_⟩
    rcases h with ⟨i, rfl, q⟩ | ⟨rfl, q⟩
    · refine ⟨_, rfl, _, _, _, _, _, rfl, .ty _, .base (.int i), kit_ty (by decide +kernel : kitB "int" "int" = some true), _, rfl, iteT ?_⟩
      exact ⟨_, rfl, _, _, _, _, _, rfl, .ty _, .base (.int i), kit_ty (by decide +kernel : kitB "int" "bool" = some false), _, rfl, q⟩
    · exact ⟨_, rfl, _, _, _, _, _, rfl, .ty _, .base .non, kit_ty (by decide +kernel : kitB "NoneType" "int" = some false), _, rfl, iteF q⟩
theorem ok_is_number {f : Addr} {fd : FuncData} (F : Fun K "is_number" "is_number" s_is_number f fd) (c_is_whole : Cal P w K mg base 1 "is_whole" ["thing"] spWhole) : FnOk P w K mg base CX0 2 f fd ["thing", "low", "high"] spNum := by
  refine F.ok sc_is_number (fun vs H Q E h => ?_) (fun cdv A outer s H vs Q E hr h => ?_)
  · obtain ⟨t, lo, hi, rfl, _⟩ := h
    rfl
  · obtain ⟨t, lo, hi, rfl, h⟩ := h
    refine ⟨_, (pss_one (ps_ret (pe_and (pe_c c_is_whole hr (by first | decide | exact Nat.le_refl _) (by rfl) (pa_cons (pv 0) pa_nil)) (pe_one (pe_chain (op_le) (op_le) (pv 1) (pv 0) (pv 2)))))), ?_⟩
    rcases h with ⟨i, rfl, q⟩ | ⟨rfl, q⟩
    · refine ⟨_, rfl, _, rfl, .inl ⟨i, rfl, ?_⟩⟩
      refine ⟨_, rfl, iteT ?_⟩
      refine ⟨_, rfl, _, rfl, _, _, rfl, rfl, _, rfl, ite2 (fun c => ?_) (fun c => ?_)⟩
      · have c' : lo ≤ i := of_decide_eq_true c
        refine ⟨_, rfl, _, _, rfl, rfl, ?_⟩
        have e : decide (lo ≤ i ∧ i ≤ hi) = decide (i ≤ hi) := by
          by_cases h : i ≤ hi
          · rw [decide_eq_true h, decide_eq_true ⟨c', h⟩]
          · rw [decide_eq_false h, decide_eq_false fun z => h z.2]
        rw [e] at q
        exact q
      · have c' : ¬ lo ≤ i := fun h => c (decide_eq_true h)
        rw [decide_eq_false fun z => c' z.1] at q
        exact q
    · exact ⟨_, rfl, _, rfl, .inr ⟨rfl, _, rfl, iteF q⟩⟩
theorem ok_wrong_columns {f : Addr} {fd : FuncData} (F : Fun K "wrong_columns" "wrong_columns" s_wrong_columns f fd) {tC : Nat} (g_LAST_COLUMN : mg "LAST_COLUMN" = some (.int 10000 tC)) (c_is_number : Cal P w K mg base 2 "is_number" ["thing", "low", "high"] spNum) : FnOk P w K mg base CX0 3 f fd ["begin", "end", "one_line"] spCols := by
  refine F.ok sc_wrong_columns (fun vs H Q E h => ?_) (fun cdv A outer s H vs Q E hr h => ?_)
  · obtain ⟨bg, en, one, rfl, _⟩ := h
    rfl
  · obtain ⟨bg, en, one, rfl, hC, q⟩ := h
    refine ⟨_, (pss_cons (ps_if (PW.pt (pw_and (pt_cmpR (op_isN) (pv 0) (pe_non) (nomark _)) (pw_and1 (pt_val (pv 2))))) (pss_one (ps_ret (pe_ifExp (pt_cmpR (op_isN) (pv 1) (pe_non) (nomark _)) (pe_non) (pe_str)))) pss_nil)
      (pss_cons (ps_if (pt_not (pt_val (pe_c c_is_number hr (by first | decide | exact Nat.le_refl _) (by rfl) (pa_cons (pv 0) (pa_cons (pe_int) (pa_cons (pe_glob (v := .int 10000) (by rfl) g_LAST_COLUMN ⟨_, rfl⟩) pa_nil)))))) (pss_one (ps_ret (pe_str))) pss_nil)
      (pss_cons (ps_set (i := 3) sc_wrong_columns.nd rfl (Or.inl rfl) (pe_ifExp (pt_val (pv 2)) (pv 0) (pe_int)))
      (pss_one (ps_ret (pe_ifExp (pt_val (pe_c c_is_number hr (by first | decide | exact Nat.le_refl _) (by rfl) (pa_cons (pv 1) (pa_cons (pv 3) (pa_cons (pe_glob (v := .int 10000) (by rfl) g_LAST_COLUMN ⟨_, rfl⟩) pa_nil))))) (pe_non) (pe_str))))))), ?_⟩
    rcases hC with ⟨rfl, rfl, rfl⟩ | ⟨b, e, rfl, rfl, b0, b1, be, e0, e1⟩
    · refine ⟨_, rfl, rfl, _, rfl, iteT ⟨_, rfl, _, rfl, iteT ?_⟩⟩
      exact ⟨_, rfl, rfl, _, rfl, iteT q⟩
    · refine ⟨_, rfl, rfl, _, rfl, iteF (iteF ?_)⟩
      refine ⟨_, rfl, _, _, _, rfl, .inl ⟨b, rfl, _, rfl, ?_⟩⟩
      rw [decide_eq_true (show (0 : Int) ≤ b ∧ b ≤ 10000 from ⟨b0, b1⟩)]
      refine iteF ?_
      cases one with
      | true =>
        refine ⟨_, rfl, _, rfl, iteT ⟨_, rfl, ?_⟩⟩
        refine ⟨_, rfl, _, rfl, _, _, _, rfl, .inl ⟨e, rfl, _, rfl, ?_⟩⟩
        rw [decide_eq_true (show b ≤ e ∧ e ≤ 10000 from ⟨be rfl, e1⟩)]
        exact iteT q
      | false =>
        refine ⟨_, rfl, _, rfl, iteF ?_⟩
        refine ⟨_, rfl, _, rfl, _, _, _, rfl, .inl ⟨e, rfl, _, rfl, ?_⟩⟩
        rw [decide_eq_true (show (0 : Int) ≤ e ∧ e ≤ 10000 from ⟨e0, e1⟩)]
        exact iteT q
theorem ok_wrong_of_nowhere {f : Addr} {fd : FuncData} (F : Fun K "wrong_of_nowhere" "wrong_of_nowhere" s_wrong_of_nowhere f fd) : FnOk P w K mg base CX0 2 f fd ["last", "begin", "end"] spNow := by
  refine F.ok sc_wrong_of_nowhere (fun vs H Q E h => ?_) (fun cdv A outer s H vs Q E hr h => ?_)
  · obtain ⟨rfl, _⟩ := h
    rfl
  · obtain ⟨rfl, q⟩ := h
    refine ⟨_, (pss_cons (ps_for PassesOwn.never rfl (pi_tup (pe_tup (pa_cons (pe_tup (pa_cons (pe_str) (pa_cons (pv 0) pa_nil))) (pa_cons (pe_tup (pa_cons (pe_str) (pa_cons (pv 1) pa_nil))) (pa_cons (pe_tup (pa_cons (pe_str) (pa_cons (pv 2) pa_nil))) pa_nil))))) (pg_tup rfl (pgs_cons (pg_name (i := 3) sc_wrong_of_nowhere.nd rfl (Or.inl rfl)) (pgs_cons (pg_name (i := 4) sc_wrong_of_nowhere.nd rfl (Or.inl rfl)) pgs_nil))) (pss_one (ps_if (pt_cmpR (op_notN) (pv 4) (pe_non) (nomark _)) (pss_one (ps_ret (pv 3))) pss_nil)))
      (pss_one (ps_ret (pe_non)))), ?_⟩
    refine ⟨_, rfl, (by show 2 ≤ sizeLine; decide), fun t1 n1 => ⟨_, rfl, (by show 2 ≤ sizeLine; decide), fun t2 n2 => ⟨_, rfl, (by show 2 ≤ sizeLine; decide), fun t3 n3 => ⟨(by show 3 ≤ sizeLine; decide), fun tt ntt => ?_⟩⟩⟩⟩
    have s1 := same_upd (o := .tup [.str "last", .non]) n1
    have s2 := same_upd (o := .tup [.str "begin", .non]) n2
    have s3 := same_upd (o := .tup [.str "end", .non]) n3
    have s4 := same_upd (o := .tup [.ref t1, .ref t2, .ref t3]) ntt
    have e1 := ((s2.trans s3).trans s4) _ _ (upd_same : upd H t1 (.tup [.str "last", .non]) t1 = _)
    have e2 := (s3.trans s4) _ _ (upd_same : upd (upd H t1 (.tup [.str "last", .non])) t2 (.tup [.str "begin", .non]) t2 = _)
    have e3 := s4 _ _ (upd_same : upd (upd (upd H t1 (.tup [.str "last", .non])) t2 (.tup [.str "begin", .non])) t3 (.tup [.str "end", .non]) t3 = _)
    have e4 : upd (upd (upd (upd H t1 (.tup [.str "last", .non])) t2 (.tup [.str "begin", .non])) t3 (.tup [.str "end", .non])) tt (.tup [.ref t1, .ref t2, .ref t3]) tt = some (.tup [.ref t1, .ref t2, .ref t3]) := upd_same
    have S := ((s1.trans s2).trans s3).trans s4
    generalize upd (upd (upd (upd H t1 (.tup [.str "last", .non])) t2 (.tup [.str "begin", .non])) t3 (.tup [.str "end", .non])) tt (.tup [.ref t1, .ref t2, .ref t3]) = H4 at e1 e2 e3 e4 S
    refine ⟨tt, rfl, ⟨_, sqT e4⟩, ?_⟩
    refine for_tup (K := K) (a := tt) (xs := [.ref t1, .ref t2, .ref t3]) (fun i σ H' => H' = H4 ∧ ∃ y3 y4, σ = [some .non, some .non, some .non, y3, y4]) ⟨rfl, none, none, rfl⟩ (fun i σ H' _ h => by rw [h.1]; exact sqT e4) ?_ ?_
    · rintro i x σ H' hx ⟨rfl, y3, y4, rfl⟩
      have hx' : ∃ (t : Addr) (z : Str), x = .ref t ∧ H' t = some (.tup [.str z, .non]) := by
        match i, hx with
        | 0, hx => cases hx; exact ⟨t1, _, rfl, e1⟩
        | 1, hx => cases hx; exact ⟨t2, _, rfl, e2⟩
        | 2, hx => cases hx; exact ⟨t3, _, rfl, e3⟩
      obtain ⟨t, z, rfl, et⟩ := hx'
      exact ⟨t, _, rfl, sqT et, rfl, _, _, rfl, _, _, rfl, rfl, _, rfl, rfl, _, rfl, iteF ⟨rfl, _, _, rfl⟩⟩
    · rintro σ H' ⟨rfl, y3, y4, rfl⟩
      exact q _ S
theorem ok_wrong_part {f : Addr} {fd : FuncData} (F : Fun K "wrong_part" "wrong_part" s_wrong_part f fd) {tL tM : Nat} (g_LAST_LINE : mg "LAST_LINE" = some (.int 1000000 tL)) (g_MOST_LINES_BEHIND : mg "MOST_LINES_BEHIND" = some (.int 99 tM)) (z_min : mg "min" = none)
    (c_is_number : Cal P w K mg base 2 "is_number" ["thing", "low", "high"] spNum) (c_wrong_columns : Cal P w K mg base 3 "wrong_columns" ["begin", "end", "one_line"] spCols) (c_wrong_of_nowhere : Cal P w K mg base 2 "wrong_of_nowhere" ["last", "begin", "end"] spNow) : FnOk P w K mg base CX0 4 f fd ["line", "last", "begin", "end"] spPart := by
  refine F.ok sc_wrong_part (fun vs H Q E h => ?_) (fun cdv A outer s H vs Q E hr h => ?_)
  · obtain ⟨ln, la, bg, en, rfl, _⟩ := h
    rfl
  · obtain ⟨ln, la, bg, en, rfl, hG, q⟩ := h
    refine ⟨_, (pss_cons (ps_if (pt_cmpR (op_isN) (pv 0) (pe_non) (nomark _)) (pss_one (ps_ret (pe_c c_wrong_of_nowhere hr (by first | decide | exact Nat.le_refl _) (by rfl) (pa_cons (pv 1) (pa_cons (pv 2) (pa_cons (pv 3) pa_nil)))))) pss_nil)
      (pss_cons (ps_if (pt_not (pt_val (pe_c c_is_number hr (by first | decide | exact Nat.le_refl _) (by rfl) (pa_cons (pv 0) (pa_cons (pe_int) (pa_cons (pe_glob (v := .int 1000000) (by rfl) g_LAST_LINE ⟨_, rfl⟩) pa_nil)))))) (pss_one (ps_ret (pe_str))) pss_nil)
      (pss_cons (ps_if (pt_cmpR (op_isN) (pv 1) (pe_non) (nomark _)) (pss_one (ps_ret (pe_c c_wrong_columns hr (by first | decide | exact Nat.le_refl _) (by rfl) (pa_cons (pv 2) (pa_cons (pv 3) (pa_cons (pe_bl) pa_nil)))))) pss_nil)
      (pss_cons (ps_if (pt_not (pt_val (pe_c c_is_number hr (by first | decide | exact Nat.le_refl _) (by rfl) (pa_cons (pv 1) (pa_cons (pv 0) (pa_cons (pe_callB (call_min2 rfl) (by rfl) z_min (by decide +kernel) (pa_cons (pe_op op_add (pv 0) (pe_glob (v := .int 99) (by rfl) g_MOST_LINES_BEHIND ⟨_, rfl⟩)) (pa_cons (pe_glob (v := .int 1000000) (by rfl) g_LAST_LINE ⟨_, rfl⟩) pa_nil))) pa_nil)))))) (pss_one (ps_ret (pe_str))) pss_nil)
      (pss_one (ps_ret (pe_c c_wrong_columns hr (by first | decide | exact Nat.le_refl _) (by rfl) (pa_cons (pv 2) (pa_cons (pv 3) (pa_cons (pe_cmpR (op_eq) (pv 1) (pv 0) (nomark _)) pa_nil)))))))))), ?_⟩
    rcases hG with ⟨rfl, rfl, rfl, rfl⟩ | ⟨l, rfl, l1, l2, hG⟩
    · exact ⟨_, rfl, rfl, _, rfl, iteT ⟨_, rfl, _, rfl, _, rfl, rfl, q⟩⟩
    · refine ⟨_, rfl, rfl, _, rfl, iteF ?_⟩
      refine ⟨_, rfl, _, _, _, rfl, .inl ⟨l, rfl, _, rfl, ?_⟩⟩
      rw [decide_eq_true (show (1 : Int) ≤ l ∧ l ≤ 1000000 from ⟨l1, l2⟩)]
      refine iteF ?_
      rcases hG with ⟨rfl, hC⟩ | ⟨m, rfl, m1, m2, m3, hC⟩
      · exact ⟨_, rfl, rfl, _, rfl, iteT ⟨_, rfl, _, rfl, _, _, true, rfl, hC, q _ (Same.refl _)⟩⟩
      · refine ⟨_, rfl, rfl, _, rfl, iteF ?_⟩
        refine ⟨_, rfl, _, rfl, _, rfl, _, _, rfl, rfl, _, _, rfl, _, _, _, rfl, .inl ⟨m, rfl, _, rfl, ?_⟩⟩
        rw [decide_eq_true (show l ≤ m ∧ m ≤ (if (1000000 : Int) < l + 99 then 1000000 else l + 99) by
          refine ⟨m1, ?_⟩
          split <;> omega)]
        refine iteF ?_
        refine ⟨_, rfl, _, rfl, _, rfl, _, rfl, rfl, _, _, decide (m = l), ?_, hC, q _ (Same.refl _)⟩
        show [bg, en, V.bl (decide (V.int m = V.int l))] = [bg, en, V.bl (decide (m = l))]
        rw [show decide (V.int m = V.int l) = decide (m = l) by
          by_cases h : m = l
          · rw [h, decide_eq_true rfl, decide_eq_true rfl]
          · rw [decide_eq_false h, decide_eq_false fun z => h (V.int.inj z)]]
end
end My

namespace My
open PySem PySem.Spec PyProof.Rows L2
/-- what the walk asks of the class Place, at C -/
structure PlT (K : PySem.W.Frag) (mg : Str → Option Value) (C : Addr) : Prop where
  cl : Cls K C
  nLine : NoAttr K C "line"
  nLast : NoAttr K C "last"
  nBegin : NoAttr K C "begin"
  nEnd : NoAttr K C "end"
def spInit (C : Addr) : Sp := fun vs H Q _ => ∃ (x dx : Addr) (ln la bg en : V), vs = [.ref x, ln, la, bg, en] ∧ H x = some (.ins C dx []) ∧ Good ln la bg en ∧ ∀ H', (∀ a o, a ≠ x → H a = some o → H' a = some o) → H' x = some (.ins C dx (fsOf ln la bg en)) → Q .non H'
section
variable {P : Program} {w : World} {K : PySem.W.Frag} {mg : Str → Option Value} {base : Heap}
abbrev FInit (K : PySem.W.Frag) (f : Addr) (fd : FuncData) : Prop := FunD K "__init__" "Place.__init__" (defArgs s_Place_init) (defBody s_Place_init) (defScope s_Place_init) [.non, .non] [("begin", .non), ("end", .non)] f fd
theorem ok_Place_init {f C : Addr} {fd : FuncData} (F : FInit K f fd) (T : PlT K mg C) (c_wrong_part : Cal P w K mg base 4 "wrong_part" ["line", "last", "begin", "end"] spPart) : FnOk P w K mg base CX0 5 f fd ["self", "line", "last", "begin", "end"] (spInit C) := by
  refine F.ok sc_Place_init (fun vs H Q E h => ?_) (fun cdv A outer s H vs Q E hr h => ?_)
  · obtain ⟨x, dx, ln, la, bg, en, rfl, _⟩ := h
    rfl
  · obtain ⟨x, dx, ln, la, bg, en, rfl, hx, hG, q⟩ := h
    refine ⟨_, (pss_cons (ps_set (i := 5) sc_Place_init.nd rfl (Or.inl rfl) (pe_c c_wrong_part hr (by first | decide | exact Nat.le_refl _) (by rfl) (pa_cons (pv 1) (pa_cons (pv 2) (pa_cons (pv 3) (pa_cons (pv 4) pa_nil))))))
      (pss_cons (ps_if (pt_cmpR (op_notN) (pv 5) (pe_non) (nomark _)) (pss_one (ps_never)) pss_nil)
      (pss_cons (ps_fld (pv 0) (pv 1) rfl)
      (pss_cons (ps_fld (pv 0) (pe_ifExp (pt_cmpR (op_isN) (pv 2) (pe_non) (nomark _)) (pv 1) (pv 2)) rfl)
      (pss_cons (ps_fld (pv 0) (pv 3) rfl)
      (pss_one (ps_fld (pv 0) (pv 4) rfl))))))), ?_⟩
    refine ⟨_, rfl, _, rfl, _, rfl, _, rfl, ln, la, bg, en, rfl, hG, fun H1 s1 => ?_⟩
    have hx1 := s1 _ _ hx
    refine ⟨_, rfl, rfl, _, rfl, iteF ?_⟩
    refine ⟨_, rfl, _, rfl, x, C, dx, _, rfl, hx1, T.cl, T.nLine, by decide, ?_⟩
    have p1 : putF "line" ln [] = ([("line", ln)] : List (Str × V)) := rfl
    have p2 : ∀ y : V, putF "last" y [("line", ln)] = ([("line", ln), ("last", y)] : List (Str × V)) := fun y => by
      unfold putF
      rw [if_neg (by decide)]
      rfl
    have p3 : ∀ y : V, putF "begin" bg [("line", ln), ("last", y)] = ([("line", ln), ("last", y), ("begin", bg)] : List (Str × V)) := fun y => by
      unfold putF
      rw [if_neg (by decide)]
      unfold putF
      rw [if_neg (by decide)]
      rfl
    have p4 : ∀ y : V, putF "end" en [("line", ln), ("last", y), ("begin", bg)] = ([("line", ln), ("last", y), ("begin", bg), ("end", en)] : List (Str × V)) := fun y => by
      unfold putF
      rw [if_neg (by decide)]
      unfold putF
      rw [if_neg (by decide)]
      unfold putF
      rw [if_neg (by decide)]
      rfl
    have fin : ∀ y : V, y = lastOf ln la → Q .non (upd (upd (upd (upd H1 x (.ins C dx [("line", ln)])) x (.ins C dx [("line", ln), ("last", y)])) x (.ins C dx [("line", ln), ("last", y), ("begin", bg)])) x (.ins C dx [("line", ln), ("last", y), ("begin", bg), ("end", en)])) := fun y ey => by
      subst ey
      refine q _ (fun a o na ea => ?_) upd_same
      rw [upd_ne na, upd_ne na, upd_ne na, upd_ne na]
      exact s1 _ _ ea
    rw [p1]
    have hx2 : upd H1 x (.ins C dx [("line", ln)]) x = some (.ins C dx [("line", ln)]) := upd_same
    refine ⟨_, rfl, rfl, _, rfl, ite2 (fun c => ?_) (fun c => ?_)⟩
    · have c' : la = .non := of_decide_eq_true c
      refine ⟨_, rfl, _, rfl, x, C, dx, _, rfl, hx2, T.cl, T.nLast, (by show 1 < 1000; decide), ?_⟩
      rw [p2]
      refine ⟨_, rfl, _, rfl, x, C, dx, _, rfl, upd_same, T.cl, T.nBegin, (by show 2 < 1000; decide), ?_⟩
      rw [p3]
      refine ⟨_, rfl, _, rfl, x, C, dx, _, rfl, upd_same, T.cl, T.nEnd, (by show 3 < 1000; decide), ?_⟩
      rw [p4]
      exact fin _ (by unfold lastOf; rw [if_pos c'])
    · have c' : la ≠ .non := fun e => c (decide_eq_true e)
      refine ⟨_, rfl, _, rfl, x, C, dx, _, rfl, hx2, T.cl, T.nLast, (by show 1 < 1000; decide), ?_⟩
      rw [p2]
      refine ⟨_, rfl, _, rfl, x, C, dx, _, rfl, upd_same, T.cl, T.nBegin, (by show 2 < 1000; decide), ?_⟩
      rw [p3]
      refine ⟨_, rfl, _, rfl, x, C, dx, _, rfl, upd_same, T.cl, T.nEnd, (by show 3 < 1000; decide), ?_⟩
      rw [p4]
      exact fin _ (by unfold lastOf; rw [if_neg c'])
end
end My

namespace My
open PySem PySem.Spec PyProof.Rows L2
/-! ### own str, repr, len, == -/
/-- the method m of the class at C keeps the promise sp -/
structure OwnM (P : Program) (w : World) (K : PySem.W.Frag) (mg : Str → Option Value) (base : Heap) (n : Nat) (C : Addr) (m : Str) (sp : Sp) : Prop where
  ex : ∃ f fd ps, FnOk P w K mg base CX0 n f fd ps sp ∧ PySem.W.findIn K (.ref C) m = some (some (.ref f)) ∧ PySem.W.isFn K (.ref f) = true ∧ PySem.W.keepIn K (.ref f) = true ∧ Binds K fd ps []
section
variable {X : Cx}
theorem run_own {A : Around} {n : Nat} {f : Addr} {fd : FuncData} {ps : List Str} {sp : Sp} {pins : List (Addr × Obj)} {σ : L2.St} {H : Hp} {s : Shared} {vs : List V} {us : List Value} {Q : VK}
    (F : FnOk X.prog X.w X.K X.mg X.base CX0 n f fd ps sp) (hb : Binds X.K fd ps []) (I : Inv X pins σ H s) (hr : Room n A) (fr : A.frames = X.A.frames) (r : Vals vs us) (h : sp vs H Q E0) :
    wpAny (model X.prog X.w) A (call (.ref f) us) (EP X pins σ Q) X.xe s := by
  have e0 : Env0 X.prog X.w X.K X.mg X.base A X.stack s H := by
    have e := I.env0
    exact ⟨by rw [fr]; exact e.frames, e.mod, e.bs, e.bsz, e.funs, e.frf, e.hok, e.bare⟩
  have hl := F.len _ _ _ _ h
  have hbb : BindsTo s fd ⟨us, []⟩ (ps.zip us) := by
    have := hb s us I.kIn (by rw [List.append_nil, ← r.length]; exact hl)
    rw [List.append_nil] at this
    exact this
  refine wpAny_call (codeAny_mono (F.run A X.stack s H ⟨us, []⟩ us vs Q E0 hr e0 hbb r h) fun r s' hq => ?_)
  cases r with
  | error e => exact hq.elim
  | ok fl =>
    cases fl with
    | ret u => exact I.after hq
    | next => exact False.elim hq
    | brk => exact False.elim hq
    | cont => exact False.elim hq
def rOwnS (C : Addr) (sp : Sp) : List V → Hp → VK → Prop := fun xs H Q => ∃ a dx fs, xs = [.ref a] ∧ H a = some (.ins C dx fs) ∧ sp [.ref a] H (fun v H' => ∃ z : Str, v = .str z ∧ Q (.str z) H') E0
def rOwnL (C : Addr) (sp : Sp) : List V → Hp → VK → Prop := fun xs H Q => ∃ a dx fs, xs = [.ref a] ∧ H a = some (.ins C dx fs) ∧ sp [.ref a] H (fun v H' => ∃ i : Int, v = .int i ∧ (0 ≤ i ∧ i < 2 ^ 63) ∧ Q (.int i) H') E0
theorem call_strOwn {n : Nat} {C : Addr} {sp : Sp} (O : OwnM X.prog X.w X.K X.mg X.base n C "__str__" sp) (hr : Room (n + 2) X.A) : CallR X (.type "str") (rOwnS C sp) := by
  obtain ⟨f, fd, ps, F, hs, hf, _, hb⟩ := O.ex
  intro pins s σ H xs us Q I r h
  obtain ⟨a, dx, fs, rfl, ha, h⟩ := h
  obtain ⟨u, rfl, rx⟩ := vals1 r
  cases rx
  obtain ⟨mA, J, _⟩ := ins_get I.hok ha
  obtain ⟨od, J, _⟩ := J.look
  refine PySem.W.kso_call (by have := hr.un; show X.A.units + 1 + 1 < cLine; omega) I.kIn J hs hf (wpAny_mono (run_own (vs := [.ref a]) F hb I hr.in1.in1 rfl (.cons rfl .nil) h) (fun u s' hu => ?_) fun _ _ y => y)
  obtain ⟨v, H', I', rv, z, rfl, q⟩ := hu
  obtain ⟨t, rfl⟩ := rv
  exact ⟨.str z, H', I', ⟨t, rfl⟩, q⟩
theorem call_reprOwn {n : Nat} {C : Addr} {sp : Sp} (O : OwnM X.prog X.w X.K X.mg X.base n C "__repr__" sp) (hr : Room (n + 1) X.A) : CallR X (.builtin "repr") (rOwnS C sp) := by
  obtain ⟨f, fd, ps, F, hs, hf, _, hb⟩ := O.ex
  intro pins s σ H xs us Q I r h
  obtain ⟨a, dx, fs, rfl, ha, h⟩ := h
  obtain ⟨u, rfl, rx⟩ := vals1 r
  cases rx
  obtain ⟨mA, J, _⟩ := ins_get I.hok ha
  obtain ⟨od, J, _⟩ := J.look
  obtain ⟨m, hF⟩ := I.fr
  refine PySem.W.repr_K (by have := hr.un; show X.A.units + 1 < cLine; omega) hF I.ok.mod.kin J hs hf (wpAny_mono (run_own (vs := [.ref a]) F hb I hr.in1 rfl (.cons rfl .nil) h) (fun u s' hu => ?_) fun _ _ y => y)
  obtain ⟨v, H', I', rv, z, rfl, q⟩ := hu
  obtain ⟨t, rfl⟩ := rv
  exact ⟨.str z, H', I', ⟨t, rfl⟩, q⟩
theorem call_lenOwn {n : Nat} {C : Addr} {sp : Sp} (O : OwnM X.prog X.w X.K X.mg X.base n C "__len__" sp) (hr : Room (n + 1) X.A) : CallR X (.builtin "len") (rOwnL C sp) := by
  obtain ⟨f, fd, ps, F, hs, hf, _, hb⟩ := O.ex
  intro pins s σ H xs us Q I r h
  obtain ⟨a, dx, fs, rfl, ha, h⟩ := h
  obtain ⟨u, rfl, rx⟩ := vals1 r
  cases rx
  obtain ⟨mA, J, _⟩ := ins_get I.hok ha
  obtain ⟨od, J, _⟩ := J.look
  obtain ⟨m, hF⟩ := I.fr
  refine PySem.W.len_K hF I.ok.mod.kin J hs hf (wpAny_mono (run_own (vs := [.ref a]) F hb I hr.in1 rfl (.cons rfl .nil) h) (fun u s' hu => ?_) fun _ _ y => y)
  obtain ⟨v, H', I', rv, i, rfl, hi, q⟩ := hu
  obtain ⟨t, rfl⟩ := rv
  exact ⟨hi, .int i, H', I'.tok _, ⟨_, rfl⟩, q⟩
/-- len(range(a, b)) -/
theorem call_lenRng : CallR X (.builtin "len") (fun xs H Q => ∃ (a : Addr) (lo hi : Int) (n : Nat), xs = [.ref a] ∧ H a = some (.rng lo hi) ∧ Builtin.Range.rangeSize lo hi 1 = (n : Int) ∧ (n : Int) < 2 ^ 63 ∧ Q (.int n) H) := by
  intro pins s σ H xs us Q I r h
  obtain ⟨a, lo, hi, n, rfl, ha, hn, hf, q⟩ := h
  obtain ⟨u, rfl, rx⟩ := vals1 r
  cases rx
  obtain ⟨t, u, v, ho⟩ := (show ObjOk X.prog X.w H s.heap a (.rng lo hi) from I.hok a _ ha)
  exact call_len_range (a := lo) (b := hi) (c := 1) ho hn hf ⟨.int n, H, I.tok _, ⟨_, rfl⟩, q⟩
end
end My

namespace My
open PySem PySem.Spec PyProof.Rows L2
/-! ### making an object of a class: by place with defaults, by names -/
structure MkP (P : Program) (w : World) (K : PySem.W.Frag) (mg : Str → Option Value) (base : Heap) (k : Nat) (x : Str) (C : Addr) (dvs : List V) (sp : Sp) : Prop where
  ex : ∃ f fd ps ds, Mk K C f ∧ FnOk P w K mg base CX0 k f fd ps sp ∧ mg x = some (.ref C) ∧ Binds K fd ps ds ∧ Vals dvs ds
structure MkN (P : Program) (w : World) (K : PySem.W.Frag) (mg : Str → Option Value) (base : Heap) (k : Nat) (x : Str) (C : Addr) (n : Nat) (ks : List Str) (gV : List V → List V → List V) (sp : Sp) : Prop where
  ex : ∃ f fd ps g, Mk K C f ∧ FnOk P w K mg base CX0 k f fd ps sp ∧ mg x = some (.ref C) ∧ KBn K fd ps (n + 1) ks g gV
section
variable {X : Cx} {k j n : Nat} {ks : List Str} {sp : Sp} {x : Str} {C : Addr} {p pos : Pos} {e : Expr} {es : List Expr} {kws : List Keyword} {t tk : TA} {dvs : List V} {gV : List V → List V → List V}
theorem pe_mkP (M : MkP X.prog X.w X.K X.mg X.base k x C dvs sp) (hr : Room j X.A) (hk : k + 1 ≤ j) (hg : Gl X x) (ha : PA X (e :: es) t) (hdb : (x == ("__debug__" : Str)) = false := by decide)
    (he : starEach (e :: es) X.env = (false, eval e X.env) :: starEach es X.env := by rfl) (hpl : (backTo pos (starEach es X.env)).any (·.1) = false := by rfl) : PE X (.Call (.Name x p) (e :: es) [] pos) (tMake C sp dvs E0 t) := by
  obtain ⟨f, fd, ps, ds, M1, F, hm, hb, hd⟩ := M.ex
  exact pe_make M1 F (hr.mono hk) hg hm hb hd pass0 ha hdb he hpl
theorem pe_mkP0 (M : MkP X.prog X.w X.K X.mg X.base k x C dvs sp) (hr : Room j X.A) (hk : k + 1 ≤ j) (hg : Gl X x) (hdb : (x == ("__debug__" : Str)) = false := by decide) : PE X (.Call (.Name x p) [] [] pos) (tMake C sp dvs E0 tNil) := by
  obtain ⟨f, fd, ps, ds, M1, F, hm, hb, hd⟩ := M.ex
  exact pe_make0 M1 F (hr.mono hk) hg hm hb hd pass0 hdb
theorem pe_mkN (M : MkN X.prog X.w X.K X.mg X.base k x C n ks gV sp) (hr : Room j X.A) (hk : k + 1 ≤ j) (hg : Gl X x) (ha : PA X (e :: es) t) (hkw : PK X kws tk)
    (hall : (backToKw pos (keywordEach kws X.env)).all (·.1.isSome) = true := by rfl) (hks : (backToKw pos (keywordEach kws X.env)).filterMap (·.1) = ks := by rfl) (hdb : (x == ("__debug__" : Str)) = false := by decide)
    (he : starEach (e :: es) X.env = (false, eval e X.env) :: starEach es X.env := by rfl) (hpl : ((backTo pos (starEach (e :: es) X.env)).any (·.1) || (backToKw pos (keywordEach kws X.env)).any (·.1.isNone)) = false := by rfl) :
    PE X (.Call (.Name x p) (e :: es) kws pos) (tMakeK C n ks.length sp gV E0 t tk) := by
  obtain ⟨f, fd, ps, g, M1, F, hm, hb⟩ := M.ex
  exact pe_makeK M1 F (hr.mono hk) hg hm hb pass0 ha hkw hall hks hdb he hpl
theorem pe_mkN0 (M : MkN X.prog X.w X.K X.mg X.base k x C 0 ks gV sp) (hr : Room j X.A) (hk : k + 1 ≤ j) (hg : Gl X x) (hkw : PK X kws tk)
    (hall : (backToKw pos (keywordEach kws X.env)).all (·.1.isSome) = true := by rfl) (hks : (backToKw pos (keywordEach kws X.env)).filterMap (·.1) = ks := by rfl) (hdb : (x == ("__debug__" : Str)) = false := by decide)
    (hpl : ((backTo pos (starEach [] X.env)).any (·.1) || (backToKw pos (keywordEach kws X.env)).any (·.1.isNone)) = false := by rfl) :
    PE X (.Call (.Name x p) [] kws pos) (tMakeK C 0 ks.length sp gV E0 tNil tk) := by
  obtain ⟨f, fd, ps, g, M1, F, hm, hb⟩ := M.ex
  exact pe_makeK0 M1 F (hr.mono hk) hg hm hb pass0 hkw hall hks hdb hpl
end
/-- a Place with these fields -/
def PlaceAt (C : Addr) (H : Hp) (x : Addr) (ln la bg en : V) : Prop := ∃ dx, H x = some (.ins C dx [("line", ln), ("last", la), ("begin", bg), ("end", en)])
theorem PlaceAt.same {C : Addr} {H H' : Hp} {x : Addr} {ln la bg en : V} (h : PlaceAt C H x ln la bg en) (s : Same H H') : PlaceAt C H' x ln la bg en := let ⟨dx, e⟩ := h; ⟨dx, s _ _ e⟩
/-- the fields that a Place may have -/
def Spot (ln la bg en : V) : Prop := (ln = .non ∧ la = .non ∧ bg = .non ∧ en = .non) ∨ ∃ l m : Int, ln = .int l ∧ la = .int m ∧ Good (.int l) (.int m) bg en
theorem Spot.good {ln la bg en : V} (h : Spot ln la bg en) : Good ln la bg en := by
  rcases h with ⟨rfl, rfl, rfl, rfl⟩ | ⟨l, m, rfl, rfl, g⟩
  · exact .inl ⟨rfl, rfl, rfl, rfl⟩
  · exact g
/-- from the promise of __init__ to what a call of the class gives -/
theorem made {C : Addr} {H : Hp} {ln la bg en la' : V} {Q : VK} (hG : Good ln la bg en) (hl : lastOf ln la = la') (q : ∀ H' x, Same H H' → H x = none → PlaceAt C H' x ln la' bg en → Q (.ref x) H') :
    ∀ x dx, H x = none → H dx = none → dx ≠ x → spInit C [.ref x, ln, la, bg, en] (upd (upd H dx (.own x)) x (.ins C dx [])) (fun v H2 => v = .non ∧ Q (.ref x) H2) E0 := by
  intro x dx nx ndx ne
  refine ⟨x, dx, ln, la, bg, en, rfl, upd_same, hG, fun H' k hx => ⟨rfl, q H' x (fun b o e => ?_) nx ⟨dx, ?_⟩⟩⟩
  · have nb : b ≠ x := ne_of_none e nx
    have nd : b ≠ dx := ne_of_none e ndx
    refine k b o nb ?_
    rw [upd_ne nb, upd_ne nd]
    exact e
  · rw [hx, ← hl]
    rfl
theorem lastOf_non {ln : V} : lastOf ln .non = ln := by unfold lastOf; rw [if_pos rfl]
theorem lastOf_int {ln : V} {m : Int} : lastOf ln (.int m) = .int m := by unfold lastOf; rw [if_neg (fun h => by cases h)]
/-- moved(by), where it comes to lines that are so -/
def spMv (C : Addr) : Sp := fun vs H Q _ => ∃ (x : Addr) (by' : Int) (ln la bg en : V), vs = [.ref x, .int by'] ∧ PlaceAt C H x ln la bg en ∧
  ((ln = .non ∧ Q (.ref x) H) ∨ ∃ l m : Int, ln = .int l ∧ la = .int m ∧ Good (.int (l + by')) (.int (m + by')) bg en ∧ ∀ H' y, Same H H' → H y = none → PlaceAt C H' y (.int (l + by')) (.int (m + by')) bg en → Q (.ref y) H')
section
variable {P : Program} {w : World} {K : PySem.W.Frag} {mg : Str → Option Value} {base : Heap}
theorem ok_Place_moved {f C : Addr} {fd : FuncData} (F : Fun K "moved" "Place.moved" s_Place_moved f fd) (T : PlT K mg C) (mk_Place_2_begin_end : MkN P w K mg base 5 "Place" C 2 ["begin", "end"] (fun vs zs => vs ++ zs) (spInit C)) : FnOk P w K mg base CX0 7 f fd ["self", "by"] (spMv C) := by
  refine F.ok sc_Place_moved (fun vs H Q E h => ?_) (fun cdv A outer s H vs Q E hr h => ?_)
  · obtain ⟨x, by', ln, la, bg, en, rfl, _⟩ := h
    rfl
  · obtain ⟨x, by', ln, la, bg, en, rfl, ⟨dx, hx⟩, h⟩ := h
    refine ⟨_, (pss_cons (ps_if (pt_cmpR (op_isN) (pe_fld (pv 0) rfl) (pe_non) (nomark _)) (pss_one (ps_ret (pv 0))) pss_nil)
      (pss_one (ps_ret (pe_mkN mk_Place_2_begin_end hr (by first | decide | exact Nat.le_refl _) (by rfl) (pa_cons (pe_op op_add (pe_fld (pv 0) rfl) (pv 1)) (pa_cons (pe_op op_add (pe_fld (pv 0) rfl) (pv 1)) pa_nil)) (pk_cons (pe_fld (pv 0) rfl) (pk_cons (pe_fld (pv 0) rfl) pk_nil)))))), ?_⟩
    rcases h with ⟨rfl, q⟩ | ⟨l, m, rfl, rfl, hG, q⟩
    · exact ⟨_, rfl, x, C, dx, _, _, rfl, hx, T.cl, T.nLine, rfl, rfl, _, rfl, iteT ⟨_, rfl, q⟩⟩
    · refine ⟨_, rfl, x, C, dx, _, _, rfl, hx, T.cl, T.nLine, rfl, rfl, _, rfl, iteF ?_⟩
      refine ⟨_, rfl, x, C, dx, _, _, rfl, hx, T.cl, T.nLine, rfl, _, rfl, _, _, rfl, rfl, _, rfl, x, C, dx, _, _, rfl, hx, T.cl, T.nLast, rfl, _, rfl, _, _, rfl, rfl, ?_⟩
      refine ⟨_, rfl, x, C, dx, _, _, rfl, hx, T.cl, T.nBegin, rfl, _, rfl, x, C, dx, _, _, rfl, hx, T.cl, T.nEnd, rfl, rfl, rfl, ?_⟩
      exact made hG lastOf_int fun H' y s1 ny hy => q H' y s1 ny hy
end
end My

namespace My
open PySem PySem.Spec PyProof.Rows L2
theorem Spot.cases {ln la bg en : V} (h : Spot ln la bg en) : (ln = .non ∧ la = .non ∧ bg = .non ∧ en = .non) ∨ (∃ l : Int, ln = .int l ∧ la = .int l ∧ bg = .non ∧ en = .non ∧ 1 ≤ l ∧ l ≤ 1000000) ∨
    ∃ l m b e : Int, ln = .int l ∧ la = .int m ∧ bg = .int b ∧ en = .int e ∧ 1 ≤ l ∧ l ≤ m ∧ m ≤ l + 99 ∧ m ≤ 1000000 ∧ 0 ≤ b ∧ b ≤ 10000 ∧ 0 ≤ e ∧ e ≤ 10000 ∧ (m = l → b ≤ e) := by
  rcases h with h | ⟨l, m, rfl, rfl, ⟨h, _⟩ | ⟨l', hl, l1, l2, ⟨h, _⟩ | ⟨m', hm, m1, m2, m3, hC⟩⟩⟩
  · exact .inl h
  · cases h
  · cases h
  · cases hl
    cases hm
    rcases hC with ⟨h1, rfl, rfl⟩ | ⟨b, e, rfl, rfl, b0, b1, be, e0, e1⟩
    · have e := of_decide_eq_true h1
      subst e
      exact .inr (.inl ⟨_, rfl, rfl, rfl, rfl, l1, l2⟩)
    · exact .inr (.inr ⟨_, _, b, e, rfl, rfl, rfl, rfl, l1, m1, m2, m3, b0, b1, e0, e1, fun z => be (decide_eq_true z)⟩)
theorem Spot.scal {ln la bg en : V} (h : Spot ln la bg en) : L2.scal ln ln = true ∧ L2.scal la la = true ∧ L2.scal bg bg = true ∧ L2.scal en en = true := by
  rcases h.cases with ⟨rfl, rfl, rfl, rfl⟩ | ⟨l, rfl, rfl, rfl, rfl, _⟩ | ⟨l, m, b, e, rfl, rfl, rfl, rfl, _⟩ <;> exact ⟨rfl, rfl, rfl, rfl⟩
/-- what isinstance asks of the class -/
structure PlI (K : PySem.W.Frag) (C : Addr) : Prop where
  ha : PySem.W.findIn K (.ref C) "__class__" = some (some (.builtin "object.__class__"))
  hn : PySem.W.specialIn K (.builtin "object.__class__") "__get__" = some (some (.builtin "getset_descriptor.__get__"))
  htk : PySem.W.takesIn K (.builtin "object.__class__") = some true
  hm : PySem.W.mroIn K C (.type "object") = some true
  kit : PySem.W.kitOne K (.ref C) (.ref C) = some true
theorem PlI.ty {K : PySem.W.Frag} {mg : Str → Option Value} {C : Addr} (T : PlT K mg C) (J : PlI K C) {H : Hp} {x dx : Addr} {fs : List (Str × V)} (h : H x = some (.ins C dx fs)) : TyX K H (.ref x) (.ref C) := .base (.ins h T.cl J.ha J.hn J.htk J.hm)
/-! ### texts of places -/
def txt (i : Int) : Str := Str.ofString (toString i)
def plStr (ln la bg en : V) : Str := match ln, la, bg, en with
  | .int l, .int m, .int b, .int e => if l = m then Str.empty ++ txt l ++ "." ++ txt b ++ "-" ++ txt e else Str.empty ++ txt l ++ "." ++ txt b ++ "-" ++ txt m ++ "." ++ txt e
  | .int l, _, _, _ => txt l
  | _, _, _, _ => "-"
def plRepr (ln la bg en : V) : Str := Str.empty ++ "Place(" ++ plStr ln la bg en ++ ")"
def lenOf (ln la : V) : Int := match ln, la with
  | .int l, .int m => m - l + 1
  | _, _ => 0
theorem log_small {i : Int} (h0 : 0 ≤ i) (h1 : i ≤ 1000000) : i.natAbs.log2 < 1920 := by
  by_cases hz : i.natAbs = 0
  · rw [hz]; decide
  · exact (Nat.log2_lt hz).mpr (Nat.lt_of_lt_of_le (show i.natAbs < 2 ^ 20 by omega) (Nat.pow_le_pow_right (by decide) (by decide)))
theorem txt_len {i : Int} (h0 : 0 ≤ i) (h1 : i ≤ 1000000) : (txt i).length ≤ 7 := PyProof.Rows.toString_length_le h0 (by decide) (by omega)
theorem sig_len : ("." : Str).length = 1 ∧ ("-" : Str).length = 1 ∧ ("Place(" : Str).length = 6 ∧ (")" : Str).length = 1 ∧ Str.empty.length = 0 := by decide
theorem plStr_len {ln la bg en : V} (h : Spot ln la bg en) : (plStr ln la bg en).length ≤ 40 := by
  obtain ⟨d1, d2, _, _, d5⟩ := sig_len
  rcases h.cases with ⟨rfl, rfl, rfl, rfl⟩ | ⟨l, rfl, rfl, rfl, rfl, l1, l2⟩ | ⟨l, m, b, e, rfl, rfl, rfl, rfl, l1, lm, _, m1, b0, b1, e0, e1, _⟩
  · show ("-" : Str).length ≤ 40
    omega
  · have := txt_len (i := l) (by omega) l2
    show (txt l).length ≤ 40
    omega
  · have h1 := txt_len (i := l) (by omega) (by omega)
    have h2 := txt_len (i := m) (by omega) m1
    have h3 := txt_len (i := b) b0 (by omega)
    have h4 := txt_len (i := e) e0 (by omega)
    show (if l = m then Str.empty ++ txt l ++ "." ++ txt b ++ "-" ++ txt e else Str.empty ++ txt l ++ "." ++ txt b ++ "-" ++ txt m ++ "." ++ txt e).length ≤ 40
    split <;> simp only [Str.length_append, d1, d2, d5] <;> omega
theorem fits {z : Str} (h : z.length ≤ 1000) : z.length ≤ sizeLine := line_ge (by omega)
def RPl (C : Addr) : Addr → Addr → Hp → Prop := fun a b H => ∃ ln la bg en, PlaceAt C H a ln la bg en ∧ PlaceAt C H b ln la bg en ∧ Spot ln la bg en
def spLen (C : Addr) : Sp := fun vs H Q _ => ∃ (x : Addr) (ln la bg en : V), vs = [.ref x] ∧ PlaceAt C H x ln la bg en ∧ Spot ln la bg en ∧ ∀ H', Same H H' → Q (.int (lenOf ln la)) H'
def spStr (C : Addr) : Sp := fun vs H Q _ => ∃ (x : Addr) (ln la bg en : V), vs = [.ref x] ∧ PlaceAt C H x ln la bg en ∧ Spot ln la bg en ∧ Q (.str (plStr ln la bg en)) H
def spRepr (C : Addr) : Sp := fun vs H Q _ => ∃ (x : Addr) (ln la bg en : V), vs = [.ref x] ∧ PlaceAt C H x ln la bg en ∧ Spot ln la bg en ∧ Q (.str (plRepr ln la bg en)) H
section
variable {P : Program} {w : World} {K : PySem.W.Frag} {mg : Str → Option Value} {base : Heap}
theorem ok_Place_eq {f C : Addr} {fd : FuncData} (F : Fun K "__eq__" "Place.__eq__" s_Place_eq f fd) (T : PlT K mg C) (J : PlI K C) (g_Place : mg "Place" = some (.ref C)) (z_isinstance : mg "isinstance" = none) : FnOk P w K mg base CX0 2 f fd ["self", "other"] (spEq (RPl C)) := by
  refine F.ok sc_Place_eq (fun vs H Q E h => ?_) (fun cdv A outer s H vs Q E hr h => ?_)
  · obtain ⟨a, b, rfl, _⟩ := h
    rfl
  · obtain ⟨x, y, rfl, ⟨ln, la, bg, en, ⟨dx, hx⟩, ⟨dy, hy⟩, hS⟩, q⟩ := h
    refine ⟨_, (pss_one (ps_ret (pe_and (pe_callB (call_isi) (by rfl) z_isinstance (by decide +kernel) (pa_cons (pv 1) (pa_cons (pe_glob (v := .ref _) (by rfl) g_Place rfl) pa_nil))) (pe_and (pe_cmpR (op_eq) (pe_fld (pv 0) rfl) (pe_fld (pv 1) rfl) (nomark _)) (pe_and (pe_cmpR (op_eq) (pe_fld (pv 0) rfl) (pe_fld (pv 1) rfl) (nomark _)) (pe_and (pe_cmpR (op_eq) (pe_fld (pv 0) rfl) (pe_fld (pv 1) rfl) (nomark _)) (pe_one (pe_cmpR (op_eq) (pe_fld (pv 0) rfl) (pe_fld (pv 1) rfl) (nomark _))))))))), ?_⟩
    obtain ⟨c1, c2, c3, c4⟩ := hS.scal
    refine ⟨_, rfl, _, _, _, _, _, rfl, .own C, PlI.ty T J hy, J.kit, _, rfl, iteT ?_⟩
    refine ⟨_, rfl, x, C, _, _, _, rfl, hx, T.cl, T.nLine, rfl, _, rfl, y, C, _, _, _, rfl, hy, T.cl, T.nLine, rfl, c1, _, rfl, ite2 (fun _ => ?_) (fun h => absurd (decide_eq_true rfl) h)⟩
    refine ⟨_, rfl, x, C, _, _, _, rfl, hx, T.cl, T.nLast, rfl, _, rfl, y, C, _, _, _, rfl, hy, T.cl, T.nLast, rfl, c2, _, rfl, ite2 (fun _ => ?_) (fun h => absurd (decide_eq_true rfl) h)⟩
    refine ⟨_, rfl, x, C, _, _, _, rfl, hx, T.cl, T.nBegin, rfl, _, rfl, y, C, _, _, _, rfl, hy, T.cl, T.nBegin, rfl, c3, _, rfl, ite2 (fun _ => ?_) (fun h => absurd (decide_eq_true rfl) h)⟩
    refine ⟨_, rfl, x, C, _, _, _, rfl, hx, T.cl, T.nEnd, rfl, _, rfl, y, C, _, _, _, rfl, hy, T.cl, T.nEnd, rfl, c4, ?_⟩
    have q' := q H (Same.refl H)
    rw [← decide_eq_true (rfl : en = en)] at q'
    exact q'
theorem ok_Place_len {f C : Addr} {fd : FuncData} (F : Fun K "__len__" "Place.__len__" s_Place_len f fd) (T : PlT K mg C) (z_len : mg "len" = none) (z_range : mg "range" = none) : FnOk P w K mg base CX0 2 f fd ["self"] (spLen C) := by
  refine F.ok sc_Place_len (fun vs H Q E h => ?_) (fun cdv A outer s H vs Q E hr h => ?_)
  · obtain ⟨x, _, _, _, _, rfl, _⟩ := h
    rfl
  · obtain ⟨x, ln, la, bg, en, rfl, ⟨dx, hx⟩, hS, q⟩ := h
    refine ⟨_, (pss_cons (ps_if (pt_cmpR (op_isN) (pe_fld (pv 0) rfl) (pe_non) (nomark _)) (pss_one (ps_ret (pe_int))) pss_nil)
      (pss_one (ps_ret (pe_callB (call_lenRng) (by rfl) z_len (by decide +kernel) (pa_cons (pe_callTy (cr_range2) (by rfl) z_range (by decide +kernel) (pa_cons (pe_fld (pv 0) rfl) (pa_cons (pe_op op_add (pe_fld (pv 0) rfl) (pe_int)) pa_nil))) pa_nil))))), ?_⟩
    have key : ∀ l m : Int, ln = .int l → la = .int m → l ≤ m → m ≤ 1000000 → 1 ≤ l → ∀ p, H p = none → ∃ (a : Addr) (lo hi : Int) (n : Nat), [V.ref p] = [.ref a] ∧ upd H p (.rng l (m + 1)) a = some (.rng lo hi) ∧ Builtin.Range.rangeSize lo hi 1 = (n : Int) ∧ (n : Int) < 2 ^ 63 ∧ Q (.int n) (upd H p (.rng l (m + 1))) := by
      intro l m e1 e2 lm m1 l1 p np
      refine ⟨p, l, m + 1, (m - l + 1).toNat, rfl, upd_same, ?_, by omega, ?_⟩
      · unfold Builtin.Range.rangeSize
        rw [if_pos (by decide), if_pos (by omega)]
        omega
      · have q' := q _ (same_upd (o := .rng l (m + 1)) np)
        rw [e1, e2] at q'
        have e : (((m - l + 1).toNat : Nat) : Int) = lenOf (.int l) (.int m) := by
          show _ = m - l + 1
          omega
        rw [e]
        exact q'
    rcases hS.cases with ⟨rfl, rfl, rfl, rfl⟩ | ⟨l, rfl, rfl, rfl, rfl, l1, l2⟩ | ⟨l, m, b, e, rfl, rfl, rfl, rfl, l1, lm, _, m1, _⟩
    · exact ⟨_, rfl, x, C, _, _, _, rfl, hx, T.cl, T.nLine, rfl, rfl, _, rfl, iteT (q _ (Same.refl _))⟩
    · refine ⟨_, rfl, x, C, _, _, _, rfl, hx, T.cl, T.nLine, rfl, rfl, _, rfl, iteF ⟨_, rfl, x, C, _, _, _, rfl, hx, T.cl, T.nLine, rfl, _, rfl, x, C, _, _, _, rfl, hx, T.cl, T.nLast, rfl, _, _, rfl, rfl, _, _, rfl, fun p np => ?_⟩⟩
      exact key l l rfl rfl (by omega) l2 l1 p np
    · refine ⟨_, rfl, x, C, _, _, _, rfl, hx, T.cl, T.nLine, rfl, rfl, _, rfl, iteF ⟨_, rfl, x, C, _, _, _, rfl, hx, T.cl, T.nLine, rfl, _, rfl, x, C, _, _, _, rfl, hx, T.cl, T.nLast, rfl, _, _, rfl, rfl, _, _, rfl, fun p np => ?_⟩⟩
      exact key l m rfl rfl lm m1 l1 p np
theorem ok_Place_str {f C : Addr} {fd : FuncData} (F : Fun K "__str__" "Place.__str__" s_Place_str f fd) (T : PlT K mg C) : FnOk P w K mg base CX0 2 f fd ["self"] (spStr C) := by
  refine F.ok sc_Place_str (fun vs H Q E h => ?_) (fun cdv A outer s H vs Q E hr h => ?_)
  · obtain ⟨x, _, _, _, _, rfl, _⟩ := h
    rfl
  · obtain ⟨x, ln, la, bg, en, rfl, ⟨dx, hx⟩, hS, q⟩ := h
    refine ⟨_, (pss_cons (ps_if (pt_cmpR (op_isN) (pe_fld (pv 0) rfl) (pe_non) (nomark _)) (pss_one (ps_ret (pe_str))) pss_nil)
      (pss_cons (ps_if (pt_cmpR (op_isN) (pe_fld (pv 0) rfl) (pe_non) (nomark _)) (pss_one (ps_ret (pe_joined1 (pe_fmt (pe_fld (pv 0) rfl))))) pss_nil)
      (pss_cons (ps_if (pt_cmpR (op_eq) (pe_fld (pv 0) rfl) (pe_fld (pv 0) rfl) (nomark _)) (pss_one (ps_ret (pe_joined (PJ.cons (pe_fmt (pe_fld (pv 0) rfl)) (PJ.cons (pe_str) (PJ.cons (pe_fmt (pe_fld (pv 0) rfl)) (PJ.cons (pe_str) (PJ.cons (pe_fmt (pe_fld (pv 0) rfl)) PJ.nil)))))))) pss_nil)
      (pss_one (ps_ret (pe_joined (PJ.cons (pe_fmt (pe_fld (pv 0) rfl)) (PJ.cons (pe_str) (PJ.cons (pe_fmt (pe_fld (pv 0) rfl)) (PJ.cons (pe_str) (PJ.cons (pe_fmt (pe_fld (pv 0) rfl)) (PJ.cons (pe_str) (PJ.cons (pe_fmt (pe_fld (pv 0) rfl)) PJ.nil))))))))))))), ?_⟩
    obtain ⟨g1, g2, _, _, g5⟩ := sig_len
    rcases hS.cases with ⟨rfl, rfl, rfl, rfl⟩ | ⟨l, rfl, rfl, rfl, rfl, l1, l2⟩ | ⟨l, m, b, e, rfl, rfl, rfl, rfl, l1, lm, _, m1, b0, b1, e0, e1, _⟩
    · exact ⟨_, rfl, x, C, _, _, _, rfl, hx, T.cl, T.nLine, rfl, rfl, _, rfl, iteT q⟩
    · refine ⟨_, rfl, x, C, _, _, _, rfl, hx, T.cl, T.nLine, rfl, rfl, _, rfl, iteF ⟨_, rfl, x, C, _, _, _, rfl, hx, T.cl, T.nBegin, rfl, rfl, _, rfl, iteT ⟨_, rfl, x, C, _, _, _, rfl, hx, T.cl, T.nLine, rfl, .inr ⟨l, rfl, log_small (by omega) l2, q⟩⟩⟩⟩
    · have h1 := txt_len (i := l) (by omega) (by omega)
      have h2 := txt_len (i := m) (by omega) m1
      have h3 := txt_len (i := b) b0 (by omega)
      have h4 := txt_len (i := e) e0 (by omega)
      have k1 := log_small (i := l) (by omega) (by omega)
      have k2 := log_small (i := m) (by omega) m1
      have k3 := log_small (i := b) b0 (by omega)
      have k4 := log_small (i := e) e0 (by omega)
      have L1 : (Str.empty ++ txt l).length ≤ 1000 := by simp only [Str.length_append, g5]; omega
      have L2 : (Str.empty ++ txt l ++ ".").length ≤ 1000 := by simp only [Str.length_append, g1, g5]; omega
      have L3 : (Str.empty ++ txt l ++ "." ++ txt b).length ≤ 1000 := by simp only [Str.length_append, g1, g5]; omega
      have L4 : (Str.empty ++ txt l ++ "." ++ txt b ++ "-").length ≤ 1000 := by simp only [Str.length_append, g1, g2, g5]; omega
      refine ⟨_, rfl, x, C, _, _, _, rfl, hx, T.cl, T.nLine, rfl, rfl, _, rfl, iteF ⟨_, rfl, x, C, _, _, _, rfl, hx, T.cl, T.nBegin, rfl, rfl, _, rfl, iteF ⟨_, rfl, x, C, _, _, _, rfl, hx, T.cl, T.nLine, rfl, _, rfl, x, C, _, _, _, rfl, hx, T.cl, T.nLast, rfl, rfl, _, rfl, ite2 (fun c => ?_) (fun c => ?_)⟩⟩⟩
      · have c' : l = m := V.int.inj (of_decide_eq_true c)
        subst c'
        have L5 : (Str.empty ++ txt l ++ "." ++ txt b ++ "-" ++ txt e).length ≤ 1000 := by simp only [Str.length_append, g1, g2, g5]; omega
        have ez : plStr (.int l) (.int l) (.int b) (.int e) = Str.empty ++ txt l ++ "." ++ txt b ++ "-" ++ txt e := by
          show (if l = l then _ else _) = _
          rw [if_pos rfl]
        rw [ez] at q
        exact ⟨_, rfl, x, C, _, _, _, rfl, hx, T.cl, T.nLine, rfl, .inr ⟨l, rfl, k1, _, rfl, fits L1, _, rfl, fits L2, _, rfl, x, C, _, _, _, rfl, hx, T.cl, T.nBegin, rfl, .inr ⟨b, rfl, k3, _, rfl, fits L3, _, rfl, fits L4, _, rfl, x, C, _, _, _, rfl, hx, T.cl, T.nEnd, rfl, .inr ⟨e, rfl, k4, _, rfl, fits L5, q⟩⟩⟩⟩
      · have c' : l ≠ m := fun e => c (decide_eq_true (congrArg V.int e))
        have L5 : (Str.empty ++ txt l ++ "." ++ txt b ++ "-" ++ txt m).length ≤ 1000 := by simp only [Str.length_append, g1, g2, g5]; omega
        have L6 : (Str.empty ++ txt l ++ "." ++ txt b ++ "-" ++ txt m ++ ".").length ≤ 1000 := by simp only [Str.length_append, g1, g2, g5]; omega
        have L7 : (Str.empty ++ txt l ++ "." ++ txt b ++ "-" ++ txt m ++ "." ++ txt e).length ≤ 1000 := by simp only [Str.length_append, g1, g2, g5]; omega
        have ez : plStr (.int l) (.int m) (.int b) (.int e) = Str.empty ++ txt l ++ "." ++ txt b ++ "-" ++ txt m ++ "." ++ txt e := by
          show (if l = m then _ else _) = _
          rw [if_neg c']
        rw [ez] at q
        exact ⟨_, rfl, x, C, _, _, _, rfl, hx, T.cl, T.nLine, rfl, .inr ⟨l, rfl, k1, _, rfl, fits L1, _, rfl, fits L2, _, rfl, x, C, _, _, _, rfl, hx, T.cl, T.nBegin, rfl, .inr ⟨b, rfl, k3, _, rfl, fits L3, _, rfl, fits L4, _, rfl, x, C, _, _, _, rfl, hx, T.cl, T.nLast, rfl, .inr ⟨m, rfl, k2, _, rfl, fits L5, _, rfl, fits L6, _, rfl, x, C, _, _, _, rfl, hx, T.cl, T.nEnd, rfl, .inr ⟨e, rfl, k4, _, rfl, fits L7, q⟩⟩⟩⟩⟩
theorem ok_Place_repr {f C : Addr} {fd : FuncData} (F : Fun K "__repr__" "Place.__repr__" s_Place_repr f fd) (z_str : mg "str" = none) (o_str : OwnM P w K mg base 2 C "__str__" (spStr C)) : FnOk P w K mg base CX0 5 f fd ["self"] (spRepr C) := by
  refine F.ok sc_Place_repr (fun vs H Q E h => ?_) (fun cdv A outer s H vs Q E hr h => ?_)
  · obtain ⟨x, _, _, _, _, rfl, _⟩ := h
    rfl
  · obtain ⟨x, ln, la, bg, en, rfl, ⟨dx, hx⟩, hS, q⟩ := h
    refine ⟨_, (pss_one (ps_ret (pe_joined (PJ.cons (pe_str) (PJ.cons (pe_fmt (pe_callTy (call_strOwn o_str (hr.mono (by decide))) (by rfl) z_str (by decide +kernel) (pa_cons (pv 0) pa_nil))) (PJ.cons (pe_str) PJ.nil)))))), ?_⟩
    obtain ⟨g1, g2, g3, g4, g5⟩ := sig_len
    have hl := plStr_len hS
    have L1 : (Str.empty ++ "Place(").length ≤ 1000 := by simp only [Str.length_append, g3, g5]; omega
    have L2 : (Str.empty ++ "Place(" ++ plStr ln la bg en).length ≤ 1000 := by simp only [Str.length_append, g3, g5]; omega
    have L3 : (Str.empty ++ "Place(" ++ plStr ln la bg en ++ ")").length ≤ 1000 := by simp only [Str.length_append, g3, g4, g5]; omega
    exact ⟨_, rfl, fits L1, _, rfl, x, dx, _, rfl, hx, x, ln, la, bg, en, rfl, ⟨dx, hx⟩, hS, _, rfl, .inl ⟨_, rfl, fits (by omega), _, rfl, fits L2, _, rfl, fits L3, q⟩⟩
end
end My

namespace My
open PySem PySem.Spec PyProof.Rows L2
theorem mul01 {c : Prop} [Decidable c] : -(2 ^ 64) < (if c then (1 : Int) else 0) ∧ (if c then (1 : Int) else 0) < 2 ^ 64 := by
  split <;> constructor <;> decide
def spCell (K : PySem.W.Frag) : Sp := fun vs H Q _ => ∃ (a : Addr) (ns : List Int) (k : Nat), vs = [.ref a, .int k] ∧ SqL K H a (ns.map V.int) ∧ ∀ v : Int, Q (.int v) H
def spBox (K : PySem.W.Frag) : Sp := fun vs H Q _ => ∃ (a : Addr) (ns : List Int) (k : Nat), vs = [.ref a, .int k] ∧ SqL K H a (ns.map V.int) ∧ k ≤ 63 ∧ ∀ H' p, Same H H' → H p = none → Bx 0 p H' → Q (.ref p) H'
def spTake : Sp := fun vs H Q _ => ∃ (b : Addr) (m : Int) (n : Nat), vs = [.ref b, .int m] ∧ 0 < m ∧ m < 1073741824 ∧ Bx n b H ∧ n ≤ 1000000 ∧ ∀ (v : Nat) H', (v : Int) < m → Aft b (n + 1) H H' → (∀ p, H p = none → H' p = none) → Q (.int v) H'
/-! ### things that are the same, kind by kind -/
def Scal (x : V) : Prop := x = .non ∨ (∃ b, x = .bl b) ∨ (∃ i, x = .int i) ∨ ∃ z, x = .str z
/-- x and y are the same plain thing, or both lists, or both tuples, of as many things that are so by R -/
def Up (K : PySem.W.Frag) (R : Hp → V → V → Prop) : Hp → V → V → Prop := fun H x y => (Scal x ∧ x = y) ∨ ∃ (a b : Addr) (xs ys : List V), x = .ref a ∧ y = .ref b ∧ xs.length = ys.length ∧ xs.length ≤ 100000 ∧
  (∀ (i : Nat) (u v : V), xs[i]? = some u → ys[i]? = some v → R H u v) ∧ ((SqL K H a xs ∧ SqL K H b ys) ∨ (SqT K H a xs ∧ SqT K H b ys))
def Twin (K : PySem.W.Frag) : Nat → Hp → V → V → Prop
  | 0 => fun _ _ _ => False
  | n + 1 => Up K (Twin K n)
theorem Twin.same {K : PySem.W.Frag} : ∀ {n : Nat} {H H' : Hp} {x y : V}, Same H H' → Twin K n H x y → Twin K n H' x y
  | 0, _, _, _, _, _, h => h.elim
  | n + 1, H, H', x, y, s, h => by
    rcases h with h | ⟨a, b, xs, ys, e1, e2, l1, l2, it, q⟩
    · exact .inl h
    · exact .inr ⟨a, b, xs, ys, e1, e2, l1, l2, fun i u v h1 h2 => Twin.same s (it i u v h1 h2), q.elim (fun q => .inl ⟨s.seq q.1, s.seq q.2⟩) (fun q => .inr ⟨sameT s q.1, sameT s q.2⟩)⟩
theorem twin_int {K : PySem.W.Frag} {n : Nat} {H : Hp} (i : Int) : Twin K (n + 1) H (.int i) (.int i) := .inl ⟨.inr (.inr (.inl ⟨i, rfl⟩)), rfl⟩
theorem twin_ints {K : PySem.W.Frag} {n : Nat} {H : Hp} {ns : List Int} (i : Nat) (u v : V) (h1 : (ns.map V.int)[i]? = some u) (h2 : (ns.map V.int)[i]? = some v) : Twin K (n + 1) H u v := by
  rw [h1] at h2
  cases h2
  rw [List.getElem?_map] at h1
  cases e : ns[i]? with
  | none => rw [e] at h1; cases h1
  | some z =>
    rw [e] at h1
    cases h1
    exact twin_int z
theorem twin_intL {K : PySem.W.Frag} {n : Nat} {H : Hp} {ns : List Int} {a b : Addr} (hl : ns.length ≤ 100000) (ha : SqL K H a (ns.map V.int)) (hb : SqL K H b (ns.map V.int)) : Twin K (n + 2) H (.ref a) (.ref b) :=
  .inr ⟨a, b, _, _, rfl, rfl, rfl, by rw [List.length_map]; exact hl, twin_ints, .inl ⟨ha, hb⟩⟩
theorem twin_intT {K : PySem.W.Frag} {n : Nat} {H : Hp} {ns : List Int} {a b : Addr} (hl : ns.length ≤ 100000) (ha : SqT K H a (ns.map V.int)) (hb : SqT K H b (ns.map V.int)) : Twin K (n + 2) H (.ref a) (.ref b) :=
  .inr ⟨a, b, _, _, rfl, rfl, rfl, by rw [List.length_map]; exact hl, twin_ints, .inr ⟨ha, hb⟩⟩
def spSm (R : Hp → V → V → Prop) : Sp := fun vs H Q _ => ∃ x y, vs = [x, y] ∧ R H x y ∧ ∀ H', Same H H' → Q (.bl true) H'
theorem walk_zipT {K : PySem.W.Frag} {a b : Addr} {xs ys : List V} {n : Nat} (hn : n = min xs.length ys.length) : Walk (RZ.ItzT K a b) n (fun H => SqT K H a xs ∧ SqT K H b ys) (YPair (fun i => xs[i]?) (fun i => ys[i]?)) := by
  subst hn
  refine ⟨fun i _ hi q => ?_, fun _ q => ⟨xs, ys, q.1, q.2, by omega⟩, fun i H v H' _ q y => ?_⟩
  · have h1 : i < xs.length := by omega
    have h2 : i < ys.length := by omega
    exact ⟨xs, ys, xs[i], ys[i], q.1, q.2, by simp [h1], by simp [h2]⟩
  · obtain ⟨T, x, z, h1, h2, h3, h4, h5⟩ := y
    exact ⟨T, x, z, h1, h2, h3, h4 xs q.1, h5 ys q.2⟩
theorem tyL {K : PySem.W.Frag} {H : Hp} {a : Addr} {xs : List V} (h : SqL K H a xs) : TyX K H (.ref a) (.type "list") := by
  rcases h with (h | ⟨o, h⟩) | ⟨o, its, n, h1, h2, _⟩
  · exact .base (.lst h)
  · exact .base (.frz h)
  · exact .kList h1 h2
theorem tyT {K : PySem.W.Frag} {H : Hp} {a : Addr} {xs : List V} (h : SqT K H a xs) : TyX K H (.ref a) (.type "tuple") := by
  rcases h with (h | ⟨o, h⟩) | ⟨o, its, n, h1, h2, _⟩
  · exact .base (.tup h)
  · exact .fTuple h
  · exact .kTuple h1 h2
theorem scal_ty {K : PySem.W.Frag} {H : Hp} {x : V} (h : Scal x) : ∃ (t : String) (b1 b2 : Bool), TyX K H x (.type t) ∧ kitB t "list" = some false ∧ kitB t "tuple" = some false ∧ kitB t "bool" = some b1 ∧ kitB t "int" = some b2 ∧ scal x x = true := by
  rcases h with rfl | ⟨b, rfl⟩ | ⟨i, rfl⟩ | ⟨z, rfl⟩
  · exact ⟨"NoneType", false, false, .base .non, by decide +kernel, by decide +kernel, by decide +kernel, by decide +kernel, rfl⟩
  · exact ⟨"bool", true, true, .base (.bl b), by decide +kernel, by decide +kernel, by decide +kernel, by decide +kernel, rfl⟩
  · exact ⟨"int", false, true, .base (.int i), by decide +kernel, by decide +kernel, by decide +kernel, by decide +kernel, rfl⟩
  · exact ⟨"str", false, false, .base (.str z), by decide +kernel, by decide +kernel, by decide +kernel, by decide +kernel, rfl⟩
theorem kit2 {K : PySem.W.Frag} {t a b : String} {p q : Bool} (h1 : kitB t a = some p) (h2 : kitB t b = some q) : PySem.W.kitAny K (.type t) [.type a, .type b] = some (p || q) := by
  refine kitAny_cons (kit_ty h1) (fun e => ?_) (fun e => by rw [e]; rfl)
  rw [e]
  exact kitAny_cons (kit_ty h2) (fun e => by rw [e]; rfl) (fun e => by rw [e]; rfl)
theorem all_true (n : Nat) : (List.replicate n true).all id = true := by
  induction n with
  | zero => rfl
  | succ n ih => rw [List.replicate_succ, List.all_cons, ih]; rfl
theorem rep_more {n : Nat} : List.replicate n (V.bl true) ++ [V.bl true] = List.replicate (n + 1) (V.bl true) := by
  rw [← List.replicate_succ']
theorem same_but {H H4 : Hp} {D : Addr} {o : HO} (s : Same H H4) (h : H D = none) : Same H (upd H4 D o) := fun b x e => by
  rw [upd_ne (ne_of_none e h)]
  exact s _ _ e

section
variable {P : Program} {w : World} {K : PySem.W.Frag} {mg : Str → Option Value} {base : Heap}
theorem ok_l_cell_at {f : Addr} {fd : FuncData} (F : Fun K "_law_cell_at" "_law_cell_at" s_l_cell_at f fd) (z_len : mg "len" = none) : FnOk P w K mg base CX0 2 f fd ["_law_script", "_law_k"] (spCell K) := by
  refine F.ok sc_l_cell_at (fun vs H Q E h => ?_) (fun cdv A outer s H vs Q E hr h => ?_)
  · obtain ⟨a, ns, k, rfl, _⟩ := h
    rfl
  · obtain ⟨a, ns, j, rfl, hS, q⟩ := h
    refine ⟨_, (pss_cons (ps_if (pt_cmpR (op_lt) (pv 1) (pe_callB (call_len_seq) (by rfl) z_len (by decide +kernel) (pa_cons (pv 0) pa_nil)) (nomark _)) (pss_one (ps_ret (pe_ix ix_list (pv 0) (pv 1) (fun _ _ => rfl)))) pss_nil)
      (pss_one (ps_ret (pe_int)))), ?_⟩
    refine ⟨_, rfl, _, rfl, a, _, rfl, .inl hS, _, _, rfl, rfl, _, rfl, ite2 (fun c => ?_) (fun c => q 0)⟩
    have c' : (j : Int) < ((ns.map V.int).length : Int) := of_decide_eq_true c
    rw [List.length_map] at c'
    have hlt : j < ns.length := by omega
    have hat : atI (ns.map V.int) (j : Int) = some (.int ns[j]) := atI_nat (by
      rw [List.getElem?_map, List.getElem?_eq_getElem hlt]
      rfl)
    exact ⟨_, rfl, _, rfl, a, _, _, _, rfl, rfl, hS, hat, q _⟩
theorem ok_l_box {f : Addr} {fd : FuncData} (F : Fun K "_law_box" "_law_box" s_l_box f fd) (z_abs : mg "abs" = none) (z_int : mg "int" = none) (c_l_cell_at : Cal P w K mg base 2 "_law_cell_at" ["_law_script", "_law_k"] (spCell K)) : FnOk P w K mg base CX0 3 f fd ["_law_script", "_law_k"] (spBox K) := by
  refine F.ok sc_l_box (fun vs H Q E h => ?_) (fun cdv A outer s H vs Q E hr h => ?_)
  · obtain ⟨a, ns, k, rfl, _⟩ := h
    rfl
  · obtain ⟨a, ns, j, rfl, hS, hj, q⟩ := h
    refine ⟨_, (pss_cons (ps_set (i := 2) sc_l_box.nd rfl (Or.inl rfl) (pe_c c_l_cell_at hr (by first | decide | exact Nat.le_refl _) (by rfl) (pa_cons (pv 0) (pa_cons (pv 1) pa_nil))))
      (pss_one (ps_ret (pe_lst (pa_cons (pe_op op_mul (pe_callB (call_abs) (by rfl) z_abs (by decide +kernel) (pa_cons (pv 2) pa_nil)) (pe_callTy (call_int1) (by rfl) z_int (by decide +kernel) (pa_cons (pe_cmpR (op_ge) (pe_callB (call_abs) (by rfl) z_abs (by decide +kernel) (pa_cons (pv 2) pa_nil)) (pe_op op_pow (pe_int) (pe_int)) (nomark _)) pa_nil))) (pa_cons (pe_op op_add (pe_op op_add (pe_op op_mod (pv 2) (pe_int)) (pe_op op_mul (pe_int) (pv 1))) (pe_int)) (pa_cons (pe_int) pa_nil))))))), ?_⟩
    have fin : ∀ z : Int, ∀ (x : Int), ∀ p, H p = none → Q (.ref p) (upd H p (.lst [.int x, .int (z % 2305843009213693951 + 39373 * (j : Int) + 17), .int 0])) := fun z x p hp =>
      q _ p (same_upd hp) hp ⟨_, upd_same, _, _, _, rfl, by
        have h1 := Int.emod_nonneg z (show (2305843009213693951 : Int) ≠ 0 by decide)
        omega, by
        have h1 := Int.emod_lt_of_pos z (show (0 : Int) < 2305843009213693951 by decide)
        omega, by decide, by decide⟩
    refine ⟨_, rfl, _, rfl, a, ns, j, rfl, hS, fun v => ?_⟩
    refine ⟨_, rfl, _, rfl, _, rfl, _, rfl, _, _, rfl, rfl, ⟨by decide, by decide, by decide⟩, _, _, rfl, rfl, .inr ⟨_, rfl, ?_⟩⟩
    refine ⟨_, _, rfl, rfl, .inr ?_, _, rfl, _, _, rfl, rfl, (by show (0 : Int) < 2305843009213693951; decide), _, rfl, _, _, rfl, rfl, .inl ⟨by decide, by decide⟩, _, _, rfl, rfl, _, _, rfl, rfl, (by show 3 ≤ sizeLine; decide), fun p hp => fin _ _ p hp⟩
    exact mul01
theorem ok_l_take {f : Addr} {fd : FuncData} {k : Nat} (F : Fun K "_law_take" "_law_take" s_l_take f fd) : FnOk P w K mg base CX0 (k + 1) f fd ["_law_box_here", "_law_many"] spTake := by
  refine F.ok sc_l_take (fun vs H Q E h => ?_) (fun cdv A outer s H vs Q E hr h => ?_)
  · obtain ⟨b, m, n, rfl, _⟩ := h
    rfl
  · obtain ⟨b, m, n, rfl, m0, m1, ⟨xs, hb, x, y, c, rfl, y0, y1, c0, c1⟩, hn, q⟩ := h
    refine ⟨_, (pss_cons (ps_if (pt_cmpR (op_gt) (pe_ix ix_list (pv 0) (pe_int) (fun _ _ => rfl)) (pe_int) (nomark _)) (pss_cons (ps_set (i := 2) sc_l_take.nd rfl (Or.inl rfl) (pe_op op_mod (pe_ix ix_list (pv 0) (pe_int) (fun _ _ => rfl)) (pv 1)))
      (pss_cons (ps_asg (pe_op op_fdiv (pe_ix ix_list (pv 0) (pe_int) (fun _ _ => rfl)) (pv 1)) (pg_sub (pv 0) (pe_int) set_list))
      (pss_one (ps_ret (pv 2))))) pss_nil)
      (pss_cons (ps_asg (pe_op op_add (pe_ix ix_list (pv 0) (pe_int) (fun _ _ => rfl)) (pe_int)) (pg_sub (pv 0) (pe_int) set_list))
      (pss_cons (ps_set (i := 3) sc_l_take.nd rfl (Or.inl rfl) (pe_op op_mod (pe_op op_mul (pe_op op_add (pe_ix ix_list (pv 0) (pe_int) (fun _ _ => rfl)) (pe_op op_mul (pe_int) (pe_ix ix_list (pv 0) (pe_int) (fun _ _ => rfl)))) (pe_op op_add (pe_int) (pe_ix ix_list (pv 0) (pe_int) (fun _ _ => rfl)))) (pe_int)))
      (pss_cons (ps_set (i := 4) sc_l_take.nd rfl (Or.inl rfl) (pe_op op_mod (pe_op op_mul (pe_op op_add (pe_op op_add (pv 3) (pe_ix ix_list (pv 0) (pe_int) (fun _ _ => rfl))) (pe_op op_fdiv (pe_ix ix_list (pv 0) (pe_int) (fun _ _ => rfl)) (pe_int))) (pe_op op_add (pe_op op_mod (pv 3) (pe_int)) (pe_int))) (pe_int)))
      (pss_one (ps_ret (pe_op op_mod (pe_op op_fdiv (pe_op op_mod (pe_op op_add (pe_op op_mul (pv 4) (pe_int)) (pv 3)) (pe_int)) (pe_int)) (pv 1)))))))), ?_⟩
    have q0 := q
    replace q : ∀ (t : Int) H', 0 ≤ t → t < m → Aft b (n + 1) H H' → (∀ p, H p = none → H' p = none) → Q (.int t) H' := fun t H' t0 t1 af fr => by
      have h := q0 t.toNat H' (by omega) af fr
      rw [Int.toNat_of_nonneg t0] at h
      exact h
    have fr : ∀ {o : HO}, ∀ p, H p = none → upd H b o p = none := fun p hp => by
      rw [upd_ne (ne_of_none hb hp).symm]
      exact hp
    refine ⟨_, rfl, b, _, _, _, rfl, rfl, sqL hb, rfl, _, _, rfl, rfl, _, rfl, ite2 (fun t => ?_) (fun t => ?_)⟩
    · refine ⟨_, rfl, b, _, _, _, rfl, rfl, sqL hb, rfl, _, rfl, _, _, rfl, rfl, m0, ?_⟩
      refine ⟨_, rfl, b, _, _, _, rfl, rfl, sqL hb, rfl, _, rfl, _, _, rfl, rfl, ⟨m0, m1⟩, _, rfl, b, _, _, 0, rfl, rfl, hb, rfl, ?_⟩
      refine ⟨_, rfl, q _ _ (Int.emod_nonneg _ (by omega)) (Int.emod_lt_of_pos _ m0) ⟨⟨_, upd_same, _, _, _, rfl, y0, y1, c0, by omega⟩, But.upd⟩ fr⟩
    · refine ⟨_, rfl, b, _, _, _, rfl, rfl, sqL hb, rfl, _, _, rfl, rfl, _, rfl, b, _, _, 2, rfl, rfl, hb, rfl, ?_⟩
      have hb1 : upd H b (.lst [.int x, .int y, .int (c + 1)]) b = some (.lst [.int x, .int y, .int (c + 1)]) := upd_same
      refine ⟨_, rfl, b, _, _, _, rfl, rfl, sqL hb1, rfl, _, rfl, b, _, _, _, rfl, rfl, sqL hb1, rfl, _, _, rfl, rfl, .inl ⟨by decide, by decide⟩, _, _, rfl, rfl, _, rfl, b, _, _, _, rfl, rfl, sqL hb1, rfl, _, _, rfl, rfl, _, _, rfl, rfl, .inr ⟨by omega, by omega⟩, _, _, rfl, rfl, (by show (0 : Int) < 2147483647; decide), ?_⟩
      refine ⟨_, rfl, _, rfl, b, _, _, _, rfl, rfl, sqL hb1, rfl, _, _, rfl, rfl, _, rfl, b, _, _, _, rfl, rfl, sqL hb1, rfl, _, _, rfl, rfl, ⟨by decide, by decide⟩, _, _, rfl, rfl, _, rfl, _, _, rfl, rfl, (by show (0 : Int) < 40009; decide), _, _, rfl, rfl, _, _, rfl, rfl, .inr ?_, _, _, rfl, rfl, (by show (0 : Int) < 2147483629; decide), ?_⟩
      · generalize hg : (y + 48271 * (c + 1)) * (39373 + (c + 1)) % 2147483647 = g
        have h1 := Int.emod_nonneg g (show (40009 : Int) ≠ 0 by decide)
        have h2 := Int.emod_lt_of_pos g (show (0 : Int) < 40009 by decide)
        constructor <;> omega
      refine ⟨_, rfl, _, _, rfl, rfl, .inr ⟨by decide, by decide⟩, _, rfl, _, _, rfl, rfl, _, _, rfl, rfl, (by show (0 : Int) < 2147483587; decide), _, _, rfl, rfl, ⟨by decide, by decide⟩, _, rfl, _, _, rfl, rfl, m0, ?_⟩
      exact q _ _ (Int.emod_nonneg _ (by omega)) (Int.emod_lt_of_pos _ m0) ⟨⟨_, upd_same, _, _, _, rfl, y0, y1, by omega, by omega⟩, But.upd⟩ fr
theorem ok_l_same {f : Addr} {fd : FuncData} {n : Nat} (F : Fun K "_law_same" "_law_same" s_l_same f fd) (z_isinstance : mg "isinstance" = none) (z_list : mg "list" = none) (z_tuple : mg "tuple" = none) (z_bool : mg "bool" = none) (z_int : mg "int" = none) (z_str : mg "str" = none) (z_len : mg "len" = none) (z_all : mg "all" = none) (z_zip : mg "zip" = none)
    (c_l_same : Cal P w K mg base n "_law_same" ["_law_found", "_law_due"] (spSm (Twin K n))) : FnOk P w K mg base CX0 (n + 1) f fd ["_law_found", "_law_due"] (spSm (Twin K (n + 1))) := by
  refine F.ok sc_l_same (fun vs H Q E h => ?_) (fun cdv A outer s H vs Q E hr h => ?_)
  · obtain ⟨x, y, rfl, _⟩ := h
    rfl
  · obtain ⟨x, y, rfl, hT, q⟩ := h
    refine ⟨_, (pss_cons (ps_if (pt_val (pe_callB (call_isiT) (by rfl) z_isinstance (by decide +kernel) (pa_cons (pv 1) (pa_cons (pe_tup (pa_cons (pe_bltn (v := .ty "list") (by rfl) z_list (by decide +kernel) rfl) (pa_cons (pe_bltn (v := .ty "tuple") (by rfl) z_tuple (by decide +kernel) rfl) pa_nil))) pa_nil)))) (pss_cons (ps_if (PW.pt (pw_or (pt_cmpR (op_ne) (pe_callB (call_isi) (by rfl) z_isinstance (by decide +kernel) (pa_cons (pv 0) (pa_cons (pe_bltn (v := .ty "list") (by rfl) z_list (by decide +kernel) rfl) pa_nil))) (pe_callB (call_isi) (by rfl) z_isinstance (by decide +kernel) (pa_cons (pv 1) (pa_cons (pe_bltn (v := .ty "list") (by rfl) z_list (by decide +kernel) rfl) pa_nil))) (nomark _)) (pw_or1 (pt_cmpR (op_ne) (pe_callB (call_isi) (by rfl) z_isinstance (by decide +kernel) (pa_cons (pv 0) (pa_cons (pe_bltn (v := .ty "tuple") (by rfl) z_tuple (by decide +kernel) rfl) pa_nil))) (pe_callB (call_isi) (by rfl) z_isinstance (by decide +kernel) (pa_cons (pv 1) (pa_cons (pe_bltn (v := .ty "tuple") (by rfl) z_tuple (by decide +kernel) rfl) pa_nil))) (nomark _))))) (pss_one (ps_ret (pe_bl))) pss_nil)
      (pss_one (ps_ret (pe_and (pe_cmpR (op_eq) (pe_callB (call_len_seq) (by rfl) z_len (by decide +kernel) (pa_cons (pv 0) pa_nil)) (pe_callB (call_len_seq) (by rfl) z_len (by decide +kernel) (pa_cons (pv 1) pa_nil)) (nomark _)) (pe_one (pe_callB (cr_all rfl) (by rfl) z_all (by decide +kernel) (pa_cons (pe_lc (own := [("_law_one", 2), ("_law_two", 3)]) (g := (gTup K 2 (gCons (gName 2) (gCons (gName 3) gNil)))) (tt := tYes) rfl sc_l_same.nd (RZ.pi_zipA (by rfl) z_zip (pa_cons (pv 0) (pa_cons (pv 1) pa_nil))) (blkOk_by (own := [("_law_one", 2), ("_law_two", 3)]) (N := ["_law_found", "_law_due", "_law_one", "_law_two"]) (sc := defScope s_l_same) (by decide +kernel)) (fun _ _ _ _ _ => (pg_tup rfl (pgs_cons (pg_name (i := 2) sc_l_same.nd rfl (Or.inl rfl)) (pgs_cons (pg_name (i := 3) sc_l_same.nd rfl (Or.inl rfl)) pgs_nil)))) (fun _ _ _ _ _ => pts_nil) (fun _ _ _ _ _ => (pe_c c_l_same hr (by first | decide | exact Nat.le_refl _) (by rfl) (pa_cons (pv 2) (pa_cons (pv 3) pa_nil))))) pa_nil))))))) pss_nil)
      (pss_cons (ps_if (PW.pt (pw_or (pt_cmpR (op_isN) (pv 1) (pe_non) (nomark _)) (pw_or1 (pt_val (pe_callB (call_isi) (by rfl) z_isinstance (by decide +kernel) (pa_cons (pv 1) (pa_cons (pe_bltn (v := .ty "str") (by rfl) z_str (by decide +kernel) rfl) pa_nil))))))) (pss_one (ps_ret (pe_and (pe_cmpR (op_eq) (pe_callB (call_isi) (by rfl) z_isinstance (by decide +kernel) (pa_cons (pv 0) (pa_cons (pe_bltn (v := .ty "str") (by rfl) z_str (by decide +kernel) rfl) pa_nil))) (pe_callB (call_isi) (by rfl) z_isinstance (by decide +kernel) (pa_cons (pv 1) (pa_cons (pe_bltn (v := .ty "str") (by rfl) z_str (by decide +kernel) rfl) pa_nil))) (nomark _)) (pe_one (pe_cmpR (op_eq) (pv 0) (pv 1) (nomark _)))))) pss_nil)
      (pss_one (ps_ret (pe_and (pe_callB (call_isi) (by rfl) z_isinstance (by decide +kernel) (pa_cons (pv 0) (pa_cons (pe_bltn (v := .ty "int") (by rfl) z_int (by decide +kernel) rfl) pa_nil))) (pe_and (pe_cmpR (op_eq) (pe_callB (call_isi) (by rfl) z_isinstance (by decide +kernel) (pa_cons (pv 0) (pa_cons (pe_bltn (v := .ty "bool") (by rfl) z_bool (by decide +kernel) rfl) pa_nil))) (pe_callB (call_isi) (by rfl) z_isinstance (by decide +kernel) (pa_cons (pv 1) (pa_cons (pe_bltn (v := .ty "bool") (by rfl) z_bool (by decide +kernel) rfl) pa_nil))) (nomark _)) (pe_one (pe_cmpR (op_eq) (pv 0) (pv 1) (nomark _))))))))), ?_⟩
    refine ⟨_, rfl, (by show 2 ≤ sizeLine; decide), fun tp htp => ?_⟩
    have s1 : Same H (upd H tp (.tup [.ty "list", .ty "tuple"])) := same_upd htp
    have hT1 : Twin K (n + 1) (upd H tp (.tup [.ty "list", .ty "tuple"])) x y := Twin.same s1 hT
    have hcs : Paired ClsV [V.ty "list", V.ty "tuple"] [Value.type "list", Value.type "tuple"] := .cons (.ty _) (.cons (.ty _) .nil)
    rcases hT1 with ⟨hs, rfl⟩ | ⟨a, b, xs, ys, rfl, rfl, hl, hlm, it, hq⟩
    · have q' := q _ s1
      rw [← decide_eq_true (rfl : x = x)] at q'
      rcases hs with rfl | ⟨bb, rfl⟩ | ⟨ii, rfl⟩ | ⟨zz, rfl⟩
      · have ty : TyX K (upd H tp (.tup [.ty "list", .ty "tuple"])) V.non (.type "NoneType") := .base .non
        have kS : kitB "NoneType" "str" = some false := by decide +kernel
        refine ⟨_, tp, _, _, _, _, rfl, upd_same, hcs, ty, kit2 (by decide +kernel : kitB "NoneType" "list" = some false) (by decide +kernel : kitB "NoneType" "tuple" = some false), _, rfl, iteF ?_⟩
        refine ⟨_, rfl, rfl, _, rfl, iteT (iteT ?_)⟩
        exact ⟨_, rfl, _, _, _, _, _, rfl, .ty _, ty, kit_ty kS, _, rfl, _, _, _, _, _, rfl, .ty _, ty, kit_ty kS, rfl, _, rfl, ite2 (fun _ => ⟨_, rfl, _, rfl, rfl, q'⟩) (fun h => absurd (decide_eq_true rfl) h)⟩
      · have ty : TyX K (upd H tp (.tup [.ty "list", .ty "tuple"])) (V.bl bb) (.type "bool") := .base (.bl bb)
        have kS : kitB "bool" "str" = some false := by decide +kernel
        have kI : kitB "bool" "int" = some true := by decide +kernel
        have kB : kitB "bool" "bool" = some true := by decide +kernel
        refine ⟨_, tp, _, _, _, _, rfl, upd_same, hcs, ty, kit2 (by decide +kernel : kitB "bool" "list" = some false) (by decide +kernel : kitB "bool" "tuple" = some false), _, rfl, iteF ?_⟩
        refine ⟨_, rfl, rfl, _, rfl, iteF ⟨_, rfl, _, _, _, _, _, rfl, .ty _, ty, kit_ty kS, _, rfl, iteF ?_⟩⟩
        exact ⟨_, rfl, _, _, _, _, _, rfl, .ty _, ty, kit_ty kI, _, rfl, iteT ⟨_, rfl, _, _, _, _, _, rfl, .ty _, ty, kit_ty kB, _, rfl, _, _, _, _, _, rfl, .ty _, ty, kit_ty kB, rfl, _, rfl, ite2 (fun _ => ⟨_, rfl, _, rfl, rfl, q'⟩) (fun h => absurd (decide_eq_true rfl) h)⟩⟩
      · have ty : TyX K (upd H tp (.tup [.ty "list", .ty "tuple"])) (V.int ii) (.type "int") := .base (.int ii)
        have kS : kitB "int" "str" = some false := by decide +kernel
        have kI : kitB "int" "int" = some true := by decide +kernel
        have kB : kitB "int" "bool" = some false := by decide +kernel
        refine ⟨_, tp, _, _, _, _, rfl, upd_same, hcs, ty, kit2 (by decide +kernel : kitB "int" "list" = some false) (by decide +kernel : kitB "int" "tuple" = some false), _, rfl, iteF ?_⟩
        refine ⟨_, rfl, rfl, _, rfl, iteF ⟨_, rfl, _, _, _, _, _, rfl, .ty _, ty, kit_ty kS, _, rfl, iteF ?_⟩⟩
        exact ⟨_, rfl, _, _, _, _, _, rfl, .ty _, ty, kit_ty kI, _, rfl, iteT ⟨_, rfl, _, _, _, _, _, rfl, .ty _, ty, kit_ty kB, _, rfl, _, _, _, _, _, rfl, .ty _, ty, kit_ty kB, rfl, _, rfl, ite2 (fun _ => ⟨_, rfl, _, rfl, rfl, q'⟩) (fun h => absurd (decide_eq_true rfl) h)⟩⟩
      · have ty : TyX K (upd H tp (.tup [.ty "list", .ty "tuple"])) (V.str zz) (.type "str") := .base (.str zz)
        have kS : kitB "str" "str" = some true := by decide +kernel
        refine ⟨_, tp, _, _, _, _, rfl, upd_same, hcs, ty, kit2 (by decide +kernel : kitB "str" "list" = some false) (by decide +kernel : kitB "str" "tuple" = some false), _, rfl, iteF ?_⟩
        refine ⟨_, rfl, rfl, _, rfl, iteF ⟨_, rfl, _, _, _, _, _, rfl, .ty _, ty, kit_ty kS, _, rfl, iteT ?_⟩⟩
        exact ⟨_, rfl, _, _, _, _, _, rfl, .ty _, ty, kit_ty kS, _, rfl, _, _, _, _, _, rfl, .ty _, ty, kit_ty kS, rfl, _, rfl, ite2 (fun _ => ⟨_, rfl, _, rfl, rfl, q'⟩) (fun h => absurd (decide_eq_true rfl) h)⟩
    · rcases hq with ⟨ha, hb⟩ | ⟨ha, hb⟩
      · have ka : kitB "list" "list" = some true := by decide +kernel
        have kb : kitB "list" "tuple" = some false := by decide +kernel
        refine ⟨_, tp, _, _, _, _, rfl, upd_same, hcs, tyL hb, kit2 ka kb, _, rfl, iteT ?_⟩
        refine ⟨_, rfl, _, _, _, _, _, rfl, .ty _, tyL ha, kit_ty ka, _, rfl, _, _, _, _, _, rfl, .ty _, tyL hb, kit_ty ka, rfl, _, rfl, iteNS rfl ?_⟩
        refine ⟨_, rfl, _, _, _, _, _, rfl, .ty _, tyL ha, kit_ty kb, _, rfl, _, _, _, _, _, rfl, .ty _, tyL hb, kit_ty kb, rfl, _, rfl, iteNS rfl ?_⟩
        refine ⟨_, rfl, a, xs, rfl, .inl ha, _, rfl, b, ys, rfl, .inl hb, rfl, _, rfl, ite2 (fun _ => ?_) (fun h => absurd (decide_eq_true (by rw [hl])) h)⟩
        refine ⟨_, rfl, _, rfl, a, b, xs, ys, rfl, .inl ⟨ha, hb, fun D hD => ?_⟩⟩
        generalize hH1 : upd H tp (.tup [.ty "list", .ty "tuple"]) = H1 at *
        refine lc_it (walk_zip (K := K) (a := a) (b := b) (xs := xs) (ys := ys) (n := xs.length) (by omega)) (fun i H' => Same H1 H' ∧ H' D = some (.lst (List.replicate i (.bl true)))) ⟨same_upd hD, upd_same⟩ (fun i H' _ p => ⟨p.1.seq ha, p.1.seq hb⟩) ?_ ?_
        · rintro i v H2 H3 hi ⟨sm, eD⟩ ⟨T, u, v', rfl, nT, rfl, e1, e2⟩
          refine ⟨T, _, rfl, sqT upd_same, rfl, _, _, rfl, _, _, rfl, rfl, rfl, _, rfl, _, rfl, u, v', rfl, Twin.same (sm.trans (same_upd nT)) (it i u v' e1 e2), fun H4 s4 => ?_⟩
          have s5 := (same_upd (o := .tup [u, v']) nT).trans s4
          refine ⟨_, s5 _ _ eD, by rw [List.length_replicate]; exact line_gt (by omega), same_but (sm.trans s5) hD, ?_⟩
          rw [upd_same, rep_more]
        · rintro H2 ⟨sm, eD⟩
          refine ⟨D, List.replicate xs.length true, rfl, by rw [List.map_replicate]; exact sqL eD, ?_⟩
          rw [all_true]
          exact q _ (s1.trans sm)
      · have ka : kitB "tuple" "list" = some false := by decide +kernel
        have kb : kitB "tuple" "tuple" = some true := by decide +kernel
        refine ⟨_, tp, _, _, _, _, rfl, upd_same, hcs, tyT hb, kit2 ka kb, _, rfl, iteT ?_⟩
        refine ⟨_, rfl, _, _, _, _, _, rfl, .ty _, tyT ha, kit_ty ka, _, rfl, _, _, _, _, _, rfl, .ty _, tyT hb, kit_ty ka, rfl, _, rfl, iteNS rfl ?_⟩
        refine ⟨_, rfl, _, _, _, _, _, rfl, .ty _, tyT ha, kit_ty kb, _, rfl, _, _, _, _, _, rfl, .ty _, tyT hb, kit_ty kb, rfl, _, rfl, iteNS rfl ?_⟩
        refine ⟨_, rfl, a, xs, rfl, .inr ha, _, rfl, b, ys, rfl, .inr hb, rfl, _, rfl, ite2 (fun _ => ?_) (fun h => absurd (decide_eq_true (by rw [hl])) h)⟩
        refine ⟨_, rfl, _, rfl, a, b, xs, ys, rfl, .inr ⟨ha, hb, fun D hD => ?_⟩⟩
        generalize hH1 : upd H tp (.tup [.ty "list", .ty "tuple"]) = H1 at *
        refine lc_it (walk_zipT (K := K) (a := a) (b := b) (xs := xs) (ys := ys) (n := xs.length) (by omega)) (fun i H' => Same H1 H' ∧ H' D = some (.lst (List.replicate i (.bl true)))) ⟨same_upd hD, upd_same⟩ (fun i H' _ p => ⟨sameT p.1 ha, sameT p.1 hb⟩) ?_ ?_
        · rintro i v H2 H3 hi ⟨sm, eD⟩ ⟨T, u, v', rfl, nT, rfl, e1, e2⟩
          refine ⟨T, _, rfl, sqT upd_same, rfl, _, _, rfl, _, _, rfl, rfl, rfl, _, rfl, _, rfl, u, v', rfl, Twin.same (sm.trans (same_upd nT)) (it i u v' e1 e2), fun H4 s4 => ?_⟩
          have s5 := (same_upd (o := .tup [u, v']) nT).trans s4
          refine ⟨_, s5 _ _ eD, by rw [List.length_replicate]; exact line_gt (by omega), same_but (sm.trans s5) hD, ?_⟩
          rw [upd_same, rep_more]
        · rintro H2 ⟨sm, eD⟩
          refine ⟨D, List.replicate xs.length true, rfl, by rw [List.map_replicate]; exact sqL eD, ?_⟩
          rw [all_true]
          exact q _ (s1.trans sm)
theorem cal_same0 {f : Addr} {fd : FuncData} (gm : mg "_law_same" = some (.ref f)) (kp : PySem.W.keepIn K (.ref f) = true) (bs : Binds K fd ["_law_found", "_law_due"] []) : Cal P w K mg base 0 "_law_same" ["_law_found", "_law_due"] (spSm (Twin K 0)) :=
  ⟨f, fd, ⟨fun vs H Q E h => by obtain ⟨x, y, rfl, _⟩ := h; rfl, fun A outer s H args us vs Q E _ _ _ _ h => by obtain ⟨x, y, rfl, h, _⟩ := h; exact h.elim⟩, gm, kp, bs⟩
end
end My

namespace My
open PySem PySem.Spec PyProof.Rows L2
def pA : List Int := [4, 60, 10 ^ Int.toNat 4 + 1]
def pB : List Int := [3, 80, 10 ^ Int.toNat 4]
def pC : List Int := [2, 99]
theorem pA_in {c : Int} (h : c ∈ pA) : 0 < c ∧ c ≤ 10001 := by
  have : ∀ c ∈ pA, 0 < c ∧ c ≤ 10001 := by decide +kernel
  exact this c h
theorem pB_in {c : Int} (h : c ∈ pB) : 0 < c ∧ c ≤ 10000 := by
  have : ∀ c ∈ pB, 0 < c ∧ c ≤ 10000 := by decide +kernel
  exact this c h
theorem pC_in {c : Int} (h : c ∈ pC) : 0 < c ∧ c ≤ 99 := by
  have : ∀ c ∈ pC, 0 < c ∧ c ≤ 99 := by decide +kernel
  exact this c h
theorem pick {L : List Int} {v : Nat} (h : v < L.length) : ∃ c ∈ L, atI (L.map V.int) (v : Int) = some (.int c) :=
  ⟨L[v], List.getElem_mem h, atI_nat (by rw [List.getElem?_map, List.getElem?_eq_getElem h]; rfl)⟩
theorem ten4' : (10 : Int) ^ Int.toNat 4 = 10000 := by decide
theorem ten6' : (10 : Int) ^ Int.toNat 6 = 1000000 := by decide
/-- a new tuple of the four fields of some place -/
def spSpot : Sp := fun vs H Q _ => ∃ (b : Addr) (wd : Int) (n : Nat), vs = [.ref b, .int wd] ∧ 0 < wd ∧ wd ≤ 1000000 ∧ Bx n b H ∧ n ≤ 900000 ∧ ∀ ln la bg en H' t, Spot ln la bg en → Aft b (n + 8) H H' → H t = none → H' t = some (.tup [ln, la, bg, en]) → Q (.ref t) H'
theorem spot_line {l : Int} (h1 : 1 ≤ l) (h2 : l ≤ 1000000) : Spot (.int l) (.int l) .non .non :=
  .inr ⟨l, l, rfl, rfl, .inr ⟨l, rfl, h1, h2, .inr ⟨l, rfl, by omega, by omega, h2, .inl ⟨decide_eq_true rfl, rfl, rfl⟩⟩⟩⟩
theorem spot_part {l m b e : Int} (h1 : 1 ≤ l) (lm : l ≤ m) (h2 : m ≤ l + 99) (h3 : m ≤ 1000000) (b0 : 0 ≤ b) (b1 : b ≤ 10000) (e0 : 0 ≤ e) (e1 : e ≤ 10000) (be : m = l → b ≤ e) : Spot (.int l) (.int m) (.int b) (.int e) :=
  .inr ⟨l, m, rfl, rfl, .inr ⟨l, rfl, h1, by omega, .inr ⟨m, rfl, lm, h2, h3, .inr ⟨b, e, rfl, rfl, b0, b1, fun z => be (of_decide_eq_true z), e0, e1⟩⟩⟩⟩
section
variable {P : Program} {w : World} {K : PySem.W.Frag} {mg : Str → Option Value} {base : Heap}
theorem ok_l_spot {f : Addr} {fd : FuncData} (F : Fun K "_law_spot" "_law_spot" s_l_spot f fd) (z_min : mg "min" = none) (c_l_take : Cal P w K mg base 2 "_law_take" ["_law_box_here", "_law_many"] spTake) : FnOk P w K mg base CX0 3 f fd ["_law_box_here", "_law_wide"] spSpot := by
  refine F.ok sc_l_spot (fun vs H Q E h => ?_) (fun cdv A outer s H vs Q E hr h => ?_)
  · obtain ⟨b, wd, n, rfl, _⟩ := h
    rfl
  · obtain ⟨b, wd, n, rfl, w0, w1, hb, hn, q⟩ := h
    refine ⟨_, (pss_cons (ps_par (by rfl) sc_l_spot.nd (i := 2) (j := 3) rfl rfl (by decide) rfl rfl (pa_cons (pe_c c_l_take hr (by first | decide | exact Nat.le_refl _) (by rfl) (pa_cons (pv 0) (pa_cons (pe_int) pa_nil))) (pa_cons (pe_op op_add (pe_int) (pe_c c_l_take hr (by first | decide | exact Nat.le_refl _) (by rfl) (pa_cons (pv 0) (pa_cons (pv 1) pa_nil)))) pa_nil)) (by rfl))
      (pss_cons (ps_if (pt_cmpR (op_eq) (pv 2) (pe_int) (nomark _)) (pss_one (ps_ret (pe_tup (pa_cons (pe_non) (pa_cons (pe_non) (pa_cons (pe_non) (pa_cons (pe_non) pa_nil))))))) pss_nil)
      (pss_cons (ps_if (pt_cmpR (op_lt) (pv 2) (pe_int) (nomark _)) (pss_one (ps_ret (pe_tup (pa_cons (pv 3) (pa_cons (pv 3) (pa_cons (pe_non) (pa_cons (pe_non) pa_nil))))))) pss_nil)
      (pss_cons (ps_set (i := 4) sc_l_spot.nd rfl (Or.inl rfl) (pe_c c_l_take hr (by first | decide | exact Nat.le_refl _) (by rfl) (pa_cons (pv 0) (pa_cons (pe_ix ix_list (pe_lst (pa_cons (pe_int) (pa_cons (pe_int) (pa_cons (pe_op op_add (pe_op op_pow (pe_int) (pe_int)) (pe_int)) pa_nil)))) (pe_c c_l_take hr (by first | decide | exact Nat.le_refl _) (by rfl) (pa_cons (pv 0) (pa_cons (pe_int) pa_nil))) (fun _ _ => rfl)) pa_nil))))
      (pss_cons (ps_if (pt_cmpR (op_lt) (pv 2) (pe_int) (nomark _)) (pss_one (ps_ret (pe_tup (pa_cons (pv 3) (pa_cons (pv 3) (pa_cons (pv 4) (pa_cons (pe_callB (call_min2 rfl) (by rfl) z_min (by decide +kernel) (pa_cons (pe_op op_pow (pe_int) (pe_int)) (pa_cons (pe_op op_add (pv 4) (pe_c c_l_take hr (by first | decide | exact Nat.le_refl _) (by rfl) (pa_cons (pv 0) (pa_cons (pe_ix ix_list (pe_lst (pa_cons (pe_int) (pa_cons (pe_int) (pa_cons (pe_op op_pow (pe_int) (pe_int)) pa_nil)))) (pe_c c_l_take hr (by first | decide | exact Nat.le_refl _) (by rfl) (pa_cons (pv 0) (pa_cons (pe_int) pa_nil))) (fun _ _ => rfl)) pa_nil)))) pa_nil))) pa_nil))))))) pss_nil)
      (pss_cons (ps_set (i := 5) sc_l_spot.nd rfl (Or.inl rfl) (pe_callB (call_min2 rfl) (by rfl) z_min (by decide +kernel) (pa_cons (pe_op op_pow (pe_int) (pe_int)) (pa_cons (pe_op op_add (pe_op op_add (pv 3) (pe_int)) (pe_c c_l_take hr (by first | decide | exact Nat.le_refl _) (by rfl) (pa_cons (pv 0) (pa_cons (pe_ix ix_list (pe_lst (pa_cons (pe_int) (pa_cons (pe_int) pa_nil))) (pe_c c_l_take hr (by first | decide | exact Nat.le_refl _) (by rfl) (pa_cons (pv 0) (pa_cons (pe_int) pa_nil))) (fun _ _ => rfl)) pa_nil)))) pa_nil))))
      (pss_cons (ps_if (pt_cmpR (op_eq) (pv 5) (pv 3) (nomark _)) (pss_one (ps_ret (pe_tup (pa_cons (pv 3) (pa_cons (pv 3) (pa_cons (pe_non) (pa_cons (pe_non) pa_nil))))))) pss_nil)
      (pss_one (ps_ret (pe_tup (pa_cons (pv 3) (pa_cons (pv 5) (pa_cons (pv 4) (pa_cons (pe_c c_l_take hr (by first | decide | exact Nat.le_refl _) (by rfl) (pa_cons (pv 0) (pa_cons (pe_ix ix_list (pe_lst (pa_cons (pe_int) (pa_cons (pe_int) (pa_cons (pe_op op_add (pe_op op_pow (pe_int) (pe_int)) (pe_int)) pa_nil)))) (pe_c c_l_take hr (by first | decide | exact Nat.le_refl _) (by rfl) (pa_cons (pv 0) (pa_cons (pe_int) pa_nil))) (fun _ _ => rfl)) pa_nil))) pa_nil)))))))))))))), ?_⟩
    have fin : ∀ (ln la bg en : V) (k : Nat) (H' : Hp), Spot ln la bg en → k ≤ 8 → Aft b (n + k) H H' → ∀ t, H' t = none → Q (.ref t) (upd H' t (.tup [ln, la, bg, en])) := fun ln la bg en k H' hS hk a t nt =>
      q ln la bg en _ t hS ((a.new nt).mono (by omega)) (a.free nt hb) upd_same
    refine ⟨_, rfl, b, 6, n, rfl, by decide, by decide, hb, by omega, fun vw H1 hw a1 _ => ?_⟩
    refine ⟨_, rfl, _, rfl, b, wd, n + 1, rfl, w0, by omega, a1.box, by omega, fun vf H2 hf a2 _ => ⟨_, _, rfl, rfl, _, _, rfl, ?_⟩⟩
    have A2 : Aft b (n + 2) H H2 := a1.trans a2
    have f1 : 1 ≤ 1 + (vf : Int) := by omega
    have f2 : 1 + (vf : Int) ≤ 1000000 := by omega
    refine ⟨_, rfl, rfl, _, rfl, ite2 (fun c0 => ?_) (fun c0 => ?_)⟩
    · exact ⟨(by show 4 ≤ sizeLine; decide), fun t nt => fin _ _ _ _ 2 _ (.inl ⟨rfl, rfl, rfl, rfl⟩) (by decide) A2 t nt⟩
    refine ⟨_, rfl, _, _, rfl, rfl, _, rfl, ite2 (fun c3 => ?_) (fun c3 => ?_)⟩
    · exact ⟨_, rfl, _, rfl, (by show 4 ≤ sizeLine; decide), fun t nt => fin _ _ _ _ 2 _ (spot_line f1 f2) (by decide) A2 t nt⟩
    refine ⟨_, rfl, _, _, rfl, rfl, ⟨by decide, by decide, by decide⟩, _, _, rfl, rfl, (by show 3 ≤ sizeLine; decide), fun l1d nl1d => ?_⟩
    have nl1d' : H2 l1d = none := nl1d
    have sl1d := same_upd (o := .lst (pA.map V.int)) nl1d'
    have lb1d := A2.box.ne nl1d'
    refine ⟨_, rfl, b, 3, n + 2, rfl, by decide, by decide, A2.box.same sl1d, by omega, fun v1d Hx1d hv1d ax1d _ => ?_⟩
    obtain ⟨c1d, hc1d, hat1d⟩ := pick (L := pA) (v := v1d) (by show v1d < 3; omega)
    have A1dx : Aft b (n + 2 + 1) H Hx1d := (A2.same sl1d).trans ax1d
    refine ⟨l1d, pA.map V.int, _, _, rfl, rfl, sqL (ax1d.get (upd_same : upd H2 l1d (.lst (pA.map V.int)) l1d = _) lb1d), hat1d, ?_⟩
    refine ⟨b, c1d, n + 2 + 1, rfl, (pA_in hc1d).1, by have := (pA_in hc1d).2; omega, A1dx.box, by omega, fun u1d H1d hu1d ay1d _ => ?_⟩
    have A1d : Aft b (n + 2 + 2) H H1d := A1dx.trans ay1d
    have hb1d := (pA_in hc1d).2
    refine ⟨_, rfl, _, _, rfl, rfl, _, rfl, ite2 (fun c5 => ?_) (fun c5 => ?_)⟩
    · refine ⟨_, rfl, _, rfl, _, rfl, _, _, rfl, rfl, ⟨by decide, by decide, by decide⟩, _, rfl, ?_⟩
      refine ⟨_, rfl, _, _, rfl, rfl, ⟨by decide, by decide, by decide⟩, (by show 3 ≤ sizeLine; decide), fun l2d nl2d => ?_⟩
      have nl2d' : H1d l2d = none := nl2d
      have sl2d := same_upd (o := .lst (pB.map V.int)) nl2d'
      have lb2d := A1d.box.ne nl2d'
      refine ⟨_, rfl, b, 3, n + 2 + 2, rfl, by decide, by decide, A1d.box.same sl2d, by omega, fun v2d Hx2d hv2d ax2d _ => ?_⟩
      obtain ⟨c2d, hc2d, hat2d⟩ := pick (L := pB) (v := v2d) (by show v2d < 3; omega)
      have A2dx : Aft b (n + 2 + 2 + 1) H Hx2d := (A1d.same sl2d).trans ax2d
      refine ⟨l2d, pB.map V.int, _, _, rfl, rfl, sqL (ax2d.get (upd_same : upd H1d l2d (.lst (pB.map V.int)) l2d = _) lb2d), hat2d, ?_⟩
      refine ⟨b, c2d, n + 2 + 2 + 1, rfl, (pB_in hc2d).1, by have := (pB_in hc2d).2; omega, A2dx.box, by omega, fun u2d H2d hu2d ay2d _ => ?_⟩
      have A2d : Aft b (n + 2 + 2 + 2) H H2d := A2dx.trans ay2d
      have hb2d := (pB_in hc2d).2
      refine ⟨_, _, rfl, rfl, _, _, rfl, (by show 4 ≤ sizeLine; decide), fun t nt => ?_⟩
      refine fin _ _ _ _ 6 _ ?_ (by decide) A2d t nt
      have e : (10 : Int) ^ Int.toNat 4 = 10000 := ten4'
      split
      · exact spot_part f1 (by omega) (by omega) f2 (by omega) (by omega) (by omega) (by omega) (fun _ => by omega)
      · exact spot_part f1 (by omega) (by omega) f2 (by omega) (by omega) (by omega) (by omega) (fun _ => by omega)
    refine ⟨_, _, rfl, rfl, ⟨by decide, by decide, by decide⟩, _, rfl, _, _, rfl, rfl, ?_⟩
    refine ⟨_, rfl, (by show 2 ≤ sizeLine; decide), fun l3d nl3d => ?_⟩
    have nl3d' : H1d l3d = none := nl3d
    have sl3d := same_upd (o := .lst (pC.map V.int)) nl3d'
    have lb3d := A1d.box.ne nl3d'
    refine ⟨_, rfl, b, 2, n + 2 + 2, rfl, by decide, by decide, A1d.box.same sl3d, by omega, fun v3d Hx3d hv3d ax3d _ => ?_⟩
    obtain ⟨c3d, hc3d, hat3d⟩ := pick (L := pC) (v := v3d) (by show v3d < 2; omega)
    have A3dx : Aft b (n + 2 + 2 + 1) H Hx3d := (A1d.same sl3d).trans ax3d
    refine ⟨l3d, pC.map V.int, _, _, rfl, rfl, sqL (ax3d.get (upd_same : upd H1d l3d (.lst (pC.map V.int)) l3d = _) lb3d), hat3d, ?_⟩
    refine ⟨b, c3d, n + 2 + 2 + 1, rfl, (pC_in hc3d).1, by have := (pC_in hc3d).2; omega, A3dx.box, by omega, fun u3d H3d hu3d ay3d _ => ?_⟩
    have A3d : Aft b (n + 2 + 2 + 2) H H3d := A3dx.trans ay3d
    have hb3d := (pC_in hc3d).2
    refine ⟨_, _, rfl, rfl, _, _, rfl, ?_⟩
    have e6 : (10 : Int) ^ Int.toNat 6 = 1000000 := ten6'
    have hm : ∃ m : Int, m = (if (1 + (vf : Int)) + 1 + (u3d : Int) < (10 : Int) ^ Int.toNat 6 then (1 + (vf : Int)) + 1 + (u3d : Int) else (10 : Int) ^ Int.toNat 6) ∧ (1 + (vf : Int)) ≤ m ∧ m ≤ (1 + (vf : Int)) + 99 ∧ m ≤ 1000000 := by
      refine ⟨_, rfl, ?_⟩
      split <;> omega
    obtain ⟨m, em, m1, m2, m3⟩ := hm
    refine ⟨.int m, by rw [em] <;> rfl, _, rfl, rfl, _, rfl, ite2 (fun cb => ?_) (fun cb => ?_)⟩
    · exact ⟨_, rfl, _, rfl, (by show 4 ≤ sizeLine; decide), fun t nt => fin _ _ _ _ 6 _ (spot_line f1 f2) (by decide) A3d t nt⟩
    refine ⟨_, rfl, .int m, by rw [em] <;> rfl, _, rfl, ?_⟩
    refine ⟨_, rfl, _, _, rfl, rfl, ⟨by decide, by decide, by decide⟩, _, _, rfl, rfl, (by show 3 ≤ sizeLine; decide), fun l4d nl4d => ?_⟩
    have nl4d' : H3d l4d = none := nl4d
    have sl4d := same_upd (o := .lst (pA.map V.int)) nl4d'
    have lb4d := A3d.box.ne nl4d'
    refine ⟨_, rfl, b, 3, n + 2 + 2 + 2, rfl, by decide, by decide, A3d.box.same sl4d, by omega, fun v4d Hx4d hv4d ax4d _ => ?_⟩
    obtain ⟨c4d, hc4d, hat4d⟩ := pick (L := pA) (v := v4d) (by show v4d < 3; omega)
    have A4dx : Aft b (n + 2 + 2 + 2 + 1) H Hx4d := (A3d.same sl4d).trans ax4d
    refine ⟨l4d, pA.map V.int, _, _, rfl, rfl, sqL (ax4d.get (upd_same : upd H3d l4d (.lst (pA.map V.int)) l4d = _) lb4d), hat4d, ?_⟩
    refine ⟨b, c4d, n + 2 + 2 + 2 + 1, rfl, (pA_in hc4d).1, by have := (pA_in hc4d).2; omega, A4dx.box, by omega, fun u4d H4d hu4d ay4d _ => ?_⟩
    have A4d : Aft b (n + 2 + 2 + 2 + 2) H H4d := A4dx.trans ay4d
    have hb4d := (pA_in hc4d).2
    refine ⟨(by show 4 ≤ sizeLine; decide), fun t nt => ?_⟩
    refine fin _ _ _ _ 8 _ ?_ (by decide) A4d t nt
    have hne : m ≠ (1 + (vf : Int)) := fun z => cb (decide_eq_true (by rw [z] <;> rfl))
    exact spot_part f1 m1 m2 m3 (by omega) (by omega) (by omega) (by omega) (fun z => absurd z hne)
end
end My

namespace My
open PySem PySem.Spec PyProof.Rows L2
theorem made2 {C : Addr} {H : Hp} {ln la bg en la' : V} {Qv : VK} (hG : Good ln la bg en) (hl : lastOf ln la = la') {x dx : Addr} (nx : H x = none) (ndx : H dx = none) (ne : dx ≠ x) (q : ∀ H', Same H H' → PlaceAt C H' x ln la' bg en → Qv .non H') :
    spInit C [.ref x, ln, la, bg, en] (upd (upd H dx (.own x)) x (.ins C dx [])) Qv E0 := by
  refine ⟨x, dx, ln, la, bg, en, rfl, upd_same, hG, fun H' k hx => q H' (fun b o e => ?_) ⟨dx, ?_⟩⟩
  · have nb : b ≠ x := ne_of_none e nx
    have nd : b ≠ dx := ne_of_none e ndx
    refine k b o nb ?_
    rw [upd_ne nb, upd_ne nd]
    exact e
  · rw [hx, ← hl]
    rfl
def gv_0_line_end (vs zs : List V) : List V := [vs.getD 0 .non, zs.getD 0 .non, .non, .non, zs.getD 1 .non]
def gw_0_line_end (us ws : List Value) : List Value := [us.getD 0 .none, ws.getD 0 .none, .none, .none, ws.getD 1 .none]
def gv_0_last (vs zs : List V) : List V := [vs.getD 0 .non, .non, zs.getD 0 .non, .non, .non]
def gw_0_last (us ws : List Value) : List Value := [us.getD 0 .none, .none, ws.getD 0 .none, .none, .none]
def gv_0_end_begin_last_line (vs zs : List V) : List V := [vs.getD 0 .non, zs.getD 3 .non, zs.getD 2 .non, zs.getD 1 .non, zs.getD 0 .non]
def gw_0_end_begin_last_line (us ws : List Value) : List Value := [us.getD 0 .none, ws.getD 3 .none, ws.getD 2 .none, ws.getD 1 .none, ws.getD 0 .none]
def gv_0_line (vs zs : List V) : List V := [vs.getD 0 .non, zs.getD 0 .non, .non, .non, .non]
def gw_0_line (us ws : List Value) : List Value := [us.getD 0 .none, ws.getD 0 .none, .none, .none, .none]
def gv_0_last_line (vs zs : List V) : List V := [vs.getD 0 .non, zs.getD 1 .non, zs.getD 0 .non, .non, .non]
def gw_0_last_line (us ws : List Value) : List Value := [us.getD 0 .none, ws.getD 1 .none, ws.getD 0 .none, .none, .none]
def gv_2_begin (vs zs : List V) : List V := [vs.getD 0 .non, vs.getD 1 .non, vs.getD 2 .non, zs.getD 0 .non, .non]
def gw_2_begin (us ws : List Value) : List Value := [us.getD 0 .none, us.getD 1 .none, us.getD 2 .none, ws.getD 0 .none, .none]
def gv_1_last_end (vs zs : List V) : List V := [vs.getD 0 .non, vs.getD 1 .non, zs.getD 0 .non, .non, zs.getD 1 .non]
def gw_1_last_end (us ws : List Value) : List Value := [us.getD 0 .none, us.getD 1 .none, ws.getD 0 .none, .none, ws.getD 1 .none]
def gv_2_end_begin (vs zs : List V) : List V := [vs.getD 0 .non, vs.getD 1 .non, vs.getD 2 .non, zs.getD 1 .non, zs.getD 0 .non]
def gw_2_end_begin (us ws : List Value) : List Value := [us.getD 0 .none, us.getD 1 .none, us.getD 2 .none, ws.getD 1 .none, ws.getD 0 .none]
def gv_1_last_begin_end (vs zs : List V) : List V := [vs.getD 0 .non, vs.getD 1 .non, zs.getD 0 .non, zs.getD 1 .non, zs.getD 2 .non]
def gw_1_last_begin_end (us ws : List Value) : List Value := [us.getD 0 .none, us.getD 1 .none, ws.getD 0 .none, ws.getD 1 .none, ws.getD 2 .none]
def gv_1_begin_end (vs zs : List V) : List V := [vs.getD 0 .non, vs.getD 1 .non, .non, zs.getD 0 .non, zs.getD 1 .non]
def gw_1_begin_end (us ws : List Value) : List Value := [us.getD 0 .none, us.getD 1 .none, .none, ws.getD 0 .none, ws.getD 1 .none]
def gv_0_end_line_begin (vs zs : List V) : List V := [vs.getD 0 .non, zs.getD 1 .non, .non, zs.getD 2 .non, zs.getD 0 .non]
def gw_0_end_line_begin (us ws : List Value) : List Value := [us.getD 0 .none, ws.getD 1 .none, .none, ws.getD 2 .none, ws.getD 0 .none]
def spSeen (C : Addr) : Sp := fun vs H Q _ => ∃ (x : Addr) (ln la bg en : V), vs = [.ref x] ∧ PlaceAt C H x ln la bg en ∧ ∀ t, H t = none → Q (.ref t) (upd H t (.tup [ln, la, bg, en]))
def spWays (C : Addr) : Sp := fun vs H Q _ => ∃ (t : Addr) (ln la bg en : V), vs = [.ref t] ∧ H t = some (.tup [ln, la, bg, en]) ∧ Spot ln la bg en ∧ ∀ H' l (ps : List Addr), Same H H' → H' l = some (.lst (ps.map V.ref)) → 1 ≤ ps.length → ps.length ≤ 10 → (∀ p ∈ ps, PlaceAt C H' p ln la bg en) → Q (.ref l) H'
theorem good_line0 {l : Int} (h1 : 1 ≤ l) (h2 : l ≤ 1000000) : Good (.int l) .non .non .non := .inr ⟨l, rfl, h1, h2, .inl ⟨rfl, .inl ⟨rfl, rfl, rfl⟩⟩⟩
theorem good_part0 {l b e : Int} (h1 : 1 ≤ l) (h2 : l ≤ 1000000) (b0 : 0 ≤ b) (b1 : b ≤ 10000) (e0 : 0 ≤ e) (e1 : e ≤ 10000) (be : b ≤ e) : Good (.int l) .non (.int b) (.int e) := .inr ⟨l, rfl, h1, h2, .inl ⟨rfl, .inr ⟨b, e, rfl, rfl, b0, b1, fun _ => be, e0, e1⟩⟩⟩
section
variable {P : Program} {w : World} {K : PySem.W.Frag} {mg : Str → Option Value} {base : Heap}
theorem ok_l_seen {f C : Addr} {fd : FuncData} (F : Fun K "_law_seen" "_law_seen" s_l_seen f fd) (T : PlT K mg C) (J : PlI K C) (g_Place : mg "Place" = some (.ref C)) (z_isinstance : mg "isinstance" = none) : FnOk P w K mg base CX0 2 f fd ["_law_place"] (spSeen C) := by
  refine F.ok sc_l_seen (fun vs H Q E h => ?_) (fun cdv A outer s H vs Q E hr h => ?_)
  · obtain ⟨x, _, _, _, _, rfl, _⟩ := h
    rfl
  · obtain ⟨x, ln, la, bg, en, rfl, ⟨dx, hx⟩, q⟩ := h
    refine ⟨_, (pss_one (ps_ret (pe_ifExp (pt_val (pe_callB (call_isi) (by rfl) z_isinstance (by decide +kernel) (pa_cons (pv 0) (pa_cons (pe_glob (v := .ref _) (by rfl) g_Place rfl) pa_nil)))) (pe_tup (pa_cons (pe_fld (pv 0) rfl) (pa_cons (pe_fld (pv 0) rfl) (pa_cons (pe_fld (pv 0) rfl) (pa_cons (pe_fld (pv 0) rfl) pa_nil))))) (pe_lst (pa_cons (pv 0) pa_nil))))), ?_⟩
    exact ⟨_, rfl, _, _, _, _, _, rfl, .own C, PlI.ty T J hx, J.kit, _, rfl, iteT ⟨_, rfl, x, C, _, _, _, rfl, hx, T.cl, T.nLine, rfl, _, rfl, x, C, _, _, _, rfl, hx, T.cl, T.nLast, rfl, _, rfl, x, C, _, _, _, rfl, hx, T.cl, T.nBegin, rfl, _, rfl, x, C, _, _, _, rfl, hx, T.cl, T.nEnd, rfl, (by show 4 ≤ sizeLine; decide), q⟩⟩
theorem ok_l_ways {f C : Addr} {fd : FuncData} (F : Fun K "_law_ways" "_law_ways" s_l_ways f fd)
    (mk_Place_0 : MkP P w K mg base 5 "Place" C [.non, .non, .non, .non] (spInit C))
    (mk_Place_1 : MkP P w K mg base 5 "Place" C [.non, .non, .non] (spInit C))
    (mk_Place_2 : MkP P w K mg base 5 "Place" C [.non, .non] (spInit C))
    (mk_Place_0_line_end : MkN P w K mg base 5 "Place" C 0 ["line", "end"] gv_0_line_end (spInit C))
    (mk_Place_2_begin_end : MkN P w K mg base 5 "Place" C 2 ["begin", "end"] (fun vs zs => vs ++ zs) (spInit C))
    (mk_Place_0_last : MkN P w K mg base 5 "Place" C 0 ["last"] gv_0_last (spInit C))
    (mk_Place_0_end_begin_last_line : MkN P w K mg base 5 "Place" C 0 ["end", "begin", "last", "line"] gv_0_end_begin_last_line (spInit C))
    (mk_Place_0_line : MkN P w K mg base 5 "Place" C 0 ["line"] gv_0_line (spInit C))
    (mk_Place_0_last_line : MkN P w K mg base 5 "Place" C 0 ["last", "line"] gv_0_last_line (spInit C))
    (mk_Place_2_begin : MkN P w K mg base 5 "Place" C 2 ["begin"] gv_2_begin (spInit C))
    (mk_Place_1_last_end : MkN P w K mg base 5 "Place" C 1 ["last", "end"] gv_1_last_end (spInit C))
    (mk_Place_2_end_begin : MkN P w K mg base 5 "Place" C 2 ["end", "begin"] gv_2_end_begin (spInit C))
    (mk_Place_1_last_begin_end : MkN P w K mg base 5 "Place" C 1 ["last", "begin", "end"] gv_1_last_begin_end (spInit C))
    (mk_Place_1_begin_end : MkN P w K mg base 5 "Place" C 1 ["begin", "end"] gv_1_begin_end (spInit C))
    (mk_Place_0_end_line_begin : MkN P w K mg base 5 "Place" C 0 ["end", "line", "begin"] gv_0_end_line_begin (spInit C)) : FnOk P w K mg base CX0 7 f fd ["_law_spot_here"] (spWays C) := by
  refine F.ok sc_l_ways (fun vs H Q E h => ?_) (fun cdv A outer s H vs Q E hr h => ?_)
  · obtain ⟨t, _, _, _, _, rfl, _⟩ := h
    rfl
  · obtain ⟨t, ln, la, bg, en, rfl, ht, hS, q⟩ := h
    refine ⟨_, (pss_cons (ps_asg (pv 0) (pg_tup rfl (pgs_cons (pg_name (i := 1) sc_l_ways.nd rfl (Or.inl rfl)) (pgs_cons (pg_name (i := 2) sc_l_ways.nd rfl (Or.inl rfl)) (pgs_cons (pg_name (i := 3) sc_l_ways.nd rfl (Or.inl rfl)) (pgs_cons (pg_name (i := 4) sc_l_ways.nd rfl (Or.inl rfl)) pgs_nil))))))
      (pss_cons (ps_if (pt_cmpR (op_isN) (pv 1) (pe_non) (nomark _)) (pss_cons (ps_set (i := 5) sc_l_ways.nd rfl (Or.inl rfl) (pe_lst (pa_cons (pe_mkP0 mk_Place_0 hr (by first | decide | exact Nat.le_refl _) (by rfl)) (pa_cons (pe_mkP mk_Place_1 hr (by first | decide | exact Nat.le_refl _) (by rfl) (pa_cons (pe_non) pa_nil)) (pa_cons (pe_mkN0 mk_Place_0_line_end hr (by first | decide | exact Nat.le_refl _) (by rfl) (pk_cons (pe_non) (pk_cons (pe_non) pk_nil))) (pa_cons (pe_mkN mk_Place_2_begin_end hr (by first | decide | exact Nat.le_refl _) (by rfl) (pa_cons (pe_non) (pa_cons (pe_non) pa_nil)) (pk_cons (pe_non) (pk_cons (pe_non) pk_nil))) pa_nil))))))
      (pss_one (ps_ret (pe_op op_cat (pv 5) (pe_lst (pa_cons (pe_mkN0 mk_Place_0_last hr (by first | decide | exact Nat.le_refl _) (by rfl) (pk_cons (pe_non) pk_nil)) (pa_cons (pe_mkN0 mk_Place_0_end_begin_last_line hr (by first | decide | exact Nat.le_refl _) (by rfl) (pk_cons (pe_non) (pk_cons (pe_non) (pk_cons (pe_non) (pk_cons (pe_non) pk_nil))))) pa_nil))))))) pss_nil)
      (pss_cons (ps_if (pt_cmpR (op_isN) (pv 3) (pe_non) (nomark _)) (pss_cons (ps_set (i := 5) sc_l_ways.nd rfl (Or.inl rfl) (pe_lst (pa_cons (pe_mkP mk_Place_1 hr (by first | decide | exact Nat.le_refl _) (by rfl) (pa_cons (pv 1) pa_nil)) (pa_cons (pe_mkP mk_Place_2 hr (by first | decide | exact Nat.le_refl _) (by rfl) (pa_cons (pv 1) (pa_cons (pv 1) pa_nil))) (pa_cons (pe_mkN0 mk_Place_0_line hr (by first | decide | exact Nat.le_refl _) (by rfl) (pk_cons (pv 1) pk_nil)) (pa_cons (pe_mkN0 mk_Place_0_last_line hr (by first | decide | exact Nat.le_refl _) (by rfl) (pk_cons (pv 1) (pk_cons (pv 1) pk_nil))) (pa_cons (pe_mkN mk_Place_2_begin hr (by first | decide | exact Nat.le_refl _) (by rfl) (pa_cons (pv 1) (pa_cons (pe_non) pa_nil)) (pk_cons (pe_non) pk_nil)) pa_nil)))))))
      (pss_one (ps_ret (pe_op op_cat (pv 5) (pe_lst (pa_cons (pe_mkN mk_Place_1_last_end hr (by first | decide | exact Nat.le_refl _) (by rfl) (pa_cons (pv 1) pa_nil) (pk_cons (pe_non) (pk_cons (pe_non) pk_nil))) (pa_cons (pe_mkN0 mk_Place_0_end_begin_last_line hr (by first | decide | exact Nat.le_refl _) (by rfl) (pk_cons (pe_non) (pk_cons (pe_non) (pk_cons (pv 1) (pk_cons (pv 1) pk_nil))))) pa_nil))))))) pss_nil)
      (pss_cons (ps_set (i := 5) sc_l_ways.nd rfl (Or.inl rfl) (pe_lst (pa_cons (pe_mkN mk_Place_2_begin_end hr (by first | decide | exact Nat.le_refl _) (by rfl) (pa_cons (pv 1) (pa_cons (pv 2) pa_nil)) (pk_cons (pv 3) (pk_cons (pv 4) pk_nil))) (pa_cons (pe_mkN0 mk_Place_0_end_begin_last_line hr (by first | decide | exact Nat.le_refl _) (by rfl) (pk_cons (pv 4) (pk_cons (pv 3) (pk_cons (pv 2) (pk_cons (pv 1) pk_nil))))) pa_nil))))
      (pss_cons (ps_set (i := 5) sc_l_ways.nd rfl (Or.inl rfl) (pe_op op_cat (pv 5) (pe_lst (pa_cons (pe_mkN mk_Place_2_end_begin hr (by first | decide | exact Nat.le_refl _) (by rfl) (pa_cons (pv 1) (pa_cons (pv 2) pa_nil)) (pk_cons (pv 4) (pk_cons (pv 3) pk_nil))) (pa_cons (pe_mkN mk_Place_1_last_begin_end hr (by first | decide | exact Nat.le_refl _) (by rfl) (pa_cons (pv 1) pa_nil) (pk_cons (pv 2) (pk_cons (pv 3) (pk_cons (pv 4) pk_nil)))) pa_nil)))))
      (pss_cons (ps_if (pt_cmpR (op_eq) (pv 1) (pv 2) (nomark _)) (pss_cons (ps_set (i := 5) sc_l_ways.nd rfl (Or.inl rfl) (pe_op op_cat (pv 5) (pe_lst (pa_cons (pe_mkN mk_Place_1_begin_end hr (by first | decide | exact Nat.le_refl _) (by rfl) (pa_cons (pv 1) pa_nil) (pk_cons (pv 3) (pk_cons (pv 4) pk_nil))) (pa_cons (pe_mkN0 mk_Place_0_end_line_begin hr (by first | decide | exact Nat.le_refl _) (by rfl) (pk_cons (pv 4) (pk_cons (pv 1) (pk_cons (pv 3) pk_nil)))) pa_nil)))))
      (pss_one (ps_expr (pe_bm PySem.F.plainAttrs_list PySem.F.slot_list_append PySem.F.type_list_append mt_append (pv 5) (pa_cons (pe_mkN mk_Place_2_end_begin hr (by first | decide | exact Nat.le_refl _) (by rfl) (pa_cons (pv 1) (pa_cons (pe_non) pa_nil)) (pk_cons (pv 4) (pk_cons (pv 3) pk_nil))) pa_nil))))) pss_nil)
      (pss_one (ps_ret (pv 5))))))))), ?_⟩
    refine ⟨_, rfl, t, _, rfl, sqT ht, rfl, _, _, rfl, _, _, rfl, _, _, rfl, _, _, rfl, rfl, ?_⟩
    rcases hS.cases with ⟨rfl, rfl, rfl, rfl⟩ | ⟨l, rfl, rfl, rfl, rfl, l1, l2⟩ | ⟨l, m, b, e, rfl, rfl, rfl, rfl, l1, lm, lm9, m1, b0, b1, e0, e1, be⟩
    · have G0 : Good .non .non .non .non := .inl ⟨rfl, rfl, rfl, rfl⟩
      refine ⟨_, rfl, rfl, _, rfl, iteT ?_⟩
      refine fun x1 dx1 n1 m1 o1 => made2 (C := C) G0 lastOf_non n1 m1 o1 fun H1 s1 p1 => ⟨rfl, ?_⟩
      refine fun x2 dx2 n2 m2 o2 => made2 (C := C) G0 lastOf_non n2 m2 o2 fun H2 s2 p2 => ⟨rfl, ?_⟩
      refine ⟨rfl, rfl, fun x3 dx3 n3 m3 o3 => made2 (C := C) G0 lastOf_non n3 m3 o3 fun H3 s3 p3 => ⟨rfl, ?_⟩⟩
      refine ⟨rfl, rfl, fun x4 dx4 n4 m4 o4 => made2 (C := C) G0 lastOf_non n4 m4 o4 fun H4 s4 p4 => ⟨rfl, ?_⟩⟩
      refine ⟨(by show 4 ≤ sizeLine; decide), fun la nla => ?_⟩
      have sla := same_upd (o := .lst [.ref x1, .ref x2, .ref x3, .ref x4]) nla
      have ela : upd H4 la (.lst [.ref x1, .ref x2, .ref x3, .ref x4]) la = some (.lst [.ref x1, .ref x2, .ref x3, .ref x4]) := upd_same
      have cla := ((((s1).trans s2).trans s3).trans s4).trans sla
      have r1 := p1.same ((((s2).trans s3).trans s4).trans sla)
      have r2 := p2.same (((s3).trans s4).trans sla)
      have r3 := p3.same ((s4).trans sla)
      have r4 := p4.same (sla)
      generalize upd H4 la (.lst [.ref x1, .ref x2, .ref x3, .ref x4]) = Kla at sla ela cla r1 r2 r3 r4
      refine ⟨_, rfl, ?_⟩
      refine ⟨rfl, rfl, fun x5 dx5 n5 m5 o5 => made2 (C := C) G0 lastOf_non n5 m5 o5 fun H5 s5 p5 => ⟨rfl, ?_⟩⟩
      refine ⟨rfl, rfl, fun x6 dx6 n6 m6 o6 => made2 (C := C) G0 lastOf_non n6 m6 o6 fun H6 s6 p6 => ⟨rfl, ?_⟩⟩
      refine ⟨(by show 2 ≤ sizeLine; decide), fun lb nlb => ?_⟩
      have slb := same_upd (o := .lst [.ref x5, .ref x6]) nlb
      have elb : upd H6 lb (.lst [.ref x5, .ref x6]) lb = some (.lst [.ref x5, .ref x6]) := upd_same
      have clb := ((s5).trans s6).trans slb
      have r5 := p5.same ((s6).trans slb)
      have r6 := p6.same (slb)
      generalize upd H6 lb (.lst [.ref x5, .ref x6]) = Klb at slb elb clb r5 r6
      refine ⟨la, lb, [.ref x1, .ref x2, .ref x3, .ref x4], [.ref x5, .ref x6], rfl, rfl, (clb) _ _ ela, elb, (by show 4 + 2 ≤ sizeLine; decide), fun lz nlz => ?_⟩
      have sz := same_upd (o := .lst ([.ref x1, .ref x2, .ref x3, .ref x4] ++ [.ref x5, .ref x6])) nlz
      refine q _ lz [x1, x2, x3, x4, x5, x6] ((cla.trans clb).trans sz) upd_same (by show 1 ≤ 6; decide) (by show 6 ≤ 10; decide) (fun p hp => ?_)
      simp only [List.mem_cons, List.not_mem_nil, or_false] at hp
      rcases hp with rfl | rfl | rfl | rfl | rfl | rfl
      · exact r1.same ((clb).trans sz)
      · exact r2.same ((clb).trans sz)
      · exact r3.same ((clb).trans sz)
      · exact r4.same ((clb).trans sz)
      · exact r5.same sz
      · exact r6.same sz
    · have GA := good_line0 l1 l2
      have GB := hS.good
      refine ⟨_, rfl, rfl, _, rfl, iteF ⟨_, rfl, rfl, _, rfl, iteT ?_⟩⟩
      refine ⟨_, rfl, fun x7 dx7 n7 m7 o7 => made2 (C := C) GA lastOf_non n7 m7 o7 fun H7 s7 p7 => ⟨rfl, ?_⟩⟩
      refine ⟨_, rfl, _, rfl, fun x8 dx8 n8 m8 o8 => made2 (C := C) GB lastOf_int n8 m8 o8 fun H8 s8 p8 => ⟨rfl, ?_⟩⟩
      refine ⟨_, rfl, rfl, rfl, fun x9 dx9 n9 m9 o9 => made2 (C := C) GA lastOf_non n9 m9 o9 fun H9 s9 p9 => ⟨rfl, ?_⟩⟩
      refine ⟨_, rfl, _, rfl, rfl, rfl, fun x10 dx10 n10 m10 o10 => made2 (C := C) GB lastOf_int n10 m10 o10 fun H10 s10 p10 => ⟨rfl, ?_⟩⟩
      refine ⟨_, rfl, rfl, rfl, fun x11 dx11 n11 m11 o11 => made2 (C := C) GA lastOf_non n11 m11 o11 fun H11 s11 p11 => ⟨rfl, ?_⟩⟩
      refine ⟨(by show 5 ≤ sizeLine; decide), fun lc nlc => ?_⟩
      have slc := same_upd (o := .lst [.ref x7, .ref x8, .ref x9, .ref x10, .ref x11]) nlc
      have elc : upd H11 lc (.lst [.ref x7, .ref x8, .ref x9, .ref x10, .ref x11]) lc = some (.lst [.ref x7, .ref x8, .ref x9, .ref x10, .ref x11]) := upd_same
      have clc := (((((s7).trans s8).trans s9).trans s10).trans s11).trans slc
      have r7 := p7.same (((((s8).trans s9).trans s10).trans s11).trans slc)
      have r8 := p8.same ((((s9).trans s10).trans s11).trans slc)
      have r9 := p9.same (((s10).trans s11).trans slc)
      have r10 := p10.same ((s11).trans slc)
      have r11 := p11.same (slc)
      generalize upd H11 lc (.lst [.ref x7, .ref x8, .ref x9, .ref x10, .ref x11]) = Klc at slc elc clc r7 r8 r9 r10 r11
      refine ⟨_, rfl, ?_⟩
      refine ⟨_, rfl, rfl, rfl, fun x12 dx12 n12 m12 o12 => made2 (C := C) GA lastOf_non n12 m12 o12 fun H12 s12 p12 => ⟨rfl, ?_⟩⟩
      refine ⟨_, rfl, _, rfl, rfl, rfl, fun x13 dx13 n13 m13 o13 => made2 (C := C) GB lastOf_int n13 m13 o13 fun H13 s13 p13 => ⟨rfl, ?_⟩⟩
      refine ⟨(by show 2 ≤ sizeLine; decide), fun ld nld => ?_⟩
      have sld := same_upd (o := .lst [.ref x12, .ref x13]) nld
      have eld : upd H13 ld (.lst [.ref x12, .ref x13]) ld = some (.lst [.ref x12, .ref x13]) := upd_same
      have cld := ((s12).trans s13).trans sld
      have r12 := p12.same ((s13).trans sld)
      have r13 := p13.same (sld)
      generalize upd H13 ld (.lst [.ref x12, .ref x13]) = Kld at sld eld cld r12 r13
      refine ⟨lc, ld, [.ref x7, .ref x8, .ref x9, .ref x10, .ref x11], [.ref x12, .ref x13], rfl, rfl, (cld) _ _ elc, eld, (by show 5 + 2 ≤ sizeLine; decide), fun lz nlz => ?_⟩
      have sz := same_upd (o := .lst ([.ref x7, .ref x8, .ref x9, .ref x10, .ref x11] ++ [.ref x12, .ref x13])) nlz
      refine q _ lz [x7, x8, x9, x10, x11, x12, x13] ((clc.trans cld).trans sz) upd_same (by show 1 ≤ 7; decide) (by show 7 ≤ 10; decide) (fun p hp => ?_)
      simp only [List.mem_cons, List.not_mem_nil, or_false] at hp
      rcases hp with rfl | rfl | rfl | rfl | rfl | rfl | rfl
      · exact r7.same ((cld).trans sz)
      · exact r8.same ((cld).trans sz)
      · exact r9.same ((cld).trans sz)
      · exact r10.same ((cld).trans sz)
      · exact r11.same ((cld).trans sz)
      · exact r12.same sz
      · exact r13.same sz
    · have GB := hS.good
      refine ⟨_, rfl, rfl, _, rfl, iteF ⟨_, rfl, rfl, _, rfl, iteF ?_⟩⟩
      refine ⟨_, rfl, _, rfl, _, rfl, _, rfl, rfl, rfl, fun x14 dx14 n14 m14 o14 => made2 (C := C) GB lastOf_int n14 m14 o14 fun H14 s14 p14 => ⟨rfl, ?_⟩⟩
      refine ⟨_, rfl, _, rfl, _, rfl, _, rfl, rfl, rfl, fun x15 dx15 n15 m15 o15 => made2 (C := C) GB lastOf_int n15 m15 o15 fun H15 s15 p15 => ⟨rfl, ?_⟩⟩
      refine ⟨(by show 2 ≤ sizeLine; decide), fun le nle => ?_⟩
      have sle := same_upd (o := .lst [.ref x14, .ref x15]) nle
      have ele : upd H15 le (.lst [.ref x14, .ref x15]) le = some (.lst [.ref x14, .ref x15]) := upd_same
      have cle := ((s14).trans s15).trans sle
      have r14 := p14.same ((s15).trans sle)
      have r15 := p15.same (sle)
      generalize upd H15 le (.lst [.ref x14, .ref x15]) = Kle at sle ele cle r14 r15
      refine ⟨_, rfl, ?_⟩
      refine ⟨_, rfl, _, rfl, _, rfl, _, rfl, rfl, rfl, fun x16 dx16 n16 m16 o16 => made2 (C := C) GB lastOf_int n16 m16 o16 fun H16 s16 p16 => ⟨rfl, ?_⟩⟩
      refine ⟨_, rfl, _, rfl, _, rfl, _, rfl, rfl, rfl, fun x17 dx17 n17 m17 o17 => made2 (C := C) GB lastOf_int n17 m17 o17 fun H17 s17 p17 => ⟨rfl, ?_⟩⟩
      refine ⟨(by show 2 ≤ sizeLine; decide), fun lf nlf => ?_⟩
      have slf := same_upd (o := .lst [.ref x16, .ref x17]) nlf
      have elf : upd H17 lf (.lst [.ref x16, .ref x17]) lf = some (.lst [.ref x16, .ref x17]) := upd_same
      have clf := ((s16).trans s17).trans slf
      have r16 := p16.same ((s17).trans slf)
      have r17 := p17.same (slf)
      generalize upd H17 lf (.lst [.ref x16, .ref x17]) = Klf at slf elf clf r16 r17
      refine ⟨le, lf, [.ref x14, .ref x15], [.ref x16, .ref x17], rfl, rfl, clf _ _ ele, elf, (by show 2 + 2 ≤ sizeLine; decide), fun lg nlg => ?_⟩
      have slg := same_upd (o := .lst ([.ref x14, .ref x15] ++ [.ref x16, .ref x17])) nlg
      have elg : upd Klf lg (.lst ([.ref x14, .ref x15] ++ [.ref x16, .ref x17])) lg = some (.lst [.ref x14, .ref x15, .ref x16, .ref x17]) := upd_same
      have clg := (cle.trans clf).trans slg
      have w14 := r14.same (clf.trans slg)
      have w15 := r15.same (clf.trans slg)
      have w16 := r16.same slg
      have w17 := r17.same slg
      have nlgH : H lg = none := (cle.trans clf).free nlg
      generalize upd Klf lg (.lst ([.ref x14, .ref x15] ++ [.ref x16, .ref x17])) = Klg at slg elg clg w14 w15 w16 w17
      refine ⟨_, rfl, _, rfl, rfl, _, rfl, ite2 (fun c => ?_) (fun c => ?_)⟩
      · have c' : l = m := V.int.inj (of_decide_eq_true c)
        subst c'
        have GC := good_part0 (b := b) (e := e) l1 m1 b0 b1 e0 e1 (be rfl)
        refine ⟨_, rfl, ?_⟩
        refine ⟨_, rfl, _, rfl, _, rfl, rfl, rfl, fun x18 dx18 n18 m18 o18 => made2 (C := C) GC lastOf_non n18 m18 o18 fun H18 s18 p18 => ⟨rfl, ?_⟩⟩
        refine ⟨_, rfl, _, rfl, _, rfl, rfl, rfl, fun x19 dx19 n19 m19 o19 => made2 (C := C) GC lastOf_non n19 m19 o19 fun H19 s19 p19 => ⟨rfl, ?_⟩⟩
        refine ⟨(by show 2 ≤ sizeLine; decide), fun lh nlh => ?_⟩
        have slh := same_upd (o := .lst [.ref x18, .ref x19]) nlh
        have elh : upd H19 lh (.lst [.ref x18, .ref x19]) lh = some (.lst [.ref x18, .ref x19]) := upd_same
        have clh := ((s18).trans s19).trans slh
        have r18 := p18.same ((s19).trans slh)
        have r19 := p19.same (slh)
        generalize upd H19 lh (.lst [.ref x18, .ref x19]) = Klh at slh elh clh r18 r19
        refine ⟨lg, lh, [.ref x14, .ref x15, .ref x16, .ref x17], [.ref x18, .ref x19], rfl, rfl, clh _ _ elg, elh, (by show 4 + 2 ≤ sizeLine; decide), fun li nli => ?_⟩
        have sli := same_upd (o := .lst [.ref x14, .ref x15, .ref x16, .ref x17, .ref x18, .ref x19]) nli
        have eli : upd Klh li (.lst [.ref x14, .ref x15, .ref x16, .ref x17, .ref x18, .ref x19]) li = some (.lst [.ref x14, .ref x15, .ref x16, .ref x17, .ref x18, .ref x19]) := upd_same
        have cli := (clg.trans clh).trans sli
        have nliH : H li = none := (clg.trans clh).free nli
        refine ⟨_, rfl, .inl ⟨rfl, _, sqL eli⟩, ?_⟩
        refine ⟨_, rfl, _, rfl, _, rfl, rfl, rfl, fun x20 dx20 n20 m20 o20 => made2 (C := C) GC lastOf_non n20 m20 o20 fun H20 s20 p20 => ⟨rfl, ?_⟩⟩
        refine ⟨li, [.ref x14, .ref x15, .ref x16, .ref x17, .ref x18, .ref x19], _, rfl, rfl, s20 _ _ eli, (by show 6 < sizeLine; decide), _, rfl, ?_⟩
        refine q _ li [x14, x15, x16, x17, x18, x19, x20] (same_but (cli.trans s20) nliH) upd_same (by show 1 ≤ 7; decide) (by show 7 ≤ 10; decide) (fun p hp => ?_)
        have nx : ∀ {p : Addr} {ln la bg en : V}, PlaceAt C H20 p ln la bg en → PlaceAt C (upd H20 li (.lst ([.ref x14, .ref x15, .ref x16, .ref x17, .ref x18, .ref x19] ++ [.ref x20]))) p ln la bg en := fun ⟨dx, hd⟩ => ⟨dx, by
          rw [upd_ne (fun z => by
            have h1 := s20 _ _ eli
            rw [← z, hd] at h1
            cases h1)]
          exact hd⟩
        simp only [List.mem_cons, List.not_mem_nil, or_false] at hp
        rcases hp with rfl | rfl | rfl | rfl | rfl | rfl | rfl
        · exact nx (w14.same ((clh.trans sli).trans s20))
        · exact nx (w15.same ((clh.trans sli).trans s20))
        · exact nx (w16.same ((clh.trans sli).trans s20))
        · exact nx (w17.same ((clh.trans sli).trans s20))
        · exact nx (r18.same (sli.trans s20))
        · exact nx (r19.same (sli.trans s20))
        · exact nx p20
      · refine ⟨_, rfl, ?_⟩
        refine q _ lg [x14, x15, x16, x17] clg elg (by show 1 ≤ 4; decide) (by show 4 ≤ 10; decide) (fun p hp => ?_)
        simp only [List.mem_cons, List.not_mem_nil, or_false] at hp
        rcases hp with rfl | rfl | rfl | rfl
        · exact w14
        · exact w15
        · exact w16
        · exact w17
end
end My

namespace My
open PySem PySem.Spec PyProof.Rows L2
structure MeM (P : Program) (w : World) (K : PySem.W.Frag) (mg : Str → Option Value) (base : Heap) (k : Nat) (C : Addr) (m : Str) (sp : Sp) : Prop where
  cl : Cls K C
  own : OwnM P w K mg base k C m sp
section
variable {X : Cx} {k j : Nat} {sp : Sp} {C : Addr} {m : Str} {o e : Expr} {es : List Expr} {ta : TE} {t : TA} {pos apos : Pos}
theorem pe_mt {pl : Sem Bool} (M : MeM X.prog X.w X.K X.mg X.base k C m sp) (hr : Room j X.A) (hk : k ≤ j) (he : PE X o ta) (ha : PA X (e :: es) t)
    (hst : starEach (e :: es) X.env = (false, eval e X.env) :: starEach es X.env := by rfl) (hpl : (backTo pos (starEach es X.env)).any (·.1) = false := by rfl)
    (ht : eval (.Call (.Attribute o m apos) (e :: es) [] pos) X.env = (do
      let ov ← eval o X.env
      standAt apos.atName
      let (f, first) ← holding [ov] (getMethod ov m pl)
      callWith pos f first (backTo pos (starEach (e :: es) X.env)) (backToKw pos (keywordEach [] X.env))) := by rfl) :
    PE X (.Call (.Attribute o m apos) (e :: es) [] pos) (tMeth C m sp [] E0 ta t) := by
  obtain ⟨f, fd, ps, F, hs, hf, kp, hb⟩ := M.own.ex
  exact pe_meth he M.cl ⟨hs, hf, kp⟩ F (hr.mono hk) hb .nil pass0 ha hst hpl ht
theorem op_eqOwn {n : Nat} {R : Addr → Addr → Hp → Prop} (O : OwnM X.prog X.w X.K X.mg X.base n C "__eq__" (spEq R)) (hr : Room n X.A) : OpR X (compareOp .Eq) (rEqG (DIns C R)) := by
  obtain ⟨f, fd, ps, F, hs, hf, _, hb⟩ := O.ex
  exact op_eqG (rcG_ins (E := E0) F hs hf hb pass0) hr
end
theorem refs_at {ps : List Addr} {i : Nat} {x : V} (h : (ps.map V.ref)[i]? = some x) : ∃ p, p ∈ ps ∧ x = .ref p := by
  rw [List.getElem?_map] at h
  cases e : ps[i]? with
  | none => rw [e] at h; cases h
  | some z => rw [e] at h; exact ⟨z, List.mem_of_getElem? e, (Option.some.inj h).symm⟩
theorem refs_lt {ps : List Addr} {i : Nat} {x : V} (h : (ps.map V.ref)[i]? = some x) : i < ps.length := by
  have := (List.getElem?_eq_some_iff.mp h).1
  rw [List.length_map] at this
  exact this
theorem spot_scal {ln la bg en : V} (h : Spot ln la bg en) : Scal ln ∧ Scal la ∧ Scal bg ∧ Scal en := by
  rcases h.cases with ⟨rfl, rfl, rfl, rfl⟩ | ⟨l, rfl, rfl, rfl, rfl, _⟩ | ⟨l, m, b, e, rfl, rfl, rfl, rfl, _⟩
  · exact ⟨.inl rfl, .inl rfl, .inl rfl, .inl rfl⟩
  · exact ⟨.inr (.inr (.inl ⟨_, rfl⟩)), .inr (.inr (.inl ⟨_, rfl⟩)), .inl rfl, .inl rfl⟩
  · exact ⟨.inr (.inr (.inl ⟨_, rfl⟩)), .inr (.inr (.inl ⟨_, rfl⟩)), .inr (.inr (.inl ⟨_, rfl⟩)), .inr (.inr (.inl ⟨_, rfl⟩))⟩
theorem twin4 {K : PySem.W.Frag} {H : Hp} {a b : Addr} {ln la bg en : V} (hS : Spot ln la bg en) (ha : H a = some (.tup [ln, la, bg, en])) (hb : H b = some (.tup [ln, la, bg, en])) : Twin K 2 H (.ref a) (.ref b) := by
  obtain ⟨c1, c2, c3, c4⟩ := spot_scal hS
  refine .inr ⟨a, b, [ln, la, bg, en], [ln, la, bg, en], rfl, rfl, rfl, (by show 4 ≤ 100000; decide), fun i u v e1 e2 => ?_, .inr ⟨sqT ha, sqT hb⟩⟩
  match i, e1, e2 with
  | 0, e1, e2 => cases e1; cases e2; exact .inl ⟨c1, rfl⟩
  | 1, e1, e2 => cases e1; cases e2; exact .inl ⟨c2, rfl⟩
  | 2, e1, e2 => cases e1; cases e2; exact .inl ⟨c3, rfl⟩
  | 3, e1, e2 => cases e1; cases e2; exact .inl ⟨c4, rfl⟩
  | i + 4, e1, e2 => cases e1
/-- what str, repr and len tell, one behind the other -/
def tale (ln la bg en : V) : Str := plStr ln la bg en ++ plRepr ln la bg en ++ txt (lenOf ln la)
theorem lenOf_in {ln la bg en : V} (h : Spot ln la bg en) : 0 ≤ lenOf ln la ∧ lenOf ln la ≤ 100 := by
  rcases h.cases with ⟨rfl, rfl, rfl, rfl⟩ | ⟨l, rfl, rfl, rfl, rfl, _⟩ | ⟨l, m, b, e, rfl, rfl, rfl, rfl, l1, lm, lm9, _⟩
  · exact ⟨by decide, by decide⟩
  · show 0 ≤ l - l + 1 ∧ l - l + 1 ≤ 100
    omega
  · show 0 ≤ m - l + 1 ∧ m - l + 1 ≤ 100
    omega
theorem plRepr_len {ln la bg en : V} (h : Spot ln la bg en) : (plRepr ln la bg en).length ≤ 60 := by
  obtain ⟨g1, g2, g3, g4, g5⟩ := sig_len
  have := plStr_len h
  unfold plRepr
  simp only [Str.length_append, g3, g4, g5]
  omega
theorem rep_str {n : Nat} (z : Str) : List.replicate n (V.str z) ++ [V.str z] = List.replicate (n + 1) (V.str z) := by
  rw [← List.replicate_succ']
theorem flat_rep {n : Nat} (z : V) : (List.replicate n [z]).flatten = List.replicate n z := by
  induction n with
  | zero => rfl
  | succ n ih => rw [List.replicate_succ, List.flatten_cons, ih, List.replicate_succ]; rfl
theorem cut_one {n : Nat} (z : V) (h : 1 ≤ n) : cutV (List.replicate n z) none (some (1 : Int)) = [z] := by
  unfold cutV
  rw [show HT.sIx (List.replicate n z).length (List.replicate n z).length (some (1 : Int)) = min 1 (List.replicate n z).length from HT.sIx_nat _ _ 1, HT.sIx_none, List.length_replicate, Nat.min_eq_left h]
  obtain ⟨k, rfl⟩ : ∃ k, n = k + 1 := ⟨n - 1, by omega⟩
  rw [List.replicate_succ]
  rfl
theorem dp_strs {K : PySem.W.Frag} {H : Hp} (z : Str) : ∀ n : Nat, DpAll K H (List.replicate n (V.str z)) (List.replicate n (PyData.str z))
  | 0 => .nil
  | n + 1 => by
    rw [List.replicate_succ, List.replicate_succ]
    exact .cons (.str z) (dp_strs z n)
theorem char_lt (c : Char) : c.toNat < 0x110000 := by
  have h := c.valid
  show c.val.toNat < 1114112
  rcases h with h | ⟨_, h⟩
  · exact Nat.lt_trans h (by decide)
  · exact h
theorem ok_of (s : String) : PyData.strOk (Str.ofString s) = true := by
  rw [Str.ofString_eq_toList]
  unfold PyData.strOk
  rw [Array.all_eq_true']
  intro x hx
  have hx' : x ∈ s.toList.map Char.toNat := by simpa using hx
  obtain ⟨c, _, rfl⟩ := List.mem_map.mp hx'
  exact decide_eq_true (char_lt c)
theorem ok_app {a b : Str} (ha : PyData.strOk a = true) (hb : PyData.strOk b = true) : PyData.strOk (a ++ b) = true := by
  unfold PyData.strOk at *
  rw [Str.cps_append, Array.all_append, ha, hb]
  rfl
theorem ok_plStr {ln la bg en : V} (h : Spot ln la bg en) : PyData.strOk (plStr ln la bg en) = true := by
  have t : ∀ i, PyData.strOk (txt i) = true := fun i => ok_of _
  have e0 : PyData.strOk Str.empty = true := by decide +kernel
  rcases h.cases with ⟨rfl, rfl, rfl, rfl⟩ | ⟨l, rfl, rfl, rfl, rfl, l1, l2⟩ | ⟨l, m, b, e, rfl, rfl, rfl, rfl, _⟩
  · exact ok_of "-"
  · exact t l
  · show PyData.strOk (if l = m then Str.empty ++ txt l ++ "." ++ txt b ++ "-" ++ txt e else Str.empty ++ txt l ++ "." ++ txt b ++ "-" ++ txt m ++ "." ++ txt e) = true
    split
    · exact ok_app (ok_app (ok_app (ok_app (ok_app e0 (t l)) (ok_of ".")) (t b)) (ok_of "-")) (t e)
    · exact ok_app (ok_app (ok_app (ok_app (ok_app (ok_app (ok_app e0 (t l)) (ok_of ".")) (t b)) (ok_of "-")) (t m)) (ok_of ".")) (t e)
theorem ok_tale {ln la bg en : V} (h : Spot ln la bg en) : PyData.strOk (tale ln la bg en) = true := by
  have e0 : PyData.strOk Str.empty = true := by decide +kernel
  exact ok_app (ok_app (ok_plStr h) (ok_app (ok_app (ok_app e0 (ok_of "Place(")) (ok_plStr h)) (ok_of ")"))) (ok_of _)
theorem lay_strs (z : Str) (hz : PyData.strOk z = true) : ∀ n : Nat, PyData.canLayAll0 (List.replicate n (PyData.str z)) = true
  | 0 => by simp [PyData.canLayAll0]
  | n + 1 => by
    rw [List.replicate_succ]
    simp [PyData.canLayAll0, PyData.canLay0, lay_strs z hz n, hz]
theorem depth_strs (z : Str) : ∀ n : Nat, PyData.depthAll (List.replicate n (PyData.str z)) ≤ 1
  | 0 => by simp [PyData.depthAll]
  | n + 1 => by
    have := depth_strs z n
    rw [List.replicate_succ]
    simp only [PyData.depthAll, PyData.depth]
    omega
theorem shaped_strs (z : Str) (hz : PyData.strOk z = true) (n : Nat) : PySem.SeqAt.shaped (.list (List.replicate n (PyData.str z))) = true := by
  have h1 := depth_strs z n
  have h2 : PyData.depth (.list (List.replicate n (PyData.str z))) ≤ 64 := by simp only [PyData.depth]; omega
  show (PyData.canLay0 (.list (List.replicate n (PyData.str z))) && decide (PyData.depth (.list (List.replicate n (PyData.str z))) ≤ 64)) = true
  rw [Bool.and_eq_true]
  exact ⟨by simp only [PyData.canLay0]; exact lay_strs z hz n, decide_eq_true h2⟩
theorem eqv_strs (z : Str) (hz : PyData.strOk z = true) (n : Nat) : PyData.eqv (.list (List.replicate n (PyData.str z))) (.list (List.replicate n (PyData.str z))) = true := PySem.SeqAt.eqv_refl _ (PySem.SeqAt.canLay_of_shaped (shaped_strs z hz n))
def spRt : Sp := fun vs H Q _ => ∃ (t : Addr) (ln la bg en : V), vs = [.ref t] ∧ H t = some (.tup [ln, la, bg, en]) ∧ Spot ln la bg en ∧ ∀ H', Same H H' → Q (.bl true) H'
section
variable {P : Program} {w : World} {K : PySem.W.Frag} {mg : Str → Option Value} {base : Heap}
theorem ok_l_right {f C : Addr} {fd : FuncData} (F : Fun K "_law_right" "_law_right" s_l_right f fd) (z_all : mg "all" = none) (z_len : mg "len" = none) (z_str : mg "str" = none) (z_repr : mg "repr" = none)
    (c_l_ways : Cal P w K mg base 7 "_law_ways" ["_law_spot_here"] (spWays C)) (c_l_seen : Cal P w K mg base 2 "_law_seen" ["_law_place"] (spSeen C)) (c_l_same : Cal P w K mg base 2 "_law_same" ["_law_found", "_law_due"] (spSm (Twin K 2)))
    (o_str : OwnM P w K mg base 2 C "__str__" (spStr C)) (o_repr : OwnM P w K mg base 5 C "__repr__" (spRepr C)) (o_len : OwnM P w K mg base 2 C "__len__" (spLen C)) (o_eq : OwnM P w K mg base 2 C "__eq__" (spEq (RPl C))) (me_moved : MeM P w K mg base 7 C "moved" (spMv C)) :
    FnOk P w K mg base CX0 8 f fd ["_law_spot_here"] spRt := by
  refine F.ok sc_l_right (fun vs H Q E h => ?_) (fun cdv A outer s H vs Q E hr h => ?_)
  · obtain ⟨t, _, _, _, _, rfl, _⟩ := h
    rfl
  · obtain ⟨t, ln, la, bg, en, rfl, ht, hS, q⟩ := h
    refine ⟨_, (pss_cons (ps_set (i := 1) sc_l_right.nd rfl (Or.inr rfl) (pe_c c_l_ways hr (by first | decide | exact Nat.le_refl _) (by rfl) (pa_cons (pv 0) pa_nil)))
      (pss_cons (ps_if (pt_not (pt_val (pe_callB (cr_all rfl) (by rfl) z_all (by decide +kernel) (pa_cons (pe_lc (own := [("_law_one", 2)]) (g := (gName 2)) (tt := tYes) rfl sc_l_right.nd (pi_list (pv 1)) (blkOk_by (own := [("_law_one", 2)]) (N := ["_law_spot_here", "_law_made", "_law_one", "_law_told"]) (sc := defScope s_l_right) (by decide +kernel)) (fun _ _ _ _ _ => (pg_name (i := 2) sc_l_right.nd rfl (Or.inl rfl))) (fun _ _ _ _ _ => pts_nil) (fun _ _ _ _ _ => (pe_c c_l_same hr (by first | decide | exact Nat.le_refl _) (by rfl) (pa_cons (pe_c c_l_seen hr (by first | decide | exact Nat.le_refl _) (by rfl) (pa_cons (pv 2) pa_nil)) (pa_cons (pv 0) pa_nil))))) pa_nil)))) (pss_one (ps_ret (pe_bl))) pss_nil)
      (pss_cons (ps_if (pt_not (pt_val (pe_callB (cr_all rfl) (by rfl) z_all (by decide +kernel) (pa_cons (pe_lc (own := [("_law_one", 2)]) (g := (gName 2)) (tt := tYes) rfl sc_l_right.nd (pi_list (pv 1)) (blkOk_by (own := [("_law_one", 2)]) (N := ["_law_spot_here", "_law_made", "_law_one", "_law_told"]) (sc := defScope s_l_right) (by decide +kernel)) (fun _ _ _ _ _ => (pg_name (i := 2) sc_l_right.nd rfl (Or.inl rfl))) (fun _ _ _ _ _ => pts_nil) (fun _ _ _ _ _ => (pe_and (pe_cmpR (op_eqOwn o_eq (hr.mono (by decide))) (pv 2) (pe_ix (show IxR _ (rIxL K) from ix_list) (pv 1) (pe_int) (fun _ _ => rfl)) (nomark _)) (pe_one (pe_cmpR (op_eqOwn o_eq (hr.mono (by decide))) (pe_ix (show IxR _ (rIxL K) from ix_list) (pv 1) (pe_int) (fun _ _ => rfl)) (pv 2) (nomark _)))))) pa_nil)))) (pss_one (ps_ret (pe_bl))) pss_nil)
      (pss_cons (ps_setLc (i := 3) (own := [("_law_one", 2)]) (g := (gName 2)) (tt := tYes) rfl sc_l_right.nd rfl rfl (sw_true rfl rfl rfl (by decide +kernel)) (pi_list (pv 1)) (blkOk_by (own := [("_law_one", 2)]) (N := ["_law_spot_here", "_law_made", "_law_one", "_law_told"]) (sc := defScope s_l_right) (by decide +kernel)) (fun _ _ _ _ _ => (pg_name (i := 2) sc_l_right.nd rfl (Or.inl rfl))) (fun _ _ _ _ _ => pts_nil) (fun _ _ _ _ _ => (pe_op op_add_str (pe_op op_add_str (pe_callTy (call_strOwn o_str (hr.mono (by decide))) (by rfl) z_str (by decide +kernel) (pa_cons (pv 2) pa_nil)) (pe_callB (call_reprOwn o_repr (hr.mono (by decide))) (by rfl) z_repr (by decide +kernel) (pa_cons (pe_mt me_moved hr (by first | decide | exact Nat.le_refl _) (pv 2) (pa_cons (pe_int) pa_nil)) pa_nil))) (pe_callTy (call_str_int) (by rfl) z_str (by decide +kernel) (pa_cons (pe_callB (call_lenOwn o_len (hr.mono (by decide))) (by rfl) z_len (by decide +kernel) (pa_cons (pv 2) pa_nil)) pa_nil)))))
      (pss_one (ps_ret (pe_and (pe_cmpR (op_eqD hr.units) (pv 3) (pe_op op_rep (pe_slice sl_list (pv 3) po_none (po_some (pe_int))) (pe_callB (call_len_seq) (by rfl) z_len (by decide +kernel) (pa_cons (pv 1) pa_nil))) (nomark _)) (pe_one (pe_callB (cr_all rfl) (by rfl) z_all (by decide +kernel) (pa_cons (pe_lc (own := [("_law_one", 2)]) (g := (gName 2)) (tt := tYes) rfl sc_l_right.nd (pi_list (pv 1)) (blkOk_by (own := [("_law_one", 2)]) (N := ["_law_spot_here", "_law_made", "_law_one", "_law_told"]) (sc := defScope s_l_right) (by decide +kernel)) (fun _ _ _ _ _ => (pg_name (i := 2) sc_l_right.nd rfl (Or.inl rfl))) (fun _ _ _ _ _ => pts_nil) (fun _ _ _ _ _ => (pe_c c_l_same hr (by first | decide | exact Nat.le_refl _) (by rfl) (pa_cons (pe_c c_l_seen hr (by first | decide | exact Nat.le_refl _) (by rfl) (pa_cons (pv 2) pa_nil)) (pa_cons (pv 0) pa_nil))))) pa_nil)))))))))), ?_⟩
    refine ⟨_, rfl, t, ln, la, bg, en, rfl, ht, hS, fun H1 l ps s1 el p1 p10 hp => ?_⟩
    have SB0 : Same H1 H1 := Same.refl _
    refine ⟨_, rfl, l, rfl, ⟨_, sqL el⟩, fun Da nDa => ?_⟩
    refine lc_list (K := K) (a := l) (xs := ps.map V.ref) (fun i H' => Same H1 H' ∧ H' Da = some (.lst (List.replicate i (.bl true)))) ⟨same_upd nDa, upd_same⟩ (fun i H' _ h => h.1.seq (sqL el)) ?_ ?_
    · rintro i x H2 hx ⟨sm, eD⟩
      obtain ⟨p, hpm, rfl⟩ := refs_at hx
      have hP := (hp p hpm).same (SB0.trans sm)
      refine ⟨rfl, _, rfl, p, ln, la, bg, en, rfl, hP, fun t2 nt2 => ⟨_, rfl, _, _, rfl, twin4 hS upd_same (same_upd nt2 _ _ ((s1.trans SB0).trans sm _ _ ht)), fun H3 s3 => ?_⟩⟩
      have s4 := (same_upd (o := .tup [ln, la, bg, en]) nt2).trans s3
      refine ⟨_, s4 _ _ eD, by rw [List.length_replicate]; exact line_gt (by have := refs_lt hx; omega), same_but (sm.trans s4) nDa, ?_⟩
      rw [upd_same, rep_more]
    · rintro H2 ⟨sm, eD⟩
      refine ⟨Da, List.replicate (ps.map V.ref).length true, rfl, by rw [List.map_replicate]; exact sqL eD, ?_⟩
      rw [all_true]
      refine ⟨_, rfl, iteF ?_⟩
      have ba := SB0.trans sm
      have el2 := ba _ _ el
      refine ⟨_, rfl, l, rfl, ⟨_, sqL el2⟩, fun Db nDb => ?_⟩
      obtain ⟨p0, pr, eps⟩ : ∃ p0 pr, ps = p0 :: pr := by
        cases ps with
        | nil => exact absurd p1 (by decide)
        | cons a b => exact ⟨a, b, rfl⟩
      have hp0 := hp p0 (by rw [eps]; exact List.mem_cons_self ..)
      have at0 : atI (ps.map V.ref) 0 = some (.ref p0) := atI_nat (j := 0) (by rw [eps]; rfl)
      refine lc_list (K := K) (a := l) (xs := ps.map V.ref) (fun i H' => Same H2 H' ∧ H' Db = some (.lst (List.replicate i (.bl true)))) ⟨same_upd nDb, upd_same⟩ (fun i H' _ h => h.1.seq (sqL el2)) ?_ ?_
      · rintro i x H3 hx ⟨sm3, eD3⟩
        obtain ⟨p, hpm, rfl⟩ := refs_at hx
        have hP := (hp p hpm).same (ba.trans sm3)
        have hP0 := hp0.same (ba.trans sm3)
        have el3 := sm3 _ _ el2
        obtain ⟨dp, ep⟩ := hP
        obtain ⟨d0, ep0⟩ := hP0
        refine ⟨rfl, _, rfl, _, rfl, l, _, _, _, rfl, rfl, sqL el3, at0, ⟨p, p0, dp, d0, _, _, rfl, rfl, ep, ep0, ln, la, bg, en, ⟨dp, ep⟩, ⟨d0, ep0⟩, hS⟩, fun H4 s4 => ⟨_, rfl, iteT ?_⟩⟩
        have s4' : Same H3 H4 := s4
        refine ⟨_, rfl, l, _, _, _, rfl, rfl, sqL (s4' _ _ el3), at0, _, rfl, ⟨p0, p, d0, dp, _, _, rfl, rfl, s4' _ _ ep0, s4' _ _ ep, ln, la, bg, en, ⟨d0, s4' _ _ ep0⟩, ⟨dp, s4' _ _ ep⟩, hS⟩, fun H5 s5 => ?_⟩
        have s35 := s4'.trans s5
        refine ⟨_, s35 _ _ eD3, by rw [List.length_replicate]; exact line_gt (by have := refs_lt hx; omega), same_but (sm3.trans s35) nDb, ?_⟩
        rw [upd_same, rep_more]
      · rintro H3 ⟨sm3, eD3⟩
        refine ⟨Db, List.replicate (ps.map V.ref).length true, rfl, by rw [List.map_replicate]; exact sqL eD3, ?_⟩
        rw [all_true]
        refine ⟨_, rfl, iteF ?_⟩
        have bb := ba.trans sm3
        have el3 := bb _ _ el
        refine ⟨_, rfl, l, rfl, ⟨_, sqL el3⟩, fun Dc nDc => ?_⟩
        have hl1 := plStr_len hS
        have hl2 := plRepr_len hS
        have hl3 := lenOf_in hS
        have hl4 := txt_len (i := lenOf ln la) hl3.1 (by omega)
        refine lc_list (K := K) (a := l) (xs := ps.map V.ref) (fun i H' => Same H3 H' ∧ H' Dc = some (.lst (List.replicate i (.str (tale ln la bg en))))) ⟨same_upd nDc, upd_same⟩ (fun i H' _ h => h.1.seq (sqL el3)) ?_ ?_
        · rintro i x H4 hx ⟨sm4, eD4⟩
          obtain ⟨p, hpm, rfl⟩ := refs_at hx
          have hP := (hp p hpm).same (bb.trans sm4)
          obtain ⟨dp, ep⟩ := hP
          have end_ : ∀ (H5 : Hp), Same H4 H5 → ∃ a dx fs, [V.ref p] = [.ref a] ∧ H5 a = some (.ins C dx fs) ∧ spLen C [.ref a] H5 (fun v H' => ∃ i0 : Int, v = .int i0 ∧ (0 ≤ i0 ∧ i0 < 2 ^ 63) ∧ ∃ j, [V.int i0] = [.int j] ∧ j.natAbs.log2 < 1920 ∧ ∃ i' j', V.str (plStr ln la bg en ++ plRepr ln la bg en) = .str i' ∧ V.str (toString j) = .str j' ∧ i'.length + j'.length ≤ sizeLine ∧ ∃ acc, H' Dc = some (.lst acc) ∧ acc.length < sizeLine ∧ Same H3 (upd H' Dc (.lst (acc ++ [V.str (i' ++ j')]))) ∧ upd H' Dc (.lst (acc ++ [V.str (i' ++ j')])) Dc = some (.lst (List.replicate (i + 1) (.str (tale ln la bg en))))) E0 := by
            intro H5 s5
            refine ⟨p, dp, _, rfl, s5 _ _ ep, p, ln, la, bg, en, rfl, ⟨dp, s5 _ _ ep⟩, hS, fun H6 s6 => ⟨_, rfl, ⟨hl3.1, by omega⟩, _, rfl, log_small hl3.1 (by omega), _, _, rfl, rfl, ?_, _, (s5.trans s6) _ _ eD4, by rw [List.length_replicate]; exact line_gt (by have := refs_lt hx; omega), same_but (sm4.trans (s5.trans s6)) nDc, ?_⟩⟩
            · refine line_ge ?_
              have : (plStr ln la bg en ++ plRepr ln la bg en).length ≤ 100 := by rw [Str.length_append]; omega
              show _ + (txt (lenOf ln la)).length ≤ _
              omega
            · rw [upd_same]
              exact congrArg (fun z => some (HO.lst z)) (rep_str _)
          refine ⟨rfl, _, rfl, p, dp, _, rfl, ep, p, ln, la, bg, en, rfl, ⟨dp, ep⟩, hS, _, rfl, ?_⟩
          refine ⟨_, rfl, p, dp, _, rfl, ep, rfl, p, 0, ln, la, bg, en, rfl, ⟨dp, ep⟩, ?_⟩
          rcases hS with ⟨e1, e2, e3, e4⟩ | ⟨l', m', e1, e2, hG⟩
          · refine .inl ⟨e1, p, dp, _, rfl, ep, p, ln, la, bg, en, rfl, ⟨dp, ep⟩, .inl ⟨e1, e2, e3, e4⟩, _, rfl, _, _, rfl, rfl, line_ge (by omega), _, rfl, ?_⟩
            exact end_ H4 (Same.refl _)
          · refine .inr ⟨l', m', e1, e2, by rw [Int.add_zero, Int.add_zero]; exact hG, fun H5 y s5 ny hy => ?_⟩
            rw [Int.add_zero, Int.add_zero, ← e1, ← e2] at hy
            obtain ⟨dy, ey⟩ := hy
            refine ⟨y, dy, _, rfl, ey, y, ln, la, bg, en, rfl, ⟨dy, ey⟩, .inr ⟨l', m', e1, e2, hG⟩, _, rfl, _, _, rfl, rfl, line_ge (by omega), _, rfl, ?_⟩
            exact end_ H5 s5
        · rintro H4 ⟨sm4, eD4⟩
          have bc := bb.trans sm4
          have el4 := bc _ _ el
          rw [List.length_map] at eD4
          refine ⟨_, rfl, _, rfl, 1, rfl, Dc, _, rfl, sqL eD4, fun cp ncp => ?_⟩
          rw [cut_one _ p1]
          have s5 := same_upd (o := .lst [.str (tale ln la bg en)]) ncp
          refine ⟨_, rfl, l, _, rfl, .inl (sqL (s5 _ _ el4)), cp, _, _, rfl, rfl, upd_same, by omega, by rw [List.length_map]; omega, ?_, fun rp nrp => ?_⟩
          · rw [List.length_map]
            exact line_ge (by show 1 * _ ≤ _; omega)
          rw [List.length_map, Int.toNat_natCast, flat_rep]
          have s6 := s5.trans (same_upd (o := .lst (List.replicate ps.length (.str (tale ln la bg en)))) nrp)
          have erp : upd (upd H4 cp (.lst [.str (tale ln la bg en)])) rp (.lst (List.replicate ps.length (.str (tale ln la bg en)))) rp = some (.lst (List.replicate ps.length (.str (tale ln la bg en)))) := upd_same
          generalize upd (upd H4 cp (.lst [.str (tale ln la bg en)])) rp (.lst (List.replicate ps.length (.str (tale ln la bg en)))) = H5 at s6 erp
          refine ⟨_, _, .lst (sqL (s6 _ _ eD4)) (dp_strs _ _), .lst (sqL erp) (dp_strs _ _), shaped_strs _ (ok_tale hS) _, shaped_strs _ (ok_tale hS) _, _, rfl, ?_⟩
          rw [eqv_strs _ (ok_tale hS)]
          refine iteT ?_
          have bd := bc.trans s6
          have el5 := bd _ _ el
          refine ⟨_, rfl, l, rfl, ⟨_, sqL el5⟩, fun Dd nDd => ?_⟩
          refine lc_list (K := K) (a := l) (xs := ps.map V.ref) (fun i H' => Same H5 H' ∧ H' Dd = some (.lst (List.replicate i (.bl true)))) ⟨same_upd nDd, upd_same⟩ (fun i H' _ h => h.1.seq (sqL el5)) ?_ ?_
          · rintro i x H6 hx ⟨sm, eD⟩
            obtain ⟨p, hpm, rfl⟩ := refs_at hx
            have hP := (hp p hpm).same (bd.trans sm)
            refine ⟨rfl, _, rfl, p, ln, la, bg, en, rfl, hP, fun t2 nt2 => ⟨_, rfl, _, _, rfl, twin4 hS upd_same (same_upd nt2 _ _ ((s1.trans bd).trans sm _ _ ht)), fun H3 s3 => ?_⟩⟩
            have s4 := (same_upd (o := .tup [ln, la, bg, en]) nt2).trans s3
            refine ⟨_, s4 _ _ eD, by rw [List.length_replicate]; exact line_gt (by have := refs_lt hx; omega), same_but (sm.trans s4) nDd, ?_⟩
            rw [upd_same, rep_more]
          · rintro H6 ⟨sm, eD⟩
            refine ⟨Dd, List.replicate (ps.map V.ref).length true, rfl, by rw [List.map_replicate]; exact sqL eD, ?_⟩
            rw [all_true]
            exact q _ (s1.trans (bd.trans sm))
end
end My

namespace My
open PySem PySem.Spec PyProof.Rows L2
/-! ### how arguments come to the parameters of __init__ -/
theorem rel_at : ∀ {vs : List V} {us : List Value} (i : Nat), Vals vs us → RelV (vs.getD i .non) (us.getD i .none)
  | _, _, _, .nil => rfl
  | _, _, 0, .cons r _ => r
  | _, _, i + 1, .cons _ t => rel_at i t
theorem nones : ∀ {its : List Value}, Vals [.non, .non] its → its = [.none, .none]
  | _, .cons a (.cons b .nil) => by cases a; cases b; rfl
theorem init_kbn {K : PySem.W.Frag} {f : Addr} {fd : FuncData} (F : FInit K f fd) {n : Nat} {ks : List Str} (ms : List Str) {g : List Value → List Value → List Value} {gV : List V → List V → List V} (hms : ∀ q ∈ ms, q = "begin" ∨ q = "end")
    (rel : ∀ {vs : List V} {us : List Value} {zs : List V} {ws : List Value}, Vals vs us → Vals zs ws → Vals (gV vs zs) (g us ws))
    (h : ∀ (T D : Addr) (doc pm : Value) (an : Option Addr) (cdv ct : Value) (us ws : List Value), us.length = n → ws.length = ks.length →
      ∃ k, bindArgs (PySem.W.fnOf "__init__" "Place.__init__" (defArgs s_Place_init) (defBody s_Place_init) (defScope s_Place_init) (.ref T) (.ref D) doc pm an cdv ct) ⟨us, ks.zip ws⟩ = seqItems? (.ref T) >>= k ∧ KwChain D (ms.map fun m => (m, Value.none)) (k (some #[.none, .none])) ((["self", "line", "last", "begin", "end"] : List Str).zip (g us ws))) : KBn K fd ["self", "line", "last", "begin", "end"] n ks g gV := by
  obtain ⟨oc, od, dV, kV, doc, pm, an, cdv, ct, osl, rfl, lk, hcd, hD, hK⟩ := F.ex
  rcases hD with ⟨e, _⟩ | ⟨_, T, o, its, m, rfl, lT, oT, rT⟩
  · cases e
  · rcases hK with e | ⟨D, rfl, hq⟩
    · cases e
    · have ei := nones rT
      subst ei
      have hb : ∀ q : Str, q = "begin" ∨ q = "end" → PySem.W.nsIn K D q = some (some .none) := fun q hq' => by
        rcases hq' with rfl | rfl
        · obtain ⟨u, h1, h2⟩ := hq ("begin", .non) (List.mem_cons_self ..)
          cases h2
          exact h1
        · obtain ⟨u, h1, h2⟩ := hq ("end", .non) (List.mem_cons_of_mem _ (List.mem_cons_self ..))
          cases h2
          exact h1
      refine ⟨fun s us ws X l1 l2 => BindsTo.of_looks fun M => ?_, rel⟩
      obtain ⟨k, e1, e2⟩ := h T D doc pm an cdv ct us ws l1 l2
      rw [e1]
      refine looks_items X lT oT (KwChain.looks X (fun q hq' => ?_) e2)
      obtain ⟨m', hm', rfl⟩ := List.mem_map.mp hq'
      exact hb m' (hms m' hm')
theorem init_binds {K : PySem.W.Frag} {f : Addr} {fd : FuncData} (F : FInit K f fd) (n j : Nat) (hn : n + ((2 - j) + 2) = 5)
    (h : ∀ (T D : Addr) (doc pm : Value) (an : Option Addr) (cdv ct : Value) (us its ks : List Value), us.length = n → its.length = 2 → ks.length = 2 →
      ∃ k, bindArgs (PySem.W.fnOf "__init__" "Place.__init__" (defArgs s_Place_init) (defBody s_Place_init) (defScope s_Place_init) (.ref T) (.ref D) doc pm an cdv ct) ⟨us, []⟩ = seqItems? (.ref T) >>= k ∧ KwChain D ((["begin", "end"] : List Str).zip ks) (k (some its.toArray)) ((["self", "line", "last", "begin", "end"] : List Str).zip (us ++ (its.drop j ++ ks)))) :
    ∃ ds, Vals (([.non, .non] : List V).drop j ++ [.non, .non]) ds ∧ Binds K fd ["self", "line", "last", "begin", "end"] ds := F.binds n j (by simp) hn h (by simp)
theorem kbn_0_line_end {K : PySem.W.Frag} {f : Addr} {fd : FuncData} (F : FInit K f fd) : KBn K fd ["self", "line", "last", "begin", "end"] 1 ["line", "end"] gw_0_line_end gv_0_line_end :=
  init_kbn F ["begin"] (fun q hq => by rw [List.mem_singleton] at hq; exact .inl hq) (fun r1 r2 => .cons (rel_at 0 r1) (.cons (rel_at 0 r2) (.cons (rfl) (.cons (rfl) (.cons (rel_at 1 r2) (.nil)))))) fun T D doc pm an cdv ct us ws l1 l2 => match us, l1, ws, l2 with | [_], _, [_, _], _ => ⟨_, rfl, ⟨_, _, _, _, _, _, rfl, rfl, rfl⟩⟩
theorem kbn_0_last {K : PySem.W.Frag} {f : Addr} {fd : FuncData} (F : FInit K f fd) : KBn K fd ["self", "line", "last", "begin", "end"] 1 ["last"] gw_0_last gv_0_last :=
  init_kbn F ["begin", "end"] (fun q hq => by simpa using hq) (fun r1 r2 => .cons (rel_at 0 r1) (.cons (rfl) (.cons (rel_at 0 r2) (.cons (rfl) (.cons (rfl) (.nil)))))) fun T D doc pm an cdv ct us ws l1 l2 => match us, l1, ws, l2 with | [_], _, [_], _ => ⟨_, rfl, ⟨_, _, _, _, _, _, rfl, rfl, ⟨_, _, _, _, _, _, rfl, rfl, rfl⟩⟩⟩
theorem kbn_0_end_begin_last_line {K : PySem.W.Frag} {f : Addr} {fd : FuncData} (F : FInit K f fd) : KBn K fd ["self", "line", "last", "begin", "end"] 1 ["end", "begin", "last", "line"] gw_0_end_begin_last_line gv_0_end_begin_last_line :=
  init_kbn F [] (fun q hq => by cases hq) (fun r1 r2 => .cons (rel_at 0 r1) (.cons (rel_at 3 r2) (.cons (rel_at 2 r2) (.cons (rel_at 1 r2) (.cons (rel_at 0 r2) (.nil)))))) fun T D doc pm an cdv ct us ws l1 l2 => match us, l1, ws, l2 with | [_], _, [_, _, _, _], _ => ⟨_, rfl, rfl⟩
theorem kbn_0_line {K : PySem.W.Frag} {f : Addr} {fd : FuncData} (F : FInit K f fd) : KBn K fd ["self", "line", "last", "begin", "end"] 1 ["line"] gw_0_line gv_0_line :=
  init_kbn F ["begin", "end"] (fun q hq => by simpa using hq) (fun r1 r2 => .cons (rel_at 0 r1) (.cons (rel_at 0 r2) (.cons (rfl) (.cons (rfl) (.cons (rfl) (.nil)))))) fun T D doc pm an cdv ct us ws l1 l2 => match us, l1, ws, l2 with | [_], _, [_], _ => ⟨_, rfl, ⟨_, _, _, _, _, _, rfl, rfl, ⟨_, _, _, _, _, _, rfl, rfl, rfl⟩⟩⟩
theorem kbn_0_last_line {K : PySem.W.Frag} {f : Addr} {fd : FuncData} (F : FInit K f fd) : KBn K fd ["self", "line", "last", "begin", "end"] 1 ["last", "line"] gw_0_last_line gv_0_last_line :=
  init_kbn F ["begin", "end"] (fun q hq => by simpa using hq) (fun r1 r2 => .cons (rel_at 0 r1) (.cons (rel_at 1 r2) (.cons (rel_at 0 r2) (.cons (rfl) (.cons (rfl) (.nil)))))) fun T D doc pm an cdv ct us ws l1 l2 => match us, l1, ws, l2 with | [_], _, [_, _], _ => ⟨_, rfl, ⟨_, _, _, _, _, _, rfl, rfl, ⟨_, _, _, _, _, _, rfl, rfl, rfl⟩⟩⟩
theorem kbn_2_begin {K : PySem.W.Frag} {f : Addr} {fd : FuncData} (F : FInit K f fd) : KBn K fd ["self", "line", "last", "begin", "end"] 3 ["begin"] gw_2_begin gv_2_begin :=
  init_kbn F ["end"] (fun q hq => by rw [List.mem_singleton] at hq; exact .inr hq) (fun r1 r2 => .cons (rel_at 0 r1) (.cons (rel_at 1 r1) (.cons (rel_at 2 r1) (.cons (rel_at 0 r2) (.cons (rfl) (.nil)))))) fun T D doc pm an cdv ct us ws l1 l2 => match us, l1, ws, l2 with | [_, _, _], _, [_], _ => ⟨_, rfl, ⟨_, _, _, _, _, _, rfl, rfl, rfl⟩⟩
theorem kbn_1_last_end {K : PySem.W.Frag} {f : Addr} {fd : FuncData} (F : FInit K f fd) : KBn K fd ["self", "line", "last", "begin", "end"] 2 ["last", "end"] gw_1_last_end gv_1_last_end :=
  init_kbn F ["begin"] (fun q hq => by rw [List.mem_singleton] at hq; exact .inl hq) (fun r1 r2 => .cons (rel_at 0 r1) (.cons (rel_at 1 r1) (.cons (rel_at 0 r2) (.cons (rfl) (.cons (rel_at 1 r2) (.nil)))))) fun T D doc pm an cdv ct us ws l1 l2 => match us, l1, ws, l2 with | [_, _], _, [_, _], _ => ⟨_, rfl, ⟨_, _, _, _, _, _, rfl, rfl, rfl⟩⟩
theorem kbn_2_end_begin {K : PySem.W.Frag} {f : Addr} {fd : FuncData} (F : FInit K f fd) : KBn K fd ["self", "line", "last", "begin", "end"] 3 ["end", "begin"] gw_2_end_begin gv_2_end_begin :=
  init_kbn F [] (fun q hq => by cases hq) (fun r1 r2 => .cons (rel_at 0 r1) (.cons (rel_at 1 r1) (.cons (rel_at 2 r1) (.cons (rel_at 1 r2) (.cons (rel_at 0 r2) (.nil)))))) fun T D doc pm an cdv ct us ws l1 l2 => match us, l1, ws, l2 with | [_, _, _], _, [_, _], _ => ⟨_, rfl, rfl⟩
theorem kbn_1_last_begin_end {K : PySem.W.Frag} {f : Addr} {fd : FuncData} (F : FInit K f fd) : KBn K fd ["self", "line", "last", "begin", "end"] 2 ["last", "begin", "end"] gw_1_last_begin_end gv_1_last_begin_end :=
  init_kbn F [] (fun q hq => by cases hq) (fun r1 r2 => .cons (rel_at 0 r1) (.cons (rel_at 1 r1) (.cons (rel_at 0 r2) (.cons (rel_at 1 r2) (.cons (rel_at 2 r2) (.nil)))))) fun T D doc pm an cdv ct us ws l1 l2 => match us, l1, ws, l2 with | [_, _], _, [_, _, _], _ => ⟨_, rfl, rfl⟩
theorem kbn_1_begin_end {K : PySem.W.Frag} {f : Addr} {fd : FuncData} (F : FInit K f fd) : KBn K fd ["self", "line", "last", "begin", "end"] 2 ["begin", "end"] gw_1_begin_end gv_1_begin_end :=
  init_kbn F [] (fun q hq => by cases hq) (fun r1 r2 => .cons (rel_at 0 r1) (.cons (rel_at 1 r1) (.cons (rfl) (.cons (rel_at 0 r2) (.cons (rel_at 1 r2) (.nil)))))) fun T D doc pm an cdv ct us ws l1 l2 => match us, l1, ws, l2 with | [_, _], _, [_, _], _ => ⟨_, rfl, rfl⟩
theorem kbn_0_end_line_begin {K : PySem.W.Frag} {f : Addr} {fd : FuncData} (F : FInit K f fd) : KBn K fd ["self", "line", "last", "begin", "end"] 1 ["end", "line", "begin"] gw_0_end_line_begin gv_0_end_line_begin :=
  init_kbn F [] (fun q hq => by cases hq) (fun r1 r2 => .cons (rel_at 0 r1) (.cons (rel_at 1 r2) (.cons (rfl) (.cons (rel_at 2 r2) (.cons (rel_at 0 r2) (.nil)))))) fun T D doc pm an cdv ct us ws l1 l2 => match us, l1, ws, l2 with | [_], _, [_, _, _], _ => ⟨_, rfl, rfl⟩
theorem kbn_2_begin_end {K : PySem.W.Frag} {f : Addr} {fd : FuncData} (F : FInit K f fd) : KBn K fd ["self", "line", "last", "begin", "end"] 3 ["begin", "end"] (fun us ws => us ++ ws) (fun vs zs => vs ++ zs) :=
  init_kbn F [] (fun q hq => by cases hq) (fun r1 r2 => r1.append r2) fun T D doc pm an cdv ct us ws l1 l2 => match us, l1, ws, l2 with | [_, _, _], _, [_, _], _ => ⟨_, rfl, rfl⟩
theorem bnd_0 {K : PySem.W.Frag} {f : Addr} {fd : FuncData} (F : FInit K f fd) : ∃ ds, Vals (([.non, .non] : List V).drop 0 ++ [.non, .non]) ds ∧ Binds K fd ["self", "line", "last", "begin", "end"] ds :=
  init_binds F 1 0 rfl fun T D doc pm an cdv ct us its ks l1 l2 l3 => match us, l1, its, l2, ks, l3 with | [_], _, [_, _], _, [_, _], _ => ⟨_, rfl, ⟨_, _, _, _, _, _, rfl, rfl, ⟨_, _, _, _, _, _, rfl, rfl, rfl⟩⟩⟩
theorem bnd_1 {K : PySem.W.Frag} {f : Addr} {fd : FuncData} (F : FInit K f fd) : ∃ ds, Vals (([.non, .non] : List V).drop 1 ++ [.non, .non]) ds ∧ Binds K fd ["self", "line", "last", "begin", "end"] ds :=
  init_binds F 2 1 rfl fun T D doc pm an cdv ct us its ks l1 l2 l3 => match us, l1, its, l2, ks, l3 with | [_, _], _, [_, _], _, [_, _], _ => ⟨_, rfl, ⟨_, _, _, _, _, _, rfl, rfl, ⟨_, _, _, _, _, _, rfl, rfl, rfl⟩⟩⟩
theorem bnd_2 {K : PySem.W.Frag} {f : Addr} {fd : FuncData} (F : FInit K f fd) : ∃ ds, Vals (([.non, .non] : List V).drop 2 ++ [.non, .non]) ds ∧ Binds K fd ["self", "line", "last", "begin", "end"] ds :=
  init_binds F 3 2 rfl fun T D doc pm an cdv ct us its ks l1 l2 l3 => match us, l1, its, l2, ks, l3 with | [_, _, _], _, [_, _], _, [_, _], _ => ⟨_, rfl, ⟨_, _, _, _, _, _, rfl, rfl, ⟨_, _, _, _, _, _, rfl, rfl, rfl⟩⟩⟩

def spLaw (K : PySem.W.Frag) : Sp := fun vs H Q _ => ∃ (a : Addr) (ns : List Int), vs = [.ref a] ∧ SqL K H a (ns.map V.int) ∧ ns.length ≤ 63 ∧ ∀ H', Q (.bl true) H'
def pD : List Int := [1, 3]
theorem pD_in {c : Int} (h : c ∈ pD) : 0 < c ∧ c ≤ 3 := by
  have : ∀ c ∈ pD, 0 < c ∧ c ≤ 3 := by decide
  exact this c h
def wides (c : Int) : List Int := [9, 1000, 10 ^ Int.toNat 6, c]
theorem wides_in {c z : Int} (hc : 0 < c ∧ c ≤ 3) (h : z ∈ wides c) : 0 < z ∧ z ≤ 1000000 := by
  have e : (10 : Int) ^ Int.toNat 6 = 1000000 := ten6'
  unfold wides at h
  rw [e] at h
  simp only [List.mem_cons, List.not_mem_nil, or_false] at h
  omega
section
variable {P : Program} {w : World} {K : PySem.W.Frag} {mg : Str → Option Value} {base : Heap}
theorem ok_law {f : Addr} {fd : FuncData} (F : Fun K "law" "law" s_law f fd) (z_range : mg "range" = none) (z_min : mg "min" = none) (z_len : mg "len" = none)
    (c_l_box : Cal P w K mg base 3 "_law_box" ["_law_script", "_law_k"] (spBox K)) (c_l_take : Cal P w K mg base 2 "_law_take" ["_law_box_here", "_law_many"] spTake) (c_l_spot : Cal P w K mg base 3 "_law_spot" ["_law_box_here", "_law_wide"] spSpot) (c_l_right : Cal P w K mg base 8 "_law_right" ["_law_spot_here"] spRt) : FnOk P w K mg base CX0 9 f fd ["_law_script"] (spLaw K) := by
  refine F.ok sc_law (fun vs H Q E h => ?_) (fun cdv A outer s H vs Q E hr h => ?_)
  · obtain ⟨a, ns, rfl, _⟩ := h
    rfl
  · obtain ⟨a, ns, rfl, hS, hl, q⟩ := h
    refine ⟨_, (pss_cons (ps_for PassesOwn.never rfl (pi_range1 (by rfl) z_range (pa_cons (pe_op op_add (pe_int) (pe_callB (call_min2 rfl) (by rfl) z_min (by decide +kernel) (pa_cons (pe_int) (pa_cons (pe_callB (call_len_seq) (by rfl) z_len (by decide +kernel) (pa_cons (pv 0) pa_nil)) pa_nil)))) pa_nil)) (pg_name (i := 1) sc_law.nd rfl (Or.inl rfl)) (pss_cons (ps_set (i := 2) sc_law.nd rfl (Or.inl rfl) (pe_c c_l_box hr (by first | decide | exact Nat.le_refl _) (by rfl) (pa_cons (pv 0) (pa_cons (pv 1) pa_nil))))
      (pss_one (ps_for PassesOwn.never rfl (pi_tup (pe_tup (pa_cons (pe_int) (pa_cons (pe_int) (pa_cons (pe_op op_pow (pe_int) (pe_int)) (pa_cons (pe_ix ix_list (pe_lst (pa_cons (pe_int) (pa_cons (pe_int) pa_nil))) (pe_c c_l_take hr (by first | decide | exact Nat.le_refl _) (by rfl) (pa_cons (pv 2) (pa_cons (pe_int) pa_nil))) (fun _ _ => rfl)) pa_nil)))))) (pg_name (i := 3) sc_law.nd rfl (Or.inl rfl)) (pss_one (ps_if (pt_not (pt_val (pe_c c_l_right hr (by first | decide | exact Nat.le_refl _) (by rfl) (pa_cons (pe_c c_l_spot hr (by first | decide | exact Nat.le_refl _) (by rfl) (pa_cons (pv 2) (pa_cons (pv 3) pa_nil))) pa_nil)))) (pss_one (ps_ret (pe_bl))) pss_nil))))))
      (pss_one (ps_ret (pe_bl)))), ?_⟩
    have hN : ∃ N : Int, N = 1 + (if ((ns.map V.int).length : Int) < 11 then ((ns.map V.int).length : Int) else 11) ∧ 1 ≤ N ∧ N ≤ 12 := by
      refine ⟨_, rfl, ?_⟩
      split <;> omega
    obtain ⟨N, eN, N1, N2⟩ := hN
    refine ⟨_, rfl, a, _, rfl, .inl hS, _, _, rfl, _, _, rfl, rfl, N, by rw [eN] <;> rfl, by omega, by omega, ?_⟩
    refine for_range (lo := 0) (fun i σ H' => ∃ y1 y2 y3, σ = [some (.ref a), y1, y2, y3] ∧ Same H H') ⟨none, none, none, rfl, Same.refl _⟩ ?_ (fun σ H' _ => q _)
    rintro i σ H1 hi ⟨y1, y2, y3, rfl, s1⟩
    refine ⟨_, rfl, _, rfl, a, ns, i, by rw [Int.zero_add] <;> rfl, s1.seq hS, by omega, fun H2 p s2 np bx => ?_⟩
    refine ⟨_, _, rfl, rfl, ⟨by decide, by decide, by decide⟩, (by show 2 ≤ sizeLine; decide), fun l nl => ?_⟩
    have sl := same_upd (o := .lst (pD.map V.int)) nl
    have lp := bx.ne nl
    refine ⟨_, rfl, p, 2, 0, rfl, by decide, by decide, bx.same sl, by decide, fun v H3 hv a3 _ => ?_⟩
    obtain ⟨c, hc, hat⟩ := pick (L := pD) (v := v) (by show v < 2; omega)
    refine ⟨l, pD.map V.int, _, _, rfl, rfl, sqL (a3.get (upd_same : upd H2 l (.lst (pD.map V.int)) l = _) lp), hat, (by show 4 ≤ sizeLine; decide), fun tp ntp => ?_⟩
    have st := same_upd (o := .tup ((wides c).map V.int)) ntp
    have tpp := a3.box.ne ntp
    have A4 : Aft p 1 H2 (upd H3 tp (.tup ((wides c).map V.int))) := (Aft.mk (a3.box) ((Same.but sl).trans a3.but)).same st
    have e4 : upd H3 tp (.tup ((wides c).map V.int)) tp = some (.tup ((wides c).map V.int)) := upd_same
    refine ⟨tp, rfl, ⟨_, sqT upd_same⟩, ?_⟩
    refine for_tup (K := K) (a := tp) (xs := (wides c).map V.int) (fun j σ H' => ∃ y3, σ = [some (.ref a), some (.int (0 + (i : Int))), some (.ref p), y3] ∧ Aft p (1 + 8 * j) (upd H3 tp (.tup ((wides c).map V.int))) H') ⟨_, rfl, ⟨A4.box, fun _ _ _ h => h⟩⟩ (fun j σ H' _ ⟨_, _, aj⟩ => sqT (aj.get e4 tpp)) ?_ ?_
    · rintro j x σ H5 hx ⟨y3, rfl, aj⟩
      have hx' : ∃ z, z ∈ wides c ∧ x = .int z ∧ j < 4 := by
        have hj := (List.getElem?_eq_some_iff.mp hx).1
        rw [List.getElem?_map] at hx
        cases e : (wides c)[j]? with
        | none => rw [e] at hx; cases hx
        | some z => rw [e] at hx; exact ⟨z, List.mem_of_getElem? e, (Option.some.inj hx).symm, hj⟩
      obtain ⟨z, hz, rfl, hj⟩ := hx'
      obtain ⟨z0, z1⟩ := wides_in (pD_in hc) hz
      refine ⟨_, rfl, _, rfl, p, z, 1 + 8 * j, rfl, z0, z1, aj.box, by omega, fun ln la bg en H6 t hS6 a6 nt et => ?_⟩
      refine ⟨t, ln, la, bg, en, rfl, et, hS6, fun H7 s7 => ⟨_, rfl, iteF ⟨_, rfl, ((aj.trans a6).same s7).mono (by omega)⟩⟩⟩
    · rintro σ H5 ⟨y3, rfl, aj⟩
      refine ⟨_, _, _, rfl, s1.trans fun b o e => ?_⟩
      exact (A4.trans aj).but b o (ne_of_none e np) (s2 _ _ e)
end
theorem all_mk {l : PySem.W.OpenLaw} {w : World} {K : PySem.W.Frag} {h : Heap} {mg : Str → Option Value} {fa : Addr} (X : K.In h) (G : h.Ns mainGlobals mg) (hfa : mg "law" = some (.ref fa))
    {C fI TI DI : Addr} {odI anI odT : Option Addr} {slI slT : Array (Option Value)} {ocI dcI pmI cdI ctI ocT : Value} {nT : Nat} {f_Pmoved : Addr} {od_Pmoved an_Pmoved : Option Addr} {sl_Pmoved : Array (Option Value)} {oc_Pmoved kV_Pmoved dc_Pmoved pm_Pmoved cd_Pmoved ct_Pmoved : Value} {f_Peq : Addr} {od_Peq an_Peq : Option Addr} {sl_Peq : Array (Option Value)} {oc_Peq kV_Peq dc_Peq pm_Peq cd_Peq ct_Peq : Value} {f_Plen : Addr} {od_Plen an_Plen : Option Addr} {sl_Plen : Array (Option Value)} {oc_Plen kV_Plen dc_Plen pm_Plen cd_Plen ct_Plen : Value} {f_Pstr : Addr} {od_Pstr an_Pstr : Option Addr} {sl_Pstr : Array (Option Value)} {oc_Pstr kV_Pstr dc_Pstr pm_Pstr cd_Pstr ct_Pstr : Value} {f_Prepr : Addr} {od_Prepr an_Prepr : Option Addr} {sl_Prepr : Array (Option Value)} {oc_Prepr kV_Prepr dc_Prepr pm_Prepr cd_Prepr ct_Prepr : Value}
    (aC : PySem.W.nsIn K mainGlobals "Place" = some (some (.ref C)))
    (pg : PySem.W.plainGet K C Str.empty = true)
    (hd : PySem.W.hasDictIn K C = true)
    (po : PySem.W.plainOver K C = true)
    (sa : PySem.W.findIn K (.ref C) "__setattr__" = some (some (.builtin "object.__setattr__")))
    (n_line : PySem.W.findIn K (.ref C) "line" = some none)
    (n_last : PySem.W.findIn K (.ref C) "last" = some none)
    (n_begin : PySem.W.findIn K (.ref C) "begin" = some none)
    (n_end : PySem.W.findIn K (.ref C) "end" = some none)
    (iha : PySem.W.findIn K (.ref C) "__class__" = some (some (.builtin "object.__class__")))
    (ihn : PySem.W.specialIn K (.builtin "object.__class__") "__get__" = some (some (.builtin "getset_descriptor.__get__")))
    (iht : PySem.W.takesIn K (.builtin "object.__class__") = some true)
    (ihm : PySem.W.mroIn K C (.type "object") = some true)
    (ikt : PySem.W.kitOne K (.ref C) (.ref C) = some true)
    (mk1 : PySem.W.makesIn K C = true)
    (mk2 : PySem.W.findIn K (.ref C) "__init__" = some (some (.ref fI)))
    (mk3 : PySem.W.isFn K (.ref fI) = true)
    (mk4 : PySem.W.keepIn K (.ref C) = true)
    (lI : K.lookup fI = some ⟨ocI, odI, .func (PySem.W.fnOf "__init__" "Place.__init__" (defArgs s_Place_init) (defBody s_Place_init) (defScope s_Place_init) (.ref TI) (.ref DI) dcI pmI anI cdI ctI), slI⟩)
    (cI : PySem.W.codeIn K cdI "Place.__init__" = true)
    (kI : PySem.W.keepIn K (.ref fI) = true)
    (lT : K.lookup TI = some ⟨ocT, odT, .seq #[.none, .none] nT, slT⟩)
    (qb : PySem.W.nsIn K DI "begin" = some (some .none))
    (qe : PySem.W.nsIn K DI "end" = some (some .none))
    (a_Pmoved : PySem.W.findIn K (.ref C) "moved" = some (some (.ref f_Pmoved)))
    (i_Pmoved : PySem.W.isFn K (.ref f_Pmoved) = true)
    (l_Pmoved : K.lookup f_Pmoved = some ⟨oc_Pmoved, od_Pmoved, .func (PySem.W.fnOf "moved" "Place.moved" (defArgs s_Place_moved) (defBody s_Place_moved) (defScope s_Place_moved) .none kV_Pmoved dc_Pmoved pm_Pmoved an_Pmoved cd_Pmoved ct_Pmoved), sl_Pmoved⟩)
    (c_Pmoved : PySem.W.codeIn K cd_Pmoved "Place.moved" = true)
    (k_Pmoved : PySem.W.keepIn K (.ref f_Pmoved) = true)
    (a_Peq : PySem.W.findIn K (.ref C) "__eq__" = some (some (.ref f_Peq)))
    (i_Peq : PySem.W.isFn K (.ref f_Peq) = true)
    (l_Peq : K.lookup f_Peq = some ⟨oc_Peq, od_Peq, .func (PySem.W.fnOf "__eq__" "Place.__eq__" (defArgs s_Place_eq) (defBody s_Place_eq) (defScope s_Place_eq) .none kV_Peq dc_Peq pm_Peq an_Peq cd_Peq ct_Peq), sl_Peq⟩)
    (c_Peq : PySem.W.codeIn K cd_Peq "Place.__eq__" = true)
    (k_Peq : PySem.W.keepIn K (.ref f_Peq) = true)
    (a_Plen : PySem.W.findIn K (.ref C) "__len__" = some (some (.ref f_Plen)))
    (i_Plen : PySem.W.isFn K (.ref f_Plen) = true)
    (l_Plen : K.lookup f_Plen = some ⟨oc_Plen, od_Plen, .func (PySem.W.fnOf "__len__" "Place.__len__" (defArgs s_Place_len) (defBody s_Place_len) (defScope s_Place_len) .none kV_Plen dc_Plen pm_Plen an_Plen cd_Plen ct_Plen), sl_Plen⟩)
    (c_Plen : PySem.W.codeIn K cd_Plen "Place.__len__" = true)
    (k_Plen : PySem.W.keepIn K (.ref f_Plen) = true)
    (a_Pstr : PySem.W.findIn K (.ref C) "__str__" = some (some (.ref f_Pstr)))
    (i_Pstr : PySem.W.isFn K (.ref f_Pstr) = true)
    (l_Pstr : K.lookup f_Pstr = some ⟨oc_Pstr, od_Pstr, .func (PySem.W.fnOf "__str__" "Place.__str__" (defArgs s_Place_str) (defBody s_Place_str) (defScope s_Place_str) .none kV_Pstr dc_Pstr pm_Pstr an_Pstr cd_Pstr ct_Pstr), sl_Pstr⟩)
    (c_Pstr : PySem.W.codeIn K cd_Pstr "Place.__str__" = true)
    (k_Pstr : PySem.W.keepIn K (.ref f_Pstr) = true)
    (a_Prepr : PySem.W.findIn K (.ref C) "__repr__" = some (some (.ref f_Prepr)))
    (i_Prepr : PySem.W.isFn K (.ref f_Prepr) = true)
    (l_Prepr : K.lookup f_Prepr = some ⟨oc_Prepr, od_Prepr, .func (PySem.W.fnOf "__repr__" "Place.__repr__" (defArgs s_Place_repr) (defBody s_Place_repr) (defScope s_Place_repr) .none kV_Prepr dc_Prepr pm_Prepr an_Prepr cd_Prepr ct_Prepr), sl_Prepr⟩)
    (c_Prepr : PySem.W.codeIn K cd_Prepr "Place.__repr__" = true)
    (k_Prepr : PySem.W.keepIn K (.ref f_Prepr) = true)
    {od_is_whole an_is_whole : Option Addr} {sl_is_whole : Array (Option Value)} {oc_is_whole kV_is_whole dc_is_whole pm_is_whole cd_is_whole ct_is_whole : Value} {f_is_whole : Addr}
    (a_is_whole : PySem.W.nsIn K mainGlobals "is_whole" = some (some (.ref f_is_whole)))
    (l_is_whole : K.lookup f_is_whole = some ⟨oc_is_whole, od_is_whole, .func (PySem.W.fnOf "is_whole" "is_whole" (defArgs s_is_whole) (defBody s_is_whole) (defScope s_is_whole) .none kV_is_whole dc_is_whole pm_is_whole an_is_whole cd_is_whole ct_is_whole), sl_is_whole⟩)
    (c_is_whole : PySem.W.codeIn K cd_is_whole "is_whole" = true) (k_is_whole : PySem.W.keepIn K (.ref f_is_whole) = true)
    {od_is_number an_is_number : Option Addr} {sl_is_number : Array (Option Value)} {oc_is_number kV_is_number dc_is_number pm_is_number cd_is_number ct_is_number : Value} {f_is_number : Addr}
    (a_is_number : PySem.W.nsIn K mainGlobals "is_number" = some (some (.ref f_is_number)))
    (l_is_number : K.lookup f_is_number = some ⟨oc_is_number, od_is_number, .func (PySem.W.fnOf "is_number" "is_number" (defArgs s_is_number) (defBody s_is_number) (defScope s_is_number) .none kV_is_number dc_is_number pm_is_number an_is_number cd_is_number ct_is_number), sl_is_number⟩)
    (c_is_number : PySem.W.codeIn K cd_is_number "is_number" = true) (k_is_number : PySem.W.keepIn K (.ref f_is_number) = true)
    {od_wrong_columns an_wrong_columns : Option Addr} {sl_wrong_columns : Array (Option Value)} {oc_wrong_columns kV_wrong_columns dc_wrong_columns pm_wrong_columns cd_wrong_columns ct_wrong_columns : Value} {f_wrong_columns : Addr}
    (a_wrong_columns : PySem.W.nsIn K mainGlobals "wrong_columns" = some (some (.ref f_wrong_columns)))
    (l_wrong_columns : K.lookup f_wrong_columns = some ⟨oc_wrong_columns, od_wrong_columns, .func (PySem.W.fnOf "wrong_columns" "wrong_columns" (defArgs s_wrong_columns) (defBody s_wrong_columns) (defScope s_wrong_columns) .none kV_wrong_columns dc_wrong_columns pm_wrong_columns an_wrong_columns cd_wrong_columns ct_wrong_columns), sl_wrong_columns⟩)
    (c_wrong_columns : PySem.W.codeIn K cd_wrong_columns "wrong_columns" = true) (k_wrong_columns : PySem.W.keepIn K (.ref f_wrong_columns) = true)
    {od_wrong_of_nowhere an_wrong_of_nowhere : Option Addr} {sl_wrong_of_nowhere : Array (Option Value)} {oc_wrong_of_nowhere kV_wrong_of_nowhere dc_wrong_of_nowhere pm_wrong_of_nowhere cd_wrong_of_nowhere ct_wrong_of_nowhere : Value} {f_wrong_of_nowhere : Addr}
    (a_wrong_of_nowhere : PySem.W.nsIn K mainGlobals "wrong_of_nowhere" = some (some (.ref f_wrong_of_nowhere)))
    (l_wrong_of_nowhere : K.lookup f_wrong_of_nowhere = some ⟨oc_wrong_of_nowhere, od_wrong_of_nowhere, .func (PySem.W.fnOf "wrong_of_nowhere" "wrong_of_nowhere" (defArgs s_wrong_of_nowhere) (defBody s_wrong_of_nowhere) (defScope s_wrong_of_nowhere) .none kV_wrong_of_nowhere dc_wrong_of_nowhere pm_wrong_of_nowhere an_wrong_of_nowhere cd_wrong_of_nowhere ct_wrong_of_nowhere), sl_wrong_of_nowhere⟩)
    (c_wrong_of_nowhere : PySem.W.codeIn K cd_wrong_of_nowhere "wrong_of_nowhere" = true) (k_wrong_of_nowhere : PySem.W.keepIn K (.ref f_wrong_of_nowhere) = true)
    {od_wrong_part an_wrong_part : Option Addr} {sl_wrong_part : Array (Option Value)} {oc_wrong_part kV_wrong_part dc_wrong_part pm_wrong_part cd_wrong_part ct_wrong_part : Value} {f_wrong_part : Addr}
    (a_wrong_part : PySem.W.nsIn K mainGlobals "wrong_part" = some (some (.ref f_wrong_part)))
    (l_wrong_part : K.lookup f_wrong_part = some ⟨oc_wrong_part, od_wrong_part, .func (PySem.W.fnOf "wrong_part" "wrong_part" (defArgs s_wrong_part) (defBody s_wrong_part) (defScope s_wrong_part) .none kV_wrong_part dc_wrong_part pm_wrong_part an_wrong_part cd_wrong_part ct_wrong_part), sl_wrong_part⟩)
    (c_wrong_part : PySem.W.codeIn K cd_wrong_part "wrong_part" = true) (k_wrong_part : PySem.W.keepIn K (.ref f_wrong_part) = true)
    {od_l_cell_at an_l_cell_at : Option Addr} {sl_l_cell_at : Array (Option Value)} {oc_l_cell_at kV_l_cell_at dc_l_cell_at pm_l_cell_at cd_l_cell_at ct_l_cell_at : Value} {f_l_cell_at : Addr}
    (a_l_cell_at : PySem.W.nsIn K mainGlobals "_law_cell_at" = some (some (.ref f_l_cell_at)))
    (l_l_cell_at : K.lookup f_l_cell_at = some ⟨oc_l_cell_at, od_l_cell_at, .func (PySem.W.fnOf "_law_cell_at" "_law_cell_at" (defArgs s_l_cell_at) (defBody s_l_cell_at) (defScope s_l_cell_at) .none kV_l_cell_at dc_l_cell_at pm_l_cell_at an_l_cell_at cd_l_cell_at ct_l_cell_at), sl_l_cell_at⟩)
    (c_l_cell_at : PySem.W.codeIn K cd_l_cell_at "_law_cell_at" = true) (k_l_cell_at : PySem.W.keepIn K (.ref f_l_cell_at) = true)
    {od_l_box an_l_box : Option Addr} {sl_l_box : Array (Option Value)} {oc_l_box kV_l_box dc_l_box pm_l_box cd_l_box ct_l_box : Value} {f_l_box : Addr}
    (a_l_box : PySem.W.nsIn K mainGlobals "_law_box" = some (some (.ref f_l_box)))
    (l_l_box : K.lookup f_l_box = some ⟨oc_l_box, od_l_box, .func (PySem.W.fnOf "_law_box" "_law_box" (defArgs s_l_box) (defBody s_l_box) (defScope s_l_box) .none kV_l_box dc_l_box pm_l_box an_l_box cd_l_box ct_l_box), sl_l_box⟩)
    (c_l_box : PySem.W.codeIn K cd_l_box "_law_box" = true) (k_l_box : PySem.W.keepIn K (.ref f_l_box) = true)
    {od_l_take an_l_take : Option Addr} {sl_l_take : Array (Option Value)} {oc_l_take kV_l_take dc_l_take pm_l_take cd_l_take ct_l_take : Value} {f_l_take : Addr}
    (a_l_take : PySem.W.nsIn K mainGlobals "_law_take" = some (some (.ref f_l_take)))
    (l_l_take : K.lookup f_l_take = some ⟨oc_l_take, od_l_take, .func (PySem.W.fnOf "_law_take" "_law_take" (defArgs s_l_take) (defBody s_l_take) (defScope s_l_take) .none kV_l_take dc_l_take pm_l_take an_l_take cd_l_take ct_l_take), sl_l_take⟩)
    (c_l_take : PySem.W.codeIn K cd_l_take "_law_take" = true) (k_l_take : PySem.W.keepIn K (.ref f_l_take) = true)
    {od_l_spot an_l_spot : Option Addr} {sl_l_spot : Array (Option Value)} {oc_l_spot kV_l_spot dc_l_spot pm_l_spot cd_l_spot ct_l_spot : Value} {f_l_spot : Addr}
    (a_l_spot : PySem.W.nsIn K mainGlobals "_law_spot" = some (some (.ref f_l_spot)))
    (l_l_spot : K.lookup f_l_spot = some ⟨oc_l_spot, od_l_spot, .func (PySem.W.fnOf "_law_spot" "_law_spot" (defArgs s_l_spot) (defBody s_l_spot) (defScope s_l_spot) .none kV_l_spot dc_l_spot pm_l_spot an_l_spot cd_l_spot ct_l_spot), sl_l_spot⟩)
    (c_l_spot : PySem.W.codeIn K cd_l_spot "_law_spot" = true) (k_l_spot : PySem.W.keepIn K (.ref f_l_spot) = true)
    {od_l_same an_l_same : Option Addr} {sl_l_same : Array (Option Value)} {oc_l_same kV_l_same dc_l_same pm_l_same cd_l_same ct_l_same : Value} {f_l_same : Addr}
    (a_l_same : PySem.W.nsIn K mainGlobals "_law_same" = some (some (.ref f_l_same)))
    (l_l_same : K.lookup f_l_same = some ⟨oc_l_same, od_l_same, .func (PySem.W.fnOf "_law_same" "_law_same" (defArgs s_l_same) (defBody s_l_same) (defScope s_l_same) .none kV_l_same dc_l_same pm_l_same an_l_same cd_l_same ct_l_same), sl_l_same⟩)
    (c_l_same : PySem.W.codeIn K cd_l_same "_law_same" = true) (k_l_same : PySem.W.keepIn K (.ref f_l_same) = true)
    {od_l_seen an_l_seen : Option Addr} {sl_l_seen : Array (Option Value)} {oc_l_seen kV_l_seen dc_l_seen pm_l_seen cd_l_seen ct_l_seen : Value} {f_l_seen : Addr}
    (a_l_seen : PySem.W.nsIn K mainGlobals "_law_seen" = some (some (.ref f_l_seen)))
    (l_l_seen : K.lookup f_l_seen = some ⟨oc_l_seen, od_l_seen, .func (PySem.W.fnOf "_law_seen" "_law_seen" (defArgs s_l_seen) (defBody s_l_seen) (defScope s_l_seen) .none kV_l_seen dc_l_seen pm_l_seen an_l_seen cd_l_seen ct_l_seen), sl_l_seen⟩)
    (c_l_seen : PySem.W.codeIn K cd_l_seen "_law_seen" = true) (k_l_seen : PySem.W.keepIn K (.ref f_l_seen) = true)
    {od_l_ways an_l_ways : Option Addr} {sl_l_ways : Array (Option Value)} {oc_l_ways kV_l_ways dc_l_ways pm_l_ways cd_l_ways ct_l_ways : Value} {f_l_ways : Addr}
    (a_l_ways : PySem.W.nsIn K mainGlobals "_law_ways" = some (some (.ref f_l_ways)))
    (l_l_ways : K.lookup f_l_ways = some ⟨oc_l_ways, od_l_ways, .func (PySem.W.fnOf "_law_ways" "_law_ways" (defArgs s_l_ways) (defBody s_l_ways) (defScope s_l_ways) .none kV_l_ways dc_l_ways pm_l_ways an_l_ways cd_l_ways ct_l_ways), sl_l_ways⟩)
    (c_l_ways : PySem.W.codeIn K cd_l_ways "_law_ways" = true) (k_l_ways : PySem.W.keepIn K (.ref f_l_ways) = true)
    {od_l_right an_l_right : Option Addr} {sl_l_right : Array (Option Value)} {oc_l_right kV_l_right dc_l_right pm_l_right cd_l_right ct_l_right : Value} {f_l_right : Addr}
    (a_l_right : PySem.W.nsIn K mainGlobals "_law_right" = some (some (.ref f_l_right)))
    (l_l_right : K.lookup f_l_right = some ⟨oc_l_right, od_l_right, .func (PySem.W.fnOf "_law_right" "_law_right" (defArgs s_l_right) (defBody s_l_right) (defScope s_l_right) .none kV_l_right dc_l_right pm_l_right an_l_right cd_l_right ct_l_right), sl_l_right⟩)
    (c_l_right : PySem.W.codeIn K cd_l_right "_law_right" = true) (k_l_right : PySem.W.keepIn K (.ref f_l_right) = true)
    {od_law an_law : Option Addr} {sl_law : Array (Option Value)} {oc_law kV_law dc_law pm_law cd_law ct_law : Value} {f_law : Addr}
    (a_law : PySem.W.nsIn K mainGlobals "law" = some (some (.ref f_law)))
    (l_law : K.lookup f_law = some ⟨oc_law, od_law, .func (PySem.W.fnOf "law" "law" (defArgs s_law) (defBody s_law) (defScope s_law) .none kV_law dc_law pm_law an_law cd_law ct_law), sl_law⟩)
    (c_law : PySem.W.codeIn K cd_law "law" = true) (k_law : PySem.W.keepIn K (.ref f_law) = true)
    {t_LAST_COLUMN : Nat} (h_LAST_COLUMN : PySem.W.nsIn K mainGlobals "LAST_COLUMN" = some (some (.int 10000 t_LAST_COLUMN)))
    {t_LAST_LINE : Nat} (h_LAST_LINE : PySem.W.nsIn K mainGlobals "LAST_LINE" = some (some (.int 1000000 t_LAST_LINE)))
    {t_MOST_LINES_BEHIND : Nat} (h_MOST_LINES_BEHIND : PySem.W.nsIn K mainGlobals "MOST_LINES_BEHIND" = some (some (.int 99 t_MOST_LINES_BEHIND)))
    (y_abs : PySem.W.nsIn K mainGlobals "abs" = some none)
    (y_all : PySem.W.nsIn K mainGlobals "all" = some none)
    (y_bool : PySem.W.nsIn K mainGlobals "bool" = some none)
    (y_int : PySem.W.nsIn K mainGlobals "int" = some none)
    (y_isinstance : PySem.W.nsIn K mainGlobals "isinstance" = some none)
    (y_len : PySem.W.nsIn K mainGlobals "len" = some none)
    (y_list : PySem.W.nsIn K mainGlobals "list" = some none)
    (y_min : PySem.W.nsIn K mainGlobals "min" = some none)
    (y_range : PySem.W.nsIn K mainGlobals "range" = some none)
    (y_repr : PySem.W.nsIn K mainGlobals "repr" = some none)
    (y_str : PySem.W.nsIn K mainGlobals "str" = some none)
    (y_tuple : PySem.W.nsIn K mainGlobals "tuple" = some none)
    (y_zip : PySem.W.nsIn K mainGlobals "zip" = some none) :
    ∃ fd : FuncData, (∀ (s : Shared) (v : Value), BindsTo s fd ⟨[v], []⟩ [("_law_script", v)]) ∧ ∀ base : Heap, K.In base → base.Ns mainGlobals mg → FnOk l.prog w K mg base CX0 9 fa fd ["_law_script"] (spLaw K) := by
  have e := hfa.symm.trans (PySem.W.mg_of X G a_law)
  cases e
  have F_is_whole := fun_mk (st := s_is_whole) l_is_whole c_is_whole k_is_whole
  have b_is_whole := F_is_whole.binds (ps := ["thing"]) fun _ _ _ _ _ _ us hl => match us, hl with | [_], _ => rfl
  have m_is_whole := PySem.W.mg_of X G a_is_whole
  have F_is_number := fun_mk (st := s_is_number) l_is_number c_is_number k_is_number
  have b_is_number := F_is_number.binds (ps := ["thing", "low", "high"]) fun _ _ _ _ _ _ us hl => match us, hl with | [_, _, _], _ => rfl
  have m_is_number := PySem.W.mg_of X G a_is_number
  have F_wrong_columns := fun_mk (st := s_wrong_columns) l_wrong_columns c_wrong_columns k_wrong_columns
  have b_wrong_columns := F_wrong_columns.binds (ps := ["begin", "end", "one_line"]) fun _ _ _ _ _ _ us hl => match us, hl with | [_, _, _], _ => rfl
  have m_wrong_columns := PySem.W.mg_of X G a_wrong_columns
  have F_wrong_of_nowhere := fun_mk (st := s_wrong_of_nowhere) l_wrong_of_nowhere c_wrong_of_nowhere k_wrong_of_nowhere
  have b_wrong_of_nowhere := F_wrong_of_nowhere.binds (ps := ["last", "begin", "end"]) fun _ _ _ _ _ _ us hl => match us, hl with | [_, _, _], _ => rfl
  have m_wrong_of_nowhere := PySem.W.mg_of X G a_wrong_of_nowhere
  have F_wrong_part := fun_mk (st := s_wrong_part) l_wrong_part c_wrong_part k_wrong_part
  have b_wrong_part := F_wrong_part.binds (ps := ["line", "last", "begin", "end"]) fun _ _ _ _ _ _ us hl => match us, hl with | [_, _, _, _], _ => rfl
  have m_wrong_part := PySem.W.mg_of X G a_wrong_part
  have F_l_cell_at := fun_mk (st := s_l_cell_at) l_l_cell_at c_l_cell_at k_l_cell_at
  have b_l_cell_at := F_l_cell_at.binds (ps := ["_law_script", "_law_k"]) fun _ _ _ _ _ _ us hl => match us, hl with | [_, _], _ => rfl
  have m_l_cell_at := PySem.W.mg_of X G a_l_cell_at
  have F_l_box := fun_mk (st := s_l_box) l_l_box c_l_box k_l_box
  have b_l_box := F_l_box.binds (ps := ["_law_script", "_law_k"]) fun _ _ _ _ _ _ us hl => match us, hl with | [_, _], _ => rfl
  have m_l_box := PySem.W.mg_of X G a_l_box
  have F_l_take := fun_mk (st := s_l_take) l_l_take c_l_take k_l_take
  have b_l_take := F_l_take.binds (ps := ["_law_box_here", "_law_many"]) fun _ _ _ _ _ _ us hl => match us, hl with | [_, _], _ => rfl
  have m_l_take := PySem.W.mg_of X G a_l_take
  have F_l_spot := fun_mk (st := s_l_spot) l_l_spot c_l_spot k_l_spot
  have b_l_spot := F_l_spot.binds (ps := ["_law_box_here", "_law_wide"]) fun _ _ _ _ _ _ us hl => match us, hl with | [_, _], _ => rfl
  have m_l_spot := PySem.W.mg_of X G a_l_spot
  have F_l_same := fun_mk (st := s_l_same) l_l_same c_l_same k_l_same
  have b_l_same := F_l_same.binds (ps := ["_law_found", "_law_due"]) fun _ _ _ _ _ _ us hl => match us, hl with | [_, _], _ => rfl
  have m_l_same := PySem.W.mg_of X G a_l_same
  have F_l_seen := fun_mk (st := s_l_seen) l_l_seen c_l_seen k_l_seen
  have b_l_seen := F_l_seen.binds (ps := ["_law_place"]) fun _ _ _ _ _ _ us hl => match us, hl with | [_], _ => rfl
  have m_l_seen := PySem.W.mg_of X G a_l_seen
  have F_l_ways := fun_mk (st := s_l_ways) l_l_ways c_l_ways k_l_ways
  have b_l_ways := F_l_ways.binds (ps := ["_law_spot_here"]) fun _ _ _ _ _ _ us hl => match us, hl with | [_], _ => rfl
  have m_l_ways := PySem.W.mg_of X G a_l_ways
  have F_l_right := fun_mk (st := s_l_right) l_l_right c_l_right k_l_right
  have b_l_right := F_l_right.binds (ps := ["_law_spot_here"]) fun _ _ _ _ _ _ us hl => match us, hl with | [_], _ => rfl
  have m_l_right := PySem.W.mg_of X G a_l_right
  have F_law := fun_mk (st := s_law) l_law c_law k_law
  have b_law := F_law.binds (ps := ["_law_script"]) fun _ _ _ _ _ _ us hl => match us, hl with | [_], _ => rfl
  have m_law := PySem.W.mg_of X G a_law
  have g_LAST_COLUMN := PySem.W.mg_of X G h_LAST_COLUMN
  have g_LAST_LINE := PySem.W.mg_of X G h_LAST_LINE
  have g_MOST_LINES_BEHIND := PySem.W.mg_of X G h_MOST_LINES_BEHIND
  have z_abs := PySem.W.mg_none_of X G y_abs
  have z_all := PySem.W.mg_none_of X G y_all
  have z_bool := PySem.W.mg_none_of X G y_bool
  have z_int := PySem.W.mg_none_of X G y_int
  have z_isinstance := PySem.W.mg_none_of X G y_isinstance
  have z_len := PySem.W.mg_none_of X G y_len
  have z_list := PySem.W.mg_none_of X G y_list
  have z_min := PySem.W.mg_none_of X G y_min
  have z_range := PySem.W.mg_none_of X G y_range
  have z_repr := PySem.W.mg_none_of X G y_repr
  have z_str := PySem.W.mg_none_of X G y_str
  have z_tuple := PySem.W.mg_none_of X G y_tuple
  have z_zip := PySem.W.mg_none_of X G y_zip
  have g_Place := PySem.W.mg_of X G aC
  have T : PlT K mg C := ⟨⟨pg, hd, po, sa⟩, n_line, n_last, n_begin, n_end⟩
  have J : PlI K C := ⟨iha, ihn, iht, ihm, ikt⟩
  have M : Mk K C fI := ⟨mk1, mk2, mk3, mk4⟩
  have FI : FInit K fI (PySem.W.fnOf "__init__" "Place.__init__" (defArgs s_Place_init) (defBody s_Place_init) (defScope s_Place_init) (.ref TI) (.ref DI) dcI pmI anI cdI ctI) :=
    ⟨⟨ocI, odI, .ref TI, .ref DI, dcI, pmI, anI, cdI, ctI, slI, rfl, lI, cI, .inr ⟨by simp, TI, _, [.none, .none], nT, rfl, lT, rfl, .cons rfl (.cons rfl .nil)⟩, .inr ⟨DI, rfl, fun q hq => by
      rcases List.mem_cons.mp hq with rfl | hq
      · exact ⟨_, qb, rfl⟩
      · rw [List.mem_singleton] at hq
        subst hq
        exact ⟨_, qe, rfl⟩⟩⟩, kI⟩
  have F_Pmoved := fun_mk (st := s_Place_moved) l_Pmoved c_Pmoved k_Pmoved
  have b_Pmoved := F_Pmoved.binds (ps := ["self", "by"]) fun _ _ _ _ _ _ us hl => match us, hl with | [_, _], _ => rfl
  have F_Peq := fun_mk (st := s_Place_eq) l_Peq c_Peq k_Peq
  have b_Peq := F_Peq.binds (ps := ["self", "other"]) fun _ _ _ _ _ _ us hl => match us, hl with | [_, _], _ => rfl
  have F_Plen := fun_mk (st := s_Place_len) l_Plen c_Plen k_Plen
  have b_Plen := F_Plen.binds (ps := ["self"]) fun _ _ _ _ _ _ us hl => match us, hl with | [_], _ => rfl
  have F_Pstr := fun_mk (st := s_Place_str) l_Pstr c_Pstr k_Pstr
  have b_Pstr := F_Pstr.binds (ps := ["self"]) fun _ _ _ _ _ _ us hl => match us, hl with | [_], _ => rfl
  have F_Prepr := fun_mk (st := s_Place_repr) l_Prepr c_Prepr k_Prepr
  have b_Prepr := F_Prepr.binds (ps := ["self"]) fun _ _ _ _ _ _ us hl => match us, hl with | [_], _ => rfl
  refine ⟨PySem.W.fnOf "law" "law" (defArgs s_law) (defBody s_law) (defScope s_law) .none kV_law dc_law pm_law an_law cd_law ct_law, fun s v => .of_eq rfl, fun base _ _ => ?_⟩
  have C_who : Cal l.prog w K mg base 1 "is_whole" ["thing"] spWhole := ⟨_, _, ok_is_whole F_is_whole z_isinstance z_int z_bool, m_is_whole, k_is_whole, b_is_whole⟩
  have C_num : Cal l.prog w K mg base 2 "is_number" ["thing", "low", "high"] spNum := ⟨_, _, ok_is_number F_is_number C_who, m_is_number, k_is_number, b_is_number⟩
  have C_col : Cal l.prog w K mg base 3 "wrong_columns" ["begin", "end", "one_line"] spCols := ⟨_, _, ok_wrong_columns F_wrong_columns g_LAST_COLUMN C_num, m_wrong_columns, k_wrong_columns, b_wrong_columns⟩
  have C_now : Cal l.prog w K mg base 2 "wrong_of_nowhere" ["last", "begin", "end"] spNow := ⟨_, _, ok_wrong_of_nowhere F_wrong_of_nowhere, m_wrong_of_nowhere, k_wrong_of_nowhere, b_wrong_of_nowhere⟩
  have C_part : Cal l.prog w K mg base 4 "wrong_part" ["line", "last", "begin", "end"] spPart := ⟨_, _, ok_wrong_part F_wrong_part g_LAST_LINE g_MOST_LINES_BEHIND z_min C_num C_col C_now, m_wrong_part, k_wrong_part, b_wrong_part⟩
  have OI : FnOk l.prog w K mg base CX0 5 fI _ ["self", "line", "last", "begin", "end"] (spInit C) := ok_Place_init FI T C_part
  have mk_Place_0 : MkP l.prog w K mg base 5 "Place" C [.non, .non, .non, .non] (spInit C) := let ⟨ds, h1, h2⟩ := bnd_0 FI; ⟨fI, _, _, ds, M, OI, g_Place, h2, h1⟩
  have mk_Place_1 : MkP l.prog w K mg base 5 "Place" C [.non, .non, .non] (spInit C) := let ⟨ds, h1, h2⟩ := bnd_1 FI; ⟨fI, _, _, ds, M, OI, g_Place, h2, h1⟩
  have mk_Place_2 : MkP l.prog w K mg base 5 "Place" C [.non, .non] (spInit C) := let ⟨ds, h1, h2⟩ := bnd_2 FI; ⟨fI, _, _, ds, M, OI, g_Place, h2, h1⟩
  have mk_Place_0_line_end : MkN l.prog w K mg base 5 "Place" C 0 ["line", "end"] gv_0_line_end (spInit C) := ⟨fI, _, _, _, M, OI, g_Place, kbn_0_line_end FI⟩
  have mk_Place_2_begin_end : MkN l.prog w K mg base 5 "Place" C 2 ["begin", "end"] (fun vs zs => vs ++ zs) (spInit C) := ⟨fI, _, _, _, M, OI, g_Place, kbn_2_begin_end FI⟩
  have mk_Place_0_last : MkN l.prog w K mg base 5 "Place" C 0 ["last"] gv_0_last (spInit C) := ⟨fI, _, _, _, M, OI, g_Place, kbn_0_last FI⟩
  have mk_Place_0_end_begin_last_line : MkN l.prog w K mg base 5 "Place" C 0 ["end", "begin", "last", "line"] gv_0_end_begin_last_line (spInit C) := ⟨fI, _, _, _, M, OI, g_Place, kbn_0_end_begin_last_line FI⟩
  have mk_Place_0_line : MkN l.prog w K mg base 5 "Place" C 0 ["line"] gv_0_line (spInit C) := ⟨fI, _, _, _, M, OI, g_Place, kbn_0_line FI⟩
  have mk_Place_0_last_line : MkN l.prog w K mg base 5 "Place" C 0 ["last", "line"] gv_0_last_line (spInit C) := ⟨fI, _, _, _, M, OI, g_Place, kbn_0_last_line FI⟩
  have mk_Place_2_begin : MkN l.prog w K mg base 5 "Place" C 2 ["begin"] gv_2_begin (spInit C) := ⟨fI, _, _, _, M, OI, g_Place, kbn_2_begin FI⟩
  have mk_Place_1_last_end : MkN l.prog w K mg base 5 "Place" C 1 ["last", "end"] gv_1_last_end (spInit C) := ⟨fI, _, _, _, M, OI, g_Place, kbn_1_last_end FI⟩
  have mk_Place_2_end_begin : MkN l.prog w K mg base 5 "Place" C 2 ["end", "begin"] gv_2_end_begin (spInit C) := ⟨fI, _, _, _, M, OI, g_Place, kbn_2_end_begin FI⟩
  have mk_Place_1_last_begin_end : MkN l.prog w K mg base 5 "Place" C 1 ["last", "begin", "end"] gv_1_last_begin_end (spInit C) := ⟨fI, _, _, _, M, OI, g_Place, kbn_1_last_begin_end FI⟩
  have mk_Place_1_begin_end : MkN l.prog w K mg base 5 "Place" C 1 ["begin", "end"] gv_1_begin_end (spInit C) := ⟨fI, _, _, _, M, OI, g_Place, kbn_1_begin_end FI⟩
  have mk_Place_0_end_line_begin : MkN l.prog w K mg base 5 "Place" C 0 ["end", "line", "begin"] gv_0_end_line_begin (spInit C) := ⟨fI, _, _, _, M, OI, g_Place, kbn_0_end_line_begin FI⟩
  have o_str : OwnM l.prog w K mg base 2 C "__str__" (spStr C) := ⟨_, _, _, ok_Place_str F_Pstr T, a_Pstr, i_Pstr, k_Pstr, b_Pstr⟩
  have o_repr : OwnM l.prog w K mg base 5 C "__repr__" (spRepr C) := ⟨_, _, _, ok_Place_repr F_Prepr z_str o_str, a_Prepr, i_Prepr, k_Prepr, b_Prepr⟩
  have o_len : OwnM l.prog w K mg base 2 C "__len__" (spLen C) := ⟨_, _, _, ok_Place_len F_Plen T z_len z_range, a_Plen, i_Plen, k_Plen, b_Plen⟩
  have o_eq : OwnM l.prog w K mg base 2 C "__eq__" (spEq (RPl C)) := ⟨_, _, _, ok_Place_eq F_Peq T J g_Place z_isinstance, a_Peq, i_Peq, k_Peq, b_Peq⟩
  have me_moved : MeM l.prog w K mg base 7 C "moved" (spMv C) := ⟨T.cl, ⟨_, _, _, ok_Place_moved F_Pmoved T mk_Place_2_begin_end, a_Pmoved, i_Pmoved, k_Pmoved, b_Pmoved⟩⟩
  have C_cell : Cal l.prog w K mg base 2 "_law_cell_at" ["_law_script", "_law_k"] (spCell K) := ⟨_, _, ok_l_cell_at F_l_cell_at z_len, m_l_cell_at, k_l_cell_at, b_l_cell_at⟩
  have C_box : Cal l.prog w K mg base 3 "_law_box" ["_law_script", "_law_k"] (spBox K) := ⟨_, _, ok_l_box F_l_box z_abs z_int C_cell, m_l_box, k_l_box, b_l_box⟩
  have C_take : Cal l.prog w K mg base 2 "_law_take" ["_law_box_here", "_law_many"] spTake := ⟨_, _, ok_l_take F_l_take, m_l_take, k_l_take, b_l_take⟩
  have C_spot : Cal l.prog w K mg base 3 "_law_spot" ["_law_box_here", "_law_wide"] spSpot := ⟨_, _, ok_l_spot F_l_spot z_min C_take, m_l_spot, k_l_spot, b_l_spot⟩
  have S0 : Cal l.prog w K mg base 0 "_law_same" ["_law_found", "_law_due"] (spSm (Twin K 0)) := cal_same0 m_l_same k_l_same b_l_same
  have S1 : Cal l.prog w K mg base 1 "_law_same" ["_law_found", "_law_due"] (spSm (Twin K 1)) := ⟨_, _, ok_l_same F_l_same z_isinstance z_list z_tuple z_bool z_int z_str z_len z_all z_zip S0, m_l_same, k_l_same, b_l_same⟩
  have S2 : Cal l.prog w K mg base 2 "_law_same" ["_law_found", "_law_due"] (spSm (Twin K 2)) := ⟨_, _, ok_l_same F_l_same z_isinstance z_list z_tuple z_bool z_int z_str z_len z_all z_zip S1, m_l_same, k_l_same, b_l_same⟩
  have C_seen : Cal l.prog w K mg base 2 "_law_seen" ["_law_place"] (spSeen C) := ⟨_, _, ok_l_seen F_l_seen T J g_Place z_isinstance, m_l_seen, k_l_seen, b_l_seen⟩
  have C_ways : Cal l.prog w K mg base 7 "_law_ways" ["_law_spot_here"] (spWays C) := ⟨_, _, ok_l_ways F_l_ways mk_Place_0 mk_Place_1 mk_Place_2 mk_Place_0_line_end mk_Place_2_begin_end mk_Place_0_last mk_Place_0_end_begin_last_line mk_Place_0_line mk_Place_0_last_line mk_Place_2_begin mk_Place_1_last_end mk_Place_2_end_begin mk_Place_1_last_begin_end mk_Place_1_begin_end mk_Place_0_end_line_begin, m_l_ways, k_l_ways, b_l_ways⟩
  have C_right : Cal l.prog w K mg base 8 "_law_right" ["_law_spot_here"] spRt := ⟨_, _, ok_l_right F_l_right z_all z_len z_str z_repr C_ways C_seen S2 o_str o_repr o_len o_eq me_moved, m_l_right, k_l_right, b_l_right⟩
  exact ok_law F_law z_range z_min z_len C_box C_take C_spot C_right
end My
open PySem PySem.W PyProof.Rows
set_option maxRecDepth 100000 in
set_option maxHeartbeats 0 in
theorem PySem.Challenge.cw_cardlines_k01_places_made_holds : PySem.Challenge.rw_cardlines_k01_places_made.Holds := by
  w_on; o_law; k_head; (case hw => w_witness2)
  k_fill
  refine L2.walk_of (l := PySem.Challenge.rw_cardlines_k01_places_made) (n := 63) (k := 9) (x := "_law_script") (CX := fun _ => L2.CX0) (sp := fun w => My.spLaw _) rfl (by decide) rfl ⟨rfl, by decide, by decide⟩ (fun w h Y => PySem.W.kIn_of Y) ?F (fun _ _ a ns hl _ hS => ⟨a, ns, rfl, hS, hl, fun _ => rfl⟩) (fun _ _ _ _ _ h => h)
  case F =>
    intro w mg fa h KX G hmg
    refine' My.all_mk KX G hmg ?aC ?pg ?hd ?po ?sa ?n_line ?n_last ?n_begin ?n_end ?iha ?ihn ?iht ?ihm ?ikt ?mk1 ?mk2 ?mk3 ?mk4 ?lI ?cI ?kI ?lT ?qb ?qe ?a_Pmoved ?i_Pmoved ?l_Pmoved ?c_Pmoved ?k_Pmoved ?a_Peq ?i_Peq ?l_Peq ?c_Peq ?k_Peq ?a_Plen ?i_Plen ?l_Plen ?c_Plen ?k_Plen ?a_Pstr ?i_Pstr ?l_Pstr ?c_Pstr ?k_Pstr ?a_Prepr ?i_Prepr ?l_Prepr ?c_Prepr ?k_Prepr ?a_is_whole ?l_is_whole ?c_is_whole ?k_is_whole ?a_is_number ?l_is_number ?c_is_number ?k_is_number ?a_wrong_columns ?l_wrong_columns ?c_wrong_columns ?k_wrong_columns ?a_wrong_of_nowhere ?l_wrong_of_nowhere ?c_wrong_of_nowhere ?k_wrong_of_nowhere ?a_wrong_part ?l_wrong_part ?c_wrong_part ?k_wrong_part ?a_l_cell_at ?l_l_cell_at ?c_l_cell_at ?k_l_cell_at ?a_l_box ?l_l_box ?c_l_box ?k_l_box ?a_l_take ?l_l_take ?c_l_take ?k_l_take ?a_l_spot ?l_l_spot ?c_l_spot ?k_l_spot ?a_l_same ?l_l_same ?c_l_same ?k_l_same ?a_l_seen ?l_l_seen ?c_l_seen ?k_l_seen ?a_l_ways ?l_l_ways ?c_l_ways ?k_l_ways ?a_l_right ?l_l_right ?c_l_right ?k_l_right ?a_law ?l_law ?c_law ?k_law ?h_LAST_COLUMN ?h_LAST_LINE ?h_MOST_LINES_BEHIND ?y_abs ?y_all ?y_bool ?y_int ?y_isinstance ?y_len ?y_list ?y_min ?y_range ?y_repr ?y_str ?y_tuple ?y_zip
    (case aC => first | k_is | rfl)
    (case pg => first | k_is | rfl)
    (case hd => first | k_is | rfl)
    (case po => first | k_is | rfl)
    (case sa => first | k_is | rfl)
    (case n_line => first | k_is | rfl)
    (case n_last => first | k_is | rfl)
    (case n_begin => first | k_is | rfl)
    (case n_end => first | k_is | rfl)
    (case iha => first | k_is | rfl)
    (case ihn => first | k_is | rfl)
    (case iht => first | k_is | rfl)
    (case ihm => first | k_is | rfl)
    (case ikt => first | k_is | rfl)
    (case mk1 => first | k_is | rfl)
    (case mk2 => first | k_is | rfl)
    (case mk3 => first | k_is | rfl)
    (case mk4 => first | k_is | rfl)
    (case lI => first | k_is | rfl)
    (case cI => first | k_is | rfl)
    (case kI => first | k_is | rfl)
    (case lT => first | k_is | rfl)
    (case qb => first | k_is | rfl)
    (case qe => first | k_is | rfl)
    (case a_Pmoved => first | k_is | rfl)
    (case i_Pmoved => first | k_is | rfl)
    (case l_Pmoved => first | k_is | rfl)
    (case c_Pmoved => first | k_is | rfl)
    (case k_Pmoved => first | k_is | rfl)
    (case a_Peq => first | k_is | rfl)
    (case i_Peq => first | k_is | rfl)
    (case l_Peq => first | k_is | rfl)
    (case c_Peq => first | k_is | rfl)
    (case k_Peq => first | k_is | rfl)
    (case a_Plen => first | k_is | rfl)
    (case i_Plen => first | k_is | rfl)
    (case l_Plen => first | k_is | rfl)
    (case c_Plen => first | k_is | rfl)
    (case k_Plen => first | k_is | rfl)
    (case a_Pstr => first | k_is | rfl)
    (case i_Pstr => first | k_is | rfl)
    (case l_Pstr => first | k_is | rfl)
    (case c_Pstr => first | k_is | rfl)
    (case k_Pstr => first | k_is | rfl)
    (case a_Prepr => first | k_is | rfl)
    (case i_Prepr => first | k_is | rfl)
    (case l_Prepr => first | k_is | rfl)
    (case c_Prepr => first | k_is | rfl)
    (case k_Prepr => first | k_is | rfl)
    (case a_is_whole => k_is)
    (case l_is_whole => k_is)
    (case c_is_whole => k_is)
    (case k_is_whole => k_is)
    (case a_is_number => k_is)
    (case l_is_number => k_is)
    (case c_is_number => k_is)
    (case k_is_number => k_is)
    (case a_wrong_columns => k_is)
    (case l_wrong_columns => k_is)
    (case c_wrong_columns => k_is)
    (case k_wrong_columns => k_is)
    (case a_wrong_of_nowhere => k_is)
    (case l_wrong_of_nowhere => k_is)
    (case c_wrong_of_nowhere => k_is)
    (case k_wrong_of_nowhere => k_is)
    (case a_wrong_part => k_is)
    (case l_wrong_part => k_is)
    (case c_wrong_part => k_is)
    (case k_wrong_part => k_is)
    (case a_l_cell_at => k_is)
    (case l_l_cell_at => k_is)
    (case c_l_cell_at => k_is)
    (case k_l_cell_at => k_is)
    (case a_l_box => k_is)
    (case l_l_box => k_is)
    (case c_l_box => k_is)
    (case k_l_box => k_is)
    (case a_l_take => k_is)
    (case l_l_take => k_is)
    (case c_l_take => k_is)
    (case k_l_take => k_is)
    (case a_l_spot => k_is)
    (case l_l_spot => k_is)
    (case c_l_spot => k_is)
    (case k_l_spot => k_is)
    (case a_l_same => k_is)
    (case l_l_same => k_is)
    (case c_l_same => k_is)
    (case k_l_same => k_is)
    (case a_l_seen => k_is)
    (case l_l_seen => k_is)
    (case c_l_seen => k_is)
    (case k_l_seen => k_is)
    (case a_l_ways => k_is)
    (case l_l_ways => k_is)
    (case c_l_ways => k_is)
    (case k_l_ways => k_is)
    (case a_l_right => k_is)
    (case l_l_right => k_is)
    (case c_l_right => k_is)
    (case k_l_right => k_is)
    (case a_law => k_is)
    (case l_law => k_is)
    (case c_law => k_is)
    (case k_law => k_is)
    (case h_LAST_COLUMN => k_is)
    (case h_LAST_LINE => k_is)
    (case h_MOST_LINES_BEHIND => k_is)
    (case y_abs => k_is)
    (case y_all => k_is)
    (case y_bool => k_is)
    (case y_int => k_is)
    (case y_isinstance => k_is)
    (case y_len => k_is)
    (case y_list => k_is)
    (case y_min => k_is)
    (case y_range => k_is)
    (case y_repr => k_is)
    (case y_str => k_is)
    (case y_tuple => k_is)
    (case y_zip => k_is)


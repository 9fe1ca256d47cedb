import PyProof.Rows.All
import HandS.Call
import HandS.List
import HandS.More
import HandS.Evl
import HandS.Words
import HandS.ExcOwn
import HandS.OwnEq
import KE.KOpsOwn
import KE.KCallOwn
import PyProof.Rows.RuleN_abs
import PyProof.TwoTypes
import HandS.ForMost
import HandS.Exc
import HandS.ExcInit
import HandS.ExcField
import HandS.ExcIs
import HandS.TryOnly
import HandS.TryMany
import HandS.WordsExc
import HandS.ClsMeth
import HandS.IsInst
import HandS.MakeKwOnly
import HandS.MakeKw
import HandS.Defaults
import HandS.Gcd
import HandS.Wide
import HandS.Codes
import HandS.Style
import HandS.FStr
import HandS.StrMore
import HandS.NoneIn
import PySem.Challenge.RW_wordskips_k18_ratios
set_option Elab.async false
set_option linter.all false
set_option maxRecDepth 100000
set_option maxHeartbeats 4000000
/-! own operators of a class whose objects have a dict -/
namespace OR
open PySem PySem.Spec PySem.Calls PyProof.Rows L2 Evl
section
variable {X : Cx} {k : Nat} {f : Addr} {fd : FuncData} {ps : List Str} {sp : Sp}
theorem run_fn {pins : List (Addr × Obj)} {s : Shared} {σ : L2.St} {H : Hp} {A : Around} {vs : List V} {us : List Value} {R : VK} (F : FnOk X.prog X.w X.K X.mg X.base CX0 k f fd ps sp) (hb : Binds X.K fd ps []) (hr : Room k A) (hfr : A.frames = X.A.frames) (I : Inv X pins σ H s)
    (r2 : Vals vs us) (h : sp vs H R E0) : wpAny (model X.prog X.w) A (call (.ref f) us) (fun u s' => ∃ v H', RelV v u ∧ Inv X pins σ H' s' ∧ R v H') X.xe s := by
  have e0 : Env0 X.prog X.w X.K X.mg X.base A X.stack s H := by
    have e := I.env0
    exact ⟨by rw [hfr]; exact e.frames, e.mod, e.bs, e.bsz, e.funs, e.frf, e.hok, e.bare⟩
  have hl := F.len _ _ _ _ h
  refine wpAny_call (codeAny_mono (F.run A X.stack s H ⟨us, []⟩ us vs _ E0 hr e0 (by
    have := hb s us I.kIn (by rw [List.append_nil, ← r2.length]; exact hl)
    rw [List.append_nil] at this
    exact this) r2 h) fun r s' hq => ?_)
  cases r with
  | error e => exact pass0 pins σ H s e s' I hq
  | ok fl =>
    cases fl with
    | ret w =>
      obtain ⟨z, H', I', rz, q⟩ := I.after hq
      exact ⟨z, H', rz, I', q⟩
    | next => exact False.elim hq
    | brk => exact False.elim hq
    | cont => exact False.elim hq
/-- what is asked of the class for an operator -/
structure Op (K : PySem.W.Frag) (C f : Addr) (nm : String) : Prop where
  se : PySem.W.selfFirst K C = true
  at_ : PySem.W.findIn K (.ref C) (PySem.dunder nm) = some (some (.ref f))
  fn : PySem.W.isFn K (.ref f) = true
structure OpR2 (K : PySem.W.Frag) (C g : Addr) (nm : String) : Prop where
  at_ : PySem.W.findIn K (.ref C) (PySem.dunderR nm) = some (some (.ref g))
  fn : PySem.W.isFn K (.ref g) = true
theorem cmpBack {Q : Value → Shared → Prop} {a : Addr} {s : Shared} (h : Q (.ref a) s) : PySem.W.CmpBack Q (.ref a) s := h
theorem sub_int {K : PySem.W.Frag} {C : Addr} : PySem.W.subIn K (.type "int") (.ref C) = some false := by
  have e : fastBuiltinMro "int" = some [.type "int", .type "object"] := by decide +kernel
  show (fastBuiltinMro "int").map (·.contains (.ref C)) = some false
  rw [e]
  first
    | rfl
    | simp
theorem sub_str {K : PySem.W.Frag} {C : Addr} : PySem.W.subIn K (.type "str") (.ref C) = some false := by
  have e : fastBuiltinMro "str" = some [.type "str", .type "object"] := by decide +kernel
  show (fastBuiltinMro "str").map (·.contains (.ref C)) = some false
  rw [e]
  first
    | rfl
    | simp
/-- o <op> p: o an instance, p one or an int -/
def rBin (C : Addr) (sp : Sp) : R2 := fun x y H Q => ∃ a dx fs, x = .ref a ∧ H a = some (.ins C dx fs) ∧ ((∃ b dy gs, y = .ref b ∧ H b = some (.ins C dy gs)) ∨ ∃ i, y = .int i) ∧ sp [x, y] H (fun v H' => ∃ r, v = .ref r ∧ Q (.ref r) H') E0
theorem op_bin {C g : Addr} {op : Operator} (O : Op X.K C f op.info.2) (O2 : OpR2 X.K C g op.info.2) (hi1 : ∃ fo, PySem.W.findIn X.K (.type "int") (PySem.dunder op.info.2) = some fo) (hi2 : ∃ ro, PySem.W.findIn X.K (.type "int") (PySem.dunderR op.info.2) = some ro)
    (F : FnOk X.prog X.w X.K X.mg X.base CX0 k f fd ps sp) (hb : Binds X.K fd ps []) (hr : Room k X.A) : OpR X (binaryOp op) (rBin C sp) := by
  intro pins s σ H x y v u Q I rx ry h
  obtain ⟨a, dx, fs, rfl, ha, ho, q⟩ := h
  cases rx
  obtain ⟨m1, J, _⟩ := ins_get I.hok ha
  obtain ⟨od, J, _⟩ := J.look
  obtain ⟨m, hF⟩ := I.fr
  have run := run_fn (R := fun v H' => ∃ r, v = .ref r ∧ Q (.ref r) H') F hb hr rfl I (.cons (show RelV (.ref a) (.ref a) from rfl) (.cons ry .nil)) q
  have fin : wpAny (model X.prog X.w) X.A (call (.ref f) [.ref a, u]) (PySem.W.CmpBack (EP X pins σ Q)) X.xe s := wpAny_mono run (fun v s' z => by
    obtain ⟨v1, H', rv, I', r, rfl, q'⟩ := z
    cases rv
    exact cmpBack ⟨.ref r, H', I', rfl, q'⟩) fun _ _ e => e
  rcases ho with ⟨b, dy, gs, rfl, hb2⟩ | ⟨i, rfl⟩
  · cases ry
    obtain ⟨m2, J2, _⟩ := ins_get I.hok hb2
    obtain ⟨od2, J2, _⟩ := J2.look
    exact PySem.W.binop_K hF I.ok.mod.kin J J2.type O.se O.at_ O.fn fin
  · obtain ⟨t, rfl⟩ := ry
    obtain ⟨fo, h1⟩ := hi1
    obtain ⟨ro, h2⟩ := hi2
    exact PySem.W.ksp_binT hF I.ok.mod.kin J (T := "int") rfl O.se O.at_ O.fn O2.at_ (.inr ⟨_, rfl⟩) h1 h2 sub_int fin
/-- -o -/
def rUn (C : Addr) (sp : Sp) : V → Hp → VK → Prop := fun x H Q => ∃ a dx fs, x = .ref a ∧ H a = some (.ins C dx fs) ∧ sp [x] H Q E0
theorem un_own {C : Addr} (h1 : PySem.W.findIn X.K (.ref C) "__neg__" = some (some (.ref f))) (h2 : PySem.W.isFn X.K (.ref f) = true) (F : FnOk X.prog X.w X.K X.mg X.base CX0 k f fd ps sp) (hb : Binds X.K fd ps []) (hr : Room k X.A) : UnR X (unaryOp .USub) (rUn C sp) := by
  intro pins s σ H x v Q I rx h
  obtain ⟨a, dx, fs, rfl, ha, q⟩ := h
  cases rx
  obtain ⟨m1, J, _⟩ := ins_get I.hok ha
  obtain ⟨od, J, _⟩ := J.look
  obtain ⟨m, hF⟩ := I.fr
  exact PySem.W.ksp_neg hF I.ok.mod.kin J h1 h2 (wpAny_mono (run_fn F hb hr rfl I (.cons (show RelV (.ref a) (.ref a) from rfl) .nil) q) (fun v s' z => by
    obtain ⟨v1, H', rv, I', q'⟩ := z
    exact ⟨v1, H', I', rv, q'⟩) fun _ _ e => e)
/-- abs(o) -/
def rAbs (C : Addr) (sp : Sp) : List V → Hp → VK → Prop := fun xs H Q => ∃ a dx fs, xs = [.ref a] ∧ H a = some (.ins C dx fs) ∧ sp xs H Q E0
theorem call_absO {C : Addr} (h1 : PySem.W.findIn X.K (.ref C) "__abs__" = some (some (.ref f))) (h2 : PySem.W.isFn X.K (.ref f) = true) (F : FnOk X.prog X.w X.K X.mg X.base CX0 k f fd ps sp) (hb : Binds X.K fd ps []) (hr : Room (k + 1) X.A) : CallR X (.builtin "abs") (rAbs C sp) := by
  intro pins s σ H xs us Q I r h
  obtain ⟨a, dx, fs, rfl, ha, q⟩ := h
  obtain ⟨u, rfl, rx⟩ := vals1 r
  cases rx
  obtain ⟨m1, J, _⟩ := ins_get I.hok ha
  obtain ⟨od, J, _⟩ := J.look
  refine call_function_entry kind_abs plain_abs entry_abs (args_abs _) ?_
  unfold Builtin.«abs»
  refine wpAny_bind (m := oneArg "abs" _) (wpAny_pure ?_)
  refine wpAny_bind (m := callSpecial? (.ref a) (Str.ofString "__abs__")) (PySem.W.special_fn I.kIn J h1 (beq_iff_eq.mp h2) (wpAny_mono (run_fn F hb hr.in1 rfl I (.cons (show RelV (.ref a) (.ref a) from rfl) .nil) q) (fun v s' z => ?_) fun _ _ e => e))
  obtain ⟨v1, H', rv, I', q'⟩ := z
  exact wpAny_pure ⟨_, rfl, v1, H', I', rv, q'⟩
/-- str(o) -/
def rStr (C : Addr) (sp : Sp) : List V → Hp → VK → Prop := fun xs H Q => ∃ a dx fs, xs = [.ref a] ∧ H a = some (.ins C dx fs) ∧ sp xs H (fun v H' => ∃ z, v = .str z ∧ Q (.str z) H') E0
theorem call_strO {C : Addr} (h1 : PySem.W.findIn X.K (.ref C) "__str__" = some (some (.ref f))) (h2 : PySem.W.isFn X.K (.ref f) = true) (F : FnOk X.prog X.w X.K X.mg X.base CX0 k f fd ps sp) (hb : Binds X.K fd ps []) (hr : Room (k + 2) X.A) : CallR X (.type "str") (rStr C sp) := by
  intro pins s σ H xs us Q I r h
  obtain ⟨a, dx, fs, rfl, ha, q⟩ := h
  obtain ⟨u, rfl, rx⟩ := vals1 r
  cases rx
  obtain ⟨m1, J, _⟩ := ins_get I.hok ha
  obtain ⟨od, J, _⟩ := J.look
  refine PySem.W.kso_call hr.in1.in1.units0 I.kIn J h1 h2 (wpAny_mono (run_fn F hb hr.in1.in1 rfl I (.cons (show RelV (.ref a) (.ref a) from rfl) .nil) q) (fun v s' z => ?_) fun _ _ e => e)
  obtain ⟨v1, H', rv, I', z, rfl, q'⟩ := z
  obtain ⟨t, rfl⟩ := rv
  exact ⟨.str z, H', I', ⟨t, rfl⟩, q'⟩
/-! ### an int to the left -/
theorem decl_int {M : Model} {A : Around} {E : Value → Shared → Prop} {s : Shared} {x dx C : Addr} {i : Int} {t : Tok} {nm : String} {g : Int → Int → Sem Fin} {Q : Fin → Shared → Prop} (hx : s.heap.get? x = some (PySem.W.instObj C dx)) (h : Q (.done (.ret .notImplemented)) s) :
    wpAny M A (Builtin.Int.intBinary nm g false ⟨[.int i t, .ref x], []⟩) Q E s := by
  unfold Builtin.Int.intBinary
  refine wpAny_bind (m := slotArgs nm 1 _) (wpAny_pure ?_)
  refine wpAny_bind (m := Builtin.Int.intOfSelf (.int i t)) (wpAny_pure ?_)
  refine wpAny_bind (m := asInt? (.ref x)) ?_
  unfold asInt?
  refine wpAny_bind (wpAny_load hx ?_)
  refine wpAny_pure ?_
  exact wpAny_bind (wpAny_rule (wpAny_pure h))
theorem binR {prog : Program} {w : World} {A : Around} {E : Value → Shared → Prop} {s : Shared} {K : PySem.W.Frag} {x dx C L f g : Addr} {h₀ : Heap} {m : Str → Option Value} {od : Option Obj} {op : Operator} {i : Int} {t : Tok} {id nm : String} {fn : Int → Int → Sem Fin} {B : Builtin} {Q : Value → Shared → Prop}
    (F : Fr h₀ L s.heap m) (X₀ : K.In h₀) (I : PySem.W.InstAt s.heap x (PySem.W.instObj C dx) C od) (hc : PySem.W.selfFirst K C = true) (hs : PySem.W.findIn K (.ref C) (PySem.dunder op.info.2) = some (some (.ref f))) (hr : PySem.W.findIn K (.ref C) (PySem.dunderR op.info.2) = some (some (.ref g))) (hg : PySem.W.isFn K (.ref g) = true)
    (hi : PySem.W.mroIn K C (.type "int") = some false) (slot : Slot "int" (PySem.dunder op.info.2) id) (fills : fillsNumberSlot (.type "int") op.info.2 = pure true) (entry : entryFor table id = some B) (args : ∀ a b, argsOk id ⟨[a, b], []⟩) (hB : ∀ a b, B ⟨[a, b], []⟩ = Builtin.Int.intBinary nm fn false ⟨[a, b], []⟩)
    (h : wpAny (model prog w) A (call (.ref g) [.ref x, .int i t]) (PySem.W.CmpBack Q) E s) : wpAny (model prog w) A (binaryOp op (.int i t) (.ref x)) Q E s := by
  have X := X₀.keeps F.keep
  obtain ⟨cd, rest, hcd, hm⟩ := PySem.W.ksp_first hc
  rcases hi2 : op.info with ⟨sym, nm'⟩
  rw [hi2] at hs hr slot fills
  dsimp only at hs hr slot fills
  have one := PySem.W.ksp_try X I hr hg h
  have dec : wpAny (model prog w) A (call (.builtin id) [.int i t, .ref x]) (fun v s' => v = .notImplemented ∧ s' = s) E s :=
    wpAny_call_entry slot (typeIs_int s i t) entry (by rw [hB]; exact decl_int I.at_ ⟨_, rfl, rfl, rfl⟩) (args _ _)
  have L2 : PySem.W.Looks (model prog w) s.heap (typeOf (.ref x)) (.ref C) := I.type
  have L3 : PySem.W.Looks (model prog w) s.heap (fillsNumberSlot (.ref C) nm') true := PySem.W.fills_K X hcd hm hs
  have L5 : PySem.W.Looks (model prog w) s.heap (isSubtype (.ref C) (.type "int")) false := PySem.W.looks_mroIn X hi
  have hne : (Value.type "int" == Value.ref C) = false := Bool.eq_false_iff.mpr fun q => by cases beq_iff_eq.mp q
  simp only [binaryOp, hi2]
  refine wpAny_holding (wpAny_bind ?_)
  unfold binaryOp1
  refine wpAny_bind (wpAny_typeOf (typeIs_int s i t) (wpAny_bind (L2.here (wpAny_bind (wpAny_of_eq fills ?_)))))
  simp only [hne, Bool.false_eq_true, if_false]
  refine wpAny_bind (L3.here ?_)
  simp only [Bool.and_self, if_true]
  refine wpAny_bind (L5.here ?_)
  have hpy : numberSlotInPython (.type "int") nm' = pure false := rfl
  simp only [Bool.false_eq_true, if_false, pure_bind, Bool.not_false, Bool.and_self, if_true, hpy]
  refine wpAny_bind (wpAny_tryMethod_declines (typeIs_int s i t) slot (wpAny_mono dec (fun v s' z => ?_) fun _ _ e => e))
  obtain ⟨rfl, rfl⟩ := z
  refine ⟨rfl, ?_⟩
  refine wpAny_bind (wpAny_mono one (fun r s' z => ?_) fun _ _ e => e)
  obtain ⟨v, rfl, hq⟩ := z
  exact wpAny_bind (wpAny_rule (wpAny_pure (wpAny_pure hq)))
def rBinR (C : Addr) (sp : Sp) : R2 := fun x y H Q => ∃ i a dx fs, x = .int i ∧ y = .ref a ∧ H a = some (.ins C dx fs) ∧ sp [y, x] H (fun v H' => ∃ r, v = .ref r ∧ Q (.ref r) H') E0
theorem op_binR {X : Cx} {k : Nat} {C f g : Addr} {fd : FuncData} {ps : List Str} {sp : Sp} {op : Operator} {id nm : String} {fn : Int → Int → Sem Fin} {B : Builtin} (O : Op X.K C f op.info.2) (O2 : OpR2 X.K C g op.info.2) (hi : PySem.W.mroIn X.K C (.type "int") = some false)
    (slot : Slot "int" (PySem.dunder op.info.2) id) (fills : fillsNumberSlot (.type "int") op.info.2 = pure true) (entry : entryFor table id = some B) (args : ∀ a b, argsOk id ⟨[a, b], []⟩) (hB : ∀ a b, B ⟨[a, b], []⟩ = Builtin.Int.intBinary nm fn false ⟨[a, b], []⟩)
    (F : FnOk X.prog X.w X.K X.mg X.base CX0 k g fd ps sp) (hb : Binds X.K fd ps []) (hr : Room k X.A) : OpR X (binaryOp op) (rBinR C sp) := by
  intro pins s σ H x y v u Q I rx ry h
  obtain ⟨i, a, dx, fs, rfl, rfl, ha, q⟩ := h
  cases ry
  obtain ⟨t, rfl⟩ := rx
  obtain ⟨m1, J, _⟩ := ins_get I.hok ha
  obtain ⟨od, J, _⟩ := J.look
  obtain ⟨m, hF⟩ := I.fr
  have run := run_fn (R := fun v H' => ∃ r, v = .ref r ∧ Q (.ref r) H') F hb hr rfl I (.cons (show RelV (.ref a) (.ref a) from rfl) (.cons (show RelV (.int i) (.int i t) from ⟨t, rfl⟩) .nil)) q
  have fin : wpAny (model X.prog X.w) X.A (call (.ref g) [.ref a, .int i t]) (PySem.W.CmpBack (EP X pins σ Q)) X.xe s := wpAny_mono run (fun v s' z => by
    obtain ⟨v1, H', rv, I', r, rfl, q'⟩ := z
    cases rv
    exact cmpBack ⟨.ref r, H', I', rfl, q'⟩) fun _ _ e => e
  exact binR hF I.ok.mod.kin J O.se O.at_ O2.at_ O2.fn hi slot fills entry args hB fin
section
variable {X : Cx} {k : Nat} {C f g : Addr} {fd : FuncData} {ps : List Str} {sp : Sp}
theorem op_addR (O : Op X.K C f "add") (O2 : OpR2 X.K C g "add") (hi : PySem.W.mroIn X.K C (.type "int") = some false) (F : FnOk X.prog X.w X.K X.mg X.base CX0 k g fd ps sp) (hb : Binds X.K fd ps []) (hr : Room k X.A) : OpR X (binaryOp .Add) (rBinR C sp) :=
  op_binR (op := .Add) O O2 hi PySem.F.slot_int_add PySem.F.fills_int_add PySem.F.entry_int_add (fun _ _ => PySem.F.args_int_add_2 _ _) (fun _ _ => rfl) F hb hr
theorem op_subR (O : Op X.K C f "sub") (O2 : OpR2 X.K C g "sub") (hi : PySem.W.mroIn X.K C (.type "int") = some false) (F : FnOk X.prog X.w X.K X.mg X.base CX0 k g fd ps sp) (hb : Binds X.K fd ps []) (hr : Room k X.A) : OpR X (binaryOp .Sub) (rBinR C sp) :=
  op_binR (op := .Sub) O O2 hi PySem.F.slot_int_sub PySem.F.fills_int_sub PySem.F.entry_int_sub (fun _ _ => PySem.F.args_int_sub_2 _ _) (fun _ _ => rfl) F hb hr
theorem op_mulR (O : Op X.K C f "mul") (O2 : OpR2 X.K C g "mul") (hi : PySem.W.mroIn X.K C (.type "int") = some false) (F : FnOk X.prog X.w X.K X.mg X.base CX0 k g fd ps sp) (hb : Binds X.K fd ps []) (hr : Room k X.A) : OpR X (binaryOp .Mult) (rBinR C sp) :=
  op_binR (op := .Mult) O O2 hi PySem.F.slot_int_mul PySem.F.fills_int_mul PySem.F.entry_int_mul (fun _ _ => PySem.F.args_int_mul_2 _ _) (fun _ _ => rfl) F hb hr
theorem fd_int {nm : String} (K : PySem.W.Frag) (h : (fastLookup "int" (PySem.dunder nm)).isSome = true) : ∃ fo, PySem.W.findIn K (.type "int") (PySem.dunder nm) = some fo := by
  obtain ⟨fo, e⟩ := Option.isSome_iff_exists.mp h
  exact ⟨fo, e⟩
theorem fr_int {nm : String} (K : PySem.W.Frag) (h : (fastLookup "int" (PySem.dunderR nm)).isSome = true) : ∃ fo, PySem.W.findIn K (.type "int") (PySem.dunderR nm) = some fo := by
  obtain ⟨fo, e⟩ := Option.isSome_iff_exists.mp h
  exact ⟨fo, e⟩
theorem op_add (O : Op X.K C f "add") (O2 : OpR2 X.K C g "add") (F : FnOk X.prog X.w X.K X.mg X.base CX0 k f fd ps sp) (hb : Binds X.K fd ps []) (hr : Room k X.A) : OpR X (binaryOp .Add) (rBin C sp) :=
  op_bin (op := .Add) O O2 (fd_int _ (by decide +kernel)) (fr_int _ (by decide +kernel)) F hb hr
theorem op_sub (O : Op X.K C f "sub") (O2 : OpR2 X.K C g "sub") (F : FnOk X.prog X.w X.K X.mg X.base CX0 k f fd ps sp) (hb : Binds X.K fd ps []) (hr : Room k X.A) : OpR X (binaryOp .Sub) (rBin C sp) :=
  op_bin (op := .Sub) O O2 (fd_int _ (by decide +kernel)) (fr_int _ (by decide +kernel)) F hb hr
theorem op_mul (O : Op X.K C f "mul") (O2 : OpR2 X.K C g "mul") (F : FnOk X.prog X.w X.K X.mg X.base CX0 k f fd ps sp) (hb : Binds X.K fd ps []) (hr : Room k X.A) : OpR X (binaryOp .Mult) (rBin C sp) :=
  op_bin (op := .Mult) O O2 (fd_int _ (by decide +kernel)) (fr_int _ (by decide +kernel)) F hb hr
end
end
end OR
namespace OR
open PySem PySem.Spec PySem.Calls PyProof.Rows L2 Evl
def CDivWN (_ j : Int) : Prop := j ≠ 0 ∧ j.natAbs.log2 < 9000
theorem op_fdivWN {X : Cx} : OpR X (binaryOp .FloorDiv) (rI CDivWN fun i j => .int (i.fdiv j)) := opI fun _ _ _ _ _ _ _ hc q => floordiv_int hc.1 q (.inl (PyProof.noPylong_of_log2 hc.2))
theorem un_both {X : Cx} {k : Nat} {f C : Addr} {fd : FuncData} {ps : List Str} {sp : Sp} (h1 : PySem.W.findIn X.K (.ref C) "__neg__" = some (some (.ref f))) (h2 : PySem.W.isFn X.K (.ref f) = true) (F : FnOk X.prog X.w X.K X.mg X.base CX0 k f fd ps sp) (hb : Binds X.K fd ps []) (hr : Room k X.A) :
    UnR X (unaryOp .USub) (fun x H Q => rUn C sp x H Q ∨ rU (fun i => .int (-i)) x H Q) := by
  intro pins s σ H x v Q I rx h
  rcases h with h | h
  · exact un_own h1 h2 F hb hr pins s σ H x v Q I rx h
  · exact un_neg pins s σ H x v Q I rx h
end OR

namespace OQ
open PySem PySem.Spec PyProof.Rows L2 Evl
/-! ### == and != by an own __eq__ with both answers -/
section
variable {M : Model} {prog : Program} {w : World} {A : Around} {E : Value → Shared → Prop} {s : Shared} {K : PySem.W.Frag} {x C f : Addr} {ox : Obj} {od : Option Obj} {b tb : Value}
theorem sub_tup : PySem.W.subIn K (.type "tuple") (.ref C) = some false := by
  have e : fastBuiltinMro "tuple" = some [.type "tuple", .type "object"] := by decide +kernel
  show (fastBuiltinMro "tuple").map (·.contains (.ref C)) = some false
  rw [e]
  first
    | rfl
    | simp
theorem entry_ne {Q : Fin → Shared → Prop} (X : K.In s.heap) (I : PySem.W.InstAt s.heap x ox C od) (hu : A.units < cLine) (hs : PySem.W.findIn K (.ref C) "__eq__" = some (some (.ref f))) (hf : PySem.W.isFn K (.ref f) = true)
    (h : wpAny M A (call (.ref f) [.ref x, b]) (fun v s' => ∃ r, v = .bool r ∧ Q (.done (.ret (.bool (!r)))) s') E s) : wpAny M A (Builtin.«object.__ne__» ⟨[.ref x, b], []⟩) Q E s := by
  unfold Builtin.«object.__ne__»
  have done : ∀ v s', (∃ r, v = Value.bool r ∧ Q (.done (.ret (.bool (!r)))) s') → wpAny M A (match (some v : Option Value) with
      | some .notImplemented | none => ret .notImplemented
      | some r => do ret (.bool (!(← truthy r)))) Q E s' := fun v s' z => by
    obtain ⟨r, rfl, hq⟩ := z
    exact wpAny_bind (wpAny_truthy_bool (wpAny_pure hq))
  repeat (first | with_reducible refine wpAny_cRoomFor hu ?_ | exact PySem.W.ifBound_K X I hs hf (wpAny_mono h done fun _ _ e => e) | wp_step)
theorem ne_K {Q : Value → Shared → Prop} {h₀ : Heap} {L : Addr} {m : Str → Option Value} (hu : A.units + 1 < cLine) (Fx : Fr h₀ L s.heap m) (X₀ : K.In h₀) (I : PySem.W.InstAt s.heap x ox C od) (hb : PySem.W.Looks (model prog w) s.heap (typeOf b) tb) (hn : PySem.W.notFirst K C tb = true)
    (hm : PySem.W.mroIn K C (.type "object") = some true) (hne : PySem.W.findIn K (.ref C) "__ne__" = some (some (.builtin "object.__ne__"))) (hs : PySem.W.findIn K (.ref C) "__eq__" = some (some (.ref f))) (hf : PySem.W.isFn K (.ref f) = true)
    (h : wpAny (model prog w) A.in1 (call (.ref f) [.ref x, b]) (fun v s' => ∃ r, v = .bool r ∧ Q (.bool (!r)) s') E s) : wpAny (model prog w) A (richCompare .NotEq (.ref x) b) Q E s := by
  have X := X₀.keeps Fx.keep
  have callne : wpAny (model prog w) A (call (.builtin "object.__ne__") [.ref x, b]) (fun v s' => ∃ r : Bool, v = .bool r ∧ Q v s') E s :=
    wpAny_call (codeAny_call_builtin F.cmp_object.ne.plain F.cmpEntry_ne (PySem.W.check_slot F.cmpKind_ne F.cmpSplit_ne (I.type.andThen (PySem.W.looks_mroIn X hm)) (F.cmpArgs_ne _ _)
      (entry_ne X I (by show A.units + 1 < cLine; exact hu) hs hf (wpAny_mono h (fun v s' z => by
        obtain ⟨r, hv, q⟩ := z
        exact ⟨r, hv, !r, rfl, q⟩) fun _ _ e => e))))
  have bound : wpAny (model prog w) A (callSpecialIfBound? (.ref x) "__ne__" [b]) (fun o s' => ∃ r : Bool, o = some (.bool r) ∧ Q (.bool r) s') E s := by
    simp only [callSpecialIfBound?, bindSpecialIfBound?]
    refine wpAny_holding (wpAny_bind (wpAny_bind (wpAny_bind (I.type.here ((PySem.W.looks_findIn X hne).here ?_)))))
    refine wpAny_bind (wpAny_askSetting (wpAny_ite ?_))
    have fin : wpAny (model prog w) A (call (.builtin "object.__ne__") ([.ref x] ++ [b]) >>= fun v => pure (some v)) (fun o s' => ∃ r : Bool, o = some (.bool r) ∧ Q (.bool r) s') E s :=
      wpAny_bind (wpAny_mono callne (fun v s' z => by
        obtain ⟨r, rfl, q⟩ := z
        exact wpAny_pure ⟨r, rfl, q⟩) fun _ _ e => e)
    split
    · exact wpAny_bind (wpAny_of_eq (F.cmp_object.ne.bind _) (wpAny_pure (by exact fin)))
    · exact wpAny_tryCatch (wpAny_bind (wpAny_of_eq (F.cmp_object.ne.bind _) (wpAny_pure (by exact fin))))
  have one : wpAny (model prog w) A (tryCompare (.ref x) (cmpInfo .NotEq).2.1 b) (fun r s' => ∃ v, r = some v ∧ Q v s') E s := by
    unfold tryCompare
    refine wpAny_bind (wpAny_mono bound (fun o s' z => ?_) fun _ _ e => e)
    obtain ⟨r, rfl, q⟩ := z
    exact wpAny_pure ⟨.bool r, rfl, q⟩
  unfold richCompare
  simp only [oneThing_ref]
  refine wpAny_holding (wpAny_bind (wpAny_cRoomFor (by omega) ?_))
  refine wpAny_bind (I.type.here (wpAny_bind (hb.here ?_)))
  split
  · rename_i q
    have e : PySem.W.subIn K tb (.ref C) = some false := by
      rcases Bool.or_eq_true_iff.mp hn with e | e
      · rw [beq_iff_eq.mp e] at q
        simp at q
      · exact beq_iff_eq.mp e
    refine wpAny_bind ((PySem.W.looks_subIn X e).here ?_)
    simp only [Bool.false_eq_true, if_false]
    refine wpAny_bind (wpAny_mono one (fun r s' z => ?_) fun _ _ e => e)
    obtain ⟨v, rfl, hq⟩ := z
    exact wpAny_pure hq
  · refine wpAny_bind (wpAny_pure ?_)
    simp only [Bool.false_eq_true, if_false]
    refine wpAny_bind (wpAny_mono one (fun r s' z => ?_) fun _ _ e => e)
    obtain ⟨v, rfl, hq⟩ := z
    exact wpAny_pure hq
end
section
variable {X : Cx} {k : Nat} {f C : Addr} {fd : FuncData} {ps : List Str} {sp : Sp}
structure Own (K : PySem.W.Frag) (C f : Addr) : Prop where
  eq : PySem.W.findIn K (.ref C) "__eq__" = some (some (.ref f))
  fn : PySem.W.isFn K (.ref f) = true
  ne : PySem.W.findIn K (.ref C) "__ne__" = some (some (.builtin "object.__ne__"))
  mo : PySem.W.mroIn K C (.type "object") = some true
/-- the other one: of the same class, an int, a text -/
def Oth (C : Addr) (H : Hp) (y : V) : Prop := (∃ b dy gs, y = .ref b ∧ H b = some (.ins C dy gs)) ∨ (∃ i, y = .int i) ∨ ∃ z, y = .str z
theorem looks {pins : List (Addr × Obj)} {s : Shared} {σ : L2.St} {H : Hp} {y : V} {u : Value} (I : Inv X pins σ H s) (ry : RelV y u) (h : Oth C H y) : ∃ tb, PySem.W.Looks (model X.prog X.w) s.heap (typeOf u) tb ∧ PySem.W.notFirst X.K C tb = true := by
  rcases h with ⟨b, dy, gs, rfl, hb⟩ | ⟨i, rfl⟩ | ⟨z, rfl⟩
  · cases ry
    obtain ⟨m, J, _⟩ := ins_get I.hok hb
    obtain ⟨od, J, _⟩ := J.look
    exact ⟨_, J.type, by simp [PySem.W.notFirst]⟩
  · obtain ⟨t, rfl⟩ := ry
    refine ⟨.type "int", PySem.W.Looks.of_pure rfl, ?_⟩
    unfold PySem.W.notFirst
    rw [OR.sub_int]
    simp
  · obtain ⟨t, rfl⟩ := ry
    refine ⟨.type "str", PySem.W.Looks.of_pure rfl, ?_⟩
    unfold PySem.W.notFirst
    rw [OR.sub_str]
    simp
def rOwn (C : Addr) (sp : Sp) (g : Bool → Bool) : R2 := fun x y H Q => ∃ a dx fs, x = .ref a ∧ H a = some (.ins C dx fs) ∧ Oth C H y ∧ sp [.ref a, y] H (fun v H' => ∃ r, v = .bl r ∧ Q (.bl (g r)) H') E0
theorem op_own (O : Own X.K C f) (F : FnOk X.prog X.w X.K X.mg X.base CX0 k f fd ps sp) (hb : Binds X.K fd ps []) (hr : Room k X.A) : OpR X (compareOp .Eq) (rOwn C sp id) := by
  intro pins s σ H x y v u Q I rx ry h
  obtain ⟨a, dx, fs, rfl, ha, ho, q⟩ := h
  cases rx
  obtain ⟨m1, J, _⟩ := ins_get I.hok ha
  obtain ⟨od, J, _⟩ := J.look
  obtain ⟨tb, hl, hn⟩ := looks I ry ho
  obtain ⟨m, hF⟩ := I.fr
  show wpAny (model X.prog X.w) X.A (richCompare .Eq (.ref a) u) (EP X pins σ Q) X.xe s
  refine PySem.W.cmp_K (op := .Eq) hr.units0 hF I.ok.mod.kin J hl hn O.eq O.fn (wpAny_mono (OR.run_fn F hb hr rfl I (.cons (show RelV (.ref a) (.ref a) from rfl) (.cons ry .nil)) q) (fun v s' z => ?_) fun _ _ e => e)
  obtain ⟨v1, H', rv, I', r, rfl, q'⟩ := z
  cases rv
  exact ⟨.bl r, H', I', rfl, q'⟩
theorem op_ownN (O : Own X.K C f) (F : FnOk X.prog X.w X.K X.mg X.base CX0 k f fd ps sp) (hb : Binds X.K fd ps []) (hr : Room (k + 1) X.A) : OpR X (compareOp .NotEq) (rOwn C sp not) := by
  intro pins s σ H x y v u Q I rx ry h
  obtain ⟨a, dx, fs, rfl, ha, ho, q⟩ := h
  cases rx
  obtain ⟨m1, J, _⟩ := ins_get I.hok ha
  obtain ⟨od, J, _⟩ := J.look
  obtain ⟨tb, hl, hn⟩ := looks I ry ho
  obtain ⟨m, hF⟩ := I.fr
  show wpAny (model X.prog X.w) X.A (richCompare .NotEq (.ref a) u) (EP X pins σ Q) X.xe s
  refine ne_K hr.in1.units0 hF I.ok.mod.kin J hl hn O.mo O.ne O.eq O.fn (wpAny_mono (OR.run_fn F hb hr.in1 rfl I (.cons (show RelV (.ref a) (.ref a) from rfl) (.cons ry .nil)) q) (fun v s' z => ?_) fun _ _ e => e)
  obtain ⟨v1, H', rv, I', r, rfl, q'⟩ := z
  cases rv
  exact ⟨r, rfl, .bl (!r), H', I', rfl, q'⟩
end
end OQ

/-! own errors over an own base whose __init__ they call; several except clauses with a name -/
namespace EK
open PySem PySem.Spec PyProof.Rows L2
section
variable {X : Cx} {C0 : Addr} {x : Str} {e : Expr} {es : List Expr} {ta : TA} {p1 p2 pos : Pos}
/-- B.__init__(self, ..), B an own class over ValueError without an __init__ of its own -/
theorem pe_skinit {pl : Sem Bool} (hg : Gl X x) (hm : X.mg x = some (.ref C0)) (r : ClX.CRead X.K C0 (.type "type")) (k : PySem.W.findCls X.K (.ref C0) (.type "type") "__init__" = some (.val (.builtin "ValueError.__init__"))) (ha : PA X (e :: es) ta)
    (hc : eval (.Call (.Attribute (.Name x p1) "__init__" p2) (e :: es) [] pos) X.env = (do
      let ov ← eval (.Name x p1) X.env
      standAt p2.atName
      let (f, first) ← holding [ov] (getMethod ov "__init__" pl)
      callWith pos f first (backTo pos (starEach (e :: es) X.env)) (backToKw pos (keywordEach [] X.env))) := by rfl)
    (hdb : (x == ("__debug__" : Str)) = false := by decide)
    (he : starEach (e :: es) X.env = (false, eval e X.env) :: starEach es X.env := by rfl) (hpl : (backTo pos (starEach es X.env)).any (·.1) = false := by rfl) :
    PE X (.Call (.Attribute (.Name x p1) "__init__" p2) (e :: es) [] pos) (tVeI X.K ta) := by
  refine ⟨fun pins s σ H Q I h => ?_⟩
  refine PySem.W.methodCall_KW (ld_glob I hg hm ?_ hdb) hc
  refine PySem.W.method_cls I.kIn r.ga (PySem.W.cls_value I.kIn r.rd k rfl ?_)
  show wpAny _ _ (callWith pos (Value.builtin "ValueError.__init__") [] (backTo pos (starEach (e :: es) X.env)) []) _ _ _
  refine PyProof.Rows.callWith_method1 (thn (ha.run pos pins _ σ H _ (I.tok _) h) fun us s1 ⟨vs, H1, I1, r1, a, C, ws, ev, hl, T, ea, q⟩ => ?_) he hpl
  subst ev
  cases r1 with
  | @cons _ u0 _ ur ra rw' =>
    obtain rfl : u0 = Value.ref a := ra
    have hlen : ur.length ≤ sizeLine := by
      rw [← Paired.length rw', sizeLine_eq]
      omega
    exact oinit_ok T I1 ea hlen fun s' J => ⟨.non, H1, J, rfl, q⟩
end
end EK
/-! ### isinstance of a caught error that has its dict -/
namespace PySem.W
open PySem PySem.Spec PySem.Calls PyProof.Rows
section
variable {prog : Program} {w : World} {A : Around} {E : Value → Shared → Prop} {s : Shared} {K : Frag} {x D : Addr} {ox : Obj} {od : Option Obj}
theorem ek_findObj {C : Addr} {name : Str} {a g : Value} (hc : (clsIn K C).isSome = true) (ha : findIn K (.ref C) name = some (some a)) (hg : specialIn K a "__get__" = some (some g)) (ht : takesIn K a = some true) : findObj K C od name = some (.bind g a) := by
  obtain ⟨cd, hc⟩ := Option.isSome_iff_exists.mp hc
  unfold findObj
  rw [hc, Option.bind_some, ha, Option.bind_some]
  simp [hg, ht]
theorem ek_kin_class {Q : Option Value → Shared → Prop} (hga : findIn K (.ref D) "__getattribute__" = some (some (.builtin "BaseException.__getattribute__"))) (hgt : findIn K (.ref D) "__getattr__" = some none) (hsub : subIn K (.ref D) (.type "BaseException") = some true)
    (hdct : hasDictIn K D = true) (ha : findIn K (.ref D) "__class__" = some (some (.builtin "object.__class__")))
    (hn : specialIn K (.builtin "object.__class__") "__get__" = some (some (.builtin "getset_descriptor.__get__"))) (htk : takesIn K (.builtin "object.__class__") = some true) (hm : mroIn K D (.type "object") = some true)
    (X : K.In s.heap) (I : InstAt s.heap x ox D od) (h : Q (some (.ref D)) { s with toks := s.toks + 1 }) : wpAny (model prog w) A (getAttr? (.ref x) "__class__") Q E s := by
  have hf : findObj K D od "__class__" = some (.bind (.builtin "getset_descriptor.__get__") (.builtin "object.__class__")) := ek_findObj (by obtain ⟨cd, hc, _⟩ := any_some hdct; rw [hc]; rfl) ha hn htk
  obtain ⟨hp, g, d, t, os⟩ := s
  have L0 := I.type (M := model prog w)
  have L1 := looks_findIn (M := model prog w) X hga
  have L2 := looks_findIn (M := model prog w) X hgt
  have L3 := looks_find (M := model prog w) X I hf
  have sub : Looks (model prog w) hp (isInstance (.ref x) (.type "BaseException")) true := L0.andThen (looks_subIn X hsub)
  have hx0 : (false && onTheHeap (Value.builtin "BaseException.__getattribute__")) = false := rfl
  have hx2 : (Value.builtin "BaseException.__getattribute__" == Value.builtin "object.__getattribute__") = false := by decide +kernel
  have hx1 : (onTheHeap (Value.ref D) && Value.builtin "BaseException.__getattribute__" == Value.builtin "object.__getattribute__") = false := by rw [hx2]; rfl
  unfold getAttr? getAttrBy? getAttrBy
  refine wpAny_bind (wpAny_mkText (wpAny_bind (wpAny_attempt (wpAny_holding (wpAny_bind (L0.at (wpAny_bind (L1.at ?_))))))))
  show wpAny _ _ (if (onTheHeap (Value.ref D) && Value.builtin "BaseException.__getattribute__" == Value.builtin "object.__getattribute__") = true then _ else _) _ _ _
  rw [hx1, if_neg Bool.false_ne_true]
  unfold getAttrByItsOwn hookBefore
  refine wpAny_bind ?_
  rw [if_pos (show onTheHeap (Value.ref D) = true from rfl)]
  refine L2.at ?_
  refine wpAny_bind (wpAny_attempt (wpAny_holding ?_))
  unfold callGetattribute
  rw [hx0, if_neg Bool.false_ne_true]
  unfold boundAndCalled
  rw [PySem.F.excAttr_ValueError.ga.bind (.ref x)]
  refine wpAny_bind (wpAny_pure ?_)
  show wpAny _ _ (call (.builtin "BaseException.__getattribute__") [.ref x, .str "__class__" t]) _ _ _
  refine wpAny_call (codeAny_call_builtin PySem.F.excAttr_ValueError.ga.plain PySem.F.entry_bexc_ga ?_)
  refine @check_slot (model prog w) _ _ ⟨hp, g, d, t + 1, os⟩ "BaseException.__getattribute__" "BaseException" "__getattribute__" (.ref x) [.str "__class__" t] [] _ (by decide +kernel) (by decide +kernel) sub (PySem.F.args_bexc_ga (.ref x) (.str "__class__" t)) ?_
  unfold Builtin.«object.__getattribute__»
  refine wpAny_bind (wpAny_of_eq (a := ((Value.ref x : Value), [Value.str "__class__" t])) (by first | rfl | (simp only [slotArgs]; rfl)) ?_)
  refine wpAny_bind (wpAny_pure (wpAny_bind (L0.at (wpAny_bind (L3.at ?_)))))
  show wpAny _ _ (holding [Value.builtin "object.__class__"] (call (.builtin "getset_descriptor.__get__") [.builtin "object.__class__", .ref x, .ref D]) >>= ret) _ _ _
  refine wpAny_bind (wpAny_holding (wpAny_call (class_get (s := ⟨hp, g, d, t + 1, os⟩) (ox := ox) (od := od) X I hm ?_)))
  refine wpAny_pure ?_
  show wpAny _ _ (handedOut (.ref D)) _ _ _
  rw [handedOut_of (v := .ref D) rfl]
  first
    | exact wpAny_pure (wpAny_pure h)
    | exact wpAny_pure h
    | exact wpAny_pure (wpAny_bind (wpAny_pure (wpAny_pure h)))
theorem ek_kitx (hga : findIn K (.ref D) "__getattribute__" = some (some (.builtin "BaseException.__getattribute__"))) (hgt : findIn K (.ref D) "__getattr__" = some none) (hsub : subIn K (.ref D) (.type "BaseException") = some true) (hdct : hasDictIn K D = true) (ha : findIn K (.ref D) "__class__" = some (some (.builtin "object.__class__")))
    (hn : specialIn K (.builtin "object.__class__") "__get__" = some (some (.builtin "getset_descriptor.__get__"))) (htk : takesIn K (.builtin "object.__class__") = some true) (hm : mroIn K D (.type "object") = some true) :
    KitX K (.ref x) (.ref D) (fun h => InstAt h x ox D od) where
  ty := fun _ _ _ I => I.type
  it := fun _ _ X _ => by
    obtain ⟨cdD, hcD, _⟩ := any_some hdct
    unfold clsIn at hcD
    split at hcD
    · rename_i c' d' cd' sl' ho
      intro A' Q' E' s' k q
      unfold isType loadHead
      exact wpAny_bind (wpAny_loadPart (k _ _ (X _ _ ho)) (wpAny_pure q))
    · cases hcD
  ne := fun h tp dd its n sl X htp => by
    obtain ⟨cdD, hcD, _⟩ := any_some hdct
    refine Bool.eq_false_iff.mpr fun q => ?_
    have e : D = tp := Value.ref.inj (beq_iff_eq.mp q)
    subst e
    unfold clsIn at hcD
    split at hcD
    · rename_i c' d' cd' sl' ho
      have z := (X _ _ ho).symm.trans htp
      cases z
    · cases hcD
  ca := fun X I k => ek_kin_class hga hgt hsub hdct ha hn htk hm X I k
end
end PySem.W
namespace EK
open PySem PySem.Spec PyProof.Rows L2
/-- isinstance(e, c), e the exception that the suite holds: its class D, its dict at d -/
def rIsE (K : PySem.W.Frag) (cls : Value) (d : Option Addr) (D a : Addr) : List V → Hp → VK → Prop := fun xs H Q => ∃ (c : V) (cv : Value) (b : Bool), xs = [.ref a, c] ∧ cls = .ref D ∧ (∃ dd fs, d = some dd ∧ H dd = some (.xd fs)) ∧ ClsV c cv ∧ PySem.W.kitOne K (.ref D) cv = some b ∧ Q (.bl b) H
theorem call_isE {X : Cx} {a D : Addr} {cls : Value} {d : Option Addr} {oe : Obj} {pn : List (Addr × Obj)} (C : ExcC X.K D) (hz : Zc cls d oe) (hf : ∃ vs, oe.data = .fields vs) : CallR (X.suite a ((a, oe) :: pn)) (.builtin "isinstance") (rIsE X.K cls d D a) := by
  intro pins s σ H xs us Q I r h
  obtain ⟨c, cv, b, rfl, ec, ⟨dd, fs, ed, hd⟩, k, e, q⟩ := h
  obtain ⟨u1, u2, rfl, r1, r2⟩ := vals2 r
  cases r1
  have e2 := k.eq r2
  subst e2 ec ed
  obtain ⟨hget, _⟩ := I.pin (a, oe) (List.mem_append.mpr (.inl List.mem_cons_self))
  obtain ⟨vs, hv⟩ := hf
  have hx : ObjOk X.prog X.w H s.heap dd (.xd fs) := I.hok dd _ hd
  obtain ⟨mA, hns, _⟩ := hx
  obtain ⟨od, ho, _⟩ := lookIn_ns hns
  have J : PySem.W.InstAt s.heap a oe D (some od) := ⟨hget, hz.1, by unfold PySem.W.notCls; rw [hv] <;> rfl, by rw [hz.2]; exact ho⟩
  exact PySem.W.kia_one (PySem.W.ek_kitx C.hg C.hk C.hs C.hd C.ha C.hn C.ht C.hm) I.kIn J e (fun z => nomatch z) fun tk => ⟨.bl b, H, I.kept (t' := tk) fun _ _ z => z, rfl, q⟩
/-! ### several except clauses, all with one name -/
def endsN (D : Ends) (i : Nat) : Ends := { nx := fun σ' H' => D.nx (σ'.set i none) H', rt := D.rt, bk := fun σ' H' => D.bk (σ'.set i none) H', ct := fun σ' H' => D.ct (σ'.set i none) H' }
def wManyN (K : PySem.W.Frag) (Wout : WX) (D : Ends) (i : Nat) : List (Value × (Addr → Value → Option Addr → TS)) → WX
  | [] => Wout
  | (c, ts) :: r => fun cls d σ H => ∃ b, PySem.W.exmOne K cls c = some b ∧ (b = true → ∀ a, H a = none → ts a cls d (endsN D i) (σ.set i (some (.ref a))) H) ∧ (b = false → wManyN K Wout D i r cls d σ H)
inductive HdsN (X : Cx) (n : Str) : List ExceptHandler → List (Value × (Addr → Value → Option Addr → TS)) → Prop
  | nil : HdsN X n [] []
  | cons {x : Str} {c : Value} {ts : Addr → Value → Option Addr → TS} {b₀ : Stmt} {suite : List Stmt} {np pos' : Pos} {hds : List ExceptHandler} {l : List (Value × (Addr → Value → Option Addr → TS))} (hc : Names X x c)
      (hsu : ∀ (a : Addr) (oe : Obj) (cls : Value) (d : Option Addr) (pn : List (Addr × Obj)), Zc cls d oe → (∃ vs, oe.data = .fields vs) → PSs (X.suite a ((a, oe) :: pn)) (b₀ :: suite) (ts a cls d)) (r : HdsN X n hds l) :
      HdsN X n (.ExceptHandler (some (.Name x np)) (some n) (b₀ :: suite) pos' :: hds) ((c, ts) :: l)
section
variable {X : Cx} {n : Str} {i : Nat} {body : List Stmt} {h₀ : ExceptHandler} {hds : List ExceptHandler} {l : List (Value × (Addr → Value → Option Addr → TS))} {pos : Pos} {tb : WX → TS} {Wout : WX}
theorem ps_tryN (hs : X.stack = X.env :: X.outer) (hf : X.env.frame = some X.env.locals) (hN : X.N.Nodup) (hi : X.N[i]? = some n) (hln : X.env.kindOf n = some .local) (tk : Takes X Wout)
    (hb : ∀ (W : WX) (pn : List (Addr × Obj)) (xe : Value → Shared → Prop), Takes (X.tr pn xe) W → PassesOwn (model X.prog X.w) X.A X.env xe → PSs (X.tr pn xe) body (tb W))
    (hh : HdsN X n (h₀ :: hds) l) : PS X (.Try body (h₀ :: hds) [] [] pos) (fun D σ H => tb (wManyN X.K Wout D i l) D σ H) := by
  refine ⟨fun pins s σ H D I h => ?_⟩
  have ok := I.ok
  have hfr : X.A.frames = some (X.env :: X.outer) := by rw [ok.frames, hs]
  have hloc : Loc X.env.scope n := .inl hln
  refine wpAny_Try_except ?_
  refine wpAny_mono ((hb (wManyN X.K Wout D i l) (X.pn ++ pins) (fun e s₁ => wpAny (model X.prog X.w) X.A (noteFrame e X.env) (fun _ s₂ => wpAny (model X.prog X.w) X.A (setFlight e none) (fun _ s₃ =>
    wpAny (model X.prog X.w) X.A (handleBy e X.env (h₀ :: hds)) (SP X pins D) X.xe s₃) X.xe s₂) X.xe s₁) (fun u s' xx => ?_) PassesOwn.looking).run [] s σ H D (I.toTry _) h) (fun f s1 hsp => ?_) (fun e s1 he => he)
  · -- the catch
    obtain ⟨a, B, sI, pins', σ', H', cls, d, rfl, J', nb, up, sky, na, os, ag, w⟩ := xx
    have J : Inv X pins σ' H' sI := J'.ofTry ok
    have sky' : Sky B (X.env :: X.outer) a (Zc cls d) X.env.locals s'.heap := by rw [← hs]; exact sky
    show wpAny (model X.prog X.w) X.A (noteFrame (.ref a) X.env) _ _ _
    refine Sky.land Zc.steady hfr hf sky' fun h3 fl3 up3 => ?_
    have J3 : Inv X pins σ' H' { s' with heap := h3 } := J.landed nb fl3.1 (up.trans up3) os ag
    obtain ⟨oe3, vs3, he3, hz3, hd3⟩ := fl3.there
    have notFr : ∀ {h : Heap} {o : Obj} {vs : Array Value}, h.FunFrames B (X.env :: X.outer) → h.get? a = some o → o.data = .fields vs → a ∉ frs (X.env :: X.outer) := fun {h o vs} ff e dd hm => by
      obtain ⟨_, o', e', hnf⟩ := ff.mem hm
      rw [e] at e'; cases e'
      exact hnf _ dd
    have nfr := notFr fl3.2.2.1 he3 hd3
    have nL : a ≠ X.env.locals := fun z => nfr (List.mem_filterMap.mpr ⟨X.env, List.mem_cons_self, by rw [hf, z]⟩)
    have nF : a ∉ X.fs := fun hm => by
      obtain ⟨e, he, q⟩ := List.mem_filterMap.mp hm
      exact nfr (List.mem_filterMap.mpr ⟨e, List.mem_cons_of_mem _ he, q⟩)
    have S3 := J3.suite he3 hd3 na nL nF
    have go : ∀ {hds' : List ExceptHandler} {l' : List (Value × (Addr → Value → Option Addr → TS))}, HdsN X n hds' l' → wManyN X.K Wout D i l' cls d σ' H' →
        wpAny (model X.prog X.w) X.A (handleBy (.ref a) X.env hds') (SP X pins D) X.xe { s' with heap := h3 } := by
      intro hds' l' hk
      induction hk with
      | nil =>
        intro w
        refine wpAny_handleBy_nil ?_
        obtain ⟨k1, k2, k3, oe, vs, T, oT, ts', he, hz, hd, h1, hr⟩ := id fl3
        unfold PySem.passOn
        refine wpAny_bind (wpAny_field he hd h1 ?_)
        rw [if_neg (show ¬ ((Value.ref T == Value.none) = true) from by simp)]
        have fin : wpAny (model X.prog X.w) X.A (setFlight (.ref a) X.env.frame) (fun _ s4 => wpAny (model X.prog X.w) X.A (throw (.ref a) : Sem Flow) (SP X pins D) X.xe s4) X.xe { s' with heap := h3 } := by
          rw [hf]
          refine HandSPX.setFlight_upZ fl3 fun h4 hh4 up4 => wpAny_throw (tk _ _ ?_)
          exact ⟨a, B, sI, pins, σ', H', cls, d, rfl, J, nb, (up.trans up3).trans up4, .inr (.inr (by rw [hs]; exact hh4)), na, os, ag, w⟩
        first
          | exact wpAny_bind (wpAny_pure (wpAny_bind fin))
          | exact wpAny_bind fin
      | @cons x c ts b₀ suite np pos' hds2 l2 hc hsu r ih =>
        intro w
        obtain ⟨b, hb1, hyes, hno⟩ := w
        refine wpAny_handleBy_cons (codeAny_handlers_test ?_) (by intro q; cases q)
        have LT : PySem.W.Looks (model X.prog X.w) h3 (typeOf (.ref a)) cls := fun A Q E s k q => wpAny_typeOf_ref (k _ _ he3) (by rw [hz3.1]; exact q)
        have LM := PySem.W.exm_one (M := model X.prog X.w) (J3.kIn) LT hb1
        have test : ∀ {Q : Value → Shared → Prop} {E : Value → Shared → Prop}, Q c { s' with heap := h3 } → wpAny (model X.prog X.w) (X.A.mark (some (.ref a))) (eval (.Name x np) X.env) Q E { s' with heap := h3 } := fun {Q E} q => by
          obtain ⟨hg, hdbg, hm | ⟨hm, hv, hnn⟩⟩ := hc
          · exact ld_glob (X := X.suite a ((a, oe3) :: (X.pn ++ pins))) S3 hg hm q hdbg
          · exact ld_blt (X := X.suite a ((a, oe3) :: (X.pn ++ pins))) S3 hg hm hv q hnn hdbg
        refine test (LM.here ?_)
        cases b with
        | true =>
          refine codeAny_handlers_suite_as ?_
          refine HandSPX.lands_againZ fl3 fun h4 fl4 up4 => ?_
          have J4 : Inv X pins σ' H' { s' with heap := h4 } := J.landed nb fl4.1 ((up.trans up3).trans up4) os ag
          obtain ⟨oe4, vs4, he4, hz4, hd4⟩ := fl4.there
          have S4 := J4.suite he4 hd4 na nL nF
          refine store_ok (X := X.suite a ((a, oe4) :: (X.pn ++ pins))) (v := .ref a) S4 hN hi hloc rfl (fun s5 S5 => ?_) (.inr hln)
          refine wpAny_mono ((hsu a oe4 cls d (X.pn ++ pins) hz4 ⟨_, hd4⟩).run [] s5 _ H' _ S5 (hyes rfl a na)) (fun f s6 hsp => ?_) (fun _ _ z => False.elim z)
          have end_ : ∀ {σ6 : L2.St} {H6 : Hp} {Q : Shared → Prop}, Inv (X.suite a ((a, oe4) :: (X.pn ++ pins))) [] σ6 H6 s6 → (∀ s7, Inv X pins (σ6.set i none) H6 s7 → Q s7) →
              wpAny (model X.prog X.w) X.A (do bindName X.env n .none; unbindBehindTheSuite X.env n pos') (fun _ s7 => Q s7) X.xe s6 := fun {σ6 H6 Q} S6 hq => gone_ok (S6.unsuite ok) hN hi hln hq
          cases f with
          | next =>
            obtain ⟨σ6, H6, S6, q6⟩ := hsp
            exact end_ S6 fun s7 J7 => ⟨_, _, J7, q6⟩
          | brk =>
            obtain ⟨σ6, H6, S6, q6⟩ := hsp
            exact end_ S6 fun s7 J7 => ⟨_, _, J7, q6⟩
          | cont =>
            obtain ⟨σ6, H6, S6, q6⟩ := hsp
            exact end_ S6 fun s7 J7 => ⟨_, _, J7, q6⟩
          | ret u =>
            obtain ⟨v6, σ6, H6, S6, r6, q6⟩ := hsp
            exact end_ S6 fun s7 J7 => ⟨_, _, _, J7, r6, q6⟩
        | false =>
          show wpAny _ X.A (handleBy (.ref a) X.env hds2) _ _ _
          exact ih (hno rfl)
    exact go hh w
  · cases f with
    | next =>
      obtain ⟨σ', H', J', q⟩ := hsp
      exact wpAny_execs_nil ⟨σ', H', J'.ofTry ok, q⟩
    | brk =>
      obtain ⟨σ', H', J', q⟩ := hsp
      exact ⟨σ', H', J'.ofTry ok, q⟩
    | cont =>
      obtain ⟨σ', H', J', q⟩ := hsp
      exact ⟨σ', H', J'.ofTry ok, q⟩
    | ret u =>
      obtain ⟨v, σ', H', J', r, q⟩ := hsp
      exact ⟨v, σ', H', J'.ofTry ok, r, q⟩
end
end EK

/-! exceptions of own classes as values: made by position and by name, their fields, isinstance -/
namespace PySem
namespace ExV
open PySem.Spec PySem.W PySem.Calls PyProof.Rows PySem.HandSPX Builtin Builtin.ObjectAttr
section
variable {M : Model} {prog : Program} {w : World} {A : Around} {E : Value → Shared → Prop} {R : Result → Shared → Prop} {h : Heap} {g : Array GenState} {d : Drawn} {t : Nat} {os : OsState}
variable {nm q : Str} {C N : Addr} {bs bm bmB : List Value} {hdct : Bool} {sn : List Str} {sub : List Value} {ab : Bool} {col : Option Bool} {dd : Option Addr} {k0 k1 k2 k3 k5 : Option Value} {B newId initId : String} {kw : List (Str × Value)} {xs : List Value}
theorem own_check (F : ExcBaseFacts B newId initId bmB) (hT : ∀ X : String, bm.contains (.type X) = bmB.contains (.type X)) {Q : Unit → Shared → Prop}
    (hC : h.get? C = some (excClassObj nm q C N bs bm hdct sn sub ab col dd k0 k1 k2 k3 k5 newId)) (z : Q () ⟨h, g, d, t, os⟩) : wpAny M A (checkBuiltinCall newId ⟨.ref C :: xs, kw⟩) Q E ⟨h, g, d, t, os⟩ := by
  have inB : (Value.ref C :: bm).contains (.type B) = true := by
    rw [List.contains_cons, hT, F.hasB, Bool.or_true]
  have st := F.noStar
  simp only [checkBuiltinCall, F.newKind, F.newSplit, F.newRow]
  repeat (first | refine wpAny_loadPart_at hC ?_ | (refine wpAny_isSubtype_exc hC ?_; rw [inB]) | refine wpAny_staticBase_exc hC ?_ | refine wpAny_madeBy_exc hC ?_ | simp only [bne_self_eq_false, Bool.false_eq_true, if_false] | wp_step)
  exact z
theorem own_new (F : ExcBaseFacts B newId initId bmB) (hT : ∀ X : String, bm.contains (.type X) = bmB.contains (.type X))
    (hC : h.get? C = some (excClassObj nm q C N bs bm hdct sn sub ab col dd k0 k1 k2 k3 k5 newId))
    (z : R (.ok (.ret (.ref (h.objs.size + 1)))) ⟨(h.push (W.kdv_tup xs)).push (excO C h.objs.size), g, d, t, os⟩) (hl : xs.length ≤ sizeLine) :
    codeAny (model prog w) A (.builtin newId ⟨.ref C :: xs, kw⟩) R ⟨h, g, d, t, os⟩ := by
  have en := F.ends
  have inB : (Value.ref C :: bm).contains (.type B) = true := by
    rw [List.contains_cons, hT, F.hasB, Bool.or_true]
  have noA : (Value.ref C :: bm).contains (.type "AttributeError") = false := by
    rw [List.contains_cons, hT, F.noAttr]
    rfl
  have noN : (Value.ref C :: bm).contains (.type "NameError") = false := by
    rw [List.contains_cons, hT, F.noName]
    rfl
  refine codeAny_builtinAt F.entry ?_
  unfold Builtin.«BaseException.__new__»
  refine wpAt_bind ?_
  show wpAt _ _ _ (stack >>= _) _ _ _
  refine wpAt_bind (wpAt_stack fun p below => wpAt_of_wpAny ?_)
  wp_walk
  refine wpAt_of_wpAny ?_
  rw [F.owner]
  repeat (first | with_reducible refine wpAny_madeHere_exc F.canon hC ?_ | with_reducible refine wpAny_loadPart_at hC ?_ | (with_reducible refine wpAny_isSubtype_exc hC ?_; first | rw [inB] | rw [noA] | rw [noN]) | wp_step)
  show R _ _
  rw [Heap.size_push]
  exact z
theorem own_type (F : ExcBaseFacts B newId initId bmB) (hT : ∀ X : String, bm.contains (.type X) = bmB.contains (.type X)) {fv : Value} {Q : Fin → Shared → Prop}
    (hC : h.get? C = some (excClassObj nm q C N bs bm hdct sn sub ab col dd k0 k1 k2 k3 k5 newId))
    (hi : W.Looks (model prog w) h (typeLookup (.ref C) "__init__") (some fv)) (hb : ∀ self, W.Looks (model prog w) h (bindSpecial fv self) (fv, [self])) (hl : xs.length ≤ sizeLine)
    (z : codeAny (model prog w) A (.call fv ⟨.ref (h.objs.size + 1) :: xs, kw⟩) (fun r s' => match r with | .ok (.ret v) => v = .none ∧ Q (.done (.ret (.ref (h.objs.size + 1)))) s' | .ok _ => False | .error e => E e s')
      ⟨(h.push (W.kdv_tup xs)).push (excO C h.objs.size), g, d, t, os⟩) :
    wpAny (model prog w) A (Builtin.«type.__call__» ⟨.ref C :: xs, kw⟩) Q E ⟨h, g, d, t, os⟩ := by
  repeat (first | with_reducible refine wpAny_loadPart_at hC ?_ | with_reducible refine wpAny_madeBy_exc hC ?_ | wp_step)
  refine codeAny_call_builtin_code (Code.quiet_builtin _ F.quiet) (own_check F hT hC ?_)
  refine own_new F hT hC ?_ hl
  show wpAny _ _ _ _ _ _
  have kp : ∀ b o, h.get? b = some o → ((h.push (W.kdv_tup xs)).push (excO C h.objs.size)).get? b = some o := fun b o y => Heap.get?_push_of_some _ (Heap.get?_push_of_some _ y)
  have hC2 := kp _ _ hC
  have he : ((h.push (W.kdv_tup xs)).push (excO C h.objs.size)).get? (h.objs.size + 1) = some (excO C h.objs.size) := by heap_get
  have inC : (Value.ref C :: bm).contains (.ref C) = true := by simp
  have hi2 := hi.keeps kp
  have hb2 := (hb (.ref (h.objs.size + 1))).keeps kp
  unfold isInstance
  repeat (first | with_reducible refine wpAny_loadPart_at he ?_ | (with_reducible refine wpAny_isSubtype_exc hC2 ?_; rw [inC]) | wp_step)
  show wpAny _ _ (typeLookup (.ref C) _) _ _ _
  refine hi2.at ?_
  refine wpAny_holding (wpAny_bind (hb2.at ?_))
  refine wpAny_bind (wpAny_call (codeAny_mono z fun r s' y => ?_))
  rcases r with e | (v | _ | _ | _) <;> first | exact y | exact y.elim | skip
  obtain ⟨rfl, y⟩ := y
  first
    | exact wpAny_pure (wpAny_pure y)
    | (wp_walk; exact y)
theorem own_chk {Q : Unit → Shared → Prop} (hC : h.get? C = some (excClassObj nm q C N bs bm hdct sn sub ab col dd k0 k1 k2 k3 k5 newId))
    (hq : Q () ⟨h, g, d, t, os⟩) : wpAny M A (checkBuiltinCall "type.__call__" ⟨.ref C :: xs, kw⟩) Q E ⟨h, g, d, t, os⟩ := by
  have sb := tc_sub
  have ty : (⟨h, g, d, t, os⟩ : Shared).TypeIs (.ref C) "type" := ⟨_, hC, rfl⟩
  simp only [checkBuiltinCall, tc_kind, tc_split]
  repeat (any_goals (first | assumption | with_reducible refine wpAny_loadPart_at hC ?_ | with_reducible refine wpAny_onRaise ?_ | with_reducible refine wpAny_map ?_ | wp_step))
theorem own_call (F : ExcBaseFacts B newId initId bmB) (hT : ∀ X : String, bm.contains (.type X) = bmB.contains (.type X)) {fv : Value}
    (hC : h.get? C = some (excClassObj nm q C N bs bm hdct sn sub ab col dd k0 k1 k2 k3 k5 newId))
    (hi : W.Looks (model prog w) h (typeLookup (.ref C) "__init__") (some fv)) (hb : ∀ self, W.Looks (model prog w) h (bindSpecial fv self) (fv, [self])) (hl : xs.length ≤ sizeLine)
    (z : codeAny (model prog w) (A.under (.builtin "type.__call__" ⟨.ref C :: xs, kw⟩)) (.call fv ⟨.ref (h.objs.size + 1) :: xs, kw⟩) (W.InitBack (h.objs.size + 1) R)
      ⟨(h.push (W.kdv_tup xs)).push (excO C h.objs.size), g, d, t, os⟩) : codeAny (model prog w) A (.call (.ref C) ⟨xs, kw⟩) R ⟨h, g, d, t, os⟩ := by
  have lk := tc_lookup
  have bd := tc_bind (.ref C)
  have ty : (⟨h, g, d, t, os⟩ : Shared).TypeIs (.ref C) "type" := ⟨_, hC, rfl⟩
  refine codeAny_of_tree ?_
  show wpAny _ _ (callAny (.ref C) _) _ _ _
  repeat (any_goals (first | assumption | with_reducible refine wpAny_loadPart_at hC ?_ | wp_step))
  refine ⟨rfl, ?_⟩
  refine codeAny_call_builtin_at (Code.quiet_builtin _ (by decide +kernel)) entry_typeCall (own_chk hC (own_type F hT hC hi hb hl ?_))
  refine codeAny_mono z fun r s' y => ?_
  rcases r with e | (v | _ | _ | _) <;> exact y
end
end ExV
end PySem
namespace EK
open PySem PySem.Spec PyProof.Rows L2
/-- C(..) kept as a value: __init__ keeps sp -/
def tMkV (C : Addr) (sp : Sp) (ta : TA) : TE := fun σ H Q => ta σ H fun vs H1 => vs.length ≤ 1000 ∧ ∀ a, H1 a = none → sp (.ref a :: vs) (upd H1 a (exo a C none)) (fun v H2 => v = .non ∧ Q (.ref a) H2) (fun _ _ _ => False)
/-- .. by names, put in their order by g -/
def tMkN (C : Addr) (sp : Sp) (n : Nat) (g : List V → List V → List V) (tk : TA) : TE := fun σ H Q => tk σ H fun zs H1 => zs.length = n ∧ ∀ a, H1 a = none → sp (g [.ref a] zs) (upd H1 a (exo a C none)) (fun v H2 => v = .non ∧ Q (.ref a) H2) (fun _ _ _ => False)
section
variable {X : Cx} {CX : CXT} {x : Str} {e : Expr} {es : List Expr} {ta tk : TA} {p pos : Pos} {C fI : Addr} {k : Nat} {fd : FuncData} {ps ks : List Str} {sp : Sp} {kws : List Keyword} {pins : List (Addr × Obj)} {σ : L2.St} {H : Hp} {s : Shared} {Q : VK}
theorem run_mkv (T : OexC X.K C) (iC : PySem.W.findIn X.K (.ref C) "__init__" = some (some (.ref fI))) (tI : PySem.W.typeIn X.K (.ref fI) = some (.type "function")) (F1 : FnOk X.prog X.w X.K X.mg X.base CX k fI fd ps sp) (hr : Room (k + 1) X.A)
    (hx : Passes CX X (fun _ _ _ => False)) (I : Inv X pins σ H s) {us : List Value} {kw : List (Str × Value)} (hl : us.length ≤ sizeLine) {G : Value → List Value} {gv : V → List V} (hb : ∀ (s' : Shared) (u : Value), X.K.In s'.heap → BindsTo s' fd ⟨u :: us, kw⟩ (ps.zip (G u)))
    (r2 : ∀ a : Addr, Vals (gv (.ref a)) (G (.ref a))) (h : ∀ a, H a = none → sp (gv (.ref a)) (upd H a (exo a C none)) (fun v H2 => v = .non ∧ Q (.ref a) H2) (fun _ _ _ => False)) : wpAny (model X.prog X.w) X.A (call (.ref C) us kw) (EP X pins σ Q) X.xe s := by
  obtain ⟨nm, q, N, bs, bm, sn, sub, ab, col, dd, k0, k1, k2, k3, k5, hC, hbm⟩ := T.cls
  obtain ⟨hp, g, dr, tk, os⟩ := s
  have up : hp.objs.size ≤ hp.objs.size + 1 := Nat.le_succ _
  have hq := h (hp.objs.size + 1) (I.hok.fresh up)
  have kk : ∀ b o, hp.get? b = some o → ((hp.push (PySem.W.kdv_tup us)).push (PySem.HandSPX.excO C hp.objs.size)).get? b = some o := fun b o y => Heap.get?_push_of_some _ (Heap.get?_push_of_some _ y)
  have he : ((hp.push (PySem.W.kdv_tup us)).push (PySem.HandSPX.excO C hp.objs.size)).get? (hp.objs.size + 1) = some (PySem.HandSPX.excO C hp.objs.size) := by heap_get
  have I2 : Inv X pins σ (upd H (hp.objs.size + 1) (exo (hp.objs.size + 1) C none)) ⟨(hp.push (PySem.W.kdv_tup us)).push (PySem.HandSPX.excO C hp.objs.size), g, dr, tk, os⟩ :=
    I.laid (t' := tk) (a := hp.objs.size + 1) (o := exo (hp.objs.size + 1) C none) (h' := (hp.push (PySem.W.kdv_tup us)).push (PySem.HandSPX.excO C hp.objs.size)) kk up (exo_ok he)
  refine wpAny_call (PySem.ExV.own_call F.excBase_ValueError (fun Y => PySem.HandSPX.refsVE_contains Y bm hbm) (I.kIn _ _ hC) (PySem.W.looks_findIn I.kIn iC) (fun self => PySem.W.bind_fn I.kIn self tI) hl
    (codeAny_mono (F1.run _ X.stack _ _ ⟨Value.ref (hp.objs.size + 1) :: us, kw⟩ (G (.ref (hp.objs.size + 1))) _ _ (fun _ _ _ => False) (hr.make C us kw) (I2.env0.make C us kw) (hb _ _ I2.kIn) (r2 _) hq) fun r s' hq' => ?_))
  cases r with
  | error er => exact hx pins σ _ _ er s' I2 hq'
  | ok fl =>
    cases fl with
    | ret u =>
      obtain ⟨v, H', I3, rv, ev, q3⟩ := I2.after hq'
      subst ev
      exact ⟨rv, ⟨V.ref (hp.objs.size + 1), H', I3, rfl, q3⟩⟩
    | next => exact False.elim hq'
    | brk => exact False.elim hq'
    | cont => exact False.elim hq'
theorem pe_mkv (T : OexC X.K C) (iC : PySem.W.findIn X.K (.ref C) "__init__" = some (some (.ref fI))) (tI : PySem.W.typeIn X.K (.ref fI) = some (.type "function")) (F1 : FnOk X.prog X.w X.K X.mg X.base CX k fI fd ps sp) (hr : Room (k + 1) X.A) (hb : Binds X.K fd ps [])
    (hx : Passes CX X (fun _ _ _ => False)) (hg : Gl X x) (hm : X.mg x = some (.ref C)) (ha : PA X (e :: es) ta) (hdb : (x == ("__debug__" : Str)) = false := by decide) (he : starEach (e :: es) X.env = (false, eval e X.env) :: starEach es X.env := by rfl)
    (hpl : (backTo pos (starEach es X.env)).any (·.1) = false := by rfl) : PE X (.Call (.Name x p) (e :: es) [] pos) (tMkV C sp ta) := by
  refine ⟨fun pins s σ H Q I h => ?_⟩
  refine wpAny_Call_Name_kw (ld_glob I hg hm ?_ hdb)
  refine PySem.W.callWith_K (h₀ := X.base) I.ok.mod.kin T.kC (thn (ha.run pos pins s σ H _ I h) fun us s1 ⟨vs, H1, I1, r1, hz, q1⟩ => ⟨I1.kIn, ?_⟩) he hpl
  have hus : us.length ≤ sizeLine := by
    rw [← Paired.length r1, sizeLine_eq]
    omega
  show wpAny _ _ (call (.ref C) us) _ _ _
  refine run_mkv (gv := fun v => v :: vs) (G := fun u => u :: us) T iC tI F1 hr hx I1 hus (fun s' u X' => ?_) (fun a => .cons rfl r1) q1
  have y := hb s' (u :: us) X' ?_
  · rw [List.append_nil] at y
    exact y
  have el : (Value.ref 0 :: us).length = ps.length := by
    have z := F1.len _ _ _ _ (q1 _ (I1.hok.fresh (Nat.le_refl _)))
    rw [← z]
    exact (Paired.length (F := RelV) (.cons (a := V.ref 0) (b := Value.ref 0) rfl r1)).symm
  simpa using el
theorem pe_mkn {g : List Value → List Value → List Value} {gV : List V → List V → List V} (T : OexC X.K C) (iC : PySem.W.findIn X.K (.ref C) "__init__" = some (some (.ref fI))) (tI : PySem.W.typeIn X.K (.ref fI) = some (.type "function")) (F1 : FnOk X.prog X.w X.K X.mg X.base CX k fI fd ps sp)
    (hr : Room (k + 1) X.A) (hb : KBn X.K fd ps 1 ks g gV) (hx : Passes CX X (fun _ _ _ => False)) (hg : Gl X x) (hm : X.mg x = some (.ref C)) (hkw : PK X kws tk) (hall : (backToKw pos (keywordEach kws X.env)).all (·.1.isSome) = true := by rfl)
    (hks : (backToKw pos (keywordEach kws X.env)).filterMap (·.1) = ks := by rfl) (hdb : (x == ("__debug__" : Str)) = false := by decide) (hpl : ((backTo pos (starEach [] X.env)).any (·.1) || (backToKw pos (keywordEach kws X.env)).any (·.1.isNone)) = false := by rfl) :
    PE X (.Call (.Name x p) [] kws pos) (tMkN C sp ks.length gV tk) := by
  refine ⟨fun pins s σ H Q I h => ?_⟩
  refine wpAny_Call_Name_kw (ld_glob I hg hm ?_ hdb)
  refine PySem.W.callWith_KW0 (h₀ := X.base) I.ok.mod.kin T.kC hall ?_ hpl
  refine thn (hkw.run pos pins s σ H _ I h) fun ws s2 ⟨zs, H2, I2, rz, l1, q2⟩ => ⟨I2.kIn, ?_⟩
  rw [hks]
  exact run_mkv (gv := fun v => gV [v] zs) (G := fun u => g [u] ws) T iC tI F1 hr hx I2 (Nat.zero_le _) (fun s' u X' => hb.to s' [u] ws X' rfl (rz.length.symm.trans l1)) (fun a => hb.rel (.cons rfl .nil) rz) q2
/-- C(), C without an __init__ of its own -/
def tMk0 (C : Addr) : TE := fun _ H Q => ∀ a, H a = none → Q (.ref a) (upd H a (exo a C none))
theorem pe_mk0 (T : OexC X.K C) (iC : PySem.W.findIn X.K (.ref C) "__init__" = some (some (.builtin "ValueError.__init__"))) (hg : Gl X x) (hm : X.mg x = some (.ref C)) (hdb : (x == ("__debug__" : Str)) = false := by decide) :
    PE X (.Call (.Name x p) [] [] pos) (tMk0 C) := by
  refine ⟨fun pins s σ H Q I h => ?_⟩
  refine wpAny_Call_Name_kw (ld_glob I hg hm ?_ hdb)
  refine PySem.W.callWith_K0 (first := []) I.kIn T.kC ?_
  show wpAny _ _ (call (.ref C) []) _ _ _
  obtain ⟨nm, q, N, bs, bm, sn, sub, ab, col, dd, k0, k1, k2, k3, k5, hC, hbm⟩ := T.cls
  obtain ⟨hp, g, dr, tk, os⟩ := s
  have up : hp.objs.size ≤ hp.objs.size + 1 := Nat.le_succ _
  have kk : ∀ b o, hp.get? b = some o → ((hp.push (PySem.W.kdv_tup [])).push (PySem.HandSPX.excO C hp.objs.size)).get? b = some o := fun b o y => Heap.get?_push_of_some _ (Heap.get?_push_of_some _ y)
  have he : ((hp.push (PySem.W.kdv_tup [])).push (PySem.HandSPX.excO C hp.objs.size)).get? (hp.objs.size + 1) = some (PySem.HandSPX.excO C hp.objs.size) := by heap_get
  have I2 : Inv X pins σ (upd H (hp.objs.size + 1) (exo (hp.objs.size + 1) C none)) ⟨(hp.push (PySem.W.kdv_tup [])).push (PySem.HandSPX.excO C hp.objs.size), g, dr, tk, os⟩ :=
    I.laid (t' := tk) (a := hp.objs.size + 1) (o := exo (hp.objs.size + 1) C none) (h' := (hp.push (PySem.W.kdv_tup [])).push (PySem.HandSPX.excO C hp.objs.size)) kk up (exo_ok he)
  refine wpAny_call (PySem.ExV.own_call (fv := .builtin "ValueError.__init__") F.excBase_ValueError (fun Y => PySem.HandSPX.refsVE_contains Y bm hbm) (I.kIn _ _ hC) (PySem.W.looks_findIn I.kIn iC) (fun self => .of_pure (F.excBase_ValueError.init.bind self)) (Nat.zero_le _)
    (PySem.HandSPX.init_base F.excBase_ValueError (fun Y => PySem.HandSPX.refsVE_contains Y bm hbm) (I2.kIn _ _ hC) he (Nat.zero_le _) fun h' t2 kh hx => ?_))
  have eu : upd (upd H (hp.objs.size + 1) (exo (hp.objs.size + 1) C none)) (hp.objs.size + 1) (exo (hp.objs.size + 1) C none) = upd H (hp.objs.size + 1) (exo (hp.objs.size + 1) C none) := upd_upd
  have J := I2.write (t' := tk) (x := hp.objs.size + 1) (e := hp.objs.size + 1) (o := exo (hp.objs.size + 1) C none) (by rw [upd_same]; exact True.intro) (.inl rfl) kh ⟨_, hx⟩ (exo_ok hx)
  rw [eu] at J
  exact ⟨rfl, V.ref (hp.objs.size + 1), _, J, rfl, h _ (I.hok.fresh up)⟩
/-- e.f, e an exception that stands in the heap -/
def tEf (K : PySem.W.Frag) (f : Str) (te : TE) : TE := fun σ H Q => te σ H fun x H1 => ∃ (a C d : Addr) (fs : List (Str × V)) (v : V), x = .ref a ∧ XfC K C ∧ PySem.W.findIn K (.ref C) f = some none ∧ H1 a = some (exo a C (some d)) ∧ H1 d = some (exd d fs) ∧ fs.lookup f = some v ∧ Q v H1
theorem pe_ef {te : TE} {n : Str} (he : PE X e te) (hb : attributeBase e n X.env (eval e X.env) = eval e X.env := by rfl) : PE X (.Attribute e n pos) (tEf X.K n te) := by
  refine ⟨fun pins s σ H Q I h => ?_⟩
  refine attr_of hb (thn (he.run pins s σ H _ I h) fun u s1 hh => ?_)
  obtain ⟨x, H1, I1, rx, a, C, d, fs, v, ex, T, hno, ha, hd, l, q⟩ := hh
  subst ex
  obtain rfl : u = Value.ref a := rx
  obtain ⟨t1, ho⟩ := exo_at I1.hok ha
  obtain ⟨mA, hns, hr⟩ := exd_at I1.hok hd
  obtain ⟨od, ho2, hl⟩ := lookIn_ns hns
  obtain ⟨u, hu, ru⟩ := RelO.some_of (v := v) (o := mA n) (by rw [← l]; exact hr n)
  have J : PySem.W.InstAt s1.heap a _ C (some od) := ⟨ho, rfl, rfl, ho2⟩
  exact HandSPX.exc_get I1.kIn J T.ga T.gg T.exC (PySem.W.findObj_own T.hdC hno rfl (by rw [hl, hu])) (handed_of ru) ⟨v, H1, I1.tok _, ru, q⟩
/-- isinstance(e, D), e an exception that stands in the heap -/
def rIsX (K : PySem.W.Frag) : List V → Hp → VK → Prop := fun xs H Q => ∃ (a C : Addr) (d : Option Addr) (c : V) (cv : Value) (b : Bool), xs = [.ref a, c] ∧ ExcC K C ∧ H a = some (exo a C d) ∧ (∀ dd, d = some dd → ∃ fs, H dd = some (exd dd fs)) ∧ ClsV c cv ∧ PySem.W.kitOne K (.ref C) cv = some b ∧ Q (.bl b) H
theorem call_isX : CallR X (.builtin "isinstance") (rIsX X.K) := by
  intro pins s σ H xs us Q I r h
  obtain ⟨a, C, d, c, cv, b, rfl, EC, ha, hd, kc, e, q⟩ := h
  obtain ⟨u1, u2, rfl, r1, r2⟩ := vals2 r
  cases r1
  have e2 := kc.eq r2
  subst e2
  obtain ⟨t1, ho⟩ := exo_at I.hok ha
  cases d with
  | none =>
    have J : PySem.W.InstAt s.heap a _ C none := ⟨ho, rfl, rfl, trivial⟩
    exact PySem.W.kia_one (PySem.W.ek_kitx EC.hg EC.hk EC.hs EC.hd EC.ha EC.hn EC.ht EC.hm) I.kIn J e (fun z => nomatch z) fun tk => ⟨.bl b, H, I.kept (t' := tk) fun _ _ z => z, rfl, q⟩
  | some dd =>
    obtain ⟨fs, hx⟩ := hd dd rfl
    obtain ⟨mA, hns, _⟩ := exd_at I.hok hx
    obtain ⟨od, ho2, _⟩ := lookIn_ns hns
    have J : PySem.W.InstAt s.heap a _ C (some od) := ⟨ho, rfl, rfl, ho2⟩
    exact PySem.W.kia_one (PySem.W.ek_kitx EC.hg EC.hk EC.hs EC.hd EC.ha EC.hn EC.ht EC.hm) I.kIn J e (fun z => nomatch z) fun tk => ⟨.bl b, H, I.kept (t' := tk) fun _ _ z => z, rfl, q⟩
end
end EK

/-! in a try: C(..) and o.m(..) whose E hangs on the names -/
namespace MS
open PySem PySem.Spec PyProof.Rows L2 EK
section
variable {X : Cx} {CX : CXT} {k : Nat} {f C : Addr} {fd : FuncData} {ps : List Str} {sp : Sp} {dvs : List V} {ds : List Value} {E : L2.St → XK} {x m : Str} {p pos apos : Pos} {e o : Expr} {es : List Expr} {ta : TE} {t : TA}
theorem run_makeS {pins : List (Addr × Obj)} {σ : L2.St} {H : Hp} {s : Shared} {Q : VK} {us : List Value} {vs : List V} (M : Mk X.K C f) (F : FnOk X.prog X.w X.K X.mg X.base CX k f fd ps sp) (hr : Room (k + 1) X.A) (hb : Binds X.K fd ps ds) (hd : Vals dvs ds)
    (hx : PassesAt CX X σ (E σ)) (I : Inv X pins σ H s) (r : Vals vs us)
    (h : ∀ x dx, H x = none → H dx = none → dx ≠ x → sp (.ref x :: (vs ++ dvs)) (upd (upd H dx (.own x)) x (.ins C dx [])) (fun v H2 => v = .non ∧ Q (.ref x) H2) (E σ)) :
    wpAny (model X.prog X.w) X.A (call (.ref C) us) (EP X pins σ Q) X.xe s := by
  have hq := h (s.heap.objs.size + 1) s.heap.objs.size (I.hok.fresh (Nat.le_succ _)) (I.hok.fresh (Nat.le_refl _)) (Nat.ne_of_lt (Nat.lt_succ_self _))
  have I2 := Inv.made (C := C) I
  have r2 : Vals (V.ref (s.heap.objs.size + 1) :: (vs ++ dvs)) (Value.ref (s.heap.objs.size + 1) :: (us ++ ds)) := .cons rfl (r.append hd)
  have hl : (Value.ref (s.heap.objs.size + 1) :: us ++ ds).length = ps.length := by
    have e := r2.length
    rw [F.len _ _ _ _ hq] at e
    exact e.symm
  refine wpAny_call (make_map (f := f) I.kIn M.makes M.init (beq_iff_eq.mp M.fn) (codeAny_mono (F.run _ X.stack _ _ ⟨Value.ref (s.heap.objs.size + 1) :: us, []⟩ (Value.ref (s.heap.objs.size + 1) :: (us ++ ds)) _ _ (E σ) (hr.make C us [])
    (I2.env0.make C us []) (hb _ (Value.ref (s.heap.objs.size + 1) :: us) I2.kIn hl) r2 hq) fun r s' hq' => ?_))
  cases r with
  | error e => exact hx pins _ _ e s' I2 hq'
  | ok fl =>
    cases fl with
    | ret u =>
      obtain ⟨v, H', I3, rv, ev, q3⟩ := I2.after hq'
      subst ev
      exact ⟨rv, ⟨V.ref (s.heap.objs.size + 1), H', I3, rfl, q3⟩⟩
    | next => exact False.elim hq'
    | brk => exact False.elim hq'
    | cont => exact False.elim hq'
def tMakeS (C : Addr) (sp : Sp) (dvs : List V) (E : L2.St → XK) (t : TA) : TE := fun σ H Q => t σ H fun vs H1 => ∀ x dx, H1 x = none → H1 dx = none → dx ≠ x → sp (.ref x :: (vs ++ dvs)) (upd (upd H1 dx (.own x)) x (.ins C dx [])) (fun v H2 => v = .non ∧ Q (.ref x) H2) (E σ)
theorem pe_makeS (M : Mk X.K C f) (F : FnOk X.prog X.w X.K X.mg X.base CX k f fd ps sp) (hr : Room (k + 1) X.A) (hg : Gl X x) (hm : X.mg x = some (.ref C)) (hb : Binds X.K fd ps ds) (hd : Vals dvs ds) (hx : ∀ σ, PassesAt CX X σ (E σ))
    (ha : PA X (e :: es) t) (hdb : (x == ("__debug__" : Str)) = false := by decide) (he : starEach (e :: es) X.env = (false, eval e X.env) :: starEach es X.env := by rfl) (hpl : (backTo pos (starEach es X.env)).any (·.1) = false := by rfl) :
    PE X (.Call (.Name x p) (e :: es) [] pos) (tMakeS C sp dvs E t) := by
  refine ⟨fun pins s σ H Q I h => ?_⟩
  refine wpAny_Call_Name_kw (ld_glob I hg hm ?_ hdb)
  refine PySem.W.callWith_K (h₀ := X.base) I.ok.mod.kin M.kp (thn (ha.run pos pins s σ H _ I h) fun us s1 ⟨vs, H1, I1, r, q⟩ => ⟨I1.kIn, ?_⟩) he hpl
  exact run_makeS M F hr hb hd (hx σ) I1 r q
def tMethS (C : Addr) (m : Str) (sp : Sp) (E : L2.St → XK) (ta : TE) (t : TA) : TE := fun σ H Q => ta σ H fun x H1 => ∃ a dx fs, x = .ref a ∧ H1 a = some (.ins C dx fs) ∧ fs.lookup m = none ∧ t σ H1 fun vs H2 => sp (x :: vs) H2 Q (E σ)
theorem pe_methS {pl : Sem Bool} (he : PE X o ta) (c : Cls X.K C) (hm : Meth X.K C m f) (F : FnOk X.prog X.w X.K X.mg X.base CX k f fd ps sp) (hr : Room k X.A) (hb : Binds X.K fd ps []) (hx : ∀ σ, PassesAt CX X σ (E σ)) (ha : PA X (e :: es) t)
    (hst : starEach (e :: es) X.env = (false, eval e X.env) :: starEach es X.env := by rfl) (hpl : (backTo pos (starEach es X.env)).any (·.1) = false := by rfl)
    (ht : eval (.Call (.Attribute o m apos) (e :: es) [] pos) X.env = (do
      let ov ← eval o X.env
      standAt apos.atName
      let (f, first) ← holding [ov] (getMethod ov m pl)
      callWith pos f first (backTo pos (starEach (e :: es) X.env)) (backToKw pos (keywordEach [] X.env))) := by rfl) :
    PE X (.Call (.Attribute o m apos) (e :: es) [] pos) (tMethS C m sp E ta t) := by
  refine ⟨fun pins s σ H Q I h => ?_⟩
  refine PySem.W.methodCall_KW (pl := pl) (thn (he.run pins s σ H _ I h) fun u s1 ⟨x, H1, I1, rx, a, dx, fs, ex, ea, l, q⟩ => ?_) ht
  subst ex
  obtain rfl : u = Value.ref a := rx
  refine getmeth_ok I1 ea c hm l ?_
  refine PySem.W.callWith_K (first := [.ref a]) (h₀ := X.base) I.ok.mod.kin hm.kp (thn (ha.run pos pins s1 σ H1 _ I1 q) fun us s2 ⟨vs, H2, I2, r, q2⟩ => ⟨I2.kIn, ?_⟩) hst hpl
  exact run_fnS (us := .ref a :: us) (vs := .ref a :: vs) F hr hb (hx σ) I2 (.cons rfl r) q2
end
section
variable {X : Cx} {C : Addr} {x : Str} {p pos : Pos}
/-- raise C(), C without an __init__ of its own -/
theorem pmk_mk0 (T : OexC X.K C) (iC : PySem.W.findIn X.K (.ref C) "__init__" = some (some (.builtin "ValueError.__init__"))) (hg : Gl X x) (hm : X.mg x = some (.ref C)) (hdb : (x == ("__debug__" : Str)) = false := by decide) :
    PMk X (.Call (.Name x p) [] [] pos) (fun _ H Q => Q (.ref C) none H) := by
  intro pins s σ H Q I h
  refine wpAny_Call_Name_kw (ld_glob I hg hm ?_ hdb)
  refine PySem.W.callWith_K0 (first := []) I.kIn T.kC ?_
  show wpAny _ _ (call (.ref C) []) _ _ _
  have RS : Raises X (.ref C) := raises_own T.exC T.tyC
  obtain ⟨nm, q, N, bs, bm, sn, sub, ab, col, dd, k0, k1, k2, k3, k5, hC, hbm⟩ := T.cls
  obtain ⟨hp, g, dr, tk, os⟩ := s
  have up : hp.objs.size ≤ hp.objs.size + 1 := Nat.le_succ _
  have kk : ∀ b o, hp.get? b = some o → ((hp.push (PySem.W.kdv_tup [])).push (PySem.HandSPX.excO C hp.objs.size)).get? b = some o := fun b o y => Heap.get?_push_of_some _ (Heap.get?_push_of_some _ y)
  have he : ((hp.push (PySem.W.kdv_tup [])).push (PySem.HandSPX.excO C hp.objs.size)).get? (hp.objs.size + 1) = some (PySem.HandSPX.excO C hp.objs.size) := by heap_get
  have hnew : hp.get? (hp.objs.size + 1) = none := by
    cases z : hp.get? (hp.objs.size + 1) with
    | none => rfl
    | some o => exact absurd (Heap.lt_size z) (Nat.not_lt.mpr (Nat.le_succ _))
  have I2 : Inv X pins σ (upd H (hp.objs.size + 1) (exo (hp.objs.size + 1) C none)) ⟨(hp.push (PySem.W.kdv_tup [])).push (PySem.HandSPX.excO C hp.objs.size), g, dr, tk, os⟩ :=
    I.laid (t' := tk) (a := hp.objs.size + 1) (o := exo (hp.objs.size + 1) C none) (h' := (hp.push (PySem.W.kdv_tup [])).push (PySem.HandSPX.excO C hp.objs.size)) kk up (exo_ok he)
  refine wpAny_call (PySem.ExV.own_call (fv := .builtin "ValueError.__init__") F.excBase_ValueError (fun Y => PySem.HandSPX.refsVE_contains Y bm hbm) (I.kIn _ _ hC) (PySem.W.looks_findIn I.kIn iC) (fun self => .of_pure (F.excBase_ValueError.init.bind self)) (Nat.zero_le _)
    (PySem.HandSPX.init_base F.excBase_ValueError (fun Y => PySem.HandSPX.refsVE_contains Y bm hbm) (I2.kIn _ _ hC) he (Nat.zero_le _) fun h' t2 kh hx => ?_))
  refine ⟨rfl, hp.objs.size + 1, _, _, ⟨hp, g, dr, tk, os⟩, H, .ref C, none, rfl, I, fun b o y => kh b o (Nat.ne_of_lt (Nat.lt_succ_of_lt (Heap.lt_size y))) (kk b o y), hnew, hx, ⟨rfl, rfl⟩, rfl, rfl, I.hok.fresh up, rfl, I.bare, RS, h⟩
end
/-- isinstance(e, c), e the exception that the suite holds, without a dict -/
def rIsE0 (K : PySem.W.Frag) (cls : Value) (d : Option Addr) (D a : Addr) : List V → Hp → VK → Prop := fun xs H Q => ∃ (c : V) (cv : Value) (b : Bool), xs = [.ref a, c] ∧ cls = .ref D ∧ d = none ∧ ClsV c cv ∧ PySem.W.kitOne K (.ref D) cv = some b ∧ Q (.bl b) H
theorem call_isE0 {X : Cx} {a D : Addr} {cls : Value} {d : Option Addr} {oe : Obj} {pn : List (Addr × Obj)} (C : ExcC X.K D) (hz : Zc cls d oe) (hf : ∃ vs, oe.data = .fields vs) : CallR (X.suite a ((a, oe) :: pn)) (.builtin "isinstance") (rIsE0 X.K cls d D a) := by
  intro pins s σ H xs us Q I r h
  obtain ⟨c, cv, b, rfl, ec, ed, k, e, q⟩ := h
  obtain ⟨u1, u2, rfl, r1, r2⟩ := vals2 r
  cases r1
  have e2 := k.eq r2
  subst e2 ec ed
  obtain ⟨hget, _⟩ := I.pin (a, oe) (List.mem_append.mpr (.inl List.mem_cons_self))
  obtain ⟨vs, hv⟩ := hf
  have J : PySem.W.InstAt s.heap a oe D none := ⟨hget, hz.1, by unfold PySem.W.notCls; rw [hv] <;> rfl, by rw [hz.2]; exact True.intro⟩
  exact PySem.W.kia_one (PySem.W.ek_kitx C.hg C.hk C.hs C.hd C.ha C.hn C.ht C.hm) I.kIn J e (fun z => nomatch z) fun tk => ⟨.bl b, H, I.kept (t' := tk) fun _ _ z => z, rfl, q⟩
theorem pe_bmK {X : Cx} {K : PySem.W.Frag} {c : Expr} {T : String} {r : V → List V → Hp → VK → Prop} {to : TE} {t : TA} (hK : X.K = K) (h : PE X c (tBM X.K T r to t)) : PE X c (tBM K T r to t) := hK ▸ h
theorem call_isE1 {X : Cx} {K : PySem.W.Frag} {a D : Addr} {cls : Value} {d : Option Addr} {oe : Obj} {pn : List (Addr × Obj)} (hK : X.K = K) (C : ExcC K D) (hz : Zc cls d oe) (hf : ∃ vs, oe.data = .fields vs) : CallR (X.suite a ((a, oe) :: pn)) (.builtin "isinstance") (rIsE0 K cls d D a) := by
  subst hK
  exact call_isE0 C hz hf
end MS

namespace Law
open PySem PySem.Spec PyProof.Rows L2 Evl
def top (i : Nat) : Stmt := PySem.Challenge.pw_wordskips_k18_ratios.main.body.getD i (.Pass ⟨0, 0, 0, 0⟩)
abbrev s_is_integer : Stmt := top 2
abbrev N_is_integer : List Str := ["value"]
theorem sc_is_integer : FnScope N_is_integer ["value"] (defScope s_is_integer) := ⟨rfl, rfl, rfl, by decide +kernel, rfl, by decide +kernel, by decide +kernel⟩
abbrev s_is_number : Stmt := top 8
abbrev N_is_number : List Str := ["value"]
theorem sc_is_number : FnScope N_is_number ["value"] (defScope s_is_number) := ⟨rfl, rfl, rfl, by decide +kernel, rfl, by decide +kernel, by decide +kernel⟩
abbrev s_ratio : Stmt := top 9
abbrev N_ratio : List Str := ["value"]
theorem sc_ratio : FnScope N_ratio ["value"] (defScope s_ratio) := ⟨rfl, rfl, rfl, by decide +kernel, rfl, by decide +kernel, by decide +kernel⟩
abbrev s_digits : Stmt := top 10
abbrev N_digits : List Str := ["number", "left", "parts"]
theorem sc_digits : FnScope N_digits ["number"] (defScope s_digits) := ⟨rfl, rfl, rfl, by decide +kernel, rfl, by decide +kernel, by decide +kernel⟩
abbrev s_lpen_of : Stmt := top 12
abbrev N_lpen_of : List Str := ["_law_script"]
theorem sc_lpen_of : FnScope N_lpen_of ["_law_script"] (defScope s_lpen_of) := ⟨rfl, rfl, rfl, by decide +kernel, rfl, by decide +kernel, by decide +kernel⟩
abbrev s_ldraw : Stmt := top 13
abbrev N_ldraw : List Str := ["_law_pen", "_law_many", "_law_digit", "_law_place", "_law_size", "_law_told", "_law_blend"]
theorem sc_ldraw : FnScope N_ldraw ["_law_pen", "_law_many"] (defScope s_ldraw) := ⟨rfl, rfl, rfl, by decide +kernel, rfl, by decide +kernel, by decide +kernel⟩
abbrev s_lpick : Stmt := top 14
abbrev N_lpick : List Str := ["_law_pen", "_law_menu"]
theorem sc_lpick : FnScope N_lpick ["_law_pen", "_law_menu"] (defScope s_lpick) := ⟨rfl, rfl, rfl, by decide +kernel, rfl, by decide +kernel, by decide +kernel⟩
abbrev s_lsame : Stmt := top 15
abbrev N_lsame : List Str := ["_law_ratio", "_law_number", "_law_over"]
theorem sc_lsame : FnScope N_lsame ["_law_ratio", "_law_number", "_law_over"] (defScope s_lsame) := ⟨rfl, rfl, rfl, by decide +kernel, rfl, by decide +kernel, by decide +kernel⟩
abbrev s_lcommon : Stmt := top 16
abbrev N_lcommon : List Str := ["_law_one", "_law_other", "_law_turn"]
theorem sc_lcommon : FnScope N_lcommon ["_law_one", "_law_other"] (defScope s_lcommon) := ⟨rfl, rfl, rfl, by decide +kernel, rfl, by decide +kernel, by decide +kernel⟩
abbrev s_lnumber_of : Stmt := top 17
abbrev N_lnumber_of : List Str := ["_law_pen", "_law_great", "_law_number"]
theorem sc_lnumber_of : FnScope N_lnumber_of ["_law_pen"] (defScope s_lnumber_of) := ⟨rfl, rfl, rfl, by decide +kernel, rfl, by decide +kernel, by decide +kernel⟩
abbrev s_lrefused : Stmt := top 18
abbrev N_lrefused : List Str := ["_law_number", "_law_over", "_law_told", "e"]
theorem sc_lrefused : FnScope N_lrefused ["_law_number", "_law_over"] (defScope s_lrefused) := ⟨rfl, rfl, rfl, by decide +kernel, rfl, by decide +kernel, by decide +kernel⟩
abbrev s_law : Stmt := top 19
abbrev N_law : List Str := ["_law_script", "_law_pen", "_law_turn", "_law_a", "_law_b", "_law_c", "_law_d", "_law_k", "_law_one", "_law_other", "_law_due", "_law_ratio", "_law_number", "_law_over", "_law_text", "_law_low", "_law_high"]
theorem sc_law : FnScope N_law ["_law_script"] (defScope s_law) := ⟨rfl, rfl, rfl, by decide +kernel, rfl, by decide +kernel, by decide +kernel⟩
abbrev s_Ratio_init : Stmt := inClass (top 7) 0
abbrev N_Ratio_init : List Str := ["self", "number", "over", "shared"]
theorem sc_Ratio_init : FnScope N_Ratio_init ["self", "number", "over"] (defScope s_Ratio_init) := ⟨rfl, rfl, rfl, by decide +kernel, rfl, by decide +kernel, by decide +kernel⟩
abbrev s_Ratio_eq : Stmt := inClass (top 7) 1
abbrev N_Ratio_eq : List Str := ["self", "other"]
theorem sc_Ratio_eq : FnScope N_Ratio_eq ["self", "other"] (defScope s_Ratio_eq) := ⟨rfl, rfl, rfl, by decide +kernel, rfl, by decide +kernel, by decide +kernel⟩
abbrev s_Ratio_str : Stmt := inClass (top 7) 2
abbrev N_Ratio_str : List Str := ["self"]
theorem sc_Ratio_str : FnScope N_Ratio_str ["self"] (defScope s_Ratio_str) := ⟨rfl, rfl, rfl, by decide +kernel, rfl, by decide +kernel, by decide +kernel⟩
abbrev s_Ratio_add : Stmt := inClass (top 7) 3
abbrev N_Ratio_add : List Str := ["self", "other", "more"]
theorem sc_Ratio_add : FnScope N_Ratio_add ["self", "other"] (defScope s_Ratio_add) := ⟨rfl, rfl, rfl, by decide +kernel, rfl, by decide +kernel, by decide +kernel⟩
abbrev s_Ratio_radd : Stmt := inClass (top 7) 4
abbrev N_Ratio_radd : List Str := ["self", "other"]
theorem sc_Ratio_radd : FnScope N_Ratio_radd ["self", "other"] (defScope s_Ratio_radd) := ⟨rfl, rfl, rfl, by decide +kernel, rfl, by decide +kernel, by decide +kernel⟩
abbrev s_Ratio_sub : Stmt := inClass (top 7) 5
abbrev N_Ratio_sub : List Str := ["self", "other"]
theorem sc_Ratio_sub : FnScope N_Ratio_sub ["self", "other"] (defScope s_Ratio_sub) := ⟨rfl, rfl, rfl, by decide +kernel, rfl, by decide +kernel, by decide +kernel⟩
abbrev s_Ratio_rsub : Stmt := inClass (top 7) 6
abbrev N_Ratio_rsub : List Str := ["self", "other"]
theorem sc_Ratio_rsub : FnScope N_Ratio_rsub ["self", "other"] (defScope s_Ratio_rsub) := ⟨rfl, rfl, rfl, by decide +kernel, rfl, by decide +kernel, by decide +kernel⟩
abbrev s_Ratio_mul : Stmt := inClass (top 7) 7
abbrev N_Ratio_mul : List Str := ["self", "other", "factor"]
theorem sc_Ratio_mul : FnScope N_Ratio_mul ["self", "other"] (defScope s_Ratio_mul) := ⟨rfl, rfl, rfl, by decide +kernel, rfl, by decide +kernel, by decide +kernel⟩
abbrev s_Ratio_rmul : Stmt := inClass (top 7) 8
abbrev N_Ratio_rmul : List Str := ["self", "other"]
theorem sc_Ratio_rmul : FnScope N_Ratio_rmul ["self", "other"] (defScope s_Ratio_rmul) := ⟨rfl, rfl, rfl, by decide +kernel, rfl, by decide +kernel, by decide +kernel⟩
abbrev s_Ratio_neg : Stmt := inClass (top 7) 9
abbrev N_Ratio_neg : List Str := ["self"]
theorem sc_Ratio_neg : FnScope N_Ratio_neg ["self"] (defScope s_Ratio_neg) := ⟨rfl, rfl, rfl, by decide +kernel, rfl, by decide +kernel, by decide +kernel⟩
abbrev s_Ratio_abs : Stmt := inClass (top 7) 10
abbrev N_Ratio_abs : List Str := ["self"]
theorem sc_Ratio_abs : FnScope N_Ratio_abs ["self"] (defScope s_Ratio_abs) := ⟨rfl, rfl, rfl, by decide +kernel, rfl, by decide +kernel, by decide +kernel⟩
abbrev s_Ratio_is_less : Stmt := inClass (top 7) 11
abbrev N_Ratio_is_less : List Str := ["self", "other", "bound"]
theorem sc_Ratio_is_less : FnScope N_Ratio_is_less ["self", "other"] (defScope s_Ratio_is_less) := ⟨rfl, rfl, rfl, by decide +kernel, rfl, by decide +kernel, by decide +kernel⟩
abbrev s_Ratio_divided : Stmt := inClass (top 7) 12
abbrev N_Ratio_divided : List Str := ["self", "other", "part"]
theorem sc_Ratio_divided : FnScope N_Ratio_divided ["self", "other"] (defScope s_Ratio_divided) := ⟨rfl, rfl, rfl, by decide +kernel, rfl, by decide +kernel, by decide +kernel⟩

/-! ### the pen -/
def penK (c : Addr) (op lf : Int) : List (Key × V) := [(.inr "cells", .ref c), (.inr "begun", .int op), (.inr "left", .int lf)]
structure PenI where
  d : Addr
  c : Addr
  ns : List Int
def PenAt (p : PenI) (H0 H : Hp) (n : Nat) : Prop := Ex H0 H ∧ H0 p.d = none ∧ H0 p.c = some (.lst (p.ns.map V.int)) ∧ p.ns.length ≤ 63 ∧
  ∃ (op : Nat) (lf : Int), op ≤ n ∧ H p.d = some (.dK (penK p.c op lf))
theorem PenAt.ex {p : PenI} {H0 H H1 : Hp} {n : Nat} (P : PenAt p H0 H n) (e : Ex H H1) : PenAt p H0 H1 n := by
  obtain ⟨e0, h0, hc, hl, op, lf, ho, hd⟩ := P
  exact ⟨e0.trans e, h0, hc, hl, op, lf, ho, e p.d _ hd⟩
theorem PenAt.le {p : PenI} {H0 H : Hp} {n m : Nat} (P : PenAt p H0 H n) (h : n ≤ m) : PenAt p H0 H m := by
  obtain ⟨e0, h0, hc, hl, op, lf, ho, hd⟩ := P
  exact ⟨e0, h0, hc, hl, op, lf, Nat.le_trans ho h, hd⟩
theorem PenAt.dict {p : PenI} {H0 H : Hp} {n : Nat} (P : PenAt p H0 H n) : ∃ kvs, H p.d = some (.dK kvs) := by
  obtain ⟨_, _, _, _, op, lf, _, h⟩ := P
  exact ⟨_, h⟩
theorem PenAt.lst_ne {p : PenI} {H0 H : Hp} {a : Addr} {n : Nat} {xs : List V} (P : PenAt p H0 H n) (h : H a = some (.lst xs)) : a ≠ p.d := by
  obtain ⟨kvs, h2⟩ := P.dict
  exact ne_of h h2 (by intro z; cases z)
/-- an object made meanwhile may change -/
theorem PenAt.upd {p : PenI} {H0 H : Hp} {a : Addr} {n : Nat} {o : HO} (P : PenAt p H0 H n) (h : H0 a = none) (hd : a ≠ p.d) : PenAt p H0 (upd H a o) n := by
  obtain ⟨e0, h0, hc, hl, op, lf, ho, hd'⟩ := P
  exact ⟨e0.mut h, h0, hc, hl, op, lf, ho, by rw [upd_ne hd.symm]; exact hd'⟩
/-- one more object kept, and let go again -/
theorem PenAt.keep {p : PenI} {H0 H : Hp} {a : Addr} {n : Nat} {o : HO} (P : PenAt p H0 H n) (h : H a = some o) (hd : a ≠ p.d) : PenAt p (L2.upd H0 a o) H n := by
  obtain ⟨e0, h0, hc, r⟩ := P
  refine ⟨fun b u e => ?_, by rw [upd_ne hd.symm]; exact h0, ?_, r⟩
  · by_cases q : b = a
    · subst q
      rw [upd_same] at e
      rw [h, e]
    · rw [upd_ne q] at e
      exact e0 b u e
  · by_cases q : p.c = a
    · have e2 := e0 _ _ hc
      rw [q, h] at e2
      rw [q, upd_same, e2]
    · rw [upd_ne q]
      exact hc
theorem PenAt.drop {p : PenI} {H0 H H' : Hp} {a : Addr} {n m : Nat} {o : HO} (P : PenAt p H0 H n) (h : H a = some o) (P' : PenAt p (L2.upd H0 a o) H' m) : PenAt p H0 H' m := by
  refine ⟨fun b u e => ?_, P.2.1, P.2.2.1, P'.2.2.2⟩
  by_cases q : b = a
  · subst q
    have e2 := P.1 _ _ e
    rw [h] at e2
    exact P'.1 _ _ (by rw [upd_same, e2])
  · exact P'.1 _ _ (by rw [upd_ne q]; exact e)
theorem cells_opened : ¬ (("cells" : Str) = "begun") := by decide +kernel
theorem cells_left : ¬ (("cells" : Str) = "left") := by decide +kernel
theorem opened_left : ¬ (("begun" : Str) = "left") := by decide +kernel
theorem get_cells (c : Addr) (op lf : Int) : valV (penK c op lf) (.inr "cells") = some (.ref c) := by
  unfold valV penK
  rw [List.find?_cons_of_pos (by simp)]
  rfl
theorem get_opened (c : Addr) (op lf : Int) : valV (penK c op lf) (.inr "begun") = some (.int op) := by
  unfold valV penK
  rw [List.find?_cons_of_neg (by simpa using cells_opened), List.find?_cons_of_pos (by simp)]
  rfl
theorem get_left (c : Addr) (op lf : Int) : valV (penK c op lf) (.inr "left") = some (.int lf) := by
  unfold valV penK
  rw [List.find?_cons_of_neg (by simpa using cells_left), List.find?_cons_of_neg (by simpa using opened_left), List.find?_cons_of_pos (by simp)]
  rfl
theorem put_opened (c : Addr) (op lf x : Int) : putK (penK c op lf) (.inr "begun") (.int x) = penK c x lf := by
  unfold putK penK
  simp [cells_opened, opened_left, cells_left, Ne.symm opened_left]
theorem put_left (c : Addr) (op lf x : Int) : putK (penK c op lf) (.inr "left") (.int x) = penK c op x := by
  unfold putK penK
  simp [cells_opened, opened_left, cells_left]
theorem dget_of {H : Hp} {d : Addr} {kvs : List (Key × V)} {k : Str} {v : V} (e : H d = some (.dK kvs)) (h : valV kvs (.inr k) = some v) : DGet H d (.str k) (some v) := by
  rw [← h]
  exact DGet.k (k := .inr k) e
theorem dput_of {H : Hp} {d : Addr} {kvs kvs' : List (Key × V)} {k : Str} {v : V} (e : H d = some (.dK kvs)) (hl : kvs.length < 100) (h : putK kvs (.inr k) v = kvs') : DPut H d (.str k) v (upd H d (.dK kvs')) := by
  rw [← h]
  exact DPut.k (k := .inr k) e (Nat.lt_of_lt_of_le hl (by decide))

/-! ### lists of ints as data -/
theorem lay_ints : ∀ ns : List Int, PyData.canLayAll0 (ns.map PyData.int) = true
  | [] => rfl
  | n :: r => by
    show (PyData.canLay0 (.int n) && PyData.canLayAll0 (r.map PyData.int)) = true
    rw [lay_ints r]
    rfl
theorem depth_ints : ∀ ns : List Int, PyData.depthAll (ns.map PyData.int) = 0
  | [] => rfl
  | n :: r => by
    show max (PyData.depth (.int n)) (PyData.depthAll (r.map PyData.int)) = 0
    rw [depth_ints r]
    rfl
theorem shaped_ints (ns : List Int) : SeqAt.shaped (.list (ns.map PyData.int)) = true := by
  unfold SeqAt.shaped
  have e1 : (PyData.list (ns.map PyData.int)).canLay0 = true := lay_ints ns
  have e2 : (PyData.list (ns.map PyData.int)).depth = 1 := by
    show PyData.depthAll (ns.map PyData.int) + 1 = 1
    rw [depth_ints]
  rw [e1, e2]
  rfl
theorem dp_ints {K : PySem.W.Frag} {H : Hp} : ∀ ns : List Int, DpAll K H (ns.map V.int) (ns.map PyData.int)
  | [] => .nil
  | n :: r => .cons (.int n) (dp_ints r)
theorem eqv_nil (ns : List Int) : PyData.eqv (.list (ns.map PyData.int)) (.list []) = ns.isEmpty := by
  cases ns <;> rfl

/-! ### what is known of a def that is called -/
structure Kn (P : Program) (w : World) (K : PySem.W.Frag) (mg : Str → Option Value) (base : Heap) (x : Str) (ps : List Str) (k : Nat) (sp : Sp) where
  f : Addr
  fd : FuncData
  ok : FnOk P w K mg base CX0 k f fd ps sp
  g : mg x = some (.ref f)
  kp : PySem.W.keepIn K (.ref f) = true
  b : Binds K fd ps []
structure Tx (mg : Str → Option Value) : Prop where
  len : mg "len" = none
  int : mg "int" = none
  abs : mg "abs" = none
  list : mg "list" = none
  range : mg "range" = none
  isinstance : mg "isinstance" = none
  str : mg "str" = none
  bool : mg "bool" = none

theorem cutI {A : Prop} {N : Int → Prop} (hA : (∀ x, N x) → A) (rest : ∀ x, N x) : A := hA rest
def spPen (K : PySem.W.Frag) : Sp := fun vs H Q _ => ∃ (a : Addr) (ns : List Int), vs = [.ref a] ∧ SqL K H a (ns.map V.int) ∧ ns.length ≤ 63 ∧ ∀ p H0 H', Ex H H0 → PenAt p H0 H' 0 → Q (.ref p.d) H'
def spDraw : Sp := fun vs H Q _ => ∃ (p : PenI) (H0 : Hp) (n : Nat) (m : Int), vs = [.ref p.d, .int m] ∧ PenAt p H0 H n ∧ n < 1000000 ∧ 0 < m ∧ m < 10000000 ∧ ∀ H' r, PenAt p H0 H' (n + 1) → 0 ≤ r → r < m → Q (.int r) H'

section
variable {P : Program} {w : World} {K : PySem.W.Frag} {mg : Str → Option Value} {base : Heap}
theorem ok_pen {f : Addr} {fd : FuncData} (F : Fun K "_law_pen_of" "_law_pen_of" s_lpen_of f fd) (T : Tx mg) : FnOk P w K mg base CX0 1 f fd ["_law_script"] (spPen K) := by
  refine F.ok sc_lpen_of (fun vs H Q E h => ?_) (fun cdv A outer s H vs Q E hr h => ?_)
  · obtain ⟨a, ns, rfl, _⟩ := h
    rfl
  · obtain ⟨a, ns, rfl, hS, hl, q⟩ := h
    refine ⟨_, (pss_one (ps_ret (pe_disp (pps_cons pe_str (pe_callTy call_list_of (by rfl) T.list PyProof.Rows.boot_list (pa_cons (pe_slice sl_list (pv 0) po_none (po_some pe_int)) pa_nil)) (pps_cons pe_str pe_int (pps_cons pe_str pe_int pps_nil))) (by rfl) (by rfl) (fun z => by cases z) (by decide)))), ?_⟩
    intro d hd
    have e1 : Ex H (upd H d (.dK [])) := Ex.new hd
    refine ⟨.ref a, rfl, 63, rfl, a, _, rfl, ex_l e1 hS, fun c hc => ?_⟩
    have e2 := e1.trans (Ex.new (o := .lst (cutV (ns.map V.int) none (some 63))) hc)
    refine ⟨c, _, rfl, .inl (.inl (.inl upd_same)), fun c2 hc2 => ?_⟩
    have e3 := e2.trans (Ex.new (o := .lst (cutV (ns.map V.int) none (some 63))) hc2)
    have ncd : c ≠ d := fun z => by rw [z, upd_same] at hc; cases hc
    have nc2c : c2 ≠ c := fun z => by rw [z, upd_same] at hc2; cases hc2
    have nc2d : c2 ≠ d := fun z => by rw [z, upd_ne ncd.symm, upd_same] at hc2; cases hc2
    refine ⟨by rw [upd_ne nc2d.symm, upd_ne ncd.symm, upd_same], penK c2 0 0, rfl, (by show 3 ≤ 15; decide), ?_⟩
    have em : mergeK [] (penK c2 0 0) = penK c2 0 0 := by
      unfold mergeK penK
      simp [putK, cells_opened, opened_left, cells_left]
    rw [em]
    have el : ((cutV (ns.map V.int) none (some 63)) : List V) = ((ns.drop (HT.sIx ns.length 0 none)).take (HT.sIx ns.length ns.length (some 63) - HT.sIx ns.length 0 none)).map V.int := by
      unfold cutV
      rw [List.length_map, List.map_take, List.map_drop]
    have hn2 : H c2 = none := by
      rw [upd_ne nc2c, upd_ne nc2d] at hc2
      exact hc2
    refine q ⟨d, c2, (ns.drop (HT.sIx ns.length 0 none)).take (HT.sIx ns.length ns.length (some 63) - HT.sIx ns.length 0 none)⟩ (upd H c2 (.lst (cutV (ns.map V.int) none (some 63)))) _ (Ex.new hn2) ⟨fun b u e => ?_, ?_, ?_, ?_, 0, 0, Nat.le_refl _, upd_same⟩
    · have nbd : b ≠ d := fun z => by
        rw [z, upd_ne nc2d.symm, hd] at e
        cases e
      rw [upd_ne nbd]
      by_cases z : b = c2
      · subst z
        rw [upd_same] at e ⊢
        exact e
      · rw [upd_ne z] at e ⊢
        exact (e1.trans (Ex.new hc)) _ _ e
    · exact (upd_ne nc2d.symm).trans hd
    · show upd H c2 _ c2 = _
      rw [upd_same, el]
    · rw [List.length_take, List.length_drop]
      omega
theorem ok_draw {f : Addr} {fd : FuncData} (F : Fun K "_law_draw" "_law_draw" s_ldraw f fd) (T : Tx mg) : FnOk P w K mg base CX0 1 f fd ["_law_pen", "_law_many"] spDraw := by
  refine F.ok sc_ldraw (fun vs H Q E h => ?_) (fun cdv A outer s H vs Q E hr h => ?_)
  · obtain ⟨p, H0, n, m, rfl, _⟩ := h
    rfl
  · obtain ⟨⟨d, c, ns⟩, H0, n, m, rfl, ⟨e0, h0, hc0, hl, op, lf, ho, hd⟩, hn, hm0, hm1, q⟩ := h
    have hc : H c = some (.lst (ns.map V.int)) := e0 _ _ hc0
    dsimp only at h0 hl hd q ⊢
    have ncd : c ≠ d := ne_of hc hd (by intro z; cases z)
    have fin : ∀ (o2 : Nat) (l2 : Int) (H' : Hp), Ex H0 H' → H' c = some (.lst (ns.map V.int)) → H' d = some (.dK (penK c o2 l2)) → o2 ≤ n + 1 → PenAt ⟨d, c, ns⟩ H0 H' (n + 1) :=
      fun o2 l2 H' x1 x2 x3 x4 => ⟨x1, h0, hc0, hl, o2, l2, x4, x3⟩
    refine ⟨_, (pss_cons (ps_if (pt_cmpR op_gt (pe_dget (hu_of hr) (pv 0) pe_str (fun _ _ => rfl)) pe_int (nomark _)) (pss_cons (ps_set (i := 2) sc_ldraw.nd rfl (Or.inl rfl) (pe_op op_mod (pe_callTy call_int1 (by rfl) T.int PyProof.Rows.boot_int (pa_cons (pe_dget (hu_of hr) (pv 0) pe_str (fun _ _ => rfl)) pa_nil)) (pv 1)))
      (pss_cons (ps_dput (hu_of hr) (pv 0) pe_str (pe_op op_fdivN (pe_dget (hu_of hr) (pv 0) pe_str (fun _ _ => rfl)) (pv 1)) rfl)
      (pss_one (ps_ret (pv 2))))) pss_nil)
      (pss_cons (ps_par (i := 3) (j := 4) (by rfl) sc_ldraw.nd rfl rfl (by decide) rfl rfl (pa_cons (pe_dget (hu_of hr) (pv 0) pe_str (fun _ _ => rfl)) (pa_cons (pe_callB call_len_seq (by rfl) T.len PySem.boot_len (pa_cons (pe_dget (hu_of hr) (pv 0) pe_str (fun _ _ => rfl)) pa_nil)) pa_nil)) (by rfl))
      (pss_cons (ps_dput (hu_of hr) (pv 0) pe_str (pe_op op_add (pv 3) pe_int) rfl)
      (pss_cons (ps_set (i := 5) sc_ldraw.nd rfl (Or.inl rfl) (pe_ifExp (pt_cmpR op_gt (pv 4) pe_int (nomark _)) (pe_ix ix_list (pe_dget (hu_of hr) (pv 0) pe_str (fun _ _ => rfl)) (pe_op op_mod (pe_callTy call_int1 (by rfl) T.int PyProof.Rows.boot_int (pa_cons (pv 3) pa_nil)) (pv 4)) (fun _ _ => rfl)) (pe_op op_add (pe_op op_mul pe_int (pv 3)) pe_int)))
      (pss_cons (ps_if (PW.pt (pw_and (pt_cmpR op_lt (pv 3) (pv 4) (nomark _)) (pw_and1 (pt_cmpR op_ge (pe_callB call_abs (by rfl) T.abs (by decide +kernel) (pa_cons (pv 5) pa_nil)) (pe_op op_pow pe_int pe_int) (nomark _))))) (pss_cons (ps_dput (hu_of hr) (pv 0) pe_str (pe_op op_fdivN (pe_op op_sub (pe_callB call_abs (by rfl) T.abs (by decide +kernel) (pa_cons (pv 5) pa_nil)) (pe_op op_pow pe_int pe_int)) (pv 1)) rfl)
      (pss_one (ps_ret (pe_op op_mod (pe_callTy call_int1 (by rfl) T.int PyProof.Rows.boot_int (pa_cons (pe_op op_sub (pe_callB call_abs (by rfl) T.abs (by decide +kernel) (pa_cons (pv 5) pa_nil)) (pe_op op_pow pe_int pe_int)) pa_nil)) (pv 1))))) pss_nil)
      (pss_cons (ps_set (i := 6) sc_ldraw.nd rfl (Or.inl rfl) (pe_op op_mod (pe_callTy call_int1 (by rfl) T.int PyProof.Rows.boot_int (pa_cons (pe_op op_add (pe_op op_add (pe_op op_mul (pe_op op_mod (pe_callTy call_int1 (by rfl) T.int PyProof.Rows.boot_int (pa_cons (pv 5) pa_nil)) pe_int) pe_int) (pe_op op_mul (pe_op op_mul pe_int (pv 3)) (pv 3))) pe_int) pa_nil)) pe_int))
      (pss_cons (ps_set (i := 6) sc_ldraw.nd rfl (Or.inl rfl) (pe_op op_mod (pe_callTy call_int1 (by rfl) T.int PyProof.Rows.boot_int (pa_cons (pe_op op_add (pe_op op_add (pe_op op_add (pe_op op_mul (pv 6) (pv 6)) (pe_op op_mul pe_int (pv 6))) (pe_op op_mul pe_int (pv 3))) pe_int) pa_nil)) pe_int))
      (pss_one (ps_ret (pe_op op_mod (pe_callTy call_int1 (by rfl) T.int PyProof.Rows.boot_int (pa_cons (pe_op op_fdivN (pe_op op_mod (pe_callTy call_int1 (by rfl) T.int PyProof.Rows.boot_int (pa_cons (pe_op op_mul (pv 6) (pe_op op_add (pv 6) pe_int)) pa_nil)) pe_int) pe_int) pa_nil)) (pv 1))))))))))), ?_⟩
    refine ⟨_, rfl, d, .int lf, rfl, dget_of hd (get_left _ _ _), _, _, rfl, rfl, _, rfl, ite2 (fun hp => ?_) (fun hp => ?_)⟩
    · refine ⟨_, rfl, d, .int lf, rfl, dget_of hd (get_left _ _ _), .inl ⟨_, rfl, ?_⟩⟩
      refine ⟨_, rfl, _, _, rfl, rfl, hm0, ?_⟩
      refine ⟨_, rfl, d, .int lf, rfl, dget_of hd (get_left _ _ _), _, rfl, _, _, rfl, rfl, ⟨by omega, by omega⟩, ?_⟩
      refine ⟨_, rfl, d, _, rfl, dput_of hd (by show 3 < 100; decide) (put_left _ _ _ _), ?_⟩
      refine ⟨_, rfl, ?_⟩
      exact q _ _ (fin op _ _ (e0.mut h0) (by rw [upd_ne ncd]; exact hc) upd_same (by omega)) (Int.emod_nonneg _ (by omega)) (Int.emod_lt_of_pos _ hm0)
    · refine ⟨_, rfl, d, _, rfl, dget_of hd (get_opened _ _ _), _, rfl, d, _, rfl, dget_of hd (get_cells _ _ _), c, _, rfl, .inl (sq_of hc), _, _, rfl, ?_⟩
      refine ⟨_, rfl, _, _, rfl, rfl, _, rfl, d, _, rfl, dput_of hd (by show 3 < 100; decide) (put_opened _ _ _ _), ?_⟩
      have x1 : Ex H0 (upd H d (.dK (penK c ((op : Int) + 1) lf))) := e0.mut h0
      have hc1 : (upd H d (.dK (penK c ((op : Int) + 1) lf))) c = some (.lst (ns.map V.int)) := by
        rw [upd_ne ncd]
        exact hc
      have hd1 : (upd H d (.dK (penK c ((op : Int) + 1) lf))) d = some (.dK (penK c ((op + 1 : Nat) : Int) lf)) := upd_same
      generalize (upd H d (.dK (penK c ((op : Int) + 1) lf))) = H1 at x1 hc1 hd1 ⊢
      refine' cutI (fun rest => ?_) ?_
      rotate_left
      · refine ⟨_, rfl, _, _, rfl, rfl, _, rfl, ite2 (fun hs => ?_) (fun hs => ?_)⟩
        · have hL : (0 : Int) < ((ns.map V.int).length : Int) := of_decide_eq_true hs
          obtain ⟨i, hi⟩ : ∃ i : Nat, (op : Int) % ((ns.map V.int).length : Int) = (i : Int) := ⟨((op : Int) % ((ns.map V.int).length : Int)).toNat, (Int.toNat_of_nonneg (Int.emod_nonneg _ (by omega))).symm⟩
          have hi2 : i < ns.length := by
            have := Int.emod_lt_of_pos (op : Int) hL
            rw [hi, List.length_map] at this
            omega
          have hat : atI (ns.map V.int) ((op : Int) % ((ns.map V.int).length : Int)) = some (V.int ns[i]) := by
            rw [hi]
            exact atI_nat (by rw [List.getElem?_map, List.getElem?_eq_getElem hi2]; rfl)
          refine ⟨_, rfl, d, _, rfl, dget_of hd1 (get_cells _ _ _), _, rfl, .inl ⟨_, rfl, _, rfl, _, _, rfl, rfl, hL, c, _, _, _, rfl, rfl, sq_of hc1, hat, ?_⟩⟩
          generalize ns[i] = x
          exact rest x
        · refine ⟨_, rfl, _, _, rfl, rfl, .inl ⟨by decide, by decide⟩, _, _, rfl, rfl, ?_⟩
          exact rest _
      · intro x
        dsimp only [gName]
        refine q_when (b := decide ((op : Int) < ((ns.map V.int).length : Int)) && decide ((10 : Int) ^ (18 : Int).toNat ≤ (if x < 0 then -x else x)))
          (et_and (fun H4 e4 Q4 q4 => ?_) (fun _ H4 e4 Q4 q4 => ?_)) (fun hb H3 e3 => ?_) (fun hb H3 e3 => ?_)
        · exact ⟨_, rfl, _, rfl, _, _, rfl, rfl, _, rfl, q4 _ (Ex.refl _)⟩
        · exact ⟨_, rfl, _, rfl, _, _, rfl, rfl, ⟨by decide, by decide, by decide⟩, _, _, rfl, rfl, _, rfl, q4 _ (Ex.refl _)⟩
        · have x3 := x1.trans e3
          refine ⟨_, rfl, _, rfl, _, _, rfl, rfl, ⟨by decide, by decide, by decide⟩, _, _, rfl, rfl, _, rfl, _, _, rfl, rfl, ⟨by omega, by omega⟩, ?_⟩
          refine ⟨_, rfl, d, _, rfl, dput_of (e3 _ _ hd1) (by show 3 < 100; decide) (put_left _ _ _ _), ?_⟩
          refine ⟨_, rfl, _, rfl, _, _, rfl, rfl, ⟨by decide, by decide, by decide⟩, _, _, rfl, rfl, .inl ⟨_, rfl, _, rfl, _, _, rfl, rfl, hm0, ?_⟩⟩
          exact q _ _ (fin _ _ _ (x3.mut h0) (by rw [upd_ne ncd]; exact e3 _ _ hc1) upd_same (by omega)) (Int.emod_nonneg _ (by omega)) (Int.emod_lt_of_pos _ hm0)
        · have x3 := x1.trans e3
          have b1 : (0 : Int) ≤ x % 4294967279 := Int.emod_nonneg _ (by decide)
          have b2 : x % 4294967279 < 4294967279 := Int.emod_lt_of_pos _ (by decide)
          refine ⟨_, rfl, .inl ⟨_, rfl, _, _, rfl, rfl, (by show (0 : Int) < _; decide), _, _, rfl, rfl, .inr ⟨by decide, by decide⟩, ?_⟩⟩
          refine ⟨_, rfl, _, _, rfl, rfl, .inl ⟨by decide, by decide⟩, _, rfl, _, _, rfl, rfl, .inr ⟨by omega, by omega⟩, _, _, rfl, rfl, ?_⟩
          refine ⟨_, _, rfl, rfl, .inl ⟨_, rfl, _, _, rfl, rfl, (by show (0 : Int) < _; decide), ?_⟩⟩
          generalize hy : (x % 4294967279 * 50923 + 31249 * (op : Int) * (op : Int) + 977) % 4294967291 = y
          have b3 : 0 ≤ y := by rw [← hy]; exact Int.emod_nonneg _ (by decide)
          have b4 : y < 4294967291 := by rw [← hy]; exact Int.emod_lt_of_pos _ (by decide)
          refine ⟨_, rfl, _, rfl, _, _, rfl, rfl, .inl ⟨by omega, by omega⟩, _, rfl, _, _, rfl, rfl, .inl ⟨by decide, by decide⟩, _, _, rfl, rfl, ?_⟩
          refine ⟨_, rfl, _, _, rfl, rfl, .inl ⟨by decide, by decide⟩, _, _, rfl, rfl, _, _, rfl, rfl, .inl ⟨_, rfl, _, _, rfl, rfl, (by show (0 : Int) < _; decide), ?_⟩⟩
          generalize hz : (y * y + 70001 * y + 41 * (op : Int) + 13) % 4294967231 = z
          have b5 : 0 ≤ z := by rw [← hz]; exact Int.emod_nonneg _ (by decide)
          have b6 : z < 4294967231 := by rw [← hz]; exact Int.emod_lt_of_pos _ (by decide)
          refine ⟨_, rfl, _, rfl, _, _, rfl, rfl, _, _, rfl, rfl, .inl ⟨by omega, by omega⟩, .inl ⟨_, rfl, _, _, rfl, rfl, (by show (0 : Int) < _; decide), _, _, rfl, rfl, ⟨by decide, by decide⟩, .inl ⟨_, rfl, _, rfl, _, _, rfl, rfl, hm0, ?_⟩⟩⟩
          exact q _ _ (fin _ _ _ x3 (e3 _ _ hc1) (e3 _ _ hd1) (by omega)) (Int.emod_nonneg _ (by omega)) (Int.emod_lt_of_pos _ hm0)
end
end Law

namespace Law
open PySem PySem.Spec PyProof.Rows L2 Evl
theorem sz_le {n : Nat} (h : n < 1000) : n ≤ sizeLine := Nat.le_trans (Nat.le_of_lt h) (by decide)
theorem at_draw {α : Type} {xs : List α} {r : Int} (h0 : 0 ≤ r) (h1 : r < (xs.length : Int)) : ∃ v, v ∈ xs ∧ atI xs r = some v := by
  obtain ⟨j, rfl⟩ : ∃ j : Nat, r = (j : Int) := ⟨r.toNat, (Int.toNat_of_nonneg h0).symm⟩
  have hj : j < xs.length := by omega
  exact ⟨xs[j], List.getElem_mem hj, atI_nat (List.getElem?_eq_getElem hj)⟩
def spPickL : Sp := fun vs H Q _ => ∃ (p : PenI) (H0 : Hp) (a : Addr) (n : Nat) (xs : List V), vs = [.ref p.d, .ref a] ∧ PenAt p H0 H n ∧ n < 1000000 ∧ H a = some (.lst xs) ∧ 0 < xs.length ∧ xs.length < 1000 ∧ ∀ H' v, PenAt p H0 H' (n + 1) → v ∈ xs → Q v H'
section
variable {P : Program} {w : World} {K : PySem.W.Frag} {mg : Str → Option Value} {base : Heap}
theorem ok_pickL {f : Addr} {fd : FuncData} (F : Fun K "_law_pick" "_law_pick" s_lpick f fd) (T : Tx mg) (c_ldraw : Kn P w K mg base "_law_draw" ["_law_pen", "_law_many"] 1 spDraw) : FnOk P w K mg base CX0 2 f fd ["_law_pen", "_law_menu"] spPickL := by
  refine F.ok sc_lpick (fun vs H Q E h => ?_) (fun cdv A outer s H vs Q E hr h => ?_)
  · obtain ⟨p, H0, a, n, xs, rfl, _⟩ := h
    rfl
  · obtain ⟨p, H0, a, n, xs, rfl, P0, hn, hx, hz0, hz1, q⟩ := h
    refine ⟨_, (pss_one (ps_ret (pe_ix ix_list (pv 1) (pe_call c_ldraw.ok (hr.mono (by decide)) (by rfl) c_ldraw.g c_ldraw.kp c_ldraw.b .nil pass0 (pa_cons (pv 0) (pa_cons (pe_callB call_len_seq (by rfl) T.len PySem.boot_len (pa_cons (pv 1) pa_nil)) pa_nil))) (fun _ _ => rfl)))), ?_⟩
    refine ⟨_, rfl, _, rfl, _, rfl, a, xs, rfl, .inl (sq_of hx), p, upd H0 a (.lst xs), n, _, rfl, P0.keep hx (P0.lst_ne hx), hn, by omega, by omega, fun H' r P1 r0 r1 => ?_⟩
    obtain ⟨v, hv, ha⟩ := at_draw (xs := xs) r0 r1
    exact ⟨a, xs, r, v, rfl, rfl, sq_of (P1.1 _ _ upd_same), ha, q _ _ (P0.drop hx P1) hv⟩
end
/-! ### fractions -/
theorem kit_ii {K : PySem.W.Frag} : PySem.W.kitOne K (.type "int") (.type "int") = some true := kit_ty (by decide +kernel)
theorem kit_ib {K : PySem.W.Frag} : PySem.W.kitOne K (.type "int") (.type "bool") = some false := kit_ty (by decide +kernel)
structure RC (K : PySem.W.Frag) (C : Addr) : Prop where
  cl : Cls K C
  nn : NoAttr K C "number"
  no : NoAttr K C "over"
  ins : C8.InsC K C
  ti : PySem.W.kitOne K (.type "int") (.ref C) = some false
  ts : PySem.W.kitOne K (.type "str") (.ref C) = some false
def rFs (n o : Int) : List (Str × V) := [("number", .int n), ("over", .int o)]
theorem rFs_n (n o : Int) : (rFs n o).lookup ("number" : Str) = some (.int n) := rfl
theorem rFs_o (n o : Int) : (rFs n o).lookup ("over" : Str) = some (.int o) := rfl
/-- a fraction in lowest terms, its numbers below 2 ^ k -/
structure RObj (C : Addr) (H : Hp) (a : Addr) (n o : Int) (k : Nat) : Prop where
  at_ : ∃ dx, H a = some (.ins C dx (rFs n o))
  pos : 0 < o
  low : Nat.gcd n.natAbs o.natAbs = 1
  bn : n.natAbs < 2 ^ k
  bo : o.natAbs < 2 ^ k
theorem RObj.up {C a : Addr} {H H' : Hp} {n o : Int} {k : Nat} (R : RObj C H a n o k) (e : Ex H H') : RObj C H' a n o k := by
  obtain ⟨⟨dx, h⟩, p, l, b1, b2⟩ := R
  exact ⟨⟨dx, e _ _ h⟩, p, l, b1, b2⟩
/-- a fraction or an int -/
inductive Num (C : Addr) (H : Hp) : V → Int → Int → Nat → Prop
  | r {a : Addr} {n o : Int} {k : Nat} : RObj C H a n o k → Num C H (.ref a) n o k
  | i {n : Int} {k : Nat} : n.natAbs < 2 ^ k → 1 ≤ k → Num C H (.int n) n 1 k
theorem log_lt {x k : Nat} (h : x < 2 ^ k) (hk : 0 < k) : x.log2 < k := by
  by_cases hx : x = 0
  · subst hx
    rw [show Nat.log2 0 = 0 by decide]
    exact hk
  · exact (Nat.log2_lt hx).mpr h
/-! lowest terms -/
theorem low_spec {n o : Int} (ho : o ≠ 0) : ∃ sh : Int, sh = (if o > 0 then ((Nat.gcd n.natAbs o.natAbs : Nat) : Int) else -((Nat.gcd n.natAbs o.natAbs : Nat) : Int)) ∧ sh ≠ 0 ∧ n = n.fdiv sh * sh ∧ o = o.fdiv sh * sh ∧ 0 < o.fdiv sh ∧ Nat.gcd (n.fdiv sh).natAbs (o.fdiv sh).natAbs = 1 ∧ (n.fdiv sh).natAbs ≤ n.natAbs ∧ (o.fdiv sh).natAbs ≤ o.natAbs ∧ sh.natAbs ≤ o.natAbs := by
  have oN : 0 < o.natAbs := Int.natAbs_pos.mpr ho
  have gpos : 0 < Nat.gcd n.natAbs o.natAbs := Nat.gcd_pos_of_pos_right _ oN
  have gle : Nat.gcd n.natAbs o.natAbs ≤ o.natAbs := Nat.gcd_le_right _ oN
  have d1 : ((Nat.gcd n.natAbs o.natAbs : Nat) : Int) ∣ n := Int.ofNat_dvd_left.mpr (Nat.gcd_dvd_left _ _)
  have d2 : ((Nat.gcd n.natAbs o.natAbs : Nat) : Int) ∣ o := Int.ofNat_dvd_left.mpr (Nat.gcd_dvd_right _ _)
  generalize hg : Nat.gcd n.natAbs o.natAbs = g at gpos gle d1 d2
  have key : ∀ sh : Int, (sh = (g : Int) ∨ sh = -(g : Int)) → sh ≠ 0 ∧ n = n.fdiv sh * sh ∧ o = o.fdiv sh * sh ∧ sh.natAbs = g := by
    intro sh h
    have s0 : sh ≠ 0 := by omega
    have e1 : sh ∣ n := by
      rcases h with h | h
      · rw [h]; exact d1
      · rw [h]; exact Int.neg_dvd.mpr d1
    have e2 : sh ∣ o := by
      rcases h with h | h
      · rw [h]; exact d2
      · rw [h]; exact Int.neg_dvd.mpr d2
    refine ⟨s0, (Int.fdiv_mul_cancel e1).symm, (Int.fdiv_mul_cancel e2).symm, by omega⟩
  refine ⟨_, rfl, ?_⟩
  generalize hsh : (if o > 0 then (g : Int) else -(g : Int)) = sh
  have hs : sh = (g : Int) ∨ sh = -(g : Int) := by
    rw [← hsh]
    by_cases h : o > 0
    · rw [if_pos h]; exact .inl rfl
    · rw [if_neg h]; exact .inr rfl
  obtain ⟨s0, e1, e2, sg⟩ := key sh hs
  generalize n.fdiv sh = x at e1
  generalize o.fdiv sh = y at e2
  have n1 : n.natAbs = x.natAbs * g := by rw [e1, Int.natAbs_mul, sg]
  have n2 : o.natAbs = y.natAbs * g := by rw [e2, Int.natAbs_mul, sg]
  have lx : x.natAbs ≤ n.natAbs := by
    rw [n1]
    exact Nat.le_mul_of_pos_right _ gpos
  have ly : y.natAbs ≤ o.natAbs := by
    rw [n2]
    exact Nat.le_mul_of_pos_right _ gpos
  refine ⟨s0, e1, e2, ?_, ?_, lx, ly, by omega⟩
  · by_cases h : o > 0
    · have : sh = (g : Int) := by rw [← hsh, if_pos h]
      have sp : 0 < sh := by omega
      rw [e2] at h
      exact Int.pos_of_mul_pos_left h sp
    · have : sh = -(g : Int) := by rw [← hsh, if_neg h]
      have sp : sh < 0 := by omega
      have o0 : o < 0 := by omega
      rw [e2] at o0
      by_cases hy : 0 < y
      · exact hy
      · have : 0 ≤ y * sh := Int.mul_nonneg_of_nonpos_of_nonpos (by omega) (by omega)
        omega
  · rw [n1, n2, Nat.gcd_mul_right] at hg
    exact Nat.eq_of_mul_eq_mul_right gpos (by rw [hg, Nat.one_mul])
end Law

namespace Law
open PySem PySem.Spec PyProof.Rows L2 Evl
theorem mulB {a b : Int} {k : Nat} (ha : a.natAbs < 2 ^ k) (hb : b.natAbs < 2 ^ k) : (a * b).natAbs < 2 ^ (2 * k) := by
  rw [Int.natAbs_mul, Nat.two_mul, Nat.pow_add]
  exact Nat.mul_lt_mul'' ha hb
theorem pow_up {a i j : Nat} (h : a < 2 ^ i) (hij : i ≤ j) : a < 2 ^ j := Nat.lt_of_lt_of_le h (Nat.pow_le_pow_right (by decide) hij)
theorem addB {a b : Int} {k : Nat} (ha : a.natAbs < 2 ^ k) (hb : b.natAbs < 2 ^ k) : (a + b).natAbs < 2 ^ (k + 1) := by
  have := Int.natAbs_add_le a b
  rw [Nat.pow_succ]
  omega
theorem mulW {a b : Int} {k : Nat} (ha : a.natAbs < 2 ^ k) (hb : b.natAbs < 2 ^ k) (hk : k ≤ 8000) : CMulW a b := by
  have h1 := log_lt (pow_up ha (Nat.le_succ k)) (Nat.succ_pos k)
  have h2 := log_lt (pow_up hb (Nat.le_succ k)) (Nat.succ_pos k)
  show a.natAbs.log2 + b.natAbs.log2 < 1000000
  omega
theorem cutP {A N : Prop} (hA : N → A) (rest : N) : A := hA rest
def spIsInt : Sp := fun vs H Q _ => ∃ v : Int, vs = [.int v] ∧ ∀ H', Ex H H' → Q (.bl true) H'
def spIsNum (C : Addr) : Sp := fun vs H Q _ => ∃ (y : V) (n o : Int) (k : Nat), vs = [y] ∧ Num C H y n o k ∧ ∀ H', Ex H H' → Q (.bl true) H'
def spInit (C : Addr) : Sp := fun vs H Q _ => ∃ (s dx : Addr) (n o : Int) (k : Nat) (H0 : Hp), vs = [.ref s, .int n, .int o] ∧ Ex H0 H ∧ H0 s = none ∧ H s = some (.ins C dx []) ∧ o ≠ 0 ∧ n.natAbs < 2 ^ k ∧ o.natAbs < 2 ^ k ∧ k ≤ 8000 ∧
  ∀ H' x z, Ex H0 H' → RObj C H' s x z k → x * o = n * z → Q .non H'
def spRatio (C : Addr) : Sp := fun vs H Q _ => ∃ (y : V) (n o : Int) (k : Nat), vs = [y] ∧ Num C H y n o k ∧ k ≤ 8000 ∧ ∀ H' r, Ex H H' → RObj C H' r n o k → Q (.ref r) H'
theorem mk_rat {C x dx : Addr} {H1 : Hp} {n o : Int} {k : Nat} {Q : VK} {E : XK} (hx : H1 x = none) (hd : H1 dx = none) (ne : dx ≠ x) (ho : o ≠ 0) (b1 : n.natAbs < 2 ^ k) (b2 : o.natAbs < 2 ^ k) (hk : k ≤ 8000) (q : ∀ H2 x' z, Ex H1 H2 → RObj C H2 x x' z k → x' * o = n * z → Q .non H2) :
    spInit C [.ref x, .int n, .int o] (L2.upd (L2.upd H1 dx (.own x)) x (.ins C dx [])) Q E :=
  ⟨x, dx, n, o, k, H1, rfl, (Ex.new hd).trans (Ex.new (by rw [upd_ne ne.symm]; exact hx)), hx, upd_same, ho, b1, b2, hk, q⟩
theorem putF2 (n o : Int) : putF "over" (.int o) (putF "number" (.int n) []) = rFs n o := by
  have a1 : ¬ (("number" : Str) = "over") := by decide +kernel
  simp [putF, rFs, a1]
section
variable {P : Program} {w : World} {K : PySem.W.Frag} {mg : Str → Option Value} {base : Heap}
theorem ok_integer {f : Addr} {fd : FuncData} (F : Fun K "is_integer" "is_integer" s_is_integer f fd) (T : Tx mg) : FnOk P w K mg base CX0 1 f fd ["value"] spIsInt := by
  refine F.ok sc_is_integer (fun vs H Q E h => ?_) (fun cdv A outer s H vs Q E hr h => ?_)
  · obtain ⟨v, rfl, _⟩ := h
    rfl
  · obtain ⟨v, rfl, q⟩ := h
    refine ⟨_, (pss_one (ps_ret (pe_and (pe_callB call_isi (by rfl) T.isinstance PyProof.Rows.boot_isinstance (pa_cons (pv 0) (pa_cons (pe_bltn (v := .ty "int") (by rfl) T.int PyProof.Rows.boot_int rfl) pa_nil))) (pe_one (pe_not (pe_callB call_isi (by rfl) T.isinstance PyProof.Rows.boot_isinstance (pa_cons (pv 0) (pa_cons (pe_bltn (v := .ty "bool") (by rfl) T.bool PyProof.Rows.boot_bool rfl) pa_nil)))))))), ?_⟩
    refine ⟨_, rfl, _, _, _, _, true, rfl, .ty _, .base (.int _), kit_ii, true, rfl, ?_⟩
    exact ⟨_, rfl, _, _, _, _, false, rfl, .ty _, .base (.int _), kit_ib, false, rfl, q H (Ex.refl _)⟩
theorem ok_init {f C : Addr} {fd : FuncData} (F : FunD K "__init__" "Ratio.__init__" (defArgs s_Ratio_init) (defBody s_Ratio_init) (defScope s_Ratio_init) [.int 1] [] f fd) (T : Tx mg) (S : RC K C) (g_gcd : mg "gcd" = some (.builtin "math.gcd")) (c_is_integer : Kn P w K mg base "is_integer" ["value"] 1 spIsInt) :
    FnOk P w K mg base CX0 2 f fd ["self", "number", "over"] (spInit C) := by
  refine F.ok sc_Ratio_init (fun vs H Q E h => ?_) (fun cdv A outer s H vs Q E hr h => ?_)
  · obtain ⟨o, dx, n, p, k, H0, rfl, _⟩ := h
    rfl
  · obtain ⟨o, dx, n, p, k, H0, rfl, e0, ho0, ho, hp, b1, b2, hk, q⟩ := h
    refine ⟨_, (pss_cons (ps_if (PW.pt (pw_or (pt_not (pt_val (pe_call c_is_integer.ok (hr.mono (by decide)) (by rfl) c_is_integer.g c_is_integer.kp c_is_integer.b .nil pass0 (pa_cons (pv 2) pa_nil)))) (pw_or1 (pt_cmpR op_eq (pv 2) pe_int (nomark _))))) (pss_one ps_never) pss_nil)
      (pss_cons (ps_set (i := 3) sc_Ratio_init.nd rfl (Or.inl rfl) (pe_ifExp (pt_cmpR op_gt (pv 2) pe_int (nomark _)) (pe_callBfun cr_gcd (by rfl) g_gcd (pa_cons (pv 1) (pa_cons (pv 2) pa_nil))) (pe_un un_neg (pe_callBfun cr_gcd (by rfl) g_gcd (pa_cons (pv 1) (pa_cons (pv 2) pa_nil))))))
      (pss_cons (ps_fld (pv 0) (pe_op OR.op_fdivWN (pv 1) (pv 3)) rfl)
      (pss_one (ps_fld (pv 0) (pe_op OR.op_fdivWN (pv 2) (pv 3)) rfl))))), ?_⟩
    refine ⟨_, rfl, _, rfl, fun H1 e1 => ⟨true, rfl, ?_⟩⟩
    refine ⟨_, rfl, rfl, _, rfl, ite2 (fun hb => absurd (V.int.inj (of_decide_eq_true hb)) hp) fun _ => ?_⟩
    obtain ⟨sh, hsh, s0, e2, e3, pos, low, l1, l2, ls⟩ := low_spec (n := n) hp
    have lg : sh.natAbs.log2 < 9000 := by
      have := log_lt (pow_up (Nat.lt_of_le_of_lt ls b2) (Nat.le_succ k)) (Nat.succ_pos k)
      omega
    refine' cutP (fun rest => ?_) ?_
    rotate_left
    · refine ⟨_, rfl, _, _, rfl, rfl, _, rfl, ite2 (fun hb => ?_) (fun hb => ?_)⟩
      · have h0 : p > 0 := of_decide_eq_true hb
        refine ⟨_, rfl, _, rfl, _, _, rfl, ?_⟩
        rw [if_pos h0] at hsh
        rw [← hsh]
        exact rest
      · have h0 : ¬ p > 0 := fun z => hb (decide_eq_true z)
        refine ⟨_, rfl, _, rfl, _, _, rfl, _, rfl, ?_⟩
        rw [if_neg h0] at hsh
        show gName 3 (V.int (-((Nat.gcd n.natAbs p.natAbs : Nat) : Int))) _ _ _
        rw [← hsh]
        exact rest
    · have ho1 := e1 _ _ ho
      have e01 := e0.trans e1
      refine ⟨_, rfl, _, rfl, _, _, rfl, rfl, ⟨s0, lg⟩, _, rfl, o, C, dx, _, rfl, ho1, S.cl, S.nn, by show 0 < 1000; decide, ?_⟩
      refine ⟨_, rfl, _, rfl, _, _, rfl, rfl, ⟨s0, lg⟩, _, rfl, o, C, dx, _, rfl, upd_same, S.cl, S.no, by show 1 < 1000; decide, ?_⟩
      refine q _ _ _ ((e01.mut ho0).mut ho0) ⟨⟨dx, ?_⟩, pos, low, Nat.lt_of_le_of_lt l1 b1, Nat.lt_of_le_of_lt l2 b2⟩ ?_
      · rw [upd_same, putF2]
      · generalize n.fdiv sh = x at e2
        generalize p.fdiv sh = y at e3
        rw [e2, e3, Int.mul_assoc, Int.mul_comm sh y]
/-- two are given, or one: then the other is 1 -/
theorem ok_num {f C_Ratio : Addr} {fd : FuncData} (F : Fun K "_is_number" "_is_number" s_is_number f fd) (T : Tx mg) (S : RC K C_Ratio) (g_Ratio : mg "Ratio" = some (.ref C_Ratio)) (c_is_integer : Kn P w K mg base "is_integer" ["value"] 1 spIsInt) : FnOk P w K mg base CX0 2 f fd ["value"] (spIsNum C_Ratio) := by
  refine F.ok sc_is_number (fun vs H Q E h => ?_) (fun cdv A outer s H vs Q E hr h => ?_)
  · obtain ⟨y, n, o, k, rfl, _⟩ := h
    rfl
  · obtain ⟨y, n, o, k, rfl, hy, q⟩ := h
    have I := S.ins
    refine ⟨_, (pss_one (ps_ret (pe_or (pe_callB call_isi (by rfl) T.isinstance PyProof.Rows.boot_isinstance (pa_cons (pv 0) (pa_cons (pe_glob (v := .ref C_Ratio) rfl g_Ratio rfl) pa_nil))) (pe_one (pe_call c_is_integer.ok (hr.mono (by decide)) (by rfl) c_is_integer.g c_is_integer.kp c_is_integer.b .nil pass0 (pa_cons (pv 0) pa_nil)))))), ?_⟩
    cases hy with
    | r R =>
      obtain ⟨⟨dx, h⟩, _⟩ := R
      exact ⟨_, rfl, _, _, _, _, true, rfl, .own _, .base (TyOf.ins h I.cl I.ha I.hn I.htk I.hm), I.me, true, rfl, q H (Ex.refl _)⟩
    | i b hk =>
      refine ⟨_, rfl, _, _, _, _, false, rfl, .own _, .base (.int _), S.ti, false, rfl, ?_⟩
      exact ⟨_, rfl, _, rfl, fun H1 e1 => q H1 e1⟩
theorem ok_ratio {f C_Ratio fi : Addr} {fd fdi : FuncData} {dv : Value} (F : Fun K "_ratio" "_ratio" s_ratio f fd) (T : Tx mg) (S : RC K C_Ratio) (g_Ratio : mg "Ratio" = some (.ref C_Ratio)) (M_Ratio : Mk K C_Ratio fi) (F_Ratio : FnOk P w K mg base CX0 2 fi fdi ["self", "number", "over"] (spInit C_Ratio))
    (b_Ratio1 : Binds K fdi ["self", "number", "over"] [dv]) (v_Ratio : Vals [V.int 1] [dv]) : FnOk P w K mg base CX0 4 f fd ["value"] (spRatio C_Ratio) := by
  refine F.ok sc_ratio (fun vs H Q E h => ?_) (fun cdv A outer s H vs Q E hr h => ?_)
  · obtain ⟨y, n, o, k, rfl, _⟩ := h
    rfl
  · obtain ⟨y, n, o, k, rfl, hy, hk, q⟩ := h
    have I := S.ins
    refine ⟨_, (pss_one (ps_ret (pe_ifExp (pt_val (pe_callB call_isi (by rfl) T.isinstance PyProof.Rows.boot_isinstance (pa_cons (pv 0) (pa_cons (pe_glob (v := .ref C_Ratio) rfl g_Ratio rfl) pa_nil)))) (pv 0) (pe_make M_Ratio F_Ratio (hr.mono (by decide)) (by rfl) g_Ratio b_Ratio1 v_Ratio pass0 (pa_cons (pv 0) pa_nil))))), ?_⟩
    cases hy with
    | r R =>
      obtain ⟨dx, h⟩ := R.at_
      exact ⟨_, rfl, _, _, _, _, true, rfl, .own _, .base (TyOf.ins h I.cl I.ha I.hn I.htk I.hm), I.me, true, rfl, iteT ⟨_, rfl, q H _ (Ex.refl _) R⟩⟩
    | @i n k b hk1 =>
      refine ⟨_, rfl, _, _, _, _, false, rfl, .own _, .base (.int _), S.ti, false, rfl, iteF ?_⟩
      refine ⟨_, rfl, fun x dx hx hdx hne => mk_rat (k := k) hx hdx hne (by decide) b ?_ hk fun H2 x' z e R ee => ⟨rfl, ?_⟩⟩
      · show 1 < 2 ^ k
        exact Nat.one_lt_two_pow (by omega)
      · have hz : z = 1 := by
          have l := R.low
          have p := R.pos
          rw [Int.mul_one] at ee
          rw [ee, Int.natAbs_mul, Nat.gcd_comm, Nat.gcd_mul_left_right] at l
          omega
        subst hz
        rw [Int.mul_one, Int.mul_one] at ee
        subst ee
        exact q _ _ e R
end
end Law

namespace Law
open PySem PySem.Spec PyProof.Rows L2 Evl
theorem Num.up {C : Addr} {H H' : Hp} {y : V} {n o : Int} {k : Nat} (h : Num C H y n o k) (e : Ex H H') : Num C H' y n o k := by
  cases h with
  | r R => exact .r (R.up e)
  | i b hk => exact .i b hk
theorem Num.oth {C : Addr} {H : Hp} {y : V} {n o : Int} {k : Nat} (h : Num C H y n o k) : (∃ b dy gs, y = .ref b ∧ H b = some (.ins C dy gs)) ∨ ∃ i, y = .int i := by
  cases h with
  | r R =>
    obtain ⟨dx, h⟩ := R.at_
    exact .inl ⟨_, _, _, rfl, h⟩
  | i b hk => exact .inr ⟨_, rfl⟩
theorem Num.den {C : Addr} {H : Hp} {y : V} {n o : Int} {k : Nat} (h : Num C H y n o k) : 0 < o := by
  cases h with
  | r R => exact R.pos
  | i b hk => decide
theorem RObj.wid {C a : Addr} {H : Hp} {n o : Int} {k j : Nat} (R : RObj C H a n o k) (h : k ≤ j) : RObj C H a n o j := ⟨R.at_, R.pos, R.low, pow_up R.bn h, pow_up R.bo h⟩
def spAdd (C : Addr) : Sp := fun vs H Q _ => ∃ (a : Addr) (y : V) (n o m p : Int) (k : Nat), vs = [.ref a, y] ∧ RObj C H a n o k ∧ Num C H y m p k ∧ k ≤ 300 ∧ ∀ H' r x z, Ex H H' → RObj C H' r x z (2 * k + 1) → x * (o * p) = (n * p + m * o) * z → Q (.ref r) H'
def spSub (C : Addr) : Sp := fun vs H Q _ => ∃ (a : Addr) (y : V) (n o m p : Int) (k : Nat), vs = [.ref a, y] ∧ RObj C H a n o k ∧ Num C H y m p k ∧ k ≤ 300 ∧ ∀ H' r x z, Ex H H' → RObj C H' r x z (2 * k + 1) → x * (o * p) = (n * p - m * o) * z → Q (.ref r) H'
def spRSub (C : Addr) : Sp := fun vs H Q _ => ∃ (a : Addr) (y : V) (n o m p : Int) (k : Nat), vs = [.ref a, y] ∧ RObj C H a n o k ∧ Num C H y m p k ∧ k ≤ 300 ∧ ∀ H' r x z, Ex H H' → RObj C H' r x z (2 * k + 1) → x * (o * p) = (m * o - n * p) * z → Q (.ref r) H'
def spMul (C : Addr) : Sp := fun vs H Q _ => ∃ (a : Addr) (y : V) (n o m p : Int) (k : Nat), vs = [.ref a, y] ∧ RObj C H a n o k ∧ Num C H y m p k ∧ k ≤ 300 ∧ ∀ H' r x z, Ex H H' → RObj C H' r x z (2 * k + 1) → x * (o * p) = n * m * z → Q (.ref r) H'
def spDiv (C : Addr) : Sp := fun vs H Q _ => ∃ (a : Addr) (y : V) (n o m p : Int) (k : Nat), vs = [.ref a, y] ∧ RObj C H a n o k ∧ Num C H y m p k ∧ m ≠ 0 ∧ k ≤ 300 ∧ ∀ H' r x z, Ex H H' → RObj C H' r x z (2 * k + 1) → x * (o * m) = n * p * z → Q (.ref r) H'
def spNeg (C : Addr) : Sp := fun vs H Q _ => ∃ (a : Addr) (n o : Int) (k : Nat), vs = [.ref a] ∧ RObj C H a n o k ∧ k ≤ 300 ∧ ∀ H' r x z, Ex H H' → RObj C H' r x z k → x * o = -n * z → Q (.ref r) H'
def spAbs (C : Addr) : Sp := fun vs H Q _ => ∃ (a : Addr) (n o : Int) (k : Nat), vs = [.ref a] ∧ RObj C H a n o k ∧ k ≤ 300 ∧ ∀ H' r x z, Ex H H' → RObj C H' r x z k → x * o = (if n < 0 then -n else n) * z → Q (.ref r) H'
def spLess (C : Addr) : Sp := fun vs H Q _ => ∃ (a : Addr) (y : V) (n o m p : Int) (k : Nat), vs = [.ref a, y] ∧ RObj C H a n o k ∧ Num C H y m p k ∧ k ≤ 300 ∧ ∀ H', Ex H H' → Q (.bl (decide (n * p < m * o))) H'
theorem mul0 {a b : Int} (ha : 0 < a) (hb : 0 < b) : a * b ≠ 0 := Int.ne_of_gt (Int.mul_pos ha hb)
section
variable {P : Program} {w : World} {K : PySem.W.Frag} {mg : Str → Option Value} {base : Heap} {C_Ratio fi : Addr} {fdi : FuncData}
theorem ok_add {f : Addr} {fd : FuncData} (F : Fun K "__add__" "Ratio.__add__" s_Ratio_add f fd) (T : Tx mg) (S : RC K C_Ratio) (g_Ratio : mg "Ratio" = some (.ref C_Ratio)) (M_Ratio : Mk K C_Ratio fi) (F_Ratio : FnOk P w K mg base CX0 2 fi fdi ["self", "number", "over"] (spInit C_Ratio)) (b_Ratio : Binds K fdi ["self", "number", "over"] [])
    (c_is_number : Kn P w K mg base "_is_number" ["value"] 2 (spIsNum C_Ratio)) (c_ratio : Kn P w K mg base "_ratio" ["value"] 4 (spRatio C_Ratio)) : FnOk P w K mg base CX0 5 f fd ["self", "other"] (spAdd C_Ratio) := by
  refine F.ok sc_Ratio_add (fun vs H Q E h => ?_) (fun cdv A outer s H vs Q E hr h => ?_)
  · obtain ⟨a, y, n, o, m, p, k, rfl, _⟩ := h
    rfl
  · obtain ⟨a, y, n, o, m, p, k, rfl, R, N, hk, q⟩ := h
    refine ⟨_, (pss_cons (ps_if (pt_not (pt_val (pe_call c_is_number.ok (hr.mono (by decide)) (by rfl) c_is_number.g c_is_number.kp c_is_number.b .nil pass0 (pa_cons (pv 1) pa_nil)))) (pss_one ps_never) pss_nil)
      (pss_cons (ps_set (i := 2) sc_Ratio_add.nd rfl (Or.inl rfl) (pe_call c_ratio.ok (hr.mono (by decide)) (by rfl) c_ratio.g c_ratio.kp c_ratio.b .nil pass0 (pa_cons (pv 1) pa_nil)))
      (pss_one (ps_ret (pe_make M_Ratio F_Ratio (hr.mono (by decide)) (by rfl) g_Ratio b_Ratio .nil pass0 (pa_cons (pe_op op_add (pe_op op_mulW (pe_fld (pv 0) rfl) (pe_fld (pv 2) rfl)) (pe_op op_mulW (pe_fld (pv 2) rfl) (pe_fld (pv 0) rfl))) (pa_cons (pe_op op_mulW (pe_fld (pv 0) rfl) (pe_fld (pv 2) rfl)) pa_nil))))))), ?_⟩
    refine ⟨_, rfl, y, m, p, k, rfl, N, fun H1 e1 => ⟨true, rfl, ?_⟩⟩
    refine ⟨_, rfl, y, m, p, k, rfl, N.up e1, by omega, fun H2 r e2 R2 => ?_⟩
    have R1 := R.up (e1.trans e2)
    obtain ⟨d1, h1⟩ := R1.at_
    obtain ⟨d2, h2⟩ := R2.at_
    refine ⟨_, rfl, a, _, d1, _, _, rfl, h1, S.cl, S.nn, rFs_n _ _, _, rfl, r, _, d2, _, _, rfl, h2, S.cl, S.no, rFs_o _ _, _, _, rfl, rfl, mulW R1.bn R2.bo (by omega), ?_⟩
    refine ⟨_, rfl, r, _, d2, _, _, rfl, h2, S.cl, S.nn, rFs_n _ _, _, rfl, a, _, d1, _, _, rfl, h1, S.cl, S.no, rFs_o _ _, _, _, rfl, rfl, mulW R2.bn R1.bo (by omega), _, _, rfl, rfl, ?_⟩
    refine ⟨_, rfl, a, _, d1, _, _, rfl, h1, S.cl, S.no, rFs_o _ _, _, rfl, r, _, d2, _, _, rfl, h2, S.cl, S.no, rFs_o _ _, _, _, rfl, rfl, mulW R1.bo R2.bo (by omega), ?_⟩
    refine fun x dx hx hdx hne => mk_rat (k := 2 * k + 1) hx hdx hne (mul0 R1.pos R2.pos) (addB (mulB R1.bn R2.bo) (mulB R2.bn R1.bo)) (pow_up (mulB R1.bo R2.bo) (by omega)) (by omega) fun H3 x' z e3 R3 ee => ⟨rfl, ?_⟩
    exact q _ _ _ _ ((e1.trans e2).trans e3) R3 ee
theorem ok_mul {f : Addr} {fd : FuncData} (F : Fun K "__mul__" "Ratio.__mul__" s_Ratio_mul f fd) (T : Tx mg) (S : RC K C_Ratio) (g_Ratio : mg "Ratio" = some (.ref C_Ratio)) (M_Ratio : Mk K C_Ratio fi) (F_Ratio : FnOk P w K mg base CX0 2 fi fdi ["self", "number", "over"] (spInit C_Ratio)) (b_Ratio : Binds K fdi ["self", "number", "over"] [])
    (c_is_number : Kn P w K mg base "_is_number" ["value"] 2 (spIsNum C_Ratio)) (c_ratio : Kn P w K mg base "_ratio" ["value"] 4 (spRatio C_Ratio)) : FnOk P w K mg base CX0 5 f fd ["self", "other"] (spMul C_Ratio) := by
  refine F.ok sc_Ratio_mul (fun vs H Q E h => ?_) (fun cdv A outer s H vs Q E hr h => ?_)
  · obtain ⟨a, y, n, o, m, p, k, rfl, _⟩ := h
    rfl
  · obtain ⟨a, y, n, o, m, p, k, rfl, R, N, hk, q⟩ := h
    refine ⟨_, (pss_cons (ps_if (pt_not (pt_val (pe_call c_is_number.ok (hr.mono (by decide)) (by rfl) c_is_number.g c_is_number.kp c_is_number.b .nil pass0 (pa_cons (pv 1) pa_nil)))) (pss_one ps_never) pss_nil)
      (pss_cons (ps_set (i := 2) sc_Ratio_mul.nd rfl (Or.inl rfl) (pe_call c_ratio.ok (hr.mono (by decide)) (by rfl) c_ratio.g c_ratio.kp c_ratio.b .nil pass0 (pa_cons (pv 1) pa_nil)))
      (pss_one (ps_ret (pe_make M_Ratio F_Ratio (hr.mono (by decide)) (by rfl) g_Ratio b_Ratio .nil pass0 (pa_cons (pe_op op_mulW (pe_fld (pv 0) rfl) (pe_fld (pv 2) rfl)) (pa_cons (pe_op op_mulW (pe_fld (pv 0) rfl) (pe_fld (pv 2) rfl)) pa_nil))))))), ?_⟩
    refine ⟨_, rfl, y, m, p, k, rfl, N, fun H1 e1 => ⟨true, rfl, ?_⟩⟩
    refine ⟨_, rfl, y, m, p, k, rfl, N.up e1, by omega, fun H2 r e2 R2 => ?_⟩
    have R1 := R.up (e1.trans e2)
    obtain ⟨d1, h1⟩ := R1.at_
    obtain ⟨d2, h2⟩ := R2.at_
    refine ⟨_, rfl, a, _, d1, _, _, rfl, h1, S.cl, S.nn, rFs_n _ _, _, rfl, r, _, d2, _, _, rfl, h2, S.cl, S.nn, rFs_n _ _, _, _, rfl, rfl, mulW R1.bn R2.bn (by omega), ?_⟩
    refine ⟨_, rfl, a, _, d1, _, _, rfl, h1, S.cl, S.no, rFs_o _ _, _, rfl, r, _, d2, _, _, rfl, h2, S.cl, S.no, rFs_o _ _, _, _, rfl, rfl, mulW R1.bo R2.bo (by omega), ?_⟩
    refine fun x dx hx hdx hne => mk_rat (k := 2 * k + 1) hx hdx hne (mul0 R1.pos R2.pos) (pow_up (mulB R1.bn R2.bn) (by omega)) (pow_up (mulB R1.bo R2.bo) (by omega)) (by omega) fun H3 x' z e3 R3 ee => ⟨rfl, ?_⟩
    exact q _ _ _ _ ((e1.trans e2).trans e3) R3 ee
theorem ok_divided {f : Addr} {fd : FuncData} (F : Fun K "divided" "Ratio.divided" s_Ratio_divided f fd) (T : Tx mg) (S : RC K C_Ratio) (g_Ratio : mg "Ratio" = some (.ref C_Ratio)) (M_Ratio : Mk K C_Ratio fi) (F_Ratio : FnOk P w K mg base CX0 2 fi fdi ["self", "number", "over"] (spInit C_Ratio)) (b_Ratio : Binds K fdi ["self", "number", "over"] [])
    (c_is_number : Kn P w K mg base "_is_number" ["value"] 2 (spIsNum C_Ratio)) (c_ratio : Kn P w K mg base "_ratio" ["value"] 4 (spRatio C_Ratio)) : FnOk P w K mg base CX0 5 f fd ["self", "other"] (spDiv C_Ratio) := by
  refine F.ok sc_Ratio_divided (fun vs H Q E h => ?_) (fun cdv A outer s H vs Q E hr h => ?_)
  · obtain ⟨a, y, n, o, m, p, k, rfl, _⟩ := h
    rfl
  · obtain ⟨a, y, n, o, m, p, k, rfl, R, N, hm, hk, q⟩ := h
    refine ⟨_, (pss_cons (ps_if (pt_not (pt_val (pe_call c_is_number.ok (hr.mono (by decide)) (by rfl) c_is_number.g c_is_number.kp c_is_number.b .nil pass0 (pa_cons (pv 1) pa_nil)))) (pss_one ps_never) pss_nil)
      (pss_cons (ps_set (i := 2) sc_Ratio_divided.nd rfl (Or.inl rfl) (pe_call c_ratio.ok (hr.mono (by decide)) (by rfl) c_ratio.g c_ratio.kp c_ratio.b .nil pass0 (pa_cons (pv 1) pa_nil)))
      (pss_one (ps_ret (pe_make M_Ratio F_Ratio (hr.mono (by decide)) (by rfl) g_Ratio b_Ratio .nil pass0 (pa_cons (pe_op op_mulW (pe_fld (pv 0) rfl) (pe_fld (pv 2) rfl)) (pa_cons (pe_op op_mulW (pe_fld (pv 0) rfl) (pe_fld (pv 2) rfl)) pa_nil))))))), ?_⟩
    refine ⟨_, rfl, y, m, p, k, rfl, N, fun H1 e1 => ⟨true, rfl, ?_⟩⟩
    refine ⟨_, rfl, y, m, p, k, rfl, N.up e1, by omega, fun H2 r e2 R2 => ?_⟩
    have R1 := R.up (e1.trans e2)
    obtain ⟨d1, h1⟩ := R1.at_
    obtain ⟨d2, h2⟩ := R2.at_
    refine ⟨_, rfl, a, _, d1, _, _, rfl, h1, S.cl, S.nn, rFs_n _ _, _, rfl, r, _, d2, _, _, rfl, h2, S.cl, S.no, rFs_o _ _, _, _, rfl, rfl, mulW R1.bn R2.bo (by omega), ?_⟩
    refine ⟨_, rfl, a, _, d1, _, _, rfl, h1, S.cl, S.no, rFs_o _ _, _, rfl, r, _, d2, _, _, rfl, h2, S.cl, S.nn, rFs_n _ _, _, _, rfl, rfl, mulW R1.bo R2.bn (by omega), ?_⟩
    refine fun x dx hx hdx hne => mk_rat (k := 2 * k + 1) hx hdx hne (Int.mul_ne_zero (Int.ne_of_gt R1.pos) hm) (pow_up (mulB R1.bn R2.bo) (by omega)) (pow_up (mulB R1.bo R2.bn) (by omega)) (by omega) fun H3 x' z e3 R3 ee => ⟨rfl, ?_⟩
    exact q _ _ _ _ ((e1.trans e2).trans e3) R3 ee
theorem ok_neg {f : Addr} {fd : FuncData} (F : Fun K "__neg__" "Ratio.__neg__" s_Ratio_neg f fd) (T : Tx mg) (S : RC K C_Ratio) (g_Ratio : mg "Ratio" = some (.ref C_Ratio)) (M_Ratio : Mk K C_Ratio fi) (F_Ratio : FnOk P w K mg base CX0 2 fi fdi ["self", "number", "over"] (spInit C_Ratio)) (b_Ratio : Binds K fdi ["self", "number", "over"] []) :
    FnOk P w K mg base CX0 4 f fd ["self"] (spNeg C_Ratio) := by
  refine F.ok sc_Ratio_neg (fun vs H Q E h => ?_) (fun cdv A outer s H vs Q E hr h => ?_)
  · obtain ⟨a, n, o, k, rfl, _⟩ := h
    rfl
  · obtain ⟨a, n, o, k, rfl, R, hk, q⟩ := h
    refine ⟨_, (pss_one (ps_ret (pe_make M_Ratio F_Ratio (hr.mono (by decide)) (by rfl) g_Ratio b_Ratio .nil pass0 (pa_cons (pe_un un_neg (pe_fld (pv 0) rfl)) (pa_cons (pe_fld (pv 0) rfl) pa_nil))))), ?_⟩
    obtain ⟨d1, h1⟩ := R.at_
    refine ⟨_, rfl, a, _, d1, _, _, rfl, h1, S.cl, S.nn, rFs_n _ _, _, rfl, _, rfl, a, _, d1, _, _, rfl, h1, S.cl, S.no, rFs_o _ _, ?_⟩
    exact fun x dx hx hdx hne => mk_rat (k := k) hx hdx hne (Int.ne_of_gt R.pos) (by rw [Int.natAbs_neg]; exact R.bn) R.bo (by omega) fun H3 x' z e3 R3 ee => ⟨rfl, q _ _ _ _ e3 R3 ee⟩
theorem ok_abs {f : Addr} {fd : FuncData} (F : Fun K "__abs__" "Ratio.__abs__" s_Ratio_abs f fd) (T : Tx mg) (S : RC K C_Ratio) (g_Ratio : mg "Ratio" = some (.ref C_Ratio)) (M_Ratio : Mk K C_Ratio fi) (F_Ratio : FnOk P w K mg base CX0 2 fi fdi ["self", "number", "over"] (spInit C_Ratio)) (b_Ratio : Binds K fdi ["self", "number", "over"] []) :
    FnOk P w K mg base CX0 4 f fd ["self"] (spAbs C_Ratio) := by
  refine F.ok sc_Ratio_abs (fun vs H Q E h => ?_) (fun cdv A outer s H vs Q E hr h => ?_)
  · obtain ⟨a, n, o, k, rfl, _⟩ := h
    rfl
  · obtain ⟨a, n, o, k, rfl, R, hk, q⟩ := h
    refine ⟨_, (pss_one (ps_ret (pe_make M_Ratio F_Ratio (hr.mono (by decide)) (by rfl) g_Ratio b_Ratio .nil pass0 (pa_cons (pe_callB call_abs (by rfl) T.abs (by decide +kernel) (pa_cons (pe_fld (pv 0) rfl) pa_nil)) (pa_cons (pe_fld (pv 0) rfl) pa_nil))))), ?_⟩
    obtain ⟨d1, h1⟩ := R.at_
    refine ⟨_, rfl, a, _, d1, _, _, rfl, h1, S.cl, S.nn, rFs_n _ _, _, rfl, _, rfl, a, _, d1, _, _, rfl, h1, S.cl, S.no, rFs_o _ _, ?_⟩
    refine fun x dx hx hdx hne => mk_rat (k := k) hx hdx hne (Int.ne_of_gt R.pos) ?_ R.bo (by omega) fun H3 x' z e3 R3 ee => ⟨rfl, q _ _ _ _ e3 R3 ee⟩
    have b := R.bn
    by_cases h : n < 0
    · rw [if_pos h, Int.natAbs_neg]
      exact b
    · rw [if_neg h]
      exact b
theorem ok_less {f : Addr} {fd : FuncData} (F : Fun K "is_less" "Ratio.is_less" s_Ratio_is_less f fd) (T : Tx mg) (S : RC K C_Ratio) (c_ratio : Kn P w K mg base "_ratio" ["value"] 4 (spRatio C_Ratio)) : FnOk P w K mg base CX0 5 f fd ["self", "other"] (spLess C_Ratio) := by
  refine F.ok sc_Ratio_is_less (fun vs H Q E h => ?_) (fun cdv A outer s H vs Q E hr h => ?_)
  · obtain ⟨a, y, n, o, m, p, k, rfl, _⟩ := h
    rfl
  · obtain ⟨a, y, n, o, m, p, k, rfl, R, N, hk, q⟩ := h
    refine ⟨_, (pss_cons (ps_set (i := 2) sc_Ratio_is_less.nd rfl (Or.inl rfl) (pe_call c_ratio.ok (hr.mono (by decide)) (by rfl) c_ratio.g c_ratio.kp c_ratio.b .nil pass0 (pa_cons (pv 1) pa_nil)))
      (pss_one (ps_ret (pe_cmpR op_lt (pe_op op_mulW (pe_fld (pv 0) rfl) (pe_fld (pv 2) rfl)) (pe_op op_mulW (pe_fld (pv 2) rfl) (pe_fld (pv 0) rfl)) (nomark _))))), ?_⟩
    refine ⟨_, rfl, y, m, p, k, rfl, N, by omega, fun H2 r e2 R2 => ?_⟩
    have R1 := R.up e2
    obtain ⟨d1, h1⟩ := R1.at_
    obtain ⟨d2, h2⟩ := R2.at_
    refine ⟨_, rfl, a, _, d1, _, _, rfl, h1, S.cl, S.nn, rFs_n _ _, _, rfl, r, _, d2, _, _, rfl, h2, S.cl, S.no, rFs_o _ _, _, _, rfl, rfl, mulW R1.bn R2.bo (by omega), ?_⟩
    refine ⟨_, rfl, r, _, d2, _, _, rfl, h2, S.cl, S.nn, rFs_n _ _, _, rfl, a, _, d1, _, _, rfl, h1, S.cl, S.no, rFs_o _ _, _, _, rfl, rfl, mulW R2.bn R1.bo (by omega), _, _, rfl, rfl, ?_⟩
    exact q _ e2
end
end Law

namespace Law
open PySem PySem.Spec PyProof.Rows L2 Evl
theorem low_uniq {n o m p : Int} (ho : 0 < o) (hp : 0 < p) (h1 : Nat.gcd n.natAbs o.natAbs = 1) (h2 : Nat.gcd m.natAbs p.natAbs = 1) (h : n * p = m * o) : n = m ∧ o = p := by
  have hN : n.natAbs * p.natAbs = m.natAbs * o.natAbs := by rw [← Int.natAbs_mul, ← Int.natAbs_mul, h]
  have d1 : o.natAbs ∣ p.natAbs := Nat.Coprime.dvd_of_dvd_mul_left (show Nat.gcd o.natAbs n.natAbs = 1 by rw [Nat.gcd_comm]; exact h1) (by rw [hN]; exact Nat.dvd_mul_left _ _)
  have d2 : p.natAbs ∣ o.natAbs := Nat.Coprime.dvd_of_dvd_mul_left (show Nat.gcd p.natAbs m.natAbs = 1 by rw [Nat.gcd_comm]; exact h2) (by rw [← hN]; exact Nat.dvd_mul_left _ _)
  have e := Nat.dvd_antisymm d1 d2
  have e2 : o = p := by omega
  subst e2
  exact ⟨Int.eq_of_mul_eq_mul_right (by omega) h, rfl⟩
theorem sub_alg {x z m p o n x2 z2 : Int} (ee : x * p = -m * z) (e4 : x2 * (o * z) = (n * z + x * o) * z2) (hz : 0 < z) : x2 * (o * p) = (n * p - m * o) * z2 := by
  have h : (x2 * (o * p)) * z = ((n * p - m * o) * z2) * z := by grind
  exact Int.eq_of_mul_eq_mul_right (by omega) h
theorem sub_alg1 {m o n x2 z2 : Int} (e4 : x2 * (o * 1) = (n * 1 + -m * o) * z2) : x2 * (o * 1) = (n * 1 - m * o) * z2 := by grind
theorem rsub_alg {x z m p o n x2 z2 : Int} (ee : x * o = -n * z) (e4 : x2 * (z * p) = (x * p + m * z) * z2) (hz : 0 < z) : x2 * (o * p) = (m * o - n * p) * z2 := by
  have h : (x2 * (o * p)) * z = ((m * o - n * p) * z2) * z := by grind
  exact Int.eq_of_mul_eq_mul_right (by omega) h
def spEq (C : Addr) : Sp := fun vs H Q _ => ∃ (a : Addr) (y : V) (n o : Int) (k : Nat) (d : Bool), vs = [.ref a, y] ∧ RObj C H a n o k ∧ ((∃ b m p j, y = .ref b ∧ RObj C H b m p j ∧ (d = true ↔ n = m ∧ o = p)) ∨ (((∃ i, y = .int i) ∨ ∃ z, y = .str z) ∧ d = false)) ∧ ∀ H', Ex H H' → Q (.bl d) H'
section
variable {P : Program} {w : World} {K : PySem.W.Frag} {mg : Str → Option Value} {base : Heap} {C_Ratio fa fra fn fm frm : Addr} {fda fdn fdm : FuncData}
theorem ok_radd {f : Addr} {fd : FuncData} (F : Fun K "__radd__" "Ratio.__radd__" s_Ratio_radd f fd) (T : Tx mg) (O_add : OR.Op K C_Ratio fa "add") (R_add : OR.OpR2 K C_Ratio fra "add") (F_add : FnOk P w K mg base CX0 5 fa fda ["self", "other"] (spAdd C_Ratio)) (b_add : Binds K fda ["self", "other"] []) :
    FnOk P w K mg base CX0 6 f fd ["self", "other"] (spAdd C_Ratio) := by
  refine F.ok sc_Ratio_radd (fun vs H Q E h => ?_) (fun cdv A outer s H vs Q E hr h => ?_)
  · obtain ⟨a, y, n, o, m, p, k, rfl, _⟩ := h
    rfl
  · obtain ⟨a, y, n, o, m, p, k, rfl, R, N, hk, q⟩ := h
    refine ⟨_, (pss_one (ps_ret (pe_op (OR.op_add O_add R_add F_add b_add (hr.mono (by decide))) (pv 0) (pv 1)))), ?_⟩
    obtain ⟨d1, h1⟩ := R.at_
    exact ⟨_, rfl, _, rfl, a, d1, _, rfl, h1, N.oth, a, y, n, o, m, p, k, rfl, R, N, hk, fun H' r x z e R' ee => ⟨r, rfl, q _ _ _ _ e R' ee⟩⟩
theorem ok_rmul {f : Addr} {fd : FuncData} (F : Fun K "__rmul__" "Ratio.__rmul__" s_Ratio_rmul f fd) (T : Tx mg) (O_mul : OR.Op K C_Ratio fm "mul") (R_mul : OR.OpR2 K C_Ratio frm "mul") (F_mul : FnOk P w K mg base CX0 5 fm fdm ["self", "other"] (spMul C_Ratio)) (b_mul : Binds K fdm ["self", "other"] []) :
    FnOk P w K mg base CX0 6 f fd ["self", "other"] (spMul C_Ratio) := by
  refine F.ok sc_Ratio_rmul (fun vs H Q E h => ?_) (fun cdv A outer s H vs Q E hr h => ?_)
  · obtain ⟨a, y, n, o, m, p, k, rfl, _⟩ := h
    rfl
  · obtain ⟨a, y, n, o, m, p, k, rfl, R, N, hk, q⟩ := h
    refine ⟨_, (pss_one (ps_ret (pe_op (OR.op_mul O_mul R_mul F_mul b_mul (hr.mono (by decide))) (pv 0) (pv 1)))), ?_⟩
    obtain ⟨d1, h1⟩ := R.at_
    exact ⟨_, rfl, _, rfl, a, d1, _, rfl, h1, N.oth, a, y, n, o, m, p, k, rfl, R, N, hk, fun H' r x z e R' ee => ⟨r, rfl, q _ _ _ _ e R' ee⟩⟩
theorem ok_sub {f : Addr} {fd : FuncData} (F : Fun K "__sub__" "Ratio.__sub__" s_Ratio_sub f fd) (T : Tx mg) (O_add : OR.Op K C_Ratio fa "add") (R_add : OR.OpR2 K C_Ratio fra "add") (F_add : FnOk P w K mg base CX0 5 fa fda ["self", "other"] (spAdd C_Ratio)) (b_add : Binds K fda ["self", "other"] [])
    (n_at : PySem.W.findIn K (.ref C_Ratio) "__neg__" = some (some (.ref fn))) (n_fn : PySem.W.isFn K (.ref fn) = true) (F_neg : FnOk P w K mg base CX0 4 fn fdn ["self"] (spNeg C_Ratio)) (b_neg : Binds K fdn ["self"] []) (c_is_number : Kn P w K mg base "_is_number" ["value"] 2 (spIsNum C_Ratio)) :
    FnOk P w K mg base CX0 6 f fd ["self", "other"] (spSub C_Ratio) := by
  refine F.ok sc_Ratio_sub (fun vs H Q E h => ?_) (fun cdv A outer s H vs Q E hr h => ?_)
  · obtain ⟨a, y, n, o, m, p, k, rfl, _⟩ := h
    rfl
  · obtain ⟨a, y, n, o, m, p, k, rfl, R, N, hk, q⟩ := h
    refine ⟨_, (pss_cons (ps_if (pt_not (pt_val (pe_call c_is_number.ok (hr.mono (by decide)) (by rfl) c_is_number.g c_is_number.kp c_is_number.b .nil pass0 (pa_cons (pv 1) pa_nil)))) (pss_one ps_never) pss_nil)
      (pss_one (ps_ret (pe_op (OR.op_add O_add R_add F_add b_add (hr.mono (by decide))) (pv 0) (pe_un (OR.un_both n_at n_fn F_neg b_neg (hr.mono (by decide))) (pv 1)))))), ?_⟩
    refine ⟨_, rfl, y, m, p, k, rfl, N, fun H1 e1 => ⟨true, rfl, ?_⟩⟩
    have R1 := R.up e1
    have N1 := N.up e1
    cases N1 with
    | @r b m p k R2 =>
      obtain ⟨d2, h2⟩ := R2.at_
      refine ⟨_, rfl, _, rfl, .inl ⟨b, d2, _, rfl, h2, b, m, p, k, rfl, R2, hk, fun H2 r2 x z e2 R3 ee => ?_⟩⟩
      have R4 := R1.up e2
      obtain ⟨d1, h1⟩ := R4.at_
      exact ⟨a, d1, _, rfl, h1, (Num.r R3).oth, a, .ref r2, n, o, x, z, k, rfl, R4, .r R3, hk, fun H3 r x2 z2 e3 R5 e4 => ⟨r, rfl, q _ _ _ _ ((e1.trans e2).trans e3) R5 (sub_alg ee e4 R3.pos)⟩⟩
    | @i m k b hk1 =>
      obtain ⟨d1, h1⟩ := R1.at_
      refine ⟨_, rfl, _, rfl, .inr ⟨m, rfl, a, d1, _, rfl, h1, .inr ⟨_, rfl⟩, a, .int (-m), n, o, -m, 1, k, rfl, R1, .i (by rw [Int.natAbs_neg]; exact b) hk1, hk, fun H3 r x2 z2 e3 R5 e4 => ⟨r, rfl, q _ _ _ _ (e1.trans e3) R5 (sub_alg1 e4)⟩⟩⟩
theorem ok_rsub {f : Addr} {fd : FuncData} (F : Fun K "__rsub__" "Ratio.__rsub__" s_Ratio_rsub f fd) (T : Tx mg) (O_add : OR.Op K C_Ratio fa "add") (R_add : OR.OpR2 K C_Ratio fra "add") (F_add : FnOk P w K mg base CX0 5 fa fda ["self", "other"] (spAdd C_Ratio)) (b_add : Binds K fda ["self", "other"] [])
    (n_at : PySem.W.findIn K (.ref C_Ratio) "__neg__" = some (some (.ref fn))) (n_fn : PySem.W.isFn K (.ref fn) = true) (F_neg : FnOk P w K mg base CX0 4 fn fdn ["self"] (spNeg C_Ratio)) (b_neg : Binds K fdn ["self"] []) :
    FnOk P w K mg base CX0 6 f fd ["self", "other"] (spRSub C_Ratio) := by
  refine F.ok sc_Ratio_rsub (fun vs H Q E h => ?_) (fun cdv A outer s H vs Q E hr h => ?_)
  · obtain ⟨a, y, n, o, m, p, k, rfl, _⟩ := h
    rfl
  · obtain ⟨a, y, n, o, m, p, k, rfl, R, N, hk, q⟩ := h
    refine ⟨_, (pss_one (ps_ret (pe_op (OR.op_add O_add R_add F_add b_add (hr.mono (by decide))) (pe_un (OR.un_both n_at n_fn F_neg b_neg (hr.mono (by decide))) (pv 0)) (pv 1)))), ?_⟩
    obtain ⟨d1, h1⟩ := R.at_
    refine ⟨_, rfl, .inl ⟨a, d1, _, rfl, h1, a, n, o, k, rfl, R, hk, fun H2 r2 x z e2 R3 ee => ?_⟩⟩
    obtain ⟨d3, h3⟩ := R3.at_
    exact ⟨_, rfl, r2, d3, _, rfl, h3, (N.up e2).oth, r2, y, x, z, m, p, k, rfl, R3, N.up e2, hk, fun H3 r x2 z2 e3 R5 e4 => ⟨r, rfl, q _ _ _ _ (e2.trans e3) R5 (rsub_alg ee e4 R3.pos)⟩⟩
theorem ok_eq {f : Addr} {fd : FuncData} (F : Fun K "__eq__" "Ratio.__eq__" s_Ratio_eq f fd) (T : Tx mg) (S : RC K C_Ratio) (g_Ratio : mg "Ratio" = some (.ref C_Ratio)) : FnOk P w K mg base CX0 1 f fd ["self", "other"] (spEq C_Ratio) := by
  refine F.ok sc_Ratio_eq (fun vs H Q E h => ?_) (fun cdv A outer s H vs Q E hr h => ?_)
  · obtain ⟨a, y, n, o, k, d, rfl, _⟩ := h
    rfl
  · obtain ⟨a, y, n, o, k, d, rfl, R, N, q⟩ := h
    have I := S.ins
    refine ⟨_, (pss_one (ps_ret (pe_and (pe_callB call_isi (by rfl) T.isinstance PyProof.Rows.boot_isinstance (pa_cons (pv 1) (pa_cons (pe_glob (v := .ref C_Ratio) rfl g_Ratio rfl) pa_nil))) (pe_and (pe_cmpR op_eq (pe_fld (pv 0) rfl) (pe_fld (pv 1) rfl) (nomark _)) (pe_one (pe_cmpR op_eq (pe_fld (pv 0) rfl) (pe_fld (pv 1) rfl) (nomark _))))))), ?_⟩
    obtain ⟨d1, h1⟩ := R.at_
    have q2 := q H (Ex.refl _)
    rcases N with ⟨b, m, p, j, rfl, R2, hd⟩ | ⟨hy, rfl⟩
    · obtain ⟨d2, h2⟩ := R2.at_
      refine ⟨_, rfl, _, _, _, _, true, rfl, .own _, .base (TyOf.ins h2 I.cl I.ha I.hn I.htk I.hm), I.me, true, rfl, ?_⟩
      refine ⟨_, rfl, a, _, d1, _, _, rfl, h1, S.cl, S.nn, rFs_n _ _, _, rfl, b, _, d2, _, _, rfl, h2, S.cl, S.nn, rFs_n _ _, rfl, ?_⟩
      by_cases hn : n = m
      · rw [decide_eq_true (show V.int n = V.int m by rw [hn])]
        refine ⟨true, rfl, ?_⟩
        refine ⟨_, rfl, a, _, d1, _, _, rfl, h1, S.cl, S.no, rFs_o _ _, _, rfl, b, _, d2, _, _, rfl, h2, S.cl, S.no, rFs_o _ _, rfl, ?_⟩
        by_cases ho : o = p
        · rw [decide_eq_true (show V.int o = V.int p by rw [ho])]
          rw [hd.mpr ⟨hn, ho⟩] at q2
          exact q2
        · rw [decide_eq_false (fun z => ho (V.int.inj z))]
          have : d = false := by
            cases d
            · rfl
            · exact absurd (hd.mp rfl).2 ho
          rw [this] at q2
          exact q2
      · rw [decide_eq_false (fun z => hn (V.int.inj z))]
        refine ⟨false, rfl, ?_⟩
        have : d = false := by
          cases d
          · rfl
          · exact absurd (hd.mp rfl).1 hn
        rw [this] at q2
        exact q2
    · rcases hy with ⟨i, rfl⟩ | ⟨z, rfl⟩
      · exact ⟨_, rfl, _, _, _, _, false, rfl, .own _, .base (.int _), S.ti, false, rfl, q2⟩
      · exact ⟨_, rfl, _, _, _, _, false, rfl, .own _, .base (.str _), S.ts, false, rfl, q2⟩
end
end Law

namespace Law
open PySem PySem.Spec PyProof.Rows L2 Evl
/-! ### digits -/
def padL (k m : Nat) : List Nat := List.replicate (k - (TL.numL m).length) 48 ++ TL.numL m
theorem num_cut : ∀ (k n : Nat), 10 ^ (k + 1) ≤ n → TL.numL n = TL.numL (n / 10 ^ (k + 1)) ++ padL (k + 1) (n % 10 ^ (k + 1))
  | 0, n, h => by
    have h10 : 10 ≤ n := by simpa using h
    rw [TL.numL_step h10]
    show _ = TL.numL (n / 10 ^ 1) ++ padL 1 (n % 10 ^ 1)
    rw [Nat.pow_one]
    unfold padL
    rw [TL.numL_lt (Nat.mod_lt n (by decide))]
    rfl
  | k + 1, n, h => by
    have h10 : 10 ≤ n := Nat.le_trans (by rw [Nat.pow_succ]; exact Nat.le_mul_of_pos_left _ (Nat.pow_pos (by decide))) h
    have hq : 10 ^ (k + 1) ≤ n / 10 := by
      rw [Nat.le_div_iff_mul_le (by decide)]
      rw [Nat.pow_succ] at h
      exact h
    rw [TL.numL_step h10, num_cut k (n / 10) hq, Nat.div_div_eq_div_mul, show 10 * 10 ^ (k + 1) = 10 ^ (k + 2) by rw [Nat.pow_succ 10 (k + 1), Nat.mul_comm], List.append_assoc]
    refine congrArg (TL.numL (n / 10 ^ (k + 2)) ++ ·) ?_
    have hr : n % 10 ^ (k + 2) = n % 10 + 10 * (n / 10 % 10 ^ (k + 1)) := by
      rw [Nat.pow_succ 10 (k + 1), Nat.mul_comm (10 ^ (k + 1)) 10, Nat.mod_mul]
    generalize n / 10 % 10 ^ (k + 1) = x at hr
    have hd : n % 10 < 10 := Nat.mod_lt n (by decide)
    generalize n % 10 = d at hr hd
    rw [hr]
    unfold padL
    by_cases hx : x = 0
    · subst hx
      rw [show d + 10 * 0 = d from rfl, TL.numL_lt hd, TL.numL_lt (show 0 < 10 by decide)]
      show List.replicate k 48 ++ [48] ++ [48 + d] = List.replicate (k + 1) 48 ++ [48 + d]
      rw [List.replicate_succ']
    · have h2 : 10 ≤ d + 10 * x := by omega
      rw [TL.numL_step h2, show (d + 10 * x) / 10 = x by omega, show (d + 10 * x) % 10 = d by omega, List.length_append, List.length_singleton, List.append_assoc]
      rw [show k + 1 + 1 - ((TL.numL x).length + 1) = k + 1 - (TL.numL x).length by omega]
theorem num_ge : ∀ (n c : Nat), c ∈ TL.numL n → 48 ≤ c := by
  intro n
  induction n using Nat.strongRecOn with
  | _ n ih =>
    intro c hc
    by_cases h : n < 10
    · rw [TL.numL_lt h] at hc
      rw [List.mem_singleton.mp hc]
      omega
    · rw [TL.numL_step (by omega)] at hc
      rcases List.mem_append.mp hc with q | q
      · exact ih _ (by omega) c q
      · rw [List.mem_singleton.mp q]
        omega
theorem num_short : ∀ (k n : Nat), n < 10 ^ (k + 1) → (TL.numL n).length ≤ k + 1
  | 0, n, h => by
    rw [TL.numL_lt (by simpa using h)]
    exact Nat.le_refl _
  | k + 1, n, h => by
    by_cases h2 : n < 10
    · rw [TL.numL_lt h2]
      show 1 ≤ k + 1 + 1
      omega
    · rw [TL.numL_step (by omega), List.length_append]
      have := num_short k (n / 10) (by rw [Nat.div_lt_iff_lt_mul (by decide)]; rw [Nat.pow_succ] at h; exact h)
      show _ + 1 ≤ _
      omega
theorem ofS_app (a b : String) : Str.ofString (a ++ b) = Str.ofString a ++ Str.ofString b := TL.ext_tl (by rw [TL.tl_append, TL.tl_ofString, TL.tl_ofString, TL.tl_ofString, String.toList_append, List.map_append])
theorem num_neg (n : Nat) (h : 0 < n) : Str.ofString (toString (-(n : Int))) = Str.ofString "-" ++ Str.ofString (toString ((n : Nat) : Int)) := by
  obtain ⟨m, rfl⟩ : ∃ m, n = m + 1 := ⟨n - 1, by omega⟩
  rw [← ofS_app]
  rfl
theorem zfill_num {m : Nat} (k : Nat) (hk : (TL.numL m).length ≤ k) : Txt.zfill (Str.ofString (toString ((m : Nat) : Int))) (k : Nat) = ⟨(padL k m).toArray⟩ := by
  have hl : (Str.ofString (toString ((m : Nat) : Int))).length = (TL.numL m).length := by rw [TL.len_tl, TL.tl_num]
  have hne : 0 < (TL.numL m).length := by
    by_cases h : m < 10
    · rw [TL.numL_lt h]
      exact Nat.succ_pos _
    · rw [TL.numL_step (by omega), List.length_append]
      exact Nat.succ_pos _
  unfold Txt.zfill
  by_cases h : ((k : Nat) : Int) ≤ ((Str.ofString (toString ((m : Nat) : Int))).length : Nat)
  · rw [if_pos h]
    refine TL.ext_tl ?_
    rw [TL.tl_num]
    rw [hl] at h
    show TL.numL m = padL k m
    unfold padL
    rw [show k - (TL.numL m).length = 0 by omega]
    rfl
  · rw [if_neg h]
    refine TL.ext_tl ?_
    have hz : zfilled (Str.ofString (toString ((m : Nat) : Int))) ((((k : Nat) : Int)).toNat - (Str.ofString (toString ((m : Nat) : Int))).length) = Builtin.Str.padded (Str.ofString (toString ((m : Nat) : Int))) ((((k : Nat) : Int)).toNat - (Str.ofString (toString ((m : Nat) : Int))).length) 0 48 := by
      have h0 : ∀ c, (Str.ofString (toString ((m : Nat) : Int))).cps[0]? = some c → 48 ≤ c := fun c hc => by
        have h1 : (TL.tl (Str.ofString (toString ((m : Nat) : Int))))[0]? = some c := by rw [← hc]; simp [TL.tl]
        rw [TL.tl_num] at h1
        exact num_ge m c (List.mem_of_getElem? h1)
      unfold zfilled
      split
      · next q => exact absurd (h0 _ q) (by decide)
      · next q => exact absurd (h0 _ q) (by decide)
      · rfl
    rw [hz, hl]
    show TL.tl (Builtin.Str.padded _ _ 0 48) = padL k m
    unfold Builtin.Str.padded padL TL.tl
    rw [show (((k : Nat) : Int)).toNat = k by omega]
    have := TL.tl_num m
    unfold TL.tl at this
    simp
    exact this
def tS (l : List Nat) : Str := ⟨l.toArray⟩
theorem tl_tS (l : List Nat) : TL.tl (tS l) = l := by simp [tS, TL.tl]
theorem num_tS (n : Nat) : Str.ofString (toString ((n : Nat) : Int)) = tS (TL.numL n) := TL.ext_tl (by rw [tl_tS]; exact TL.tl_num n)
theorem padL_len {k m : Nat} (h : (TL.numL m).length ≤ k) : (padL k m).length = k := by
  unfold padL
  rw [List.length_append, List.length_replicate]
  omega
theorem join3 (a b : List Nat) (ps : List (List Nat)) (hp : ps = [] ∨ ∃ p, ps = [p]) : Txt.join (Str.ofString "") (((ps ++ [b] ++ [a]).map tS).reverse) = tS (a ++ (b ++ ps.reverse.flatten)) := by
  refine TL.ext_tl ?_
  rw [TL.join_eq, TL.tl_join, tl_tS, show TL.tl (Str.ofString "") = [] by decide +kernel]
  rcases hp with rfl | ⟨p, rfl⟩
  · show TL.joinL [] [TL.tl (tS a), TL.tl (tS b)] = _
    rw [tl_tS, tl_tS]
    simp [TL.joinL]
  · show TL.joinL [] [TL.tl (tS a), TL.tl (tS b), TL.tl (tS p)] = _
    rw [tl_tS, tl_tS, tl_tS]
    simp [TL.joinL]
theorem sign_out (n : Int) : Str.ofString (toString n) = tS ((if n < 0 then [45] else []) ++ TL.numL n.natAbs) := by
  by_cases h : n < 0
  · rw [if_pos h]
    obtain ⟨k, hk⟩ : ∃ k : Nat, n = -(k : Int) := ⟨n.natAbs, by omega⟩
    subst hk
    have e : (-(k : Int)).natAbs = k := by omega
    rw [num_neg k (by omega), num_tS, e]
    refine TL.ext_tl ?_
    rw [TL.tl_append, tl_tS, tl_tS, show TL.tl (Str.ofString "-") = [45] by decide +kernel]
  · rw [if_neg h]
    obtain ⟨k, hk⟩ : ∃ k : Nat, n = (k : Int) := ⟨n.natAbs, by omega⟩
    subst hk
    rw [num_tS]
    rfl
def spDig : Sp := fun vs H Q _ => ∃ n : Int, vs = [.int n] ∧ n.natAbs < 10 ^ 120 ∧ ∀ H', Ex H H' → Q (.str (Str.ofString (toString n))) H'
theorem lg60 {m : Nat} (h : m < 10 ^ 60) : ((m : Nat) : Int).natAbs.log2 < 1920 := by
  have h2 : m < 2 ^ 200 := Nat.lt_of_lt_of_le h (by decide +kernel)
  have := log_lt h2 (by decide)
  rw [Int.natAbs_natCast]
  omega
theorem ten60 : ((10 : Int) ^ (60 : Int).toNat) = ((10 ^ 60 : Nat) : Int) := by decide +kernel
section
variable {P : Program} {w : World} {K : PySem.W.Frag} {mg : Str → Option Value} {base : Heap}
theorem ok_digits {f : Addr} {fd : FuncData} (F : Fun K "_digits" "_digits" s_digits f fd) (T : Tx mg) : FnOk P w K mg base CX0 1 f fd ["number"] spDig := by
  refine F.ok sc_digits (fun vs H Q E h => ?_) (fun cdv A outer s H vs Q E hr h => ?_)
  · obtain ⟨n, rfl, _⟩ := h
    rfl
  · obtain ⟨n, rfl, hn, q⟩ := h
    refine ⟨_, (pss_cons (ps_set (i := 1) sc_digits.nd rfl (Or.inl rfl) (pe_callB call_abs (by rfl) T.abs (by decide +kernel) (pa_cons (pv 0) pa_nil)))
      (pss_cons (ps_set (i := 2) sc_digits.nd rfl (Or.inl rfl) (pe_lst pa_nil))
      (pss_cons (ps_while PassesOwn.never (pt_cmpR op_ge (pv 1) (pe_op op_pow pe_int pe_int) (nomark _)) (pss_cons (ps_expr (pe_bm PySem.F.plainAttrs_list PySem.F.slot_list_append PySem.F.type_list_append mt_append (pv 2) (pa_cons (pe_bm PySem.F.plainAttrs_str PySem.F.slot_str_zfill PySem.F.type_str_zfill mt_zfill (pe_callTy call_str_int (by rfl) T.str PyProof.Rows.boot_str (pa_cons (pe_op op_mod (pv 1) (pe_op op_pow pe_int pe_int)) pa_nil)) (pa_cons pe_int pa_nil)) pa_nil)))
      (pss_one (ps_set (i := 1) sc_digits.nd rfl (Or.inl rfl) (pe_op OR.op_fdivWN (pv 1) (pe_op op_pow pe_int pe_int))))))
      (pss_cons (ps_expr (pe_bm PySem.F.plainAttrs_list PySem.F.slot_list_append PySem.F.type_list_append mt_append (pv 2) (pa_cons (pe_callTy call_str_int (by rfl) T.str PyProof.Rows.boot_str (pa_cons (pv 1) pa_nil)) pa_nil)))
      (pss_cons (ps_expr (pe_bm PySem.F.plainAttrs_list PySem.F.slot_list_append PySem.F.type_list_append mt_append (pv 2) (pa_cons (pe_ifExp (pt_cmpR op_lt (pv 0) pe_int (nomark _)) pe_str pe_str) pa_nil)))
      (pss_one (ps_ret (pe_join pe_str (pe_revL (pv 2)))))))))), ?_⟩
    have habs : (if n < 0 then -n else n) = ((n.natAbs : Nat) : Int) := by
      by_cases h : n < 0
      · rw [if_pos h]; omega
      · rw [if_neg h]; omega
    refine ⟨_, rfl, _, rfl, ?_⟩
    rw [habs]
    refine ⟨Nat.zero_le _, fun D hD => ?_⟩
    refine ⟨fun m σ H' => ∃ (l : Nat) (ps : List (List Nat)), σ = [some (.int n), some (.int (l : Int)), some (.ref D)] ∧ Ex H H' ∧ H' D = some (.lst ((ps.map tS).map V.str)) ∧ TL.numL n.natAbs = TL.numL l ++ ps.reverse.flatten ∧ ((ps = [] ∧ l = n.natAbs) ∨ (∃ p, ps = [p] ∧ p.length = 60) ∧ l < 10 ^ 60) ∧ m = l,
      ⟨n.natAbs, n.natAbs, [], rfl, Ex.new hD, upd_same, by simp, .inl ⟨rfl, rfl⟩, rfl⟩, fun m σ H' hw => ?_⟩
    obtain ⟨l, ps, rfl, e1, hz, hnum, hps, hm⟩ := hw
    refine ⟨_, rfl, _, _, rfl, rfl, ⟨by decide, by decide, by decide⟩, _, _, rfl, rfl, _, rfl, ite2 (fun hb => ?_) (fun hb => ?_)⟩
    · have hb2 := of_decide_eq_true hb
      rw [ten60] at hb2
      have hl : 10 ^ 60 ≤ l := by omega
      rcases hps with ⟨rfl, rfl⟩ | ⟨_, h2⟩
      · refine ⟨fun σ2 H2 => ∃ m', m' < m ∧ ∃ (l : Nat) (ps : List (List Nat)), σ2 = [some (.int n), some (.int (l : Int)), some (.ref D)] ∧ Ex H H2 ∧ H2 D = some (.lst ((ps.map tS).map V.str)) ∧ TL.numL n.natAbs = TL.numL l ++ ps.reverse.flatten ∧ ((ps = [] ∧ l = n.natAbs) ∨ (∃ p, ps = [p] ∧ p.length = 60) ∧ l < 10 ^ 60) ∧ m' = l, fun σ2 H2 h => h, ?_⟩
        have hmod : (((n.natAbs : Nat) : Int) % (10 : Int) ^ (60 : Int).toNat) = ((n.natAbs % 10 ^ 60 : Nat) : Int) := by
          rw [ten60]
          exact (Int.natCast_emod _ _).symm
        have hdiv : (((n.natAbs : Nat) : Int).fdiv ((10 : Int) ^ (60 : Int).toNat)) = ((n.natAbs / 10 ^ 60 : Nat) : Int) := by
          rw [ten60, Int.fdiv_eq_ediv_of_nonneg _ (by omega)]
          exact (Int.natCast_ediv _ _).symm
        have hlt : n.natAbs % 10 ^ 60 < 10 ^ 60 := Nat.mod_lt _ (by decide)
        have hq : n.natAbs / 10 ^ 60 < 10 ^ 60 := by
          rw [Nat.div_lt_iff_lt_mul (by decide)]
          exact Nat.lt_of_lt_of_le hn (by decide +kernel)
        refine ⟨_, rfl, .inl ⟨rfl, _, sq_of hz⟩, _, rfl, _, _, rfl, rfl, ⟨by decide, by decide, by decide⟩, _, _, rfl, rfl, by show (0 : Int) < 10 ^ (60 : Int).toNat; decide, ?_⟩
        refine ⟨_, congrArg (fun z => [V.int z]) hmod, lg60 hlt, rfl, _, _, rfl, rfl, by decide, D, _, _, rfl, rfl, hz, by show 0 < sizeLine; decide, ?_⟩
        refine ⟨_, rfl, _, _, rfl, rfl, ⟨by decide, by decide, by decide⟩, _, _, rfl, rfl, ⟨by decide, by decide +kernel⟩, ?_⟩
        refine ⟨n.natAbs / 10 ^ 60, by rw [hm]; omega, n.natAbs / 10 ^ 60, [padL 60 (n.natAbs % 10 ^ 60)], congrArg (fun z => [some (V.int n), some (V.int z), some (V.ref D)]) hdiv, e1.mut hD, ?_, ?_, .inr ⟨⟨_, rfl, padL_len (num_short 59 _ hlt)⟩, hq⟩, rfl⟩
        · rw [upd_same]
          exact congrArg (fun z => some (HO.lst [V.str z])) (zfill_num 60 (num_short 59 _ hlt))
        · rw [num_cut 59 _ hl]
          simp
      · omega
    · have hb2 : ¬ ((10 : Int) ^ (60 : Int).toNat ≤ (l : Int)) := fun z => hb (decide_eq_true z)
      rw [ten60] at hb2
      have hl : l < 10 ^ 60 := by omega
      have hp1 : ps = [] ∨ ∃ p, ps = [p] := by
        rcases hps with ⟨h, _⟩ | ⟨⟨p, h, _⟩, _⟩
        · exact .inl h
        · exact .inr ⟨p, h⟩
      have hp2 : ps.length ≤ 1 := by
        rcases hp1 with h | ⟨p, h⟩ <;> rw [h] <;> simp
      refine ⟨_, rfl, .inl ⟨rfl, _, sq_of hz⟩, _, rfl, _, rfl, lg60 hl, D, _, _, rfl, rfl, hz, ?_, ?_⟩
      · rw [List.length_map, List.length_map]
        exact sz_lt (by omega)
      have e2 : Ex H (L2.upd H' D (.lst ((ps.map tS).map V.str ++ [.str (Str.ofString (toString ((l : Nat) : Int)))]))) := e1.mut hD
      have g2 : (L2.upd H' D (.lst ((ps.map tS).map V.str ++ [.str (Str.ofString (toString ((l : Nat) : Int)))]))) D = some (.lst (((ps ++ [TL.numL l]).map tS).map V.str)) := by
        rw [upd_same, num_tS, List.map_append, List.map_append]
        rfl
      generalize (L2.upd H' D (.lst ((ps.map tS).map V.str ++ [.str (Str.ofString (toString ((l : Nat) : Int)))]))) = H2 at e2 g2 ⊢
      obtain ⟨sg, hsg⟩ : ∃ sg, (if n < 0 then [45] else []) = sg := ⟨_, rfl⟩
      have hsl : sg.length ≤ 1 := by
        rw [← hsg]
        by_cases h : n < 0
        · rw [if_pos h]; decide
        · rw [if_neg h]; decide
      refine ⟨_, rfl, .inl ⟨rfl, _, sq_of g2⟩, ?_⟩
      have out : Str.ofString (toString n) = tS (sg ++ (TL.numL l ++ ps.reverse.flatten)) := by
        rw [← hnum, ← hsg]
        exact sign_out n
      refine' cutP (fun rest => ?_) ?_
      rotate_left
      · refine ⟨_, rfl, _, _, rfl, rfl, _, rfl, ite2 (fun hb => ?_) (fun hb => ?_)⟩
        · have h0 : n < 0 := of_decide_eq_true hb
          rw [if_pos h0] at hsg
          rw [show Str.ofString "-" = tS [45] by decide +kernel, hsg]
          exact rest
        · have h0 : ¬ n < 0 := fun z => hb (decide_eq_true z)
          rw [if_neg h0] at hsg
          have rest2 := rest
          rw [show tS sg = Str.ofString "" by rw [← hsg]; decide +kernel] at rest2
          exact rest2
      · refine ⟨D, _, _, rfl, rfl, g2, ?_, ?_⟩
        · rw [List.length_map, List.length_map, List.length_append]
          exact sz_lt (by show ps.length + 1 < 100000; omega)
        have e3 : Ex H (L2.upd H2 D (.lst (((ps ++ [TL.numL l]).map tS).map V.str ++ [.str (tS sg)]))) := e2.mut hD
        have g3 : (L2.upd H2 D (.lst (((ps ++ [TL.numL l]).map tS).map V.str ++ [.str (tS sg)]))) D = some (.lst (((ps ++ [TL.numL l] ++ [sg]).map tS).map V.str)) := by
          rw [upd_same]
          simp
        generalize (L2.upd H2 D (.lst (((ps ++ [TL.numL l]).map tS).map V.str ++ [.str (tS sg)]))) = H3 at e3 g3 ⊢
        refine ⟨⟨_, rfl⟩, _, rfl, D, _, rfl, sq_of g3, fun p hp => ⟨_, p, ((ps ++ [TL.numL l] ++ [sg]).map tS).reverse, rfl, rfl, .inl (sq_of ?_), ?_, ?_⟩⟩
        · rw [upd_same, List.map_reverse]
        · have l1 := num_short 59 _ hl
          have : (((((ps ++ [TL.numL l] ++ [sg]).map tS).reverse).map (·.length)).sum) ≤ 200 := by
            rcases hps with ⟨h, _⟩ | ⟨⟨p, h, hp60⟩, _⟩
            · subst h
              show (tS sg).length + ((tS (TL.numL l)).length + 0) ≤ 200
              rw [TL.len_tl, TL.len_tl (tS (TL.numL l)), tl_tS, tl_tS]
              omega
            · subst h
              show (tS sg).length + ((tS (TL.numL l)).length + ((tS p).length + 0)) ≤ 200
              rw [TL.len_tl, TL.len_tl (tS (TL.numL l)), TL.len_tl (tS p), tl_tS, tl_tS, tl_tS]
              omega
          rw [show (Str.ofString "").length = 0 from rfl]
          omega
        · rw [join3 _ _ _ hp1, ← out]
          exact q _ (e3.trans (Ex.new hp))
end
end Law

namespace Law
open PySem PySem.Spec PyProof.Rows L2 Evl
def dS (i : Int) : Str := Str.ofString (toString i)
theorem dS_len {i : Int} (h : i.natAbs < 10 ^ 120) : (dS i).length ≤ 121 := by
  unfold dS
  rw [sign_out, TL.len_tl, tl_tS, List.length_append]
  have := num_short 119 _ h
  by_cases h : i < 0
  · rw [if_pos h]
    show 1 + _ ≤ 121
    omega
  · rw [if_neg h]
    show 0 + _ ≤ 121
    omega
theorem b120 {x k : Nat} (h : x < 2 ^ k) (hk : k ≤ 300) : x < 10 ^ 120 := Nat.lt_of_lt_of_le (pow_up h hk) (by decide +kernel)
def txt (n o : Int) : Str := if o = 1 then dS n else dS n ++ Str.ofString "/" ++ dS o
def spStr (C : Addr) : Sp := fun vs H Q _ => ∃ (a : Addr) (n o : Int) (k : Nat), vs = [.ref a] ∧ RObj C H a n o k ∧ k ≤ 300 ∧ ∀ H', Ex H H' → Q (.str (txt n o)) H'
def spCom : Sp := fun vs H Q _ => ∃ x y : Int, vs = [.int x, .int y] ∧ x.natAbs * y.natAbs < 2 ^ 3000 ∧ ∀ H', Ex H H' → Q (.int ((Nat.gcd x.natAbs y.natAbs : Nat) : Int)) H'
def spNumOf : Sp := fun vs H Q _ => ∃ (p : PenI) (H0 : Hp) (n : Nat), vs = [.ref p.d] ∧ PenAt p H0 H n ∧ n < 900000 ∧ ∀ H' v, PenAt p H0 H' (n + 5) → v.natAbs < 2 ^ 61 → Q (.int v) H'
def spSame (C : Addr) : Sp := fun vs H Q _ => ∃ (a : Addr) (n o m p : Int) (k : Nat), vs = [.ref a, .int m, .int p] ∧ RObj C H a n o k ∧ k ≤ 300 ∧ m.natAbs < 2 ^ 300 ∧ p.natAbs < 2 ^ 300 ∧ n * p = m * o ∧ ∀ H', Ex H H' → Q (.bl true) H'
theorem e_len (a b : Str) : (a ++ b).length = a.length + b.length := by
  rw [TL.len_tl, TL.len_tl a, TL.len_tl b, TL.tl_append, List.length_append]
section
variable {P : Program} {w : World} {K : PySem.W.Frag} {mg : Str → Option Value} {base : Heap} {C_Ratio : Addr}
theorem ok_str {f : Addr} {fd : FuncData} (F : Fun K "__str__" "Ratio.__str__" s_Ratio_str f fd) (T : Tx mg) (S : RC K C_Ratio) (c_digits : Kn P w K mg base "_digits" ["number"] 1 spDig) : FnOk P w K mg base CX0 2 f fd ["self"] (spStr C_Ratio) := by
  refine F.ok sc_Ratio_str (fun vs H Q E h => ?_) (fun cdv A outer s H vs Q E hr h => ?_)
  · obtain ⟨a, n, o, k, rfl, _⟩ := h
    rfl
  · obtain ⟨a, n, o, k, rfl, R, hk, q⟩ := h
    refine ⟨_, (pss_cons (ps_if (pt_cmpR op_eq (pe_fld (pv 0) rfl) pe_int (nomark _)) (pss_one (ps_ret (pe_joined1 (pe_fmt (pe_call c_digits.ok (hr.mono (by decide)) (by rfl) c_digits.g c_digits.kp c_digits.b .nil pass0 (pa_cons (pe_fld (pv 0) rfl) pa_nil)))))) pss_nil)
      (pss_one (ps_ret (pe_joined (PJ.cons (pe_fmt (pe_call c_digits.ok (hr.mono (by decide)) (by rfl) c_digits.g c_digits.kp c_digits.b .nil pass0 (pa_cons (pe_fld (pv 0) rfl) pa_nil))) (PJ.cons pe_str (PJ.cons (pe_fmt (pe_call c_digits.ok (hr.mono (by decide)) (by rfl) c_digits.g c_digits.kp c_digits.b .nil pass0 (pa_cons (pe_fld (pv 0) rfl) pa_nil))) PJ.nil))))))), ?_⟩
    obtain ⟨d1, h1⟩ := R.at_
    have b1 := b120 R.bn hk
    have b2 := b120 R.bo hk
    have l1 := dS_len b1
    have l2 := dS_len b2
    refine ⟨_, rfl, a, _, d1, _, _, rfl, h1, S.cl, S.no, rFs_o _ _, rfl, _, rfl, ite2 (fun hb => ?_) (fun hb => ?_)⟩
    · have ho : o = 1 := V.int.inj (of_decide_eq_true hb)
      refine ⟨_, rfl, a, _, d1, _, _, rfl, h1, S.cl, S.nn, rFs_n _ _, n, rfl, b1, fun H1 e1 => .inl ⟨_, rfl, sz_of (by show (dS n).length ≤ 100000; omega), ?_⟩⟩
      have q2 := q H1 e1
      unfold txt at q2
      rw [if_pos ho] at q2
      exact q2
    · have ho : ¬ o = 1 := fun z => hb (decide_eq_true (by rw [z]))
      refine ⟨_, rfl, a, _, d1, _, _, rfl, h1, S.cl, S.nn, rFs_n _ _, n, rfl, b1, fun H1 e1 => .inl ⟨dS n, rfl, sz_of (by omega), dS n, rfl, sz_of (by rw [e_len, show Str.empty.length = 0 from rfl]; omega), _, rfl, sz_of (by rw [e_len, e_len, show Str.empty.length = 0 from rfl, show (Str.ofString "/").length = 1 by decide +kernel]; omega), ?_⟩⟩
      refine ⟨_, rfl, a, _, d1, _, _, rfl, e1 _ _ h1, S.cl, S.no, rFs_o _ _, o, rfl, b2, fun H2 e2 => .inl ⟨dS o, rfl, sz_of (by omega), dS o, rfl, sz_of (by rw [e_len, e_len, e_len, show Str.empty.length = 0 from rfl, show (Str.ofString "/").length = 1 by decide +kernel]; omega), ?_⟩⟩
      have q2 := q H2 (e1.trans e2)
      unfold txt at q2
      rw [if_neg ho] at q2
      rw [show Str.empty ++ dS n = dS n from TL.ext_tl (by rw [TL.tl_append]; rfl)]
      exact q2
theorem ok_common {f : Addr} {fd : FuncData} (F : Fun K "_law_common" "_law_common" s_lcommon f fd) (T : Tx mg) : FnOk P w K mg base CX0 1 f fd ["_law_one", "_law_other"] spCom := by
  refine F.ok sc_lcommon (fun vs H Q E h => ?_) (fun cdv A outer s H vs Q E hr h => ?_)
  · obtain ⟨x, y, rfl, _⟩ := h
    rfl
  · obtain ⟨x, y, rfl, hb, q⟩ := h
    refine ⟨_, (pss_cons (ps_par (i := 0) (j := 1) (by rfl) sc_lcommon.nd rfl rfl (by decide) rfl rfl (pa_cons (pe_callB call_abs (by rfl) T.abs (by decide +kernel) (pa_cons (pv 0) pa_nil)) (pa_cons (pe_callB call_abs (by rfl) T.abs (by decide +kernel) (pa_cons (pv 1) pa_nil)) pa_nil)) (by rfl))
      (pss_cons (ps_for PassesOwn.never rfl (pi_range1 (by rfl) T.range (pa_cons pe_int pa_nil)) (pg_name (i := 2) sc_lcommon.nd rfl (Or.inl rfl)) (pss_cons (ps_if (pt_cmpR op_eq (pv 1) pe_int (nomark _)) (pss_one ps_break) pss_nil)
      (pss_one (ps_par (i := 0) (j := 1) (by rfl) sc_lcommon.nd rfl rfl (by decide) rfl rfl (pa_cons (pv 1) (pa_cons (pe_op op_mod (pe_callTy call_int1 (by rfl) T.int PyProof.Rows.boot_int (pa_cons (pv 0) pa_nil)) (pv 1)) pa_nil)) (by rfl)))))
      (pss_one (ps_ret (pv 0))))), ?_⟩
    have ab : ∀ i : Int, (if i < 0 then -i else i) = ((i.natAbs : Nat) : Int) := fun i => by
      by_cases h : i < 0
      · rw [if_pos h]; omega
      · rw [if_neg h]; omega
    refine ⟨_, rfl, _, rfl, _, rfl, _, rfl, _, _, rfl, ?_⟩
    rw [ab, ab]
    generalize hX : x.natAbs = X at hb q ⊢
    generalize hY : y.natAbs = Y at hb q ⊢
    refine ⟨_, rfl, by decide, by decide, for_range (lo := 0) (n := 4000) (fun i σ H' => ∃ (a b : Nat) (y2 : Option V), σ = [some (.int (a : Int)), some (.int (b : Int)), y2] ∧ Ex H H' ∧ Nat.gcd a b = Nat.gcd X Y ∧ ((i = 0 ∧ a * b ≤ X * Y) ∨ (1 ≤ i ∧ b ≤ a ∧ a * b * 2 ^ (i - 1) ≤ X * Y)))
      ⟨X, Y, none, rfl, Ex.refl _, rfl, .inl ⟨rfl, Nat.le_refl _⟩⟩ (fun i σ H' hi hw => ?_) (fun σ H' hw => ?_)⟩
    · obtain ⟨a, b, y2, rfl, e1, hg, hp⟩ := hw
      refine ⟨_, rfl, rfl, _, rfl, ite2 (fun hz => ?_) (fun hz => ?_)⟩
      · have b0 : b = 0 := by
          have := V.int.inj (of_decide_eq_true hz)
          omega
        subst b0
        rw [Nat.gcd_zero_right] at hg
        subst hg
        exact ⟨_, rfl, q _ e1⟩
      · have b0 : 0 < b := by
          have : ¬ V.int (b : Int) = V.int 0 := fun z => hz (decide_eq_true z)
          by_cases h : b = 0
          · subst h
            exact absurd rfl this
          · omega
        refine ⟨_, rfl, _, rfl, .inl ⟨_, rfl, _, rfl, _, _, rfl, rfl, by show (0 : Int) < (b : Int); omega, _, _, rfl, ?_⟩⟩
        refine ⟨b, a % b, _, congrArg (fun z => [some (V.int (b : Int)), some (V.int z), _]) (Int.natCast_emod a b).symm, e1, ?_, .inr ⟨by omega, Nat.le_of_lt (Nat.mod_lt _ b0), ?_⟩⟩
        · rw [← hg, Nat.gcd_comm a b, Nat.gcd_rec b a, Nat.gcd_comm]
        · show b * (a % b) * 2 ^ i ≤ X * Y
          rcases hp with ⟨rfl, h⟩ | ⟨h1, h2, h3⟩
          · have : b * (a % b) ≤ b * a := Nat.mul_le_mul_left _ (Nat.mod_le _ _)
            rw [Nat.pow_zero, Nat.mul_one]
            rw [Nat.mul_comm a b] at h
            omega
          · have r2 : 2 * (a % b) ≤ a := by
              have d := Nat.div_add_mod a b
              have m := Nat.mod_lt a b0
              have q1 : 1 ≤ a / b := (Nat.le_div_iff_mul_le b0).mpr (by omega)
              have : b * 1 ≤ b * (a / b) := Nat.mul_le_mul_left _ q1
              omega
            obtain ⟨j, rfl⟩ : ∃ j, i = j + 1 := ⟨i - 1, by omega⟩
            rw [show j + 1 - 1 = j by omega] at h3
            calc b * (a % b) * 2 ^ (j + 1) = b * (2 * (a % b)) * 2 ^ j := by rw [Nat.pow_succ]; grind
              _ ≤ b * a * 2 ^ j := Nat.mul_le_mul_right _ (Nat.mul_le_mul_left _ r2)
              _ = a * b * 2 ^ j := by rw [Nat.mul_comm b a]
              _ ≤ X * Y := h3
    · obtain ⟨a, b, y2, rfl, e1, hg, hp⟩ := hw
      rcases hp with ⟨h, _⟩ | ⟨h1, h2, h3⟩
      · exact absurd h (by decide)
      · have b0 : b = 0 := by
          by_cases h : b = 0
          · exact h
          · have m : 1 ≤ a * b := Nat.mul_pos (by omega) (by omega)
            have m2 : 1 * 2 ^ (4000 - 1) ≤ a * b * 2 ^ (4000 - 1) := Nat.mul_le_mul_right _ m
            have m3 : (2 : Nat) ^ 3000 ≤ 2 ^ (4000 - 1) := Nat.pow_le_pow_right (by decide) (by decide)
            omega
        subst b0
        rw [Nat.gcd_zero_right] at hg
        subst hg
        exact ⟨_, rfl, q _ e1⟩
end
end Law

namespace Law
open PySem PySem.Spec PyProof.Rows L2 Evl
section
variable {P : Program} {w : World} {K : PySem.W.Frag} {mg : Str → Option Value} {base : Heap} {C_Ratio : Addr}
theorem ok_same {f : Addr} {fd : FuncData} (F : Fun K "_law_same" "_law_same" s_lsame f fd) (T : Tx mg) (S : RC K C_Ratio) (c_lcommon : Kn P w K mg base "_law_common" ["_law_one", "_law_other"] 1 spCom) : FnOk P w K mg base CX0 2 f fd ["_law_ratio", "_law_number", "_law_over"] (spSame C_Ratio) := by
  refine F.ok sc_lsame (fun vs H Q E h => ?_) (fun cdv A outer s H vs Q E hr h => ?_)
  · obtain ⟨a, n, o, m, p, k, rfl, _⟩ := h
    rfl
  · obtain ⟨a, n, o, m, p, k, rfl, R, hk, hm, hp, he, q⟩ := h
    refine ⟨_, (pss_cons (ps_if (PW.pt (pw_or (pt_not (pt_val (pe_callB call_isi (by rfl) T.isinstance PyProof.Rows.boot_isinstance (pa_cons (pe_fld (pv 0) rfl) (pa_cons (pe_bltn (v := .ty "int") (by rfl) T.int PyProof.Rows.boot_int rfl) pa_nil))))) (pw_or (pt_not (pt_val (pe_callB call_isi (by rfl) T.isinstance PyProof.Rows.boot_isinstance (pa_cons (pe_fld (pv 0) rfl) (pa_cons (pe_bltn (v := .ty "int") (by rfl) T.int PyProof.Rows.boot_int rfl) pa_nil))))) (pw_or1 (pt_cmpR op_lt (pe_fld (pv 0) rfl) pe_int (nomark _)))))) (pss_one (ps_ret pe_bl)) pss_nil)
      (pss_one (ps_ret (pe_and (pe_cmpR op_eq (pe_op op_mulW (pe_fld (pv 0) rfl) (pv 2)) (pe_op op_mulW (pv 1) (pe_fld (pv 0) rfl)) (nomark _)) (pe_one (pe_cmpR op_eq (pe_call c_lcommon.ok (hr.mono (by decide)) (by rfl) c_lcommon.g c_lcommon.kp c_lcommon.b .nil pass0 (pa_cons (pe_fld (pv 0) rfl) (pa_cons (pe_fld (pv 0) rfl) pa_nil))) pe_int (nomark _))))))), ?_⟩
    obtain ⟨d1, h1⟩ := R.at_
    refine ⟨_, rfl, a, _, d1, _, _, rfl, h1, S.cl, S.nn, rFs_n _ _, _, _, _, _, true, rfl, .ty _, .base (.int _), kit_ii, true, rfl, ?_⟩
    refine ⟨_, rfl, a, _, d1, _, _, rfl, h1, S.cl, S.no, rFs_o _ _, _, _, _, _, true, rfl, .ty _, .base (.int _), kit_ii, true, rfl, ?_⟩
    refine ⟨_, rfl, a, _, d1, _, _, rfl, h1, S.cl, S.no, rFs_o _ _, _, _, rfl, rfl, _, rfl, ite2 (fun hb => absurd (of_decide_eq_true hb) (by have := R.pos; omega)) fun _ => ?_⟩
    refine ⟨_, rfl, a, _, d1, _, _, rfl, h1, S.cl, S.nn, rFs_n _ _, _, rfl, _, _, rfl, rfl, mulW (pow_up R.bn hk) hp (by decide), ?_⟩
    refine ⟨_, rfl, _, rfl, a, _, d1, _, _, rfl, h1, S.cl, S.no, rFs_o _ _, _, _, rfl, rfl, mulW hm (pow_up R.bo hk) (by decide), rfl, true, congrArg V.bl (decide_eq_true (congrArg V.int he)), ?_⟩
    refine ⟨_, rfl, a, _, d1, _, _, rfl, h1, S.cl, S.nn, rFs_n _ _, _, rfl, a, _, d1, _, _, rfl, h1, S.cl, S.no, rFs_o _ _, n, o, rfl, ?_, fun H1 e1 => ⟨rfl, ?_⟩⟩
    · have h1 := pow_up R.bn hk
      have h2 := pow_up R.bo hk
      have h3 := Nat.mul_lt_mul'' h1 h2
      exact Nat.lt_of_lt_of_le h3 (by decide +kernel)
    · have q2 := q H1 e1
      have e : decide (V.int ((Nat.gcd n.natAbs o.natAbs : Nat) : Int) = V.int 1) = true := decide_eq_true (by rw [R.low]; rfl)
      show Q (V.bl (decide (V.int ((Nat.gcd n.natAbs o.natAbs : Nat) : Int) = V.int 1))) H1
      rw [e]
      exact q2
theorem ok_numof {f : Addr} {fd : FuncData} (F : Fun K "_law_number_of" "_law_number_of" s_lnumber_of f fd) (T : Tx mg) (c_ldraw : Kn P w K mg base "_law_draw" ["_law_pen", "_law_many"] 1 spDraw) (c_lpick : Kn P w K mg base "_law_pick" ["_law_pen", "_law_menu"] 2 spPickL) : FnOk P w K mg base CX0 3 f fd ["_law_pen"] spNumOf := by
  refine F.ok sc_lnumber_of (fun vs H Q E h => ?_) (fun cdv A outer s H vs Q E hr h => ?_)
  · obtain ⟨p, H0, n, rfl, _⟩ := h
    rfl
  · obtain ⟨p, H0, n, rfl, P0, hn, q⟩ := h
    refine ⟨_, (pss_cons (ps_set (i := 1) sc_lnumber_of.nd rfl (Or.inl rfl) (pe_op op_add (pe_op op_mulW (pe_call c_ldraw.ok (hr.mono (by decide)) (by rfl) c_ldraw.g c_ldraw.kp c_ldraw.b .nil pass0 (pa_cons (pv 0) (pa_cons (pe_op op_pow pe_int pe_int) pa_nil))) (pe_op op_pow pe_int pe_int)) (pe_call c_ldraw.ok (hr.mono (by decide)) (by rfl) c_ldraw.g c_ldraw.kp c_ldraw.b .nil pass0 (pa_cons (pv 0) (pa_cons (pe_op op_pow pe_int pe_int) pa_nil)))))
      (pss_cons (ps_set (i := 2) sc_lnumber_of.nd rfl (Or.inl rfl) (pe_call c_lpick.ok (hr.mono (by decide)) (by rfl) c_lpick.g c_lpick.kp c_lpick.b .nil pass0 (pa_cons (pv 0) (pa_cons (pe_lst (pa_cons pe_int (pa_cons pe_int (pa_cons pe_int (pa_cons pe_int (pa_cons (pe_call c_ldraw.ok (hr.mono (by decide)) (by rfl) c_ldraw.g c_ldraw.kp c_ldraw.b .nil pass0 (pa_cons (pv 0) (pa_cons pe_int pa_nil))) (pa_cons (pv 1) pa_nil))))))) pa_nil))))
      (pss_one (ps_ret (pe_ifExp (pt_cmpR op_eq (pe_call c_ldraw.ok (hr.mono (by decide)) (by rfl) c_ldraw.g c_ldraw.kp c_ldraw.b .nil pass0 (pa_cons (pv 0) (pa_cons pe_int pa_nil))) pe_int (nomark _)) (pe_un un_neg (pv 2)) (pv 2)))))), ?_⟩
    refine ⟨_, rfl, _, _, rfl, rfl, ⟨by decide, by decide, by decide⟩, p, H0, n, _, rfl, P0, by omega, by decide, by decide, fun H1 r1 P1 a0 a1 => ?_⟩
    have a2 : r1 < 1000000 := a1
    refine ⟨_, _, rfl, rfl, ⟨by decide, by decide, by decide⟩, _, _, rfl, rfl, mulW (k := 60) (by omega) (by decide +kernel) (by decide), ?_⟩
    refine ⟨_, rfl, _, _, rfl, rfl, ⟨by decide, by decide, by decide⟩, p, H0, _, _, rfl, P1, by omega, by decide, by decide, fun H2 r2 P2 b0 b1 => ⟨_, _, rfl, rfl, ?_⟩⟩
    have b2 : r2 < 1000000 := b1
    refine ⟨_, rfl, _, rfl, p, H0, _, 100, rfl, P2, by omega, by decide, by decide, fun H3 r3 P3 c0 c1 => ?_⟩
    refine ⟨_, rfl, by show 6 ≤ sizeLine; decide, fun l hl => ⟨p, H0, l, _, _, rfl, P3.ex (Ex.new hl), by omega, upd_same, by show 0 < 6; decide, by show 6 < 1000; decide, fun H4 v P4 hv => ?_⟩⟩
    obtain ⟨x, rfl, hx⟩ : ∃ x : Int, v = .int x ∧ x.natAbs < 2 ^ 61 := by
      have e12 : ((10 : Int) ^ (12 : Int).toNat) = 1000000000000 := by decide
      rw [e12] at hv
      simp only [List.mem_cons, List.not_mem_nil, or_false] at hv
      rcases hv with h | h | h | h | h | h
      · exact ⟨_, h, by decide⟩
      · exact ⟨_, h, by decide⟩
      · exact ⟨_, h, by decide⟩
      · exact ⟨_, h, by decide⟩
      · exact ⟨_, h, by omega⟩
      · exact ⟨_, h, by omega⟩
    refine ⟨_, rfl, p, H0, _, 2, rfl, P4, by omega, by decide, by decide, fun H5 r5 P5 d0 d1 => ⟨rfl, _, rfl, ite2 (fun hb => ?_) (fun hb => ?_)⟩⟩
    · exact ⟨_, rfl, _, rfl, q _ _ P5 (by rw [Int.natAbs_neg]; exact hx)⟩
    · exact ⟨_, rfl, q _ _ P5 hx⟩
end
end Law

namespace Law
open PySem PySem.Spec PyProof.Rows L2 Evl EK
def spInitX (CB : Addr) : Sp := fun vs H _ E => ∃ (s : Addr) (n o : Int), vs = [.ref s, .int n, .int o] ∧ o = 0 ∧ ∀ H', Ex H H' → E (.ref CB) none H'
def spDivX (C CB : Addr) : Sp := fun vs H _ E => ∃ (a : Addr) (y : V) (n o m p : Int) (k : Nat), vs = [.ref a, y] ∧ RObj C H a n o k ∧ Num C H y m p k ∧ m = 0 ∧ k ≤ 300 ∧ ∀ H', Ex H H' → E (.ref CB) none H'
def spRef : Sp := fun vs H Q _ => ∃ n : Int, vs = [.int n, .int 0] ∧ n.natAbs < 2 ^ 61 ∧ ∀ H', Ex H H' → Q (.bl true) H'
section
variable {P : Program} {w : World} {K : PySem.W.Frag} {mg : Str → Option Value} {base : Heap} {C_Ratio C_BadOver C_SkipsError fi fv : Addr} {fdi fdv : FuncData} {dv : Value}
theorem ok_initX {f : Addr} {fd : FuncData} (F : FunD K "__init__" "Ratio.__init__" (defArgs s_Ratio_init) (defBody s_Ratio_init) (defScope s_Ratio_init) [.int 1] [] f fd) (T : Tx mg) (g_gcd : mg "gcd" = some (.builtin "math.gcd")) (c_is_integer : Kn P w K mg base "is_integer" ["value"] 1 spIsInt)
    (O_BadOver : L2.OexC K C_BadOver) (i_BadOver : PySem.W.findIn K (.ref C_BadOver) "__init__" = some (some (.builtin "ValueError.__init__"))) (g_BadOver : mg "BadOver" = some (.ref C_BadOver)) : FnOk P w K mg base (L2.CX P w) 2 f fd ["self", "number", "over"] (spInitX C_BadOver) := by
  refine F.ok sc_Ratio_init (fun vs H Q E h => ?_) (fun cdv A outer s H vs Q E hr h => ?_)
  · obtain ⟨o, n, p, rfl, _⟩ := h
    rfl
  · obtain ⟨o, n, p, rfl, rfl, q⟩ := h
    refine ⟨_, (pss_cons (ps_if (PW.pt (pw_or (pt_not (pt_val (pe_call c_is_integer.ok (hr.mono (by decide)) (by rfl) c_is_integer.g c_is_integer.kp c_is_integer.b .nil pass0 (pa_cons (pv 2) pa_nil)))) (pw_or1 (pt_cmpR op_eq (pv 2) pe_int (nomark _))))) (pss_one (ps_raise rfl (takes_of rfl rfl rfl rfl) (MS.pmk_mk0 O_BadOver i_BadOver (by rfl) g_BadOver))) pss_nil)
      (pss_cons (ps_set (i := 3) sc_Ratio_init.nd rfl (Or.inl rfl) (pe_ifExp (pt_cmpR op_gt (pv 2) pe_int (nomark _)) (pe_callBfun cr_gcd (by rfl) g_gcd (pa_cons (pv 1) (pa_cons (pv 2) pa_nil))) (pe_un un_neg (pe_callBfun cr_gcd (by rfl) g_gcd (pa_cons (pv 1) (pa_cons (pv 2) pa_nil))))))
      (pss_cons (ps_fld (pv 0) (pe_op OR.op_fdivWN (pv 1) (pv 3)) rfl)
      (pss_one (ps_fld (pv 0) (pe_op OR.op_fdivWN (pv 2) (pv 3)) rfl))))), ?_⟩
    refine ⟨_, rfl, _, rfl, fun H1 e1 => ⟨true, rfl, ?_⟩⟩
    exact ⟨_, rfl, rfl, _, rfl, ite2 (fun _ => q H1 e1) (fun hb => absurd (decide_eq_true rfl) hb)⟩
theorem ok_divX {f : Addr} {fd : FuncData} (F : Fun K "divided" "Ratio.divided" s_Ratio_divided f fd) (T : Tx mg) (S : RC K C_Ratio) (g_Ratio : mg "Ratio" = some (.ref C_Ratio)) (M_Ratio : Mk K C_Ratio fi) (X_Ratio : FnOk P w K mg base (L2.CX P w) 2 fi fdi ["self", "number", "over"] (spInitX C_BadOver)) (b_Ratio : Binds K fdi ["self", "number", "over"] [])
    (c_is_number : Kn P w K mg base "_is_number" ["value"] 2 (spIsNum C_Ratio)) (c_ratio : Kn P w K mg base "_ratio" ["value"] 4 (spRatio C_Ratio)) : FnOk P w K mg base (L2.CX P w) 5 f fd ["self", "other"] (spDivX C_Ratio C_BadOver) := by
  refine F.okX sc_Ratio_divided (fun vs H Q E h => ?_) (fun cdv A outer s H vs Q E hr h => ?_)
  · obtain ⟨a, y, n, o, m, p, k, rfl, _⟩ := h
    rfl
  · obtain ⟨a, y, n, o, m, p, k, rfl, R, N, hm, hk, q⟩ := h
    refine ⟨_, (pss_cons (ps_if (pt_not (pt_val (pe_call c_is_number.ok (hr.mono (by decide)) (by rfl) c_is_number.g c_is_number.kp c_is_number.b .nil pass0 (pa_cons (pv 1) pa_nil)))) (pss_one ps_never) pss_nil)
      (pss_cons (ps_set (i := 2) sc_Ratio_divided.nd rfl (Or.inl rfl) (pe_call c_ratio.ok (hr.mono (by decide)) (by rfl) c_ratio.g c_ratio.kp c_ratio.b .nil pass0 (pa_cons (pv 1) pa_nil)))
      (pss_one (ps_ret (MS.pe_makeS M_Ratio X_Ratio (hr.mono (by decide)) (by rfl) g_Ratio b_Ratio .nil (fun σ => passAt (takes_of rfl rfl rfl rfl) σ) (pa_cons (pe_op op_mulW (pe_fld (pv 0) rfl) (pe_fld (pv 2) rfl)) (pa_cons (pe_op op_mulW (pe_fld (pv 0) rfl) (pe_fld (pv 2) rfl)) pa_nil))))))), ?_⟩
    refine ⟨_, rfl, y, m, p, k, rfl, N, fun H1 e1 => ⟨true, rfl, ?_⟩⟩
    refine ⟨_, rfl, y, m, p, k, rfl, N.up e1, by omega, fun H2 r e2 R2 => ?_⟩
    have R1 := R.up (e1.trans e2)
    obtain ⟨d1, h1⟩ := R1.at_
    obtain ⟨d2, h2⟩ := R2.at_
    refine ⟨_, rfl, a, _, d1, _, _, rfl, h1, S.cl, S.nn, rFs_n _ _, _, rfl, r, _, d2, _, _, rfl, h2, S.cl, S.no, rFs_o _ _, _, _, rfl, rfl, mulW R1.bn R2.bo (by omega), ?_⟩
    refine ⟨_, rfl, a, _, d1, _, _, rfl, h1, S.cl, S.no, rFs_o _ _, _, rfl, r, _, d2, _, _, rfl, h2, S.cl, S.nn, rFs_n _ _, _, _, rfl, rfl, mulW R1.bo R2.bn (by omega), ?_⟩
    exact fun x dx hx hdx hne => ⟨x, _, _, rfl, by rw [hm]; exact Int.mul_zero _, fun H' e' => q H' ((e1.trans e2).trans (((Ex.new hdx).trans (Ex.new (by rw [upd_ne hne.symm]; exact hx))).trans e'))⟩
end
end Law

namespace Law
open PySem PySem.Spec PyProof.Rows L2 Evl EK
section
variable {P : Program} {w : World} {K : PySem.W.Frag} {mg : Str → Option Value} {base : Heap} {C_Ratio C_BadOver C_SkipsError fi fv : Addr} {fdi fdv : FuncData} {dv : Value}
theorem ok_refused {f : Addr} {fd : FuncData} (F : Fun K "_law_refused" "_law_refused" s_lrefused f fd) (T : Tx mg) (S : RC K C_Ratio) (g_Ratio : mg "Ratio" = some (.ref C_Ratio)) (g_BadOver : mg "BadOver" = some (.ref C_BadOver)) (g_SkipsError : mg "SkipsError" = some (.ref C_SkipsError)) (M_Ratio : Mk K C_Ratio fi) (F_Ratio : FnOk P w K mg base CX0 2 fi fdi ["self", "number", "over"] (spInit C_Ratio)) (X_Ratio : FnOk P w K mg base (L2.CX P w) 2 fi fdi ["self", "number", "over"] (spInitX C_BadOver)) (b_Ratio : Binds K fdi ["self", "number", "over"] [])
    (b_Ratio1 : Binds K fdi ["self", "number", "over"] [dv]) (v_Ratio : Vals [V.int 1] [dv]) (Me_divided : Meth K C_Ratio "divided" fv) (X_divided : FnOk P w K mg base (L2.CX P w) 5 fv fdv ["self", "other"] (spDivX C_Ratio C_BadOver)) (b_divided : Binds K fdv ["self", "other"] [])
    (EX_BadOver : ExcC K C_BadOver) (k1 : PySem.W.kitOne K (.ref C_BadOver) (.ref C_SkipsError) = some true) (x1 : PySem.W.exmOne K (.ref C_BadOver) (.ref C_BadOver) = some true) : FnOk P w K mg base CX0 6 f fd ["_law_number", "_law_over"] spRef := by
  refine F.ok sc_lrefused (fun vs H Q E h => ?_) (fun cdv A outer s H vs Q E hr h => ?_)
  · obtain ⟨n, rfl, _⟩ := h
    rfl
  · obtain ⟨n, rfl, hn, q⟩ := h
    refine ⟨_, (pss_cons (ps_set (i := 2) sc_lrefused.nd rfl (Or.inl rfl) (pe_lst pa_nil))
      (pss_cons (EK.ps_tryN (i := 3) rfl rfl sc_lrefused.nd rfl rfl takes0 (fun W pn xe tk _ => (pss_one (ps_expr (MS.pe_makeS M_Ratio X_Ratio (hr.mono (by decide)) (by rfl) g_Ratio b_Ratio .nil (fun σ => passAt tk σ) (pa_cons (pv 0) (pa_cons (pv 1) pa_nil)))))) (EK.HdsN.cons ⟨(by rfl), (by decide), .inl g_BadOver⟩ (fun a oe cls d pn hz hf => (pss_one (ps_expr (MS.pe_bmK (K := K) rfl (pe_bm PySem.F.plainAttrs_list PySem.F.slot_list_append PySem.F.type_list_append mt_append (pv 2) (pa_cons (pe_callB (MS.call_isE1 (K := K) rfl EX_BadOver hz hf) (by rfl) T.isinstance PyProof.Rows.boot_isinstance (pa_cons (pv 3) (pa_cons (pe_glob (v := .ref C_SkipsError) rfl g_SkipsError rfl) pa_nil))) pa_nil)))))) EK.HdsN.nil))
      (pss_cons (EK.ps_tryN (i := 3) rfl rfl sc_lrefused.nd rfl rfl takes0 (fun W pn xe tk _ => (pss_one (ps_expr (MS.pe_methS (pe_make M_Ratio F_Ratio (hr.mono (by decide)) (by rfl) g_Ratio b_Ratio1 v_Ratio pass0 (pa_cons (pv 0) pa_nil)) S.cl Me_divided X_divided (hr.mono (by decide)) b_divided (fun σ => passAt tk σ) (pa_cons (pv 1) pa_nil))))) (EK.HdsN.cons ⟨(by rfl), (by decide), .inl g_BadOver⟩ (fun a oe cls d pn hz hf => (pss_one (ps_expr (MS.pe_bmK (K := K) rfl (pe_bm PySem.F.plainAttrs_list PySem.F.slot_list_append PySem.F.type_list_append mt_append (pv 2) (pa_cons (pe_callB (MS.call_isE1 (K := K) rfl EX_BadOver hz hf) (by rfl) T.isinstance PyProof.Rows.boot_isinstance (pa_cons (pv 3) (pa_cons (pe_glob (v := .ref C_SkipsError) rfl g_SkipsError rfl) pa_nil))) pa_nil)))))) EK.HdsN.nil))
      (pss_cons (EK.ps_tryN (i := 3) rfl rfl sc_lrefused.nd rfl rfl takes0 (fun W pn xe tk _ => (pss_one (ps_expr (MS.pe_methS (pe_make M_Ratio F_Ratio (hr.mono (by decide)) (by rfl) g_Ratio b_Ratio1 v_Ratio pass0 (pa_cons (pv 0) pa_nil)) S.cl Me_divided X_divided (hr.mono (by decide)) b_divided (fun σ => passAt tk σ) (pa_cons (pe_make M_Ratio F_Ratio (hr.mono (by decide)) (by rfl) g_Ratio b_Ratio .nil pass0 (pa_cons (pv 1) (pa_cons pe_int pa_nil))) pa_nil))))) (EK.HdsN.cons ⟨(by rfl), (by decide), .inl g_BadOver⟩ (fun a oe cls d pn hz hf => (pss_one (ps_expr (MS.pe_bmK (K := K) rfl (pe_bm PySem.F.plainAttrs_list PySem.F.slot_list_append PySem.F.type_list_append mt_append (pv 2) (pa_cons (pe_callB (MS.call_isE1 (K := K) rfl EX_BadOver hz hf) (by rfl) T.isinstance PyProof.Rows.boot_isinstance (pa_cons (pv 3) (pa_cons (pe_glob (v := .ref C_SkipsError) rfl g_SkipsError rfl) pa_nil))) pa_nil)))))) EK.HdsN.nil))
      (pss_one (ps_ret (pe_cmpR (op_eqD hr.units) (pv 2) (pe_lst (pa_cons pe_bl (pa_cons pe_bl (pa_cons pe_bl pa_nil)))) (nomark _)))))))), ?_⟩
    have xo : ∀ {H1 : Hp} {x dx : Addr} {C : Addr}, H1 x = none → H1 dx = none → dx ≠ x → Ex H1 (L2.upd (L2.upd H1 dx (.own x)) x (.ins C dx [])) := fun hx hdx hne => (Ex.new hdx).trans (Ex.new (by rw [upd_ne hne.symm]; exact hx))
    refine ⟨Nat.zero_le _, fun D hD => ?_⟩
    have e1 : Ex H (L2.upd H D (.lst [])) := Ex.new hD
    have g1 : (L2.upd H D (.lst [])) D = some (.lst []) := upd_same
    generalize (L2.upd H D (.lst [])) = H1 at e1 g1 ⊢
    refine ⟨_, rfl, _, rfl, fun x dx hx hdx hne => ⟨x, n, 0, rfl, rfl, fun H2 e2 => ⟨true, x1, fun _ a ha => ?_, fun z => nomatch z⟩⟩⟩
    have g2 := e2 _ _ (xo hx hdx hne _ _ g1)
    have e12 := e1.trans ((xo hx hdx hne).trans e2)
    refine ⟨_, rfl, .inl ⟨rfl, _, sq_of g2⟩, _, rfl, _, _, true, rfl, rfl, rfl, .own _, k1, D, _, _, rfl, rfl, g2, by show 0 < sizeLine; decide, ?_⟩
    have e3 : Ex H (L2.upd H2 D (.lst ([] ++ [.bl true]))) := e12.mut hD
    have g3 : (L2.upd H2 D (.lst ([] ++ [.bl true]))) D = some (.lst [.bl true]) := upd_same
    generalize (L2.upd H2 D (.lst ([] ++ [.bl true]))) = H3 at e3 g3 ⊢
    -- the second
    refine ⟨_, rfl, fun x dx hx hdx hne => mk_rat (k := 61) hx hdx hne (by decide) hn (by decide) (by decide) fun H4 x' z e4 R ee => ⟨rfl, ?_⟩⟩
    obtain ⟨d4, h4⟩ := R.at_
    refine ⟨x, d4, _, rfl, h4, rfl, _, rfl, x, _, x', z, 0, 1, 61, rfl, R, .i (by decide) (by decide), rfl, by decide, fun H5 e5 => ⟨true, x1, fun _ a ha => ?_, fun z => nomatch z⟩⟩
    have g5 := e5 _ _ (e4 _ _ g3)
    have e35 := e3.trans (e4.trans e5)
    refine ⟨_, rfl, .inl ⟨rfl, _, sq_of g5⟩, _, rfl, _, _, true, rfl, rfl, rfl, .own _, k1, D, _, _, rfl, rfl, g5, by show 1 < sizeLine; decide, ?_⟩
    have e6 : Ex H (L2.upd H5 D (.lst ([.bl true] ++ [.bl true]))) := e35.mut hD
    have g6 : (L2.upd H5 D (.lst ([.bl true] ++ [.bl true]))) D = some (.lst [.bl true, .bl true]) := upd_same
    generalize (L2.upd H5 D (.lst ([.bl true] ++ [.bl true]))) = H6 at e6 g6 ⊢
    -- the third
    refine ⟨_, rfl, fun x dx hx hdx hne => mk_rat (k := 61) hx hdx hne (by decide) hn (by decide) (by decide) fun H7 x7 z7 e7 R7 ee7 => ⟨rfl, ?_⟩⟩
    obtain ⟨d7, h7⟩ := R7.at_
    refine ⟨x, d7, _, rfl, h7, rfl, _, rfl, fun y dy hy hdy hney => mk_rat (k := 61) hy hdy hney (by decide) (by decide) (by decide) (by decide) fun H8 x8 z8 e8 R8 ee8 => ⟨rfl, ?_⟩⟩
    have hx8 : x8 = 0 := by omega
    refine ⟨x, .ref y, x7, z7, x8, z8, 61, rfl, R7.up e8, .r R8, hx8, by decide, fun H9 e9 => ⟨true, x1, fun _ a ha => ?_, fun z => nomatch z⟩⟩
    have g9 := e9 _ _ (e8 _ _ (e7 _ _ g6))
    have e69 := e6.trans (e7.trans (e8.trans e9))
    refine ⟨_, rfl, .inl ⟨rfl, _, sq_of g9⟩, _, rfl, _, _, true, rfl, rfl, rfl, .own _, k1, D, _, _, rfl, rfl, g9, by show 2 < sizeLine; decide, ?_⟩
    have eA : Ex H (L2.upd H9 D (.lst ([.bl true, .bl true] ++ [.bl true]))) := e69.mut hD
    have gA : (L2.upd H9 D (.lst ([.bl true, .bl true] ++ [.bl true]))) D = some (.lst [.bl true, .bl true, .bl true]) := upd_same
    generalize (L2.upd H9 D (.lst ([.bl true, .bl true] ++ [.bl true]))) = HA at eA gA ⊢
    refine ⟨_, rfl, by show 3 ≤ sizeLine; decide, fun l hl => ?_⟩
    refine ⟨.list [.bool true, .bool true, .bool true], .list [.bool true, .bool true, .bool true], .lst (sq_of ((Ex.new hl) _ _ gA)) (.cons (.bl _) (.cons (.bl _) (.cons (.bl _) .nil))), .lst (sq_of upd_same) (.cons (.bl _) (.cons (.bl _) (.cons (.bl _) .nil))), by decide +kernel, by decide +kernel, ?_⟩
    exact q _ (eA.trans (Ex.new hl))
end
end Law

namespace BR
open PySem PySem.Spec L2 Evl
/-- repr of a bool -/
theorem call_repr_bool {X : Cx} : CallR X (.builtin "repr") (fun xs H Q => ∃ b : Bool, xs = [.bl b] ∧ Q (.str (if b then "True" else "False")) H) := by
  intro pins s σ H xs us Q I r h
  obtain ⟨b, rfl, q⟩ := h
  obtain ⟨u, rfl, rfl⟩ := vals1 r
  exact PySem.P.repr_of_bool ⟨.str _, H, I.tok _, ⟨_, rfl⟩, q⟩
end BR
namespace Law
open PySem PySem.Spec PyProof.Rows L2 Evl
theorem can {x y t : Int} (ht : 0 < t) (h : x * t = y * t) : x = y := Int.eq_of_mul_eq_mul_right (Int.ne_of_gt ht) h
theorem absI (i : Int) : (if i < 0 then -i else i) = ((i.natAbs : Nat) : Int) := by
  by_cases h : i < 0
  · rw [if_pos h]; omega
  · rw [if_neg h]; omega
section
variable {a b c d k n1 o1 n2 o2 x z : Int}
theorem e_add (h1 : n1 * b = a * o1) (h2 : n2 * d = c * o2) (p1 : 0 < o1) (p2 : 0 < o2) (h : x * (o1 * o2) = (n1 * o2 + n2 * o1) * z) : x * (b * d) = (a * d + c * b) * z := can (Int.mul_pos p1 p2) (by grind)
theorem e_sub (h1 : n1 * b = a * o1) (h2 : n2 * d = c * o2) (p1 : 0 < o1) (p2 : 0 < o2) (h : x * (o1 * o2) = (n1 * o2 - n2 * o1) * z) : x * (b * d) = (a * d - c * b) * z := can (Int.mul_pos p1 p2) (by grind)
theorem e_mul (h1 : n1 * b = a * o1) (h2 : n2 * d = c * o2) (p1 : 0 < o1) (p2 : 0 < o2) (h : x * (o1 * o2) = n1 * n2 * z) : x * (b * d) = a * c * z := can (Int.mul_pos p1 p2) (by grind)
theorem e_div (h1 : n1 * b = a * o1) (h2 : n2 * d = c * o2) (p1 : 0 < o1) (p2 : 0 < o2) (h : x * (o1 * n2) = n1 * o2 * z) : x * (b * c) = a * d * z := can (Int.mul_pos p1 p2) (by grind)
theorem e_neg (h1 : n1 * b = a * o1) (p1 : 0 < o1) (h : x * o1 = -n1 * z) : x * b = -a * z := can p1 (by grind)
theorem e_abs (h1 : n1 * b = a * o1) (p1 : 0 < o1) (h : x * o1 = (if n1 < 0 then -n1 else n1) * z) : x * (if b < 0 then -b else b) = (if a < 0 then -a else a) * z := by
  rw [absI] at h
  rw [absI, absI]
  have e : ((n1.natAbs : Nat) : Int) * ((b.natAbs : Nat) : Int) = ((a.natAbs : Nat) : Int) * o1 := by
    have := congrArg Int.natAbs h1
    rw [Int.natAbs_mul, Int.natAbs_mul] at this
    have q : ((o1.natAbs : Nat) : Int) = o1 := by omega
    rw [← q, ← Int.natCast_mul, ← Int.natCast_mul, this]
  generalize ((n1.natAbs : Nat) : Int) = u at h e
  generalize ((b.natAbs : Nat) : Int) = v at e ⊢
  generalize ((a.natAbs : Nat) : Int) = w at e ⊢
  exact can p1 (by grind)
theorem e_addI (h1 : n1 * b = a * o1) (p1 : 0 < o1) (h : x * (o1 * 1) = (n1 * 1 + k * o1) * z) : x * b = (a + k * b) * z := can p1 (by grind)
theorem e_subI (h1 : n1 * b = a * o1) (p1 : 0 < o1) (h : x * (o1 * 1) = (n1 * 1 - k * o1) * z) : x * b = (a - k * b) * z := can p1 (by grind)
theorem e_rsubI (h1 : n1 * b = a * o1) (p1 : 0 < o1) (h : x * (o1 * 1) = (k * o1 - n1 * 1) * z) : x * b = (k * b - a) * z := can p1 (by grind)
theorem e_mulI (h1 : n1 * b = a * o1) (p1 : 0 < o1) (h : x * (o1 * 1) = n1 * k * z) : x * b = k * a * z := can p1 (by grind)
theorem e_divI (h1 : n1 * b = a * o1) (p1 : 0 < o1) (h : x * (o1 * k) = n1 * 1 * z) : x * (b * k) = a * z := can p1 (by grind)
theorem lt_iff {t u L R X Y : Int} (ht : 0 < t) (hu : 0 < u) (h1 : L * t = u * X) (h2 : R * t = u * Y) : X < Y ↔ L < R := by
  constructor
  · intro e
    have := Int.mul_lt_mul_of_pos_left e hu
    rw [← h1, ← h2] at this
    exact Int.lt_of_mul_lt_mul_right this (Int.le_of_lt ht)
  · intro e
    have := Int.mul_lt_mul_of_pos_right e ht
    rw [h1, h2] at this
    exact Int.lt_of_mul_lt_mul_left this (Int.le_of_lt hu)
theorem eq_iff {t u L R X Y : Int} (ht : 0 < t) (hu : 0 < u) (h1 : L * t = u * X) (h2 : R * t = u * Y) : X = Y ↔ L = R := by
  constructor
  · intro e
    exact can ht (by rw [h1, h2, e])
  · intro e
    rw [e, h2] at h1
    exact (Int.eq_of_mul_eq_mul_left (Int.ne_of_gt hu) h1).symm
theorem sgn_pos {v : Int} (h : v ≠ 0) : 0 < v * (if v > 0 then 1 else -1) := by
  by_cases q : v > 0
  · rw [if_pos q]; omega
  · rw [if_neg q]; omega
theorem abs_sgn {v : Int} (h : v ≠ 0) : ((v.natAbs : Nat) : Int) = v * (if v > 0 then 1 else -1) := by
  by_cases q : v > 0
  · rw [if_pos q]; omega
  · rw [if_neg q]; omega
end
theorem ne_of_nd {x : Int} (h : (!decide (V.int x = V.int 0)) = true) : x ≠ 0 := fun z => by
  subst z
  exact absurd h (by decide)
theorem cutI2 {A : Prop} {N : Int → Prop} (Pr : Int → Prop) (hA : (∀ x, Pr x → N x) → A) (rest : ∀ x, Pr x → N x) : A := hA rest
/-- a row of the list: a fraction and two numbers it is made of -/
def Row (C : Addr) (H : Hp) (v : V) : Prop := ∃ (t r : Addr) (m p x z : Int), v = .ref t ∧ H t = some (.tup [.ref r, .int m, .int p]) ∧ RObj C H r x z 300 ∧ p ≠ 0 ∧ m.natAbs < 2 ^ 300 ∧ p.natAbs < 2 ^ 300 ∧ x * p = m * z
theorem Row.up {C : Addr} {H H' : Hp} {v : V} (R : Row C H v) (e : Ex H H') : Row C H' v := by
  obtain ⟨t, r, m, p, x, z, h0, h1, h2, h3⟩ := R
  exact ⟨t, r, m, p, x, z, h0, e _ _ h1, h2.up e, h3⟩
def Rows (C : Addr) (H : Hp) (vs : List V) : Prop := ∀ v ∈ vs, Row C H v
theorem Rows.up {C : Addr} {H H' : Hp} {vs : List V} (R : Rows C H vs) (e : Ex H H') : Rows C H' vs := fun v h => (R v h).up e
theorem subB {a b : Int} {k : Nat} (ha : a.natAbs < 2 ^ k) (hb : b.natAbs < 2 ^ k) : (a - b).natAbs < 2 ^ (k + 1) := by
  have := Int.natAbs_sub_le a b
  rw [Nat.pow_succ]
  omega
theorem negB {a : Int} {k : Nat} (ha : a.natAbs < 2 ^ k) : (-a).natAbs < 2 ^ k := by
  rw [Int.natAbs_neg]
  exact ha
theorem absB {a : Int} {k : Nat} (ha : a.natAbs < 2 ^ k) : (if a < 0 then -a else a).natAbs < 2 ^ k := by
  rw [absI, Int.natAbs_natCast]
  exact ha
theorem abs0 {a : Int} (h : a ≠ 0) : (if a < 0 then -a else a) ≠ 0 := by
  rw [absI]
  omega
/-- the three values of a row -/
def RowT (C : Addr) (ta : TA) (σ : L2.St) (H : Hp) : Prop := ∀ G, Ex H G → ∀ R : List V → Hp → Prop, (∀ G' r m p x z, Ex G G' → RObj C G' r x z 300 → p ≠ 0 → m.natAbs < 2 ^ 300 → p.natAbs < 2 ^ 300 → x * p = m * z → R [.ref r, .int m, .int p] G') → ta σ G R
theorem t_row {C : Addr} {ta : TA} {σ : L2.St} {H G : Hp} {Q : VK} (h : RowT C ta σ H) (e : Ex H G) (q : ∀ G' t, Ex G G' → Row C G' (.ref t) → Q (.ref t) G') : tTup ta σ G Q :=
  h G e _ fun G' r m p x z x1 RR h1 h2 h3 h4 => ⟨by show 3 ≤ sizeLine; decide, fun tt htt => q _ tt (x1.trans (Ex.new htt)) ⟨tt, r, m, p, x, z, rfl, upd_same, RR.up (Ex.new htt), h1, h2, h3, h4⟩⟩
theorem Rows.nil {C : Addr} {H : Hp} : Rows C H [] := fun _ h => nomatch h
theorem Rows.cons {C : Addr} {H : Hp} {v : V} {vs : List V} (a : Row C H v) (b : Rows C H vs) : Rows C H (v :: vs) := fun u h => by
  rcases List.mem_cons.mp h with h | h
  · exact h ▸ a
  · exact b u h
theorem Rows.app {C : Addr} {H : Hp} {us vs : List V} (a : Rows C H us) (b : Rows C H vs) : Rows C H (us ++ vs) := fun u h => by
  rcases List.mem_append.mp h with h | h
  · exact a u h
  · exact b u h
/-- a new object: all rows stand -/
theorem t_lst4 {C : Addr} {t1 t2 t3 t4 : TA} {σ : L2.St} {H : Hp} {Q : VK} (h1 : RowT C t1 σ H) (h2 : RowT C t2 σ H) (h3 : RowT C t3 σ H) (h4 : RowT C t4 σ H) (q : ∀ G D vs, Ex H G → G D = some (.lst vs) → Rows C G vs → vs.length = 4 → Q (.ref D) G) :
    tLst (tCons (tTup t1) (tCons (tTup t2) (tCons (tTup t3) (tCons (tTup t4) tNil)))) σ H Q := by
  unfold tLst tCons
  refine t_row h1 (Ex.refl _) fun G1 a1 x1 w1 => ?_
  refine t_row h2 x1 fun G2 a2 x2 w2 => ?_
  refine t_row h3 (x1.trans x2) fun G3 a3 x3 w3 => ?_
  refine t_row h4 (x1.trans (x2.trans x3)) fun G4 a4 x4 w4 => ?_
  refine ⟨by show 4 ≤ sizeLine; decide, fun D hD => ?_⟩
  have x5 := Ex.new (o := .lst [.ref a1, .ref a2, .ref a3, .ref a4]) hD
  exact q _ D _ (x1.trans (x2.trans (x3.trans (x4.trans x5)))) upd_same (.cons (w1.up (x2.trans (x3.trans (x4.trans x5)))) (.cons (w2.up (x3.trans (x4.trans x5))) (.cons (w3.up (x4.trans x5)) (.cons (w4.up x5) .nil)))) rfl
theorem t_lst3 {C : Addr} {t1 t2 t3 : TA} {σ : L2.St} {H : Hp} {Q : VK} (h1 : RowT C t1 σ H) (h2 : RowT C t2 σ H) (h3 : RowT C t3 σ H) (q : ∀ G D vs, Ex H G → G D = some (.lst vs) → Rows C G vs → vs.length = 3 → Q (.ref D) G) :
    tLst (tCons (tTup t1) (tCons (tTup t2) (tCons (tTup t3) tNil))) σ H Q := by
  unfold tLst tCons
  refine t_row h1 (Ex.refl _) fun G1 a1 x1 w1 => ?_
  refine t_row h2 x1 fun G2 a2 x2 w2 => ?_
  refine t_row h3 (x1.trans x2) fun G3 a3 x3 w3 => ?_
  refine ⟨by show 3 ≤ sizeLine; decide, fun D hD => ?_⟩
  have x5 := Ex.new (o := .lst [.ref a1, .ref a2, .ref a3]) hD
  exact q _ D _ (x1.trans (x2.trans (x3.trans x5))) upd_same (.cons (w1.up (x2.trans (x3.trans x5))) (.cons (w2.up (x3.trans x5)) (.cons (w3.up x5) .nil))) rfl
theorem s_lst4 {C : Addr} {t1 t2 t3 t4 : TA} {σ : L2.St} {H : Hp} {i : Nat} {tz : TS} {D : Ends} (h1 : RowT C t1 σ H) (h2 : RowT C t2 σ H) (h3 : RowT C t3 σ H) (h4 : RowT C t4 σ H) (q : ∀ G d vs, Ex H G → G d = some (.lst vs) → Rows C G vs → vs.length = 4 → tz D (σ.set i (some (.ref d))) G) :
    tSeq (tAsg (tLst (tCons (tTup t1) (tCons (tTup t2) (tCons (tTup t3) (tCons (tTup t4) tNil))))) (gName i)) tz D σ H := by
  unfold tSeq tAsg gName
  exact t_lst4 h1 h2 h3 h4 q
theorem back {H G : Hp} {d : Addr} (e : Ex H G) (h : G d = none) : H d = none := by
  cases q : H d with
  | none => rfl
  | some u =>
    rw [e _ _ q] at h
    cases h
theorem Row.mut {C : Addr} {H : Hp} {v : V} {d : Addr} {xs ys : List V} (R : Row C H v) (h : H d = some (.lst xs)) : Row C (L2.upd H d (.lst ys)) v := by
  obtain ⟨t, r, m, p, x, z, h0, h1, ⟨⟨dx, h2⟩, k1, k2, k3, k4⟩, h4⟩ := R
  have n1 : t ≠ d := fun e => by rw [e, h] at h1; cases h1
  have n2 : r ≠ d := fun e => by rw [e, h] at h2; cases h2
  exact ⟨t, r, m, p, x, z, h0, by rw [upd_ne n1]; exact h1, ⟨⟨dx, by rw [upd_ne n2]; exact h2⟩, k1, k2, k3, k4⟩, h4⟩
theorem RObj.mut {C a d : Addr} {H : Hp} {n o : Int} {k : Nat} {xs ys : List V} (R : RObj C H a n o k) (h : H d = some (.lst xs)) : RObj C (L2.upd H d (.lst ys)) a n o k := by
  obtain ⟨⟨dx, h2⟩, k1, k2, k3, k4⟩ := R
  have n2 : a ≠ d := fun e => by rw [e, h] at h2; cases h2
  exact ⟨⟨dx, by rw [upd_ne n2]; exact h2⟩, k1, k2, k3, k4⟩
theorem t_row1 {C : Addr} {t1 : TA} {σ : L2.St} {H : Hp} {Q : List V → Hp → Prop} (h1 : RowT C t1 σ H) (q : ∀ G t, Ex H G → Row C G (.ref t) → Q [.ref t] G) : tCons (tTup t1) tNil σ H Q := by
  unfold tCons
  exact t_row h1 (Ex.refl _) q
theorem t_cat {C : Addr} {tl : TE} {σ : L2.St} {H : Hp} {Q : VK} {i n : Nat} {d : Addr} {vs : List V} (hs : σ[i]? = some (some (.ref d))) (hd : H d = some (.lst vs)) (W : Rows C H vs) (hz : vs.length + n ≤ 100) (hl : ∀ Q' : VK, (∀ G d2 ws, Ex H G → G d2 = some (.lst ws) → Rows C G ws → ws.length = n → Q' (.ref d2) G) → tl σ H Q')
    (q : ∀ G d3 us, Ex H G → H d3 = none → G d3 = some (.lst us) → Rows C G us → us.length = vs.length + n → Q (.ref d3) G) : tOp rCat (tVar i) tl σ H Q := by
  refine ⟨_, hs, hl _ fun G d2 ws x1 h2 W2 hn => ⟨d, d2, vs, ws, rfl, rfl, x1 _ _ hd, h2, Nat.le_trans (by rw [hn]; exact hz) (show 100 ≤ sizeLine by decide), fun p hp => ?_⟩⟩
  have x2 := Ex.new (o := .lst (vs ++ ws)) hp
  exact q _ p _ (x1.trans x2) (back x1 hp) upd_same ((W.up (x1.trans x2)).app (W2.up x2)) (by rw [List.length_append, hn])
theorem s_cat4 {C : Addr} {t1 t2 t3 t4 : TA} {σ : L2.St} {H : Hp} {i : Nat} {tz : TS} {D : Ends} {d : Addr} {vs : List V} (hs : σ[i]? = some (some (.ref d))) (hd : H d = some (.lst vs)) (W : Rows C H vs) (hz : vs.length + 4 ≤ 100) (h1 : RowT C t1 σ H) (h2 : RowT C t2 σ H) (h3 : RowT C t3 σ H) (h4 : RowT C t4 σ H)
    (q : ∀ G d vs', Ex H G → H d = none → G d = some (.lst vs') → Rows C G vs' → vs'.length = vs.length + 4 → tz D (σ.set i (some (.ref d))) G) :
    tSeq (tAsg (tOp rCat (tVar i) (tLst (tCons (tTup t1) (tCons (tTup t2) (tCons (tTup t3) (tCons (tTup t4) tNil)))))) (gName i)) tz D σ H := by
  unfold tSeq tAsg gName
  exact t_cat hs hd W hz (fun _ q' => t_lst4 h1 h2 h3 h4 q') q
theorem s_cat3 {C : Addr} {t1 t2 t3 : TA} {σ : L2.St} {H : Hp} {i : Nat} {tz : TS} {D : Ends} {d : Addr} {vs : List V} (hs : σ[i]? = some (some (.ref d))) (hd : H d = some (.lst vs)) (W : Rows C H vs) (hz : vs.length + 3 ≤ 100) (h1 : RowT C t1 σ H) (h2 : RowT C t2 σ H) (h3 : RowT C t3 σ H)
    (q : ∀ G d vs', Ex H G → H d = none → G d = some (.lst vs') → Rows C G vs' → vs'.length = vs.length + 3 → tz D (σ.set i (some (.ref d))) G) :
    tSeq (tAsg (tOp rCat (tVar i) (tLst (tCons (tTup t1) (tCons (tTup t2) (tCons (tTup t3) tNil))))) (gName i)) tz D σ H := by
  unfold tSeq tAsg gName
  exact t_cat hs hd W hz (fun _ q' => t_lst3 h1 h2 h3 q') q
theorem n_ne {n d c o : Int} (E : n * d = c * o) (hc : c ≠ 0) (ho : 0 < o) : n ≠ 0 := fun z => by
  rw [z, Int.zero_mul] at E
  rcases Int.mul_eq_zero.mp E.symm with h | h
  · exact hc h
  · omega
theorem r_uniq {C : Addr} {H H' : Hp} {r r2 : Addr} {x z x2 z2 m p : Int} {k k2 : Nat} (R : RObj C H r x z k) (R2 : RObj C H' r2 x2 z2 k2) (hp : p ≠ 0) (e1 : x * p = m * z) (e2 : x2 * p = m * z2) : x = x2 ∧ z = z2 :=
  low_uniq R.pos R2.pos R.low R2.low (Int.eq_of_mul_eq_mul_right hp (by grind))
theorem r_neg {x z m p : Int} (h : x * -p = -m * z) : x * p = m * z := by grind
theorem ns_no {x y : Str} (h : y = x) : ¬ ((!decide (V.str x = V.str y)) = true) := by simp [h]
theorem cutS2 {A : Prop} {N : Str → Prop} (Pr : Str → Prop) (hA : (∀ x, Pr x → N x) → A) (rest : ∀ x, Pr x → N x) : A := hA rest
theorem txt1 {n o : Int} {z : Str} (h : o = 1) (hz : Str.ofString (toString n) = z) : z = txt n o := by
  unfold txt
  rw [if_pos h, ← hz]
  rfl
theorem txt2 {n o : Int} {z : Str} (h : ¬ o = 1) (hz : Str.ofString (toString n) ++ Str.ofString "/" ++ Str.ofString (toString o) = z) : z = txt n o := by
  unfold txt
  rw [if_neg h, ← hz]
  rfl
theorem ln1 {n : Int} (h : n.natAbs < 2 ^ 300) : (Str.ofString (toString n)).length + (Str.ofString "/").length ≤ sizeLine := by
  have := dS_len (b120 h (by decide))
  unfold dS at this
  rw [show (Str.ofString "/").length = 1 by decide +kernel]
  exact Nat.le_trans (by omega) (show 200 ≤ sizeLine by decide)
theorem ln2 {n o : Int} (h : n.natAbs < 2 ^ 300) (h2 : o.natAbs < 2 ^ 300) : (Str.ofString (toString n) ++ Str.ofString "/").length + (Str.ofString (toString o)).length ≤ sizeLine := by
  have a1 := dS_len (b120 h (by decide))
  have a2 := dS_len (b120 h2 (by decide))
  unfold dS at a1 a2
  rw [e_len, show (Str.ofString "/").length = 1 by decide +kernel]
  exact Nat.le_trans (by omega) (show 400 ≤ sizeLine by decide)
theorem lg300 {n : Int} (h : n.natAbs < 2 ^ 300) : n.natAbs.log2 < 1920 := Nat.lt_of_lt_of_le (log_lt h (by decide)) (by decide)
theorem tC_eq {i j : Int} {σ : L2.St} {H : Hp} {Q : VK} (h : i = j) (q : tC (V.int j) σ H Q) : tC (V.int i) σ H Q := h ▸ q
theorem sg1 {v : Int} (h : v > 0) : (1 : Int) = if v > 0 then 1 else -1 := (if_pos h).symm
theorem sg2 {v : Int} (h : ¬ v > 0) : (-1 : Int) = if v > 0 then 1 else -1 := (if_neg h).symm
theorem sgb {x v : Int} (h : x = if v > 0 then 1 else -1) : x.natAbs < 2 ^ 61 := by
  subst h
  by_cases q : v > 0
  · rw [if_pos q]; decide
  · rw [if_neg q]; decide
theorem nb_no {x y : Bool} (h : x = y) : ¬ ((!decide (V.bl x = V.bl y)) = true) := by simp [h]
theorem dnd {P Q : Prop} [Decidable P] [Decidable Q] (h : ¬ decide P = true) : ¬ P := fun z => h (decide_eq_true z)
section
variable {a b c d k n1 o1 n2 o2 s1 s2 : Int}
theorem fin_lt (E1 : n1 * b = a * o1) (E2 : n2 * d = c * o2) (p1 : 0 < o1) (p2 : 0 < o2) (h0 : b * d ≠ 0) (h1 : s1 = if b * d > 0 then 1 else -1) (h2 : s2 = if b * d > 0 then 1 else -1) : n1 * o2 < n2 * o1 ↔ a * d * s1 < c * b * s2 := by
  have hs := sgn_pos h0
  rw [← h1] at hs
  have : s2 = s1 := h2.trans h1.symm
  subst this
  exact lt_iff (Int.mul_pos p1 p2) hs (by grind) (by grind)
theorem fin_eq (E1 : n1 * b = a * o1) (E2 : n2 * d = c * o2) (p1 : 0 < o1) (p2 : 0 < o2) (l1 : Nat.gcd n1.natAbs o1.natAbs = 1) (l2 : Nat.gcd n2.natAbs o2.natAbs = 1) (h0 : b * d ≠ 0) (h1 : s1 = if b * d > 0 then 1 else -1) (h2 : s2 = if b * d > 0 then 1 else -1) : (n1 = n2 ∧ o1 = o2) ↔ V.int (a * d * s1) = V.int (c * b * s2) := by
  have hs := sgn_pos h0
  rw [← h1] at hs
  have : s2 = s1 := h2.trans h1.symm
  subst this
  have e := eq_iff (X := n1 * o2) (Y := n2 * o1) (L := a * d * s2) (R := c * b * s2) (Int.mul_pos p1 p2) hs (by grind) (by grind)
  constructor
  · rintro ⟨rfl, rfl⟩
    exact congrArg V.int (e.mp rfl)
  · intro h
    exact low_uniq p1 p2 l1 l2 (e.mpr (V.int.inj h))
theorem fin_k (E1 : n1 * b = a * o1) (p1 : 0 < o1) (h0 : b ≠ 0) (h1 : s1 = if b > 0 then 1 else -1) : n1 * 1 < k * o1 ↔ a * s1 < k * (if b < 0 then -b else b) := by
  have hs := sgn_pos h0
  have ha := abs_sgn h0
  rw [← h1] at hs ha
  rw [absI, ha]
  exact lt_iff p1 hs (by grind) (by grind)
end
theorem one300 : (1 : Int).natAbs < 2 ^ 300 := Nat.one_lt_two_pow (by decide)
theorem st_eq {t : L2.St → Hp → Prop} {σ σ' : L2.St} {H : Hp} (e : σ = σ') (h : t σ' H) : t σ H := e ▸ h
theorem nx_mk {a c d : L2.St → Hp → Prop} {b : VK} {σ : L2.St} {H : Hp} (h : a σ H) : (Ends.mk a b c d).nx σ H := h
theorem cut2 {A : Prop} {N : L2.St → Hp → Prop} (Pv : L2.St → Hp → Prop) (hA : (∀ σ' H', Pv σ' H' → N σ' H') → A) (rest : ∀ σ' H', Pv σ' H' → N σ' H') : A := hA rest
def spLaw (K : PySem.W.Frag) : Sp := fun vs H Q _ => ∃ (a : Addr) (ns : List Int), vs = [.ref a] ∧ SqL K H a (ns.map V.int) ∧ ns.length ≤ 63 ∧ ∀ H', Q (.bl true) H'
section
variable {P : Program} {w : World} {K : PySem.W.Frag} {mg : Str → Option Value} {base : Heap} {C_Ratio fi fa fra fs frs fm frm fn fb fst fe fv fl : Addr} {fdi fda fdra fds fdrs fdm fdrm fdn fdb fdst fde fdv fdl : FuncData} {dv : Value}
theorem PenAt.fresh0 {p : PenI} {H0 H : Hp} {n : Nat} {D : Addr} (P : PenAt p H0 H n) (h : H D = none) : H0 D = none ∧ D ≠ p.d := by
  refine ⟨?_, fun e => ?_⟩
  · cases q : H0 D with
    | none => rfl
    | some u =>
      rw [P.1 _ _ q] at h
      cases h
  · obtain ⟨kvs, h2⟩ := P.dict
    rw [e, h2] at h
    cases h
theorem ok_law {f : Addr} {fd : FuncData} (F : Fun K "law" "law" s_law f fd) (T : Tx mg) (S : RC K C_Ratio) (g_repr : mg "repr" = none) (g_Ratio : mg "Ratio" = some (.ref C_Ratio)) (M_Ratio : Mk K C_Ratio fi) (F_Ratio : FnOk P w K mg base CX0 2 fi fdi ["self", "number", "over"] (spInit C_Ratio)) (b_Ratio : Binds K fdi ["self", "number", "over"] [])
    (b_Ratio1 : Binds K fdi ["self", "number", "over"] [dv]) (v_Ratio : Vals [V.int 1] [dv])
    (O_add : OR.Op K C_Ratio fa "add") (R_add : OR.OpR2 K C_Ratio fra "add") (F_add : FnOk P w K mg base CX0 5 fa fda ["self", "other"] (spAdd C_Ratio)) (b_add : Binds K fda ["self", "other"] []) (F_radd : FnOk P w K mg base CX0 6 fra fdra ["self", "other"] (spAdd C_Ratio)) (b_radd : Binds K fdra ["self", "other"] [])
    (O_sub : OR.Op K C_Ratio fs "sub") (R_sub : OR.OpR2 K C_Ratio frs "sub") (F_sub : FnOk P w K mg base CX0 6 fs fds ["self", "other"] (spSub C_Ratio)) (b_sub : Binds K fds ["self", "other"] []) (F_rsub : FnOk P w K mg base CX0 6 frs fdrs ["self", "other"] (spRSub C_Ratio)) (b_rsub : Binds K fdrs ["self", "other"] [])
    (O_mul : OR.Op K C_Ratio fm "mul") (R_mul : OR.OpR2 K C_Ratio frm "mul") (F_mul : FnOk P w K mg base CX0 5 fm fdm ["self", "other"] (spMul C_Ratio)) (b_mul : Binds K fdm ["self", "other"] []) (F_rmul : FnOk P w K mg base CX0 6 frm fdrm ["self", "other"] (spMul C_Ratio)) (b_rmul : Binds K fdrm ["self", "other"] [])
    (hi : PySem.W.mroIn K C_Ratio (.type "int") = some false)
    (n_at : PySem.W.findIn K (.ref C_Ratio) "__neg__" = some (some (.ref fn))) (n_fn : PySem.W.isFn K (.ref fn) = true) (F_neg : FnOk P w K mg base CX0 4 fn fdn ["self"] (spNeg C_Ratio)) (b_neg : Binds K fdn ["self"] [])
    (a_at : PySem.W.findIn K (.ref C_Ratio) "__abs__" = some (some (.ref fb))) (a_fn : PySem.W.isFn K (.ref fb) = true) (F_abs : FnOk P w K mg base CX0 4 fb fdb ["self"] (spAbs C_Ratio)) (b_abs : Binds K fdb ["self"] [])
    (s_at : PySem.W.findIn K (.ref C_Ratio) "__str__" = some (some (.ref fst))) (s_fn : PySem.W.isFn K (.ref fst) = true) (F_str : FnOk P w K mg base CX0 2 fst fdst ["self"] (spStr C_Ratio)) (b_str : Binds K fdst ["self"] [])
    (Q_Ratio : OQ.Own K C_Ratio fe) (F_eq : FnOk P w K mg base CX0 1 fe fde ["self", "other"] (spEq C_Ratio)) (b_eq : Binds K fde ["self", "other"] [])
    (Me_divided : Meth K C_Ratio "divided" fv) (F_divided : FnOk P w K mg base CX0 5 fv fdv ["self", "other"] (spDiv C_Ratio)) (b_divided : Binds K fdv ["self", "other"] [])
    (Me_is_less : Meth K C_Ratio "is_less" fl) (F_is_less : FnOk P w K mg base CX0 5 fl fdl ["self", "other"] (spLess C_Ratio)) (b_is_less : Binds K fdl ["self", "other"] [])
    (c_lpen_of : Kn P w K mg base "_law_pen_of" ["_law_script"] 1 (spPen K)) (c_lnumber_of : Kn P w K mg base "_law_number_of" ["_law_pen"] 3 spNumOf) (c_lsame : Kn P w K mg base "_law_same" ["_law_ratio", "_law_number", "_law_over"] 2 (spSame C_Ratio)) (c_lrefused : Kn P w K mg base "_law_refused" ["_law_number", "_law_over"] 6 spRef) :
    FnOk P w K mg base CX0 10 f fd ["_law_script"] (spLaw K) := by
  refine F.ok sc_law (fun vs H Q E h => ?_) (fun cdv A outer s H vs Q E hr h => ?_)
  · obtain ⟨a, ns, rfl, _⟩ := h
    rfl
  · obtain ⟨a, ns, rfl, hS, hl, q⟩ := h
    refine ⟨_, (pss_cons (ps_set (i := 1) sc_law.nd rfl (Or.inr rfl) (pe_call c_lpen_of.ok (hr.mono (by decide)) (by rfl) c_lpen_of.g c_lpen_of.kp c_lpen_of.b .nil pass0 (pa_cons (pv 0) pa_nil)))
      (pss_cons (ps_for PassesOwn.never rfl (pi_range1 (by rfl) T.range (pa_cons pe_int pa_nil)) (pg_name (i := 2) sc_law.nd rfl (Or.inl rfl)) (pss_cons (ps_asg (pe_lc (own := [("_law_k", 7)]) (g := gName 7) (tt := tYes) rfl sc_law.nd (pi_range1 (by rfl) T.range (pa_cons pe_int pa_nil)) (blkOk_by (N := N_law) (sc := defScope s_law) (by decide +kernel)) (fun _ _ _ _ _ => (pg_name (i := 7) sc_law.nd rfl (Or.inl rfl))) (fun _ _ _ _ _ => pts_nil) (fun _ _ _ _ _ => (pe_call c_lnumber_of.ok (hr.mono (by decide)) (by rfl) c_lnumber_of.g c_lnumber_of.kp c_lnumber_of.b .nil pass0 (pa_cons (pv 1) pa_nil)))) (pg_unl (n := 4) (by rfl) (pgs_cons (pg_name (i := 3) sc_law.nd rfl (Or.inl rfl)) (pgs_cons (pg_name (i := 4) sc_law.nd rfl (Or.inl rfl)) (pgs_cons (pg_name (i := 5) sc_law.nd rfl (Or.inl rfl)) (pgs_cons (pg_name (i := 6) sc_law.nd rfl (Or.inl rfl)) pgs_nil))))))
      (pss_cons (ps_par3 (i := 4) (j := 6) (l := 7) (by rfl) sc_law.nd rfl rfl rfl (by decide) (by decide) (by decide) rfl rfl rfl (pa_cons (pe_ifExp (pt_cmpR op_ne (pv 4) pe_int (nomark _)) (pv 4) pe_int) (pa_cons (pe_ifExp (pt_cmpR op_ne (pv 6) pe_int (nomark _)) (pv 6) (pe_un un_neg pe_int)) (pa_cons (pe_call c_lnumber_of.ok (hr.mono (by decide)) (by rfl) c_lnumber_of.g c_lnumber_of.kp c_lnumber_of.b .nil pass0 (pa_cons (pv 1) pa_nil)) pa_nil))) (by rfl))
      (pss_cons (ps_par (i := 8) (j := 9) (by rfl) sc_law.nd rfl rfl (by decide) rfl rfl (pa_cons (pe_make M_Ratio F_Ratio (hr.mono (by decide)) (by rfl) g_Ratio b_Ratio .nil pass0 (pa_cons (pv 3) (pa_cons (pv 4) pa_nil))) (pa_cons (pe_make M_Ratio F_Ratio (hr.mono (by decide)) (by rfl) g_Ratio b_Ratio .nil pass0 (pa_cons (pv 5) (pa_cons (pv 6) pa_nil))) pa_nil)) (by rfl))
      (pss_cons (ps_set (i := 10) sc_law.nd rfl (Or.inl rfl) (pe_lst (pa_cons (pe_tup (pa_cons (pv 8) (pa_cons (pv 3) (pa_cons (pv 4) pa_nil)))) (pa_cons (pe_tup (pa_cons (pv 9) (pa_cons (pv 5) (pa_cons (pv 6) pa_nil)))) (pa_cons (pe_tup (pa_cons (pe_op (OR.op_add O_add R_add F_add b_add (hr.mono (by decide))) (pv 8) (pv 9)) (pa_cons (pe_op op_add (pe_op op_mulW (pv 3) (pv 6)) (pe_op op_mulW (pv 5) (pv 4))) (pa_cons (pe_op op_mulW (pv 4) (pv 6)) pa_nil)))) (pa_cons (pe_tup (pa_cons (pe_op (OR.op_sub O_sub R_sub F_sub b_sub (hr.mono (by decide))) (pv 8) (pv 9)) (pa_cons (pe_op op_sub (pe_op op_mulW (pv 3) (pv 6)) (pe_op op_mulW (pv 5) (pv 4))) (pa_cons (pe_op op_mulW (pv 4) (pv 6)) pa_nil)))) pa_nil))))))
      (pss_cons (ps_set (i := 10) sc_law.nd rfl (Or.inl rfl) (pe_op op_cat (pv 10) (pe_lst (pa_cons (pe_tup (pa_cons (pe_op (OR.op_mul O_mul R_mul F_mul b_mul (hr.mono (by decide))) (pv 8) (pv 9)) (pa_cons (pe_op op_mulW (pv 3) (pv 5)) (pa_cons (pe_op op_mulW (pv 4) (pv 6)) pa_nil)))) (pa_cons (pe_tup (pa_cons (pe_un (OR.un_both n_at n_fn F_neg b_neg (hr.mono (by decide))) (pv 8)) (pa_cons (pe_un un_neg (pv 3)) (pa_cons (pv 4) pa_nil)))) (pa_cons (pe_tup (pa_cons (pe_callB (OR.call_absO a_at a_fn F_abs b_abs (hr.mono (by decide))) (by rfl) T.abs (by decide +kernel) (pa_cons (pv 8) pa_nil)) (pa_cons (pe_callB call_abs (by rfl) T.abs (by decide +kernel) (pa_cons (pv 3) pa_nil)) (pa_cons (pe_callB call_abs (by rfl) T.abs (by decide +kernel) (pa_cons (pv 4) pa_nil)) pa_nil)))) (pa_cons (pe_tup (pa_cons (pe_make M_Ratio F_Ratio (hr.mono (by decide)) (by rfl) g_Ratio b_Ratio1 v_Ratio pass0 (pa_cons (pv 7) pa_nil)) (pa_cons (pv 7) (pa_cons pe_int pa_nil)))) pa_nil)))))))
      (pss_cons (ps_set (i := 10) sc_law.nd rfl (Or.inl rfl) (pe_op op_cat (pv 10) (pe_lst (pa_cons (pe_tup (pa_cons (pe_op (OR.op_add O_add R_add F_add b_add (hr.mono (by decide))) (pv 8) (pv 7)) (pa_cons (pe_op op_add (pv 3) (pe_op op_mulW (pv 7) (pv 4))) (pa_cons (pv 4) pa_nil)))) (pa_cons (pe_tup (pa_cons (pe_op (OR.op_addR O_add R_add hi F_radd b_radd (hr.mono (by decide))) (pv 7) (pv 8)) (pa_cons (pe_op op_add (pv 3) (pe_op op_mulW (pv 7) (pv 4))) (pa_cons (pv 4) pa_nil)))) (pa_cons (pe_tup (pa_cons (pe_op (OR.op_sub O_sub R_sub F_sub b_sub (hr.mono (by decide))) (pv 8) (pv 7)) (pa_cons (pe_op op_sub (pv 3) (pe_op op_mulW (pv 7) (pv 4))) (pa_cons (pv 4) pa_nil)))) pa_nil))))))
      (pss_cons (ps_set (i := 10) sc_law.nd rfl (Or.inl rfl) (pe_op op_cat (pv 10) (pe_lst (pa_cons (pe_tup (pa_cons (pe_op (OR.op_subR O_sub R_sub hi F_rsub b_rsub (hr.mono (by decide))) (pv 7) (pv 8)) (pa_cons (pe_op op_sub (pe_op op_mulW (pv 7) (pv 4)) (pv 3)) (pa_cons (pv 4) pa_nil)))) (pa_cons (pe_tup (pa_cons (pe_op (OR.op_mulR O_mul R_mul hi F_rmul b_rmul (hr.mono (by decide))) (pv 7) (pv 8)) (pa_cons (pe_op op_mulW (pv 7) (pv 3)) (pa_cons (pv 4) pa_nil)))) (pa_cons (pe_tup (pa_cons (pe_op (OR.op_mul O_mul R_mul F_mul b_mul (hr.mono (by decide))) (pv 8) (pv 7)) (pa_cons (pe_op op_mulW (pv 7) (pv 3)) (pa_cons (pv 4) pa_nil)))) pa_nil))))))
      (pss_cons (ps_if (pt_cmpR op_ne (pv 5) pe_int (nomark _)) (pss_one (ps_expr (pe_bm PySem.F.plainAttrs_list PySem.F.slot_list_append PySem.F.type_list_append mt_append (pv 10) (pa_cons (pe_tup (pa_cons (pe_meth (pv 8) S.cl Me_divided F_divided (hr.mono (by decide)) b_divided .nil pass0 (pa_cons (pv 9) pa_nil)) (pa_cons (pe_op op_mulW (pv 3) (pv 6)) (pa_cons (pe_op op_mulW (pv 4) (pv 5)) pa_nil)))) pa_nil)))) pss_nil)
      (pss_cons (ps_if (pt_cmpR op_ne (pv 7) pe_int (nomark _)) (pss_one (ps_expr (pe_bm PySem.F.plainAttrs_list PySem.F.slot_list_append PySem.F.type_list_append mt_append (pv 10) (pa_cons (pe_tup (pa_cons (pe_meth (pv 8) S.cl Me_divided F_divided (hr.mono (by decide)) b_divided .nil pass0 (pa_cons (pv 7) pa_nil)) (pa_cons (pv 3) (pa_cons (pe_op op_mulW (pv 4) (pv 7)) pa_nil)))) pa_nil)))) pss_nil)
      (pss_cons (ps_for PassesOwn.never rfl (pi_list (pv 10)) (pg_tup (by rfl) (pgs_cons (pg_name (i := 11) sc_law.nd rfl (Or.inl rfl)) (pgs_cons (pg_name (i := 12) sc_law.nd rfl (Or.inl rfl)) (pgs_cons (pg_name (i := 13) sc_law.nd rfl (Or.inl rfl)) pgs_nil)))) (pss_cons (ps_if (PW.pt (pw_or (pt_not (pt_val (pe_callB call_isi (by rfl) T.isinstance PyProof.Rows.boot_isinstance (pa_cons (pv 11) (pa_cons (pe_glob (v := .ref C_Ratio) rfl g_Ratio rfl) pa_nil))))) (pw_or1 (pt_not (pt_val (pe_call c_lsame.ok (hr.mono (by decide)) (by rfl) c_lsame.g c_lsame.kp c_lsame.b .nil pass0 (pa_cons (pv 11) (pa_cons (pv 12) (pa_cons (pv 13) pa_nil))))))))) (pss_one (ps_ret pe_bl)) pss_nil)
      (pss_cons (ps_set (i := 14) sc_law.nd rfl (Or.inl rfl) (pe_ifExp (pt_cmpR op_eq (pe_fld (pv 11) rfl) pe_int (nomark _)) (pe_callTy call_str_int (by rfl) T.str PyProof.Rows.boot_str (pa_cons (pe_fld (pv 11) rfl) pa_nil)) (pe_op op_add_str (pe_op op_add_str (pe_callTy call_str_int (by rfl) T.str PyProof.Rows.boot_str (pa_cons (pe_fld (pv 11) rfl) pa_nil)) pe_str) (pe_callTy call_str_int (by rfl) T.str PyProof.Rows.boot_str (pa_cons (pe_fld (pv 11) rfl) pa_nil)))))
      (pss_one (ps_if (PW.pt (pw_or (pt_cmpR op_ne (pe_callTy (OR.call_strO s_at s_fn F_str b_str (hr.mono (by decide))) (by rfl) T.str PyProof.Rows.boot_str (pa_cons (pv 11) pa_nil)) (pv 14) (nomark _)) (pw_or (pt_cmpR (OQ.op_ownN Q_Ratio F_eq b_eq (hr.mono (by decide))) (pv 11) (pe_make M_Ratio F_Ratio (hr.mono (by decide)) (by rfl) g_Ratio b_Ratio .nil pass0 (pa_cons (pv 12) (pa_cons (pv 13) pa_nil))) (nomark _)) (pw_or1 (pt_not (pt_cmpR (OQ.op_own Q_Ratio F_eq b_eq (hr.mono (by decide))) (pv 11) (pe_make M_Ratio F_Ratio (hr.mono (by decide)) (by rfl) g_Ratio b_Ratio .nil pass0 (pa_cons (pe_un un_neg (pv 12)) (pa_cons (pe_un un_neg (pv 13)) pa_nil))) (nomark _))))))) (pss_one (ps_ret pe_bl)) pss_nil)))))
      (pss_cons (ps_par (i := 15) (j := 16) (by rfl) sc_law.nd rfl rfl (by decide) rfl rfl (pa_cons (pe_op op_mulW (pe_op op_mulW (pv 3) (pv 6)) (pe_ifExp (pt_cmpR op_gt (pe_op op_mulW (pv 4) (pv 6)) pe_int (nomark _)) pe_int (pe_un un_neg pe_int))) (pa_cons (pe_op op_mulW (pe_op op_mulW (pv 5) (pv 4)) (pe_ifExp (pt_cmpR op_gt (pe_op op_mulW (pv 4) (pv 6)) pe_int (nomark _)) pe_int (pe_un un_neg pe_int))) pa_nil)) (by rfl))
      (pss_cons (ps_if (PW.pt (pw_or (pt_cmpR op_ne (pe_cmpR (OQ.op_own Q_Ratio F_eq b_eq (hr.mono (by decide))) (pv 8) (pv 9) (nomark _)) (pe_cmpR op_eq (pv 15) (pv 16) (nomark _)) (nomark _)) (pw_or1 (pt_cmpR op_ne (pe_callB BR.call_repr_bool (by rfl) g_repr boot_repr (pa_cons (pe_meth (pv 8) S.cl Me_is_less F_is_less (hr.mono (by decide)) b_is_less .nil pass0 (pa_cons (pv 9) pa_nil)) pa_nil)) (pe_callB BR.call_repr_bool (by rfl) g_repr boot_repr (pa_cons (pe_cmpR op_lt (pv 15) (pv 16) (nomark _)) pa_nil)) (nomark _))))) (pss_one (ps_ret pe_bl)) pss_nil)
      (pss_cons (ps_if (pt_cmpR op_ne (pe_callB BR.call_repr_bool (by rfl) g_repr boot_repr (pa_cons (pe_meth (pv 8) S.cl Me_is_less F_is_less (hr.mono (by decide)) b_is_less .nil pass0 (pa_cons (pv 7) pa_nil)) pa_nil)) (pe_callB BR.call_repr_bool (by rfl) g_repr boot_repr (pa_cons (pe_cmpR op_lt (pe_op op_mulW (pv 3) (pe_ifExp (pt_cmpR op_gt (pv 4) pe_int (nomark _)) pe_int (pe_un un_neg pe_int))) (pe_op op_mulW (pv 7) (pe_callB call_abs (by rfl) T.abs (by decide +kernel) (pa_cons (pv 4) pa_nil))) (nomark _)) pa_nil)) (nomark _)) (pss_one (ps_ret pe_bl)) pss_nil)
      (pss_one (ps_if (PW.pt (pw_or (pt_cmpR (OQ.op_own Q_Ratio F_eq b_eq (hr.mono (by decide))) (pe_make M_Ratio F_Ratio (hr.mono (by decide)) (by rfl) g_Ratio b_Ratio1 v_Ratio pass0 (pa_cons (pv 7) pa_nil)) (pv 7) (nomark _)) (pw_or (pt_cmpR (OQ.op_own Q_Ratio F_eq b_eq (hr.mono (by decide))) (pv 8) (pe_callTy (OR.call_strO s_at s_fn F_str b_str (hr.mono (by decide))) (by rfl) T.str PyProof.Rows.boot_str (pa_cons (pv 8) pa_nil)) (nomark _)) (pw_or (pt_not (pt_val (pe_call c_lsame.ok (hr.mono (by decide)) (by rfl) c_lsame.g c_lsame.kp c_lsame.b .nil pass0 (pa_cons (pv 8) (pa_cons (pv 3) (pa_cons (pv 4) pa_nil)))))) (pw_or1 (pt_not (pt_val (pe_call c_lrefused.ok (hr.mono (by decide)) (by rfl) c_lrefused.g c_lrefused.kp c_lrefused.b .nil pass0 (pa_cons (pv 3) (pa_cons pe_int pa_nil)))))))))) (pss_one (ps_ret pe_bl)) pss_nil))))))))))))))))
      (pss_one (ps_ret pe_bl)))), ?_⟩
    refine ⟨_, rfl, a, ns, rfl, hS, hl, fun p H0 H1 eH P0 => ?_⟩
    refine ⟨_, rfl, by decide, by decide, for_range (lo := 0) (n := 16) (fun i σ H' => ∃ y2 y3 y4 y5 y6 y7 y8 y9 y10 y11 y12 y13 y14 y15 y16 : Option V, σ = [some (.ref a), some (.ref p.d), y2, y3, y4, y5, y6, y7, y8, y9, y10, y11, y12, y13, y14, y15, y16] ∧ PenAt p H0 H' (25 * i)) ⟨none, none, none, none, none, none, none, none, none, none, none, none, none, none, none, rfl, P0⟩ (fun i σ H' hi hw => ?_) (fun σ H' _ => ?_)⟩
    rotate_left
    · exact q _
    · obtain ⟨y2, y3, y4, y5, y6, y7, y8, y9, y10, y11, y12, y13, y14, y15, y16, rfl, P1⟩ := hw
      refine ⟨_, rfl, by decide, by decide, fun D hD => lc_range (lo := 0) (n := 4) (fun j H2 => ∃ vs : List Int, vs.length = j ∧ H2 D = some (.lst (vs.map V.int)) ∧ (∀ v ∈ vs, v.natAbs < 2 ^ 61) ∧ PenAt p H0 H2 (25 * i + 5 * j)) ?_ (fun j H2 hj hw => ?_) (fun H2 hw => ?_)⟩
      · obtain ⟨d0, d1⟩ := P1.fresh0 hD
        exact ⟨[], rfl, upd_same, fun v hv => (by cases hv), P1.upd d0 d1⟩
      · obtain ⟨d0, d1⟩ := P1.fresh0 hD
        obtain ⟨vs, hv, hz, hb, P2⟩ := hw
        refine ⟨rfl, _, rfl, p, L2.upd H0 D (.lst (vs.map V.int)), _, rfl, P2.keep hz d1, by omega, fun H3 v P3 hvb => ?_⟩
        refine ⟨_, P3.1 _ _ upd_same, Nat.lt_of_lt_of_le (show (vs.map V.int).length < 100 by rw [List.length_map]; omega) (by decide), vs ++ [v], by rw [List.length_append, hv]; rfl, ?_, ?_, ?_⟩
        · rw [upd_same, List.map_append]
          rfl
        · intro x hx
          rcases List.mem_append.mp hx with h | h
          · exact hb x h
          · rw [List.mem_singleton.mp h]
            exact hvb
        · exact ((P2.drop hz P3).upd d0 d1).le (by omega)
      · obtain ⟨d0, d1⟩ := P1.fresh0 hD
        obtain ⟨vs, hv, hz, hb, P2⟩ := hw
        obtain ⟨va, vb, vc, vd, rfl⟩ : ∃ va vb vc vd, vs = [va, vb, vc, vd] := by
          match vs, hv with
          | [va, vb, vc, vd], _ => exact ⟨va, vb, vc, vd, rfl⟩
        have ba := hb va (by simp)
        have bb0 := hb vb (by simp)
        have bc := hb vc (by simp)
        have bd0 := hb vd (by simp)
        refine ⟨D, _, rfl, sq_of hz, rfl, _, _, rfl, _, _, rfl, _, _, rfl, _, _, rfl, rfl, ?_⟩
        refine' cutI2 (fun x => x ≠ 0 ∧ x.natAbs < 2 ^ 61) (fun rest => ?_) ?_
        rotate_left
        · refine ⟨_, rfl, rfl, _, rfl, ite2 (fun hb => ?_) (fun hb => ?_)⟩
          · have h0 : vb ≠ 0 := ne_of_nd hb
            obtain ⟨x, hx⟩ : ∃ x, vb = x := ⟨_, rfl⟩
            refine ⟨.int x, congrArg (fun z => some (some (V.int z))) hx, ?_⟩
            exact rest x ⟨hx ▸ h0, hx ▸ bb0⟩
          · exact rest 5 ⟨by decide, by decide⟩
        · rintro vb ⟨b0, bb⟩
          refine' cutI2 (fun x => x ≠ 0 ∧ x.natAbs < 2 ^ 61) (fun rest => ?_) ?_
          rotate_left
          · refine ⟨_, rfl, rfl, _, rfl, ite2 (fun hb => ?_) (fun hb => ?_)⟩
            · have h0 : vd ≠ 0 := ne_of_nd hb
              obtain ⟨x, hx⟩ : ∃ x, vd = x := ⟨_, rfl⟩
              refine ⟨.int x, congrArg (fun z => some (some (V.int z))) hx, ?_⟩
              exact rest x ⟨hx ▸ h0, hx ▸ bd0⟩
            · refine ⟨_, rfl, ?_⟩
              exact rest (-7) ⟨by decide, by decide⟩
          · rintro vd ⟨d0', bd⟩
            refine ⟨_, rfl, p, H0, _, rfl, P2, by omega, fun H3 vk P3 bk => ⟨_, _, _, rfl, ?_⟩⟩
            refine ⟨_, rfl, _, rfl, fun ra dx1 hra hdx1 hne1 => mk_rat (k := 61) hra hdx1 hne1 b0 ba bb (by decide) fun H4 n1 o1 e4 R1 E1 => ⟨rfl, ?_⟩⟩
            refine ⟨_, rfl, _, rfl, fun rb dx2 hrb hdx2 hne2 => mk_rat (k := 61) hrb hdx2 hne2 d0' bc bd (by decide) fun H5 n2 o2 e5 R2 E2 => ⟨rfl, _, _, rfl, ?_⟩⟩
            have R1 := R1.up e5
            have e35 := e4.trans e5
            refine st_eq (σ' := [some (.ref a), some (.ref p.d), some (.int (0 + (i : Nat))), some (.int va), some (.int vb), some (.int vc), some (.int vd), some (.int vk), some (.ref ra), some (.ref rb), y10, y11, y12, y13, y14, y15, y16]) rfl ?_
            refine nx_mk ?_
            refine s_lst4 (C := C_Ratio)
              (fun G g R hR => ⟨_, rfl, _, rfl, _, rfl, hR _ ra va vb n1 o1 (Ex.refl _) ((R1.up g).wid (by decide)) b0 (pow_up ba (by decide)) (pow_up bb (by decide)) E1⟩)
              (fun G g R hR => ⟨_, rfl, _, rfl, _, rfl, hR _ rb vc vd n2 o2 (Ex.refl _) ((R2.up g).wid (by decide)) d0' (pow_up bc (by decide)) (pow_up bd (by decide)) E2⟩)
              (fun G g R hR => by
                obtain ⟨_, h1⟩ := (R1.up g).at_
                obtain ⟨_, h2⟩ := (R2.up g).at_
                exact ⟨_, rfl, _, rfl, ra, _, _, rfl, h1, .inl ⟨rb, _, _, rfl, h2⟩, ra, _, n1, o1, n2, o2, 61, rfl, R1.up g, .r (R2.up g), by decide, fun G2 r x z ge RR ee => ⟨r, rfl, _, rfl, _, rfl, _, _, rfl, rfl, mulW ba bd (by decide), _, rfl, _, rfl, _, _, rfl, rfl, mulW bc bb (by decide), _, _, rfl, rfl, _, rfl, _, rfl, _, _, rfl, rfl, mulW bb bd (by decide), hR _ r ((va * vd) + (vc * vb)) (vb * vd) x z ge (RR.wid (by decide)) (Int.mul_ne_zero b0 d0') (pow_up (addB (mulB ba bd) (mulB bc bb)) (by decide)) (pow_up (mulB bb bd) (by decide)) (e_add E1 E2 R1.pos R2.pos ee)⟩⟩)
              (fun G g R hR => by
                obtain ⟨_, h1⟩ := (R1.up g).at_
                obtain ⟨_, h2⟩ := (R2.up g).at_
                exact ⟨_, rfl, _, rfl, ra, _, _, rfl, h1, .inl ⟨rb, _, _, rfl, h2⟩, ra, _, n1, o1, n2, o2, 61, rfl, R1.up g, .r (R2.up g), by decide, fun G2 r x z ge RR ee => ⟨r, rfl, _, rfl, _, rfl, _, _, rfl, rfl, mulW ba bd (by decide), _, rfl, _, rfl, _, _, rfl, rfl, mulW bc bb (by decide), _, _, rfl, rfl, _, rfl, _, rfl, _, _, rfl, rfl, mulW bb bd (by decide), hR _ r ((va * vd) - (vc * vb)) (vb * vd) x z ge (RR.wid (by decide)) (Int.mul_ne_zero b0 d0') (pow_up (subB (mulB ba bd) (mulB bc bb)) (by decide)) (pow_up (mulB bb bd) (by decide)) (e_sub E1 E2 R1.pos R2.pos ee)⟩⟩)
              (fun H6 D6 rs6 e6 hL6 W6 hl6 => ?_)
            have R1 := R1.up e6
            have R2 := R2.up e6
            refine st_eq (σ' := [some (.ref a), some (.ref p.d), some (.int (0 + (i : Nat))), some (.int va), some (.int vb), some (.int vc), some (.int vd), some (.int vk), some (.ref ra), some (.ref rb), some (.ref D6), y11, y12, y13, y14, y15, y16]) rfl ?_
            refine s_cat4 (C := C_Ratio) rfl hL6 W6 (by omega)
              (fun G g R hR => by
                obtain ⟨_, h1⟩ := (R1.up g).at_
                obtain ⟨_, h2⟩ := (R2.up g).at_
                exact ⟨_, rfl, _, rfl, ra, _, _, rfl, h1, .inl ⟨rb, _, _, rfl, h2⟩, ra, _, n1, o1, n2, o2, 61, rfl, R1.up g, .r (R2.up g), by decide, fun G2 r x z ge RR ee => ⟨r, rfl, _, rfl, _, rfl, _, _, rfl, rfl, mulW ba bc (by decide), _, rfl, _, rfl, _, _, rfl, rfl, mulW bb bd (by decide), hR _ r (va * vc) (vb * vd) x z ge (RR.wid (by decide)) (Int.mul_ne_zero b0 d0') (pow_up (mulB ba bc) (by decide)) (pow_up (mulB bb bd) (by decide)) (e_mul E1 E2 R1.pos R2.pos ee)⟩⟩)
              (fun G g R hR => by
                obtain ⟨_, h1⟩ := (R1.up g).at_
                obtain ⟨_, h2⟩ := (R2.up g).at_
                exact ⟨_, rfl, .inl ⟨ra, _, _, rfl, h1, ra, n1, o1, 61, rfl, R1.up g, by decide, fun G2 r x z ge RR ee => ⟨_, rfl, _, rfl, _, rfl, hR _ r (-va) vb x z ge (RR.wid (by decide)) b0 (pow_up (negB ba) (by decide)) (pow_up bb (by decide)) (e_neg E1 R1.pos ee)⟩⟩⟩)
              (fun G g R hR => by
                obtain ⟨_, h1⟩ := (R1.up g).at_
                obtain ⟨_, h2⟩ := (R2.up g).at_
                exact ⟨_, rfl, ra, _, _, rfl, h1, ra, n1, o1, 61, rfl, R1.up g, by decide, fun G2 r x z ge RR ee => ⟨_, rfl, _, rfl, _, rfl, _, rfl, hR _ r (if va < 0 then -va else va) (if vb < 0 then -vb else vb) x z ge (RR.wid (by decide)) (abs0 b0) (pow_up (absB ba) (by decide)) (pow_up (absB bb) (by decide)) (e_abs E1 R1.pos ee)⟩⟩)
              (fun G g R hR => by
                obtain ⟨_, h1⟩ := (R1.up g).at_
                obtain ⟨_, h2⟩ := (R2.up g).at_
                exact ⟨_, rfl, fun r dxk hrk hdxk hnek => mk_rat (k := 61) hrk hdxk hnek (by decide) bk (by decide) (by decide) fun G2 x z ge RR ee => ⟨rfl, _, rfl, hR _ r vk 1 x z ge (RR.wid (by decide)) (by decide) (pow_up bk (by decide)) one300 ee⟩⟩)
              (fun H7 D7 rs7 e7 hf7 hL7 W7 hl7 => ?_)
            have R1 := R1.up e7
            have R2 := R2.up e7
            refine st_eq (σ' := [some (.ref a), some (.ref p.d), some (.int (0 + (i : Nat))), some (.int va), some (.int vb), some (.int vc), some (.int vd), some (.int vk), some (.ref ra), some (.ref rb), some (.ref D7), y11, y12, y13, y14, y15, y16]) rfl ?_
            refine s_cat3 (C := C_Ratio) rfl hL7 W7 (by omega)
              (fun G g R hR => by
                obtain ⟨_, h1⟩ := (R1.up g).at_
                obtain ⟨_, h2⟩ := (R2.up g).at_
                exact ⟨_, rfl, _, rfl, ra, _, _, rfl, h1, .inr ⟨_, rfl⟩, ra, _, n1, o1, vk, 1, 61, rfl, R1.up g, .i bk (by decide), by decide, fun G2 r x z ge RR ee => ⟨r, rfl, _, rfl, _, rfl, _, rfl, _, _, rfl, rfl, mulW bk bb (by decide), _, _, rfl, rfl, _, rfl, hR _ r (va + (vk * vb)) vb x z ge (RR.wid (by decide)) b0 (pow_up (addB (pow_up ba (by decide) : va.natAbs < 2 ^ (2 * 61)) (mulB bk bb)) (by decide)) (pow_up bb (by decide)) (e_addI E1 R1.pos ee)⟩⟩)
              (fun G g R hR => by
                obtain ⟨_, h1⟩ := (R1.up g).at_
                obtain ⟨_, h2⟩ := (R2.up g).at_
                exact ⟨_, rfl, _, rfl, _, ra, _, _, rfl, rfl, h1, ra, _, n1, o1, vk, 1, 61, rfl, R1.up g, .i bk (by decide), by decide, fun G2 r x z ge RR ee => ⟨r, rfl, _, rfl, _, rfl, _, rfl, _, _, rfl, rfl, mulW bk bb (by decide), _, _, rfl, rfl, _, rfl, hR _ r (va + (vk * vb)) vb x z ge (RR.wid (by decide)) b0 (pow_up (addB (pow_up ba (by decide) : va.natAbs < 2 ^ (2 * 61)) (mulB bk bb)) (by decide)) (pow_up bb (by decide)) (e_addI E1 R1.pos ee)⟩⟩)
              (fun G g R hR => by
                obtain ⟨_, h1⟩ := (R1.up g).at_
                obtain ⟨_, h2⟩ := (R2.up g).at_
                exact ⟨_, rfl, _, rfl, ra, _, _, rfl, h1, .inr ⟨_, rfl⟩, ra, _, n1, o1, vk, 1, 61, rfl, R1.up g, .i bk (by decide), by decide, fun G2 r x z ge RR ee => ⟨r, rfl, _, rfl, _, rfl, _, rfl, _, _, rfl, rfl, mulW bk bb (by decide), _, _, rfl, rfl, _, rfl, hR _ r (va - (vk * vb)) vb x z ge (RR.wid (by decide)) b0 (pow_up (subB (pow_up ba (by decide) : va.natAbs < 2 ^ (2 * 61)) (mulB bk bb)) (by decide)) (pow_up bb (by decide)) (e_subI E1 R1.pos ee)⟩⟩)
              (fun H8 D8 rs8 e8 hf8 hL8 W8 hl8 => ?_)
            have R1 := R1.up e8
            have R2 := R2.up e8
            refine st_eq (σ' := [some (.ref a), some (.ref p.d), some (.int (0 + (i : Nat))), some (.int va), some (.int vb), some (.int vc), some (.int vd), some (.int vk), some (.ref ra), some (.ref rb), some (.ref D8), y11, y12, y13, y14, y15, y16]) rfl ?_
            refine s_cat3 (C := C_Ratio) rfl hL8 W8 (by omega)
              (fun G g R hR => by
                obtain ⟨_, h1⟩ := (R1.up g).at_
                obtain ⟨_, h2⟩ := (R2.up g).at_
                exact ⟨_, rfl, _, rfl, _, ra, _, _, rfl, rfl, h1, ra, _, n1, o1, vk, 1, 61, rfl, R1.up g, .i bk (by decide), by decide, fun G2 r x z ge RR ee => ⟨r, rfl, _, rfl, _, rfl, _, _, rfl, rfl, mulW bk bb (by decide), _, rfl, _, _, rfl, rfl, _, rfl, hR _ r ((vk * vb) - va) vb x z ge (RR.wid (by decide)) b0 (pow_up (subB (mulB bk bb) (pow_up ba (by decide) : va.natAbs < 2 ^ (2 * 61))) (by decide)) (pow_up bb (by decide)) (e_rsubI E1 R1.pos ee)⟩⟩)
              (fun G g R hR => by
                obtain ⟨_, h1⟩ := (R1.up g).at_
                obtain ⟨_, h2⟩ := (R2.up g).at_
                exact ⟨_, rfl, _, rfl, _, ra, _, _, rfl, rfl, h1, ra, _, n1, o1, vk, 1, 61, rfl, R1.up g, .i bk (by decide), by decide, fun G2 r x z ge RR ee => ⟨r, rfl, _, rfl, _, rfl, _, _, rfl, rfl, mulW bk ba (by decide), _, rfl, hR _ r (vk * va) vb x z ge (RR.wid (by decide)) b0 (pow_up (mulB bk ba) (by decide)) (pow_up bb (by decide)) (e_mulI E1 R1.pos ee)⟩⟩)
              (fun G g R hR => by
                obtain ⟨_, h1⟩ := (R1.up g).at_
                obtain ⟨_, h2⟩ := (R2.up g).at_
                exact ⟨_, rfl, _, rfl, ra, _, _, rfl, h1, .inr ⟨_, rfl⟩, ra, _, n1, o1, vk, 1, 61, rfl, R1.up g, .i bk (by decide), by decide, fun G2 r x z ge RR ee => ⟨r, rfl, _, rfl, _, rfl, _, _, rfl, rfl, mulW bk ba (by decide), _, rfl, hR _ r (vk * va) vb x z ge (RR.wid (by decide)) b0 (pow_up (mulB bk ba) (by decide)) (pow_up bb (by decide)) (e_mulI E1 R1.pos ee)⟩⟩)
              (fun H9 D9 rs9 e9 hf9 hL9 W9 hl9 => ?_)
            have R1 := R1.up e9
            have R2 := R2.up e9
            refine st_eq (σ' := [some (.ref a), some (.ref p.d), some (.int (0 + (i : Nat))), some (.int va), some (.int vb), some (.int vc), some (.int vd), some (.int vk), some (.ref ra), some (.ref rb), some (.ref D9), y11, y12, y13, y14, y15, y16]) rfl ?_
            have hf3 : H3 D9 = none := back (e35.trans (e6.trans (e7.trans e8))) hf9
            have e39 := e35.trans (e6.trans (e7.trans (e8.trans e9)))
            refine' cut2 (fun σ' G => σ' = [some (.ref a), some (.ref p.d), some (.int (0 + (i : Nat))), some (.int va), some (.int vb), some (.int vc), some (.int vd), some (.int vk), some (.ref ra), some (.ref rb), some (.ref D9), y11, y12, y13, y14, y15, y16] ∧ Ex H3 G ∧ RObj C_Ratio G ra n1 o1 61 ∧ RObj C_Ratio G rb n2 o2 61 ∧ ∃ rs, G D9 = some (.lst rs) ∧ Rows C_Ratio G rs ∧ rs.length ≤ 20) (fun rest => ?_) ?_
            rotate_left
            · have e := e39
              obtain ⟨rs, hrs⟩ : ∃ rs, rs9 = rs := ⟨_, rfl⟩
              have hL := hL9
              have W := W9
              have hl : rs9.length ≤ 18 := by omega
              rw [hrs] at hL W hl
              refine ⟨_, rfl, rfl, _, rfl, ite2 (fun hb => ?_) (fun hb => ?_)⟩
              · have hc0 := ne_of_nd hb
                have hn2 := n_ne E2 hc0 R2.pos
                refine ⟨_, rfl, .inl ⟨rfl, _, sq_of hL⟩, t_row1 (C := C_Ratio)
                  (fun G g R hR => by
                  obtain ⟨_, h1⟩ := (R1.up g).at_
                  obtain ⟨_, h2⟩ := (R2.up g).at_
                  exact ⟨_, rfl, ra, _, _, rfl, h1, rfl, _, rfl, ra, _, n1, o1, n2, o2, 61, rfl, R1.up g, .r (R2.up g), hn2, by decide, fun G2 r x z ge RR ee => ⟨_, rfl, _, rfl, _, _, rfl, rfl, mulW ba bd (by decide), _, rfl, _, rfl, _, _, rfl, rfl, mulW bb bc (by decide), hR _ r (va * vd) (vb * vc) x z ge (RR.wid (by decide)) (Int.mul_ne_zero b0 hc0) (pow_up (mulB ba bd) (by decide)) (pow_up (mulB bb bc) (by decide)) (e_div E1 E2 R1.pos R2.pos ee)⟩⟩)
                  (fun G t g w => ?_)⟩
                have hLg := g _ _ hL
                refine ⟨D9, _, _, rfl, rfl, hLg, Nat.lt_of_le_of_lt hl (by decide), ?_⟩
                refine rest _ _ ⟨rfl, (e.trans g).mut hf3, R1.up g |>.mut hLg, R2.up g |>.mut hLg, _, upd_same, fun v hv => ?_, ?_⟩
                · rcases List.mem_append.mp hv with h | h
                  · exact ((W v h).up g).mut hLg
                  · rw [List.mem_singleton.mp h]
                    exact w.mut hLg
                · rw [List.length_append]
                  show rs.length + 1 ≤ _
                  omega
              · exact rest _ _ ⟨rfl, e, R1, R2, rs, hL, W, by omega⟩
            rintro σ G9 ⟨rfl, e, R1, R2, rs, hL, W, hl⟩
            refine' cut2 (fun σ' G => σ' = [some (.ref a), some (.ref p.d), some (.int (0 + (i : Nat))), some (.int va), some (.int vb), some (.int vc), some (.int vd), some (.int vk), some (.ref ra), some (.ref rb), some (.ref D9), y11, y12, y13, y14, y15, y16] ∧ Ex H3 G ∧ RObj C_Ratio G ra n1 o1 61 ∧ RObj C_Ratio G rb n2 o2 61 ∧ ∃ rs, G D9 = some (.lst rs) ∧ Rows C_Ratio G rs ∧ rs.length ≤ 40) (fun rest => ?_) ?_
            rotate_left
            · refine ⟨_, rfl, rfl, _, rfl, ite2 (fun hb => ?_) (fun hb => ?_)⟩
              · have hk0 := ne_of_nd hb
                refine ⟨_, rfl, .inl ⟨rfl, _, sq_of hL⟩, t_row1 (C := C_Ratio)
                  (fun G g R hR => by
                  obtain ⟨_, h1⟩ := (R1.up g).at_
                  obtain ⟨_, h2⟩ := (R2.up g).at_
                  exact ⟨_, rfl, ra, _, _, rfl, h1, rfl, _, rfl, ra, _, n1, o1, vk, 1, 61, rfl, R1.up g, .i bk (by decide), hk0, by decide, fun G2 r x z ge RR ee => ⟨_, rfl, _, rfl, _, rfl, _, _, rfl, rfl, mulW bb bk (by decide), hR _ r va (vb * vk) x z ge (RR.wid (by decide)) (Int.mul_ne_zero b0 hk0) (pow_up ba (by decide)) (pow_up (mulB bb bk) (by decide)) (e_divI E1 R1.pos ee)⟩⟩)
                  (fun G t g w => ?_)⟩
                have hLg := g _ _ hL
                refine ⟨D9, _, _, rfl, rfl, hLg, Nat.lt_of_le_of_lt hl (by decide), ?_⟩
                refine rest _ _ ⟨rfl, (e.trans g).mut hf3, R1.up g |>.mut hLg, R2.up g |>.mut hLg, _, upd_same, fun v hv => ?_, ?_⟩
                · rcases List.mem_append.mp hv with h | h
                  · exact ((W v h).up g).mut hLg
                  · rw [List.mem_singleton.mp h]
                    exact w.mut hLg
                · rw [List.length_append]
                  show rs.length + 1 ≤ _
                  omega
              · exact rest _ _ ⟨rfl, e, R1, R2, rs, hL, W, by omega⟩
            rintro σ G9 ⟨rfl, e, R1, R2, rs, hL, W, hl⟩
            have I := S.ins
            refine ⟨_, rfl, D9, rfl, ⟨_, sq_of hL⟩, for_list (xs := rs) (fun j σ H' => ∃ y11 y12 y13 y14 : Option V, σ = [some (.ref a), some (.ref p.d), some (.int (0 + (i : Nat))), some (.int va), some (.int vb), some (.int vc), some (.int vd), some (.int vk), some (.ref ra), some (.ref rb), some (.ref D9), y11, y12, y13, y14, y15, y16] ∧ Ex G9 H') ⟨_, _, _, _, rfl, Ex.refl _⟩ (fun j σ H' _ hw => ?_) (fun j x σ H' hx hw => ?_) (fun σ H' hw => ?_)⟩
            · obtain ⟨_, _, _, _, _, e2⟩ := hw
              exact sq_of (e2 _ _ hL)
            · obtain ⟨z11, z12, z13, z14, rfl, e2⟩ := hw
              obtain ⟨t, r, m, p', xx, zz, rfl, ht, RR, hp0, bm, bp, eq⟩ := (W _ (List.mem_of_getElem? hx)).up e2
              refine ⟨t, _, rfl, st_of ht, rfl, _, _, rfl, _, _, rfl, _, _, rfl, rfl, ?_⟩
              refine st_eq (σ' := [some (.ref a), some (.ref p.d), some (.int (0 + (i : Nat))), some (.int va), some (.int vb), some (.int vc), some (.int vd), some (.int vk), some (.ref ra), some (.ref rb), some (.ref D9), some (.ref r), some (.int m), some (.int p'), z14, y15, y16]) rfl ?_
              obtain ⟨dr, hr1⟩ := RR.at_
              refine ⟨_, rfl, _, _, _, _, true, rfl, .own _, .base (TyOf.ins hr1 I.cl I.ha I.hn I.htk I.hm), I.me, true, rfl, ?_⟩
              refine ⟨_, rfl, _, rfl, _, rfl, r, xx, zz, m, p', 300, rfl, RR, by decide, bm, bp, eq, fun H2 e3 => ⟨true, rfl, ?_⟩⟩
              have RR := RR.up e3
              obtain ⟨dr2, hr2⟩ := RR.at_
              refine' cutS2 (fun z => z = txt xx zz) (fun rest => ?_) ?_
              rotate_left
              · refine ⟨_, rfl, r, _, dr2, _, _, rfl, hr2, S.cl, S.no, rFs_o _ _, rfl, _, rfl, ite2 (fun hb => ?_) (fun hb => ?_)⟩
                · refine ⟨_, rfl, r, _, dr2, _, _, rfl, hr2, S.cl, S.nn, rFs_n _ _, xx, rfl, lg300 RR.bn, ?_⟩
                  obtain ⟨z, hz⟩ : ∃ z, Str.ofString (toString xx) = z := ⟨_, rfl⟩
                  rw [hz]
                  exact rest z (txt1 (V.int.inj (of_decide_eq_true hb)) hz)
                · refine ⟨_, rfl, r, _, dr2, _, _, rfl, hr2, S.cl, S.nn, rFs_n _ _, xx, rfl, lg300 RR.bn, _, _, rfl, rfl, ln1 RR.bn, _, rfl, r, _, dr2, _, _, rfl, hr2, S.cl, S.no, rFs_o _ _, zz, rfl, lg300 RR.bo, _, _, rfl, rfl, ln2 RR.bn RR.bo, ?_⟩
                  obtain ⟨z, hz⟩ : ∃ z, Str.ofString (toString xx) ++ Str.ofString "/" ++ Str.ofString (toString zz) = z := ⟨_, rfl⟩
                  rw [hz]
                  exact rest z (txt2 (fun q => hb (decide_eq_true (congrArg V.int q))) hz)
              intro z hz
              refine ⟨_, rfl, r, _, _, rfl, hr2, r, xx, zz, 300, rfl, RR, by decide, fun H3 e4 => ⟨_, rfl, _, rfl, rfl, _, rfl, ite2 (fun hb => absurd hb (ns_no hz)) (fun _ => ?_)⟩⟩
              have RR := RR.up e4
              refine ⟨_, rfl, _, rfl, _, rfl, fun r2 dx2 hx2 hdx2 hne2 => mk_rat (k := 300) hx2 hdx2 hne2 hp0 bm bp (by decide) fun H4 x2 z2 e5 R4 E4 => ⟨rfl, ?_⟩⟩
              have RR := RR.up e5
              obtain ⟨_, k1⟩ := RR.at_
              obtain ⟨_, k2⟩ := R4.at_
              refine ⟨r, _, _, rfl, k1, .inl ⟨r2, _, _, rfl, k2⟩, r, _, xx, zz, 300, true, rfl, RR, .inl ⟨r2, x2, z2, 300, rfl, R4, ⟨fun _ => r_uniq RR R4 hp0 eq E4, fun _ => rfl⟩⟩, fun H5 e6 => ⟨true, rfl, _, rfl, ite2 (fun hb => absurd hb (by decide)) (fun _ => ?_)⟩⟩
              have RR := RR.up e6
              refine ⟨_, rfl, _, rfl, _, rfl, _, rfl, _, rfl, fun r3 dx3 hx3 hdx3 hne3 => mk_rat (k := 300) hx3 hdx3 hne3 (Int.neg_ne_zero.mpr hp0) (negB bm) (negB bp) (by decide) fun H6 x3 z3 e7 R5 E5 => ⟨rfl, ?_⟩⟩
              have RR := RR.up e7
              obtain ⟨_, k1⟩ := RR.at_
              obtain ⟨_, k2⟩ := R5.at_
              refine ⟨r, _, _, rfl, k1, .inl ⟨r3, _, _, rfl, k2⟩, r, _, xx, zz, 300, true, rfl, RR, .inl ⟨r3, x3, z3, 300, rfl, R5, ⟨fun _ => r_uniq RR R5 hp0 eq (r_neg E5), fun _ => rfl⟩⟩, fun H7 e8 => ⟨true, rfl, true, rfl, ?_⟩⟩
              exact ⟨_, _, _, _, rfl, e2.trans (e3.trans (e4.trans (e5.trans (e6.trans (e7.trans e8)))))⟩
            obtain ⟨z11, z12, z13, z14, rfl, e2⟩ := hw
            have R1 := R1.up e2
            have R2 := R2.up e2
            have E := e.trans e2
            have hbd : vb * vd ≠ 0 := Int.mul_ne_zero b0 d0'
            refine ⟨_, rfl, _, rfl, _, _, rfl, rfl, mulW ba bd (by decide), ?_⟩
            refine' cutI2 (fun x => x = if vb * vd > 0 then 1 else -1) (fun rest => ?_) ?_
            rotate_left
            · refine ⟨_, rfl, _, rfl, _, _, rfl, rfl, mulW bb bd (by decide), _, _, rfl, rfl, _, rfl, ite2 (fun hb => ?_) (fun hb => ?_)⟩
              · obtain ⟨x, hx⟩ : ∃ x : Int, 1 = x := ⟨_, rfl⟩
                refine tC_eq hx ?_
                exact rest x (hx ▸ sg1 (of_decide_eq_true hb))
              · refine ⟨_, rfl, ?_⟩
                exact rest (-1) (sg2 fun z => hb (decide_eq_true z))
            intro s1 hs1
            refine ⟨_, _, rfl, rfl, mulW (mulB ba bd) (pow_up (sgb hs1) (by decide)) (by decide), _, rfl, _, rfl, _, _, rfl, rfl, mulW bc bb (by decide), ?_⟩
            refine' cutI2 (fun x => x = if vb * vd > 0 then 1 else -1) (fun rest => ?_) ?_
            rotate_left
            · refine ⟨_, rfl, _, rfl, _, _, rfl, rfl, mulW bb bd (by decide), _, _, rfl, rfl, _, rfl, ite2 (fun hb => ?_) (fun hb => ?_)⟩
              · obtain ⟨x, hx⟩ : ∃ x : Int, 1 = x := ⟨_, rfl⟩
                refine tC_eq hx ?_
                exact rest x (hx ▸ sg1 (of_decide_eq_true hb))
              · refine ⟨_, rfl, ?_⟩
                exact rest (-1) (sg2 fun z => hb (decide_eq_true z))
            intro s2 hs2
            refine ⟨_, _, rfl, rfl, mulW (mulB bc bb) (pow_up (sgb hs2) (by decide)) (by decide), _, _, rfl, ?_⟩
            refine st_eq (σ' := [some (.ref a), some (.ref p.d), some (.int (0 + (i : Nat))), some (.int va), some (.int vb), some (.int vc), some (.int vd), some (.int vk), some (.ref ra), some (.ref rb), some (.ref D9), z11, z12, z13, z14, some (.int (va * vd * s1)), some (.int (vc * vb * s2))]) rfl ?_
            obtain ⟨_, k1⟩ := R1.at_
            obtain ⟨_, k2⟩ := R2.at_
            refine ⟨_, rfl, _, rfl, ra, _, _, rfl, k1, .inl ⟨rb, _, _, rfl, k2⟩, ra, _, n1, o1, 61, decide (n1 = n2 ∧ o1 = o2), rfl, R1, .inl ⟨rb, n2, o2, 61, rfl, R2, decide_eq_true_iff⟩, fun H3' e3 => ⟨_, rfl, ?_⟩⟩
            refine ⟨_, rfl, _, rfl, rfl, rfl, _, rfl, ite2 (fun hb => absurd hb (nb_no (decide_eq_decide.mpr (fin_eq E1 E2 R1.pos R2.pos R1.low R2.low hbd hs1 hs2)))) (fun _ => ?_)⟩
            have E := E.trans e3
            have R1 := R1.up e3
            have R2 := R2.up e3
            obtain ⟨_, k1⟩ := R1.at_
            refine ⟨_, rfl, ra, _, _, rfl, k1, rfl, _, rfl, ra, _, n1, o1, n2, o2, 61, rfl, R1, .r R2, by decide, fun H4' e4 => ⟨_, rfl, ?_⟩⟩
            refine ⟨_, rfl, _, rfl, _, _, rfl, rfl, _, rfl, rfl, _, rfl, ite2 (fun hb => absurd hb (by
              rw [decide_eq_decide.mpr (fin_lt E1 E2 R1.pos R2.pos hbd hs1 hs2)]
              exact ns_no rfl)) (fun _ => ?_)⟩
            have E := E.trans e4
            have R1 := R1.up e4
            have R2 := R2.up e4
            obtain ⟨_, k1⟩ := R1.at_
            refine ⟨_, rfl, ra, _, _, rfl, k1, rfl, _, rfl, ra, _, n1, o1, vk, 1, 61, rfl, R1, .i bk (by decide), by decide, fun H5' e5 => ⟨_, rfl, ?_⟩⟩
            refine ⟨_, rfl, ?_⟩
            refine' cutI2 (fun x => x = if vb > 0 then 1 else -1) (fun rest => ?_) ?_
            rotate_left
            · refine ⟨_, rfl, _, _, rfl, rfl, _, rfl, ite2 (fun hb => ?_) (fun hb => ?_)⟩
              · obtain ⟨x, hx⟩ : ∃ x : Int, 1 = x := ⟨_, rfl⟩
                refine tC_eq hx ?_
                exact rest x (hx ▸ sg1 (of_decide_eq_true hb))
              · refine ⟨_, rfl, ?_⟩
                exact rest (-1) (sg2 fun z => hb (decide_eq_true z))
            intro s3 hs3
            refine ⟨_, _, rfl, rfl, mulW ba (sgb hs3) (by decide), _, rfl, _, rfl, _, rfl, _, _, rfl, rfl, mulW bk (absB bb) (by decide), _, _, rfl, rfl, _, rfl, rfl, _, rfl, ite2 (fun hb => absurd hb (by
              rw [decide_eq_decide.mpr (fin_k E1 R1.pos b0 hs3)]
              exact ns_no rfl)) (fun _ => ?_)⟩
            have E := E.trans e5
            have R1 := R1.up e5
            refine ⟨_, rfl, fun rk dk hk1 hk2 hk3 => mk_rat (k := 61) hk1 hk2 hk3 (by decide) bk (by decide) (by decide) fun H6' x6 z6 e6' RK _ => ⟨rfl, _, rfl, ?_⟩⟩
            obtain ⟨_, kk⟩ := RK.at_
            refine ⟨rk, _, _, rfl, kk, .inr (.inl ⟨_, rfl⟩), rk, _, x6, z6, 61, false, rfl, RK, .inr ⟨.inl ⟨_, rfl⟩, rfl⟩, fun H7' e7' => ⟨false, rfl, _, rfl, ite2 (fun hb => absurd hb (by decide)) (fun _ => ?_)⟩⟩
            have E := E.trans (e6'.trans e7')
            have R1 := R1.up (e6'.trans e7')
            obtain ⟨_, k1⟩ := R1.at_
            refine ⟨_, rfl, _, rfl, ra, _, _, rfl, k1, ra, n1, o1, 61, rfl, R1, by decide, fun H8' e8' => ⟨_, rfl, ra, _, _, rfl, e8' _ _ k1, .inr (.inr ⟨_, rfl⟩), ra, _, n1, o1, 61, false, rfl, R1.up e8', .inr ⟨.inr ⟨_, rfl⟩, rfl⟩, fun H9' e9' => ⟨false, rfl, _, rfl, ite2 (fun hb => absurd hb (by decide)) (fun _ => ?_)⟩⟩⟩
            have E := E.trans (e8'.trans e9')
            have R1 := R1.up (e8'.trans e9')
            refine ⟨_, rfl, _, rfl, _, rfl, ra, n1, o1, va, vb, 61, rfl, R1, by decide, pow_up ba (by decide), pow_up bb (by decide), E1, fun HA eA => ⟨true, rfl, ?_⟩⟩
            refine ⟨_, rfl, va, rfl, ba, fun HB eB => ⟨true, rfl, ?_⟩⟩
            exact ⟨_, _, _, _, _, _, _, _, _, _, _, _, _, _, _, rfl, (P3.ex (E.trans (eA.trans eB))).le (by omega)⟩
end
end Law

namespace Law
open PySem PySem.Spec PyProof.Rows L2 Evl EK
theorem kit_mk {K : PySem.W.Frag} {t : Value} {c : Addr} {b : Bool} (n : (t == .ref c) = false ∨ b = true) (h1 : PySem.W.isClsIn K c = true) (h2 : PySem.W.typeIn K (.ref c) = some (.type "type")) (h3 : PySem.W.subIn K t (.ref c) = some b) : PySem.W.kitOne K t (.ref c) = some b := by
  have e : PySem.W.kitCls K t (.ref c) = some b := by
    unfold PySem.W.kitCls
    show (if ((PySem.W.clsIn K c).isSome && PySem.W.typeIn K (.ref c) == some (.type "type")) = true then PySem.W.subIn K t (.ref c) else none) = some b
    rw [if_pos (by rw [Bool.and_eq_true]; exact ⟨h1, by rw [h2]; simp⟩)]
    exact h3
  unfold PySem.W.kitOne
  by_cases q : (t == .ref c) = true
  · rw [if_pos q]
    rcases n with n | n
    · rw [n] at q
      cases q
    · rw [n]
  · rw [if_neg q]
    exact e
theorem exm_mk {K : PySem.W.Frag} {t : Value} {c : Addr} {b : Bool} (h0 : PySem.W.subIn K (.ref c) (.type "BaseException") = some true) (h1 : PySem.W.isClsIn K c = true) (h2 : PySem.W.typeIn K (.ref c) = some (.type "type")) (h3 : PySem.W.subIn K t (.ref c) = some b) : PySem.W.exmOne K t (.ref c) = some b := by
  unfold PySem.W.exmOne
  rw [if_pos (by rw [h0]; simp)]
  unfold PySem.W.kitCls
  show (if ((PySem.W.clsIn K c).isSome && PySem.W.typeIn K (.ref c) == some (.type "type")) = true then PySem.W.subIn K t (.ref c) else none) = some b
  rw [if_pos (by rw [Bool.and_eq_true]; exact ⟨h1, by rw [h2]; simp⟩)]
  exact h3
theorem all_mk {l : PySem.W.OpenLaw} {w : World} {K : PySem.W.Frag} {h : Heap} {mg : Str → Option Value} {fa C CB C0 dt f1 f2 f3 f4 f5 f6 f7 f8 f9 f10 f11 f12 fI fE fS fA fRA fB fRB fP fRP fN fO fL fV : Addr} (X : K.In h) (G : h.Ns mainGlobals mg) (hfa : mg "law" = some (.ref fa))
    {od1 an1 od2 an2 od3 an3 od4 an4 od5 an5 od6 an6 od7 an7 od8 an8 od9 an9 od10 an10 od11 an11 od12 an12 odI anI odE anE odS anS odA anA odRA anRA odB anB odRB anRB odP anP odRP anRP odN anN odO anO odL anL odV anV : Option Addr} {sl1 sl2 sl3 sl4 sl5 sl6 sl7 sl8 sl9 sl10 sl11 sl12 slI slE slS slA slRA slB slRB slP slRP slN slO slL slV : Array (Option Value)} {oc1 kV1 dc1 pm1 cd1 ct1 oc2 kV2 dc2 pm2 cd2 ct2 oc3 kV3 dc3 pm3 cd3 ct3 oc4 kV4 dc4 pm4 cd4 ct4 oc5 kV5 dc5 pm5 cd5 ct5 oc6 kV6 dc6 pm6 cd6 ct6 oc7 kV7 dc7 pm7 cd7 ct7 oc8 kV8 dc8 pm8 cd8 ct8 oc9 kV9 dc9 pm9 cd9 ct9 oc10 kV10 dc10 pm10 cd10 ct10 oc11 kV11 dc11 pm11 cd11 ct11 oc12 kV12 dc12 pm12 cd12 ct12 ocI kVI dcI pmI cdI ctI ocE kVE dcE pmE cdE ctE ocS kVS dcS pmS cdS ctS ocA kVA dcA pmA cdA ctA ocRA kVRA dcRA pmRA cdRA ctRA ocB kVB dcB pmB cdB ctB ocRB kVRB dcRB pmRB cdRB ctRB ocP kVP dcP pmP cdP ctP ocRP kVRP dcRP pmRP cdRP ctRP ocN kVN dcN pmN cdN ctN ocO kVO dcO pmO cdO ctO ocL kVL dcL pmL cdL ctL ocV kVV dcV pmV cdV ctV : Value}
    {dc0 : Value} {dd0 : Option Addr} {dn0 : Nat} {ds0 : Array (Option Value)} {tk0 : Tok} {nmB qnB : Str} {NB : Addr} {bsB bmB : List Value} {snB : List Str} {suB : List Value} {abB : Bool} {colB : Option Bool} {ddB : Option Addr} {k0B k1B k2B k3B k5B : Option Value}
    (a1 : PySem.W.nsIn K mainGlobals "law" = some (some (.ref f1)))
    (l1 : K.lookup f1 = some ⟨oc1, od1, .func (PySem.W.fnOf "law" "law" (defArgs s_law) (defBody s_law) (defScope s_law) .none kV1 dc1 pm1 an1 cd1 ct1), sl1⟩)
    (c1 : PySem.W.codeIn K cd1 "law" = true)
    (k1 : PySem.W.keepIn K (.ref f1) = true)
    (a2 : PySem.W.nsIn K mainGlobals "is_integer" = some (some (.ref f2)))
    (l2 : K.lookup f2 = some ⟨oc2, od2, .func (PySem.W.fnOf "is_integer" "is_integer" (defArgs s_is_integer) (defBody s_is_integer) (defScope s_is_integer) .none kV2 dc2 pm2 an2 cd2 ct2), sl2⟩)
    (c2 : PySem.W.codeIn K cd2 "is_integer" = true)
    (k2 : PySem.W.keepIn K (.ref f2) = true)
    (a3 : PySem.W.nsIn K mainGlobals "_digits" = some (some (.ref f3)))
    (l3 : K.lookup f3 = some ⟨oc3, od3, .func (PySem.W.fnOf "_digits" "_digits" (defArgs s_digits) (defBody s_digits) (defScope s_digits) .none kV3 dc3 pm3 an3 cd3 ct3), sl3⟩)
    (c3 : PySem.W.codeIn K cd3 "_digits" = true)
    (k3 : PySem.W.keepIn K (.ref f3) = true)
    (a4 : PySem.W.nsIn K mainGlobals "_is_number" = some (some (.ref f4)))
    (l4 : K.lookup f4 = some ⟨oc4, od4, .func (PySem.W.fnOf "_is_number" "_is_number" (defArgs s_is_number) (defBody s_is_number) (defScope s_is_number) .none kV4 dc4 pm4 an4 cd4 ct4), sl4⟩)
    (c4 : PySem.W.codeIn K cd4 "_is_number" = true)
    (k4 : PySem.W.keepIn K (.ref f4) = true)
    (a5 : PySem.W.nsIn K mainGlobals "_ratio" = some (some (.ref f5)))
    (l5 : K.lookup f5 = some ⟨oc5, od5, .func (PySem.W.fnOf "_ratio" "_ratio" (defArgs s_ratio) (defBody s_ratio) (defScope s_ratio) .none kV5 dc5 pm5 an5 cd5 ct5), sl5⟩)
    (c5 : PySem.W.codeIn K cd5 "_ratio" = true)
    (k5 : PySem.W.keepIn K (.ref f5) = true)
    (a6 : PySem.W.nsIn K mainGlobals "_law_pen_of" = some (some (.ref f6)))
    (l6 : K.lookup f6 = some ⟨oc6, od6, .func (PySem.W.fnOf "_law_pen_of" "_law_pen_of" (defArgs s_lpen_of) (defBody s_lpen_of) (defScope s_lpen_of) .none kV6 dc6 pm6 an6 cd6 ct6), sl6⟩)
    (c6 : PySem.W.codeIn K cd6 "_law_pen_of" = true)
    (k6 : PySem.W.keepIn K (.ref f6) = true)
    (a7 : PySem.W.nsIn K mainGlobals "_law_draw" = some (some (.ref f7)))
    (l7 : K.lookup f7 = some ⟨oc7, od7, .func (PySem.W.fnOf "_law_draw" "_law_draw" (defArgs s_ldraw) (defBody s_ldraw) (defScope s_ldraw) .none kV7 dc7 pm7 an7 cd7 ct7), sl7⟩)
    (c7 : PySem.W.codeIn K cd7 "_law_draw" = true)
    (k7 : PySem.W.keepIn K (.ref f7) = true)
    (a8 : PySem.W.nsIn K mainGlobals "_law_pick" = some (some (.ref f8)))
    (l8 : K.lookup f8 = some ⟨oc8, od8, .func (PySem.W.fnOf "_law_pick" "_law_pick" (defArgs s_lpick) (defBody s_lpick) (defScope s_lpick) .none kV8 dc8 pm8 an8 cd8 ct8), sl8⟩)
    (c8 : PySem.W.codeIn K cd8 "_law_pick" = true)
    (k8 : PySem.W.keepIn K (.ref f8) = true)
    (a9 : PySem.W.nsIn K mainGlobals "_law_common" = some (some (.ref f9)))
    (l9 : K.lookup f9 = some ⟨oc9, od9, .func (PySem.W.fnOf "_law_common" "_law_common" (defArgs s_lcommon) (defBody s_lcommon) (defScope s_lcommon) .none kV9 dc9 pm9 an9 cd9 ct9), sl9⟩)
    (c9 : PySem.W.codeIn K cd9 "_law_common" = true)
    (k9 : PySem.W.keepIn K (.ref f9) = true)
    (a10 : PySem.W.nsIn K mainGlobals "_law_same" = some (some (.ref f10)))
    (l10 : K.lookup f10 = some ⟨oc10, od10, .func (PySem.W.fnOf "_law_same" "_law_same" (defArgs s_lsame) (defBody s_lsame) (defScope s_lsame) .none kV10 dc10 pm10 an10 cd10 ct10), sl10⟩)
    (c10 : PySem.W.codeIn K cd10 "_law_same" = true)
    (k10 : PySem.W.keepIn K (.ref f10) = true)
    (a11 : PySem.W.nsIn K mainGlobals "_law_number_of" = some (some (.ref f11)))
    (l11 : K.lookup f11 = some ⟨oc11, od11, .func (PySem.W.fnOf "_law_number_of" "_law_number_of" (defArgs s_lnumber_of) (defBody s_lnumber_of) (defScope s_lnumber_of) .none kV11 dc11 pm11 an11 cd11 ct11), sl11⟩)
    (c11 : PySem.W.codeIn K cd11 "_law_number_of" = true)
    (k11 : PySem.W.keepIn K (.ref f11) = true)
    (a12 : PySem.W.nsIn K mainGlobals "_law_refused" = some (some (.ref f12)))
    (l12 : K.lookup f12 = some ⟨oc12, od12, .func (PySem.W.fnOf "_law_refused" "_law_refused" (defArgs s_lrefused) (defBody s_lrefused) (defScope s_lrefused) .none kV12 dc12 pm12 an12 cd12 ct12), sl12⟩)
    (c12 : PySem.W.codeIn K cd12 "_law_refused" = true)
    (k12 : PySem.W.keepIn K (.ref f12) = true)
    (aC : PySem.W.nsIn K mainGlobals "Ratio" = some (some (.ref C)))
    (aI : PySem.W.findIn K (.ref C) "__init__" = some (some (.ref fI)))
    (lI : K.lookup fI = some ⟨ocI, odI, .func (PySem.W.fnOf "__init__" "Ratio.__init__" (defArgs s_Ratio_init) (defBody s_Ratio_init) (defScope s_Ratio_init) (.ref dt) kVI dcI pmI anI cdI ctI), slI⟩)
    (cI : PySem.W.codeIn K cdI "Ratio.__init__" = true)
    (kI : PySem.W.keepIn K (.ref fI) = true)
    (dI : K.lookup dt = some ⟨dc0, dd0, .seq ([.int 1 tk0] : List Value).toArray dn0, ds0⟩)
    (nI : PySem.W.isFn K (.ref fI) = true)
    (aE : PySem.W.findIn K (.ref C) "__eq__" = some (some (.ref fE)))
    (lE : K.lookup fE = some ⟨ocE, odE, .func (PySem.W.fnOf "__eq__" "Ratio.__eq__" (defArgs s_Ratio_eq) (defBody s_Ratio_eq) (defScope s_Ratio_eq) .none kVE dcE pmE anE cdE ctE), slE⟩)
    (cE : PySem.W.codeIn K cdE "Ratio.__eq__" = true)
    (kE : PySem.W.keepIn K (.ref fE) = true)
    (nE : PySem.W.isFn K (.ref fE) = true)
    (aS : PySem.W.findIn K (.ref C) "__str__" = some (some (.ref fS)))
    (lS : K.lookup fS = some ⟨ocS, odS, .func (PySem.W.fnOf "__str__" "Ratio.__str__" (defArgs s_Ratio_str) (defBody s_Ratio_str) (defScope s_Ratio_str) .none kVS dcS pmS anS cdS ctS), slS⟩)
    (cS : PySem.W.codeIn K cdS "Ratio.__str__" = true)
    (kS : PySem.W.keepIn K (.ref fS) = true)
    (nS : PySem.W.isFn K (.ref fS) = true)
    (aA : PySem.W.findIn K (.ref C) "__add__" = some (some (.ref fA)))
    (lA : K.lookup fA = some ⟨ocA, odA, .func (PySem.W.fnOf "__add__" "Ratio.__add__" (defArgs s_Ratio_add) (defBody s_Ratio_add) (defScope s_Ratio_add) .none kVA dcA pmA anA cdA ctA), slA⟩)
    (cA : PySem.W.codeIn K cdA "Ratio.__add__" = true)
    (kA : PySem.W.keepIn K (.ref fA) = true)
    (nA : PySem.W.isFn K (.ref fA) = true)
    (aRA : PySem.W.findIn K (.ref C) "__radd__" = some (some (.ref fRA)))
    (lRA : K.lookup fRA = some ⟨ocRA, odRA, .func (PySem.W.fnOf "__radd__" "Ratio.__radd__" (defArgs s_Ratio_radd) (defBody s_Ratio_radd) (defScope s_Ratio_radd) .none kVRA dcRA pmRA anRA cdRA ctRA), slRA⟩)
    (cRA : PySem.W.codeIn K cdRA "Ratio.__radd__" = true)
    (kRA : PySem.W.keepIn K (.ref fRA) = true)
    (nRA : PySem.W.isFn K (.ref fRA) = true)
    (aB : PySem.W.findIn K (.ref C) "__sub__" = some (some (.ref fB)))
    (lB : K.lookup fB = some ⟨ocB, odB, .func (PySem.W.fnOf "__sub__" "Ratio.__sub__" (defArgs s_Ratio_sub) (defBody s_Ratio_sub) (defScope s_Ratio_sub) .none kVB dcB pmB anB cdB ctB), slB⟩)
    (cB : PySem.W.codeIn K cdB "Ratio.__sub__" = true)
    (kB : PySem.W.keepIn K (.ref fB) = true)
    (nB : PySem.W.isFn K (.ref fB) = true)
    (aRB : PySem.W.findIn K (.ref C) "__rsub__" = some (some (.ref fRB)))
    (lRB : K.lookup fRB = some ⟨ocRB, odRB, .func (PySem.W.fnOf "__rsub__" "Ratio.__rsub__" (defArgs s_Ratio_rsub) (defBody s_Ratio_rsub) (defScope s_Ratio_rsub) .none kVRB dcRB pmRB anRB cdRB ctRB), slRB⟩)
    (cRB : PySem.W.codeIn K cdRB "Ratio.__rsub__" = true)
    (kRB : PySem.W.keepIn K (.ref fRB) = true)
    (nRB : PySem.W.isFn K (.ref fRB) = true)
    (aP : PySem.W.findIn K (.ref C) "__mul__" = some (some (.ref fP)))
    (lP : K.lookup fP = some ⟨ocP, odP, .func (PySem.W.fnOf "__mul__" "Ratio.__mul__" (defArgs s_Ratio_mul) (defBody s_Ratio_mul) (defScope s_Ratio_mul) .none kVP dcP pmP anP cdP ctP), slP⟩)
    (cP : PySem.W.codeIn K cdP "Ratio.__mul__" = true)
    (kP : PySem.W.keepIn K (.ref fP) = true)
    (nP : PySem.W.isFn K (.ref fP) = true)
    (aRP : PySem.W.findIn K (.ref C) "__rmul__" = some (some (.ref fRP)))
    (lRP : K.lookup fRP = some ⟨ocRP, odRP, .func (PySem.W.fnOf "__rmul__" "Ratio.__rmul__" (defArgs s_Ratio_rmul) (defBody s_Ratio_rmul) (defScope s_Ratio_rmul) .none kVRP dcRP pmRP anRP cdRP ctRP), slRP⟩)
    (cRP : PySem.W.codeIn K cdRP "Ratio.__rmul__" = true)
    (kRP : PySem.W.keepIn K (.ref fRP) = true)
    (nRP : PySem.W.isFn K (.ref fRP) = true)
    (aN : PySem.W.findIn K (.ref C) "__neg__" = some (some (.ref fN)))
    (lN : K.lookup fN = some ⟨ocN, odN, .func (PySem.W.fnOf "__neg__" "Ratio.__neg__" (defArgs s_Ratio_neg) (defBody s_Ratio_neg) (defScope s_Ratio_neg) .none kVN dcN pmN anN cdN ctN), slN⟩)
    (cN : PySem.W.codeIn K cdN "Ratio.__neg__" = true)
    (kN : PySem.W.keepIn K (.ref fN) = true)
    (nN : PySem.W.isFn K (.ref fN) = true)
    (aO : PySem.W.findIn K (.ref C) "__abs__" = some (some (.ref fO)))
    (lO : K.lookup fO = some ⟨ocO, odO, .func (PySem.W.fnOf "__abs__" "Ratio.__abs__" (defArgs s_Ratio_abs) (defBody s_Ratio_abs) (defScope s_Ratio_abs) .none kVO dcO pmO anO cdO ctO), slO⟩)
    (cO : PySem.W.codeIn K cdO "Ratio.__abs__" = true)
    (kO : PySem.W.keepIn K (.ref fO) = true)
    (nO : PySem.W.isFn K (.ref fO) = true)
    (aL : PySem.W.findIn K (.ref C) "is_less" = some (some (.ref fL)))
    (lL : K.lookup fL = some ⟨ocL, odL, .func (PySem.W.fnOf "is_less" "Ratio.is_less" (defArgs s_Ratio_is_less) (defBody s_Ratio_is_less) (defScope s_Ratio_is_less) .none kVL dcL pmL anL cdL ctL), slL⟩)
    (cL : PySem.W.codeIn K cdL "Ratio.is_less" = true)
    (kL : PySem.W.keepIn K (.ref fL) = true)
    (nL : PySem.W.isFn K (.ref fL) = true)
    (aV : PySem.W.findIn K (.ref C) "divided" = some (some (.ref fV)))
    (lV : K.lookup fV = some ⟨ocV, odV, .func (PySem.W.fnOf "divided" "Ratio.divided" (defArgs s_Ratio_divided) (defBody s_Ratio_divided) (defScope s_Ratio_divided) .none kVV dcV pmV anV cdV ctV), slV⟩)
    (cV : PySem.W.codeIn K cdV "Ratio.divided" = true)
    (kV : PySem.W.keepIn K (.ref fV) = true)
    (nV : PySem.W.isFn K (.ref fV) = true)
    (m1 : PySem.W.makesIn K C = true)
    (m2 : PySem.W.keepIn K (.ref C) = true)
    (g1 : PySem.W.plainGet K C Str.empty = true)
    (g2 : PySem.W.hasDictIn K C = true)
    (g3 : PySem.W.plainOver K C = true)
    (g4 : PySem.W.findIn K (.ref C) "__setattr__" = some (some (.builtin "object.__setattr__")))
    (u1 : PySem.W.findIn K (.ref C) "number" = some none)
    (u2 : PySem.W.findIn K (.ref C) "over" = some none)
    (i1 : PySem.W.findIn K (.ref C) "__class__" = some (some (.builtin "object.__class__")))
    (i2 : PySem.W.specialIn K (.builtin "object.__class__") "__get__" = some (some (.builtin "getset_descriptor.__get__")))
    (i3 : PySem.W.takesIn K (.builtin "object.__class__") = some true)
    (i4 : PySem.W.mroIn K C (.type "object") = some true)
    (i5 : PySem.W.mroIn K C (.type "int") = some false)
    (j1 : PySem.W.isClsIn K C = true)
    (j2 : PySem.W.typeIn K (.ref C) = some (.type "type"))
    (i7 : PySem.W.findIn K (.ref C) "__ne__" = some (some (.builtin "object.__ne__")))
    (i8 : PySem.W.selfFirst K C = true)
    (aG : PySem.W.nsIn K mainGlobals "gcd" = some (some (.builtin "math.gcd")))
    (qB : PySem.W.nsIn K mainGlobals "BadOver" = some (some (.ref CB)))
    (aK : PySem.W.nsIn K mainGlobals "SkipsError" = some (some (.ref C0)))
    (qb1 : PySem.W.findIn K (.ref CB) "__init__" = some (some (.builtin "ValueError.__init__")))
    (qb4 : PySem.W.findIn K (.ref CB) "__setattr__" = some (some (.builtin "object.__setattr__")))
    (qb2 : PySem.W.keepIn K (.ref CB) = true)
    (o1 : K.lookup CB = some (excClassObj nmB qnB CB NB bsB bmB true snB suB abB colB ddB k0B k1B k2B k3B k5B "ValueError.__new__"))
    (o2 : PySem.HandSPX.refsVE bmB = true)
    (o3 : PySem.W.subIn K (.ref CB) (.type "BaseException") = some true)
    (o4 : PySem.W.typeIn K (.ref CB) = some (.type "type"))
    (x1 : PySem.W.findIn K (.ref CB) "__getattribute__" = some (some (.builtin "BaseException.__getattribute__")))
    (x2 : PySem.W.findIn K (.ref CB) "__getattr__" = some none)
    (x3 : PySem.W.hasDictIn K CB = true)
    (e1 : PySem.W.findIn K (.ref CB) "__class__" = some (some (.builtin "object.__class__")))
    (e2 : PySem.W.mroIn K CB (.type "object") = some true)
    (p1 : PySem.W.subIn K (.ref CB) (.ref C0) = some true)
    (p2 : PySem.W.isClsIn K CB = true)
    (y1 : PySem.W.subIn K (.ref CB) (.ref CB) = some true)
    (s1 : PySem.W.isClsIn K C0 = true)
    (s2 : PySem.W.typeIn K (.ref C0) = some (.type "type"))
    (z0 : PySem.W.nsIn K mainGlobals "len" = some none)
    (z1 : PySem.W.nsIn K mainGlobals "int" = some none)
    (z2 : PySem.W.nsIn K mainGlobals "abs" = some none)
    (z3 : PySem.W.nsIn K mainGlobals "list" = some none)
    (z4 : PySem.W.nsIn K mainGlobals "range" = some none)
    (z5 : PySem.W.nsIn K mainGlobals "isinstance" = some none)
    (z6 : PySem.W.nsIn K mainGlobals "str" = some none)
    (z7 : PySem.W.nsIn K mainGlobals "bool" = some none)
    (z8 : PySem.W.nsIn K mainGlobals "repr" = some none)
    : ∃ fd : FuncData, (∀ (s : Shared) (v : Value), BindsTo s fd ⟨[v], []⟩ [("_law_script", v)]) ∧ ∀ base : Heap, K.In base → base.Ns mainGlobals mg → FnOk l.prog w K mg base CX0 10 fa fd ["_law_script"] (spLaw K) := by
  have e := hfa.symm.trans (PySem.W.mg_of X G a1)
  cases e
  have F1 := fun_mk (st := s_law) l1 c1 k1
  have F2 := fun_mk (st := s_is_integer) l2 c2 k2
  have b2 := F2.binds (ps := ["value"]) fun _ _ _ _ _ _ us hl => match us, hl with | [_], _ => rfl
  have F3 := fun_mk (st := s_digits) l3 c3 k3
  have b3 := F3.binds (ps := ["number"]) fun _ _ _ _ _ _ us hl => match us, hl with | [_], _ => rfl
  have F4 := fun_mk (st := s_is_number) l4 c4 k4
  have b4 := F4.binds (ps := ["value"]) fun _ _ _ _ _ _ us hl => match us, hl with | [_], _ => rfl
  have F5 := fun_mk (st := s_ratio) l5 c5 k5
  have b5 := F5.binds (ps := ["value"]) fun _ _ _ _ _ _ us hl => match us, hl with | [_], _ => rfl
  have F6 := fun_mk (st := s_lpen_of) l6 c6 k6
  have b6 := F6.binds (ps := ["_law_script"]) fun _ _ _ _ _ _ us hl => match us, hl with | [_], _ => rfl
  have F7 := fun_mk (st := s_ldraw) l7 c7 k7
  have b7 := F7.binds (ps := ["_law_pen", "_law_many"]) fun _ _ _ _ _ _ us hl => match us, hl with | [_, _], _ => rfl
  have F8 := fun_mk (st := s_lpick) l8 c8 k8
  have b8 := F8.binds (ps := ["_law_pen", "_law_menu"]) fun _ _ _ _ _ _ us hl => match us, hl with | [_, _], _ => rfl
  have F9 := fun_mk (st := s_lcommon) l9 c9 k9
  have b9 := F9.binds (ps := ["_law_one", "_law_other"]) fun _ _ _ _ _ _ us hl => match us, hl with | [_, _], _ => rfl
  have F10 := fun_mk (st := s_lsame) l10 c10 k10
  have b10 := F10.binds (ps := ["_law_ratio", "_law_number", "_law_over"]) fun _ _ _ _ _ _ us hl => match us, hl with | [_, _, _], _ => rfl
  have F11 := fun_mk (st := s_lnumber_of) l11 c11 k11
  have b11 := F11.binds (ps := ["_law_pen"]) fun _ _ _ _ _ _ us hl => match us, hl with | [_], _ => rfl
  have F12 := fun_mk (st := s_lrefused) l12 c12 k12
  have b12 := F12.binds (ps := ["_law_number", "_law_over"]) fun _ _ _ _ _ _ us hl => match us, hl with | [_, _], _ => rfl
  have FI : FunD K "__init__" "Ratio.__init__" (defArgs s_Ratio_init) (defBody s_Ratio_init) (defScope s_Ratio_init) [.int 1] [] fI (PySem.W.fnOf "__init__" "Ratio.__init__" (defArgs s_Ratio_init) (defBody s_Ratio_init) (defScope s_Ratio_init) (.ref dt) kVI dcI pmI anI cdI ctI) :=
    ⟨⟨_, _, _, _, _, _, _, _, _, _, rfl, lI, cI, .inr ⟨by simp, dt, _, _, _, rfl, dI, rfl, .cons ⟨_, rfl⟩ (.nil)⟩, .inl rfl⟩, kI⟩
  obtain ⟨eI1, vI1, bI1⟩ := FI.binds1 (ps := ["self", "number", "over"]) 2 0 (by simp) rfl fun _ _ _ _ _ _ _ us its hu hi => match us, its, hu, hi with | [_, _], [_], _, _ => ⟨_, rfl, rfl⟩
  obtain ⟨eI0, vI0, bI0⟩ := FI.binds1 (ps := ["self", "number", "over"]) 3 1 (by simp) rfl fun _ _ _ _ _ _ _ us its hu hi => match us, its, hu, hi with | [_, _, _], [_], _, _ => ⟨_, rfl, rfl⟩
  cases vI0
  have bI := bI0
  obtain ⟨dv1, hdv, vJ⟩ : ∃ dv1, eI1 = [dv1] ∧ Vals [V.int 1] [dv1] := by
    cases vI1 with
    | cons r1 r2 =>
      cases r2
      exact ⟨_, rfl, .cons r1 .nil⟩
  subst hdv
  have FE := fun_mk (x := "__eq__") (qual := "Ratio.__eq__") (st := s_Ratio_eq) lE cE kE
  have bE := FE.binds (ps := ["self", "other"]) fun _ _ _ _ _ _ us hl => match us, hl with | [_, _], _ => rfl
  have FS := fun_mk (x := "__str__") (qual := "Ratio.__str__") (st := s_Ratio_str) lS cS kS
  have bS := FS.binds (ps := ["self"]) fun _ _ _ _ _ _ us hl => match us, hl with | [_], _ => rfl
  have FA := fun_mk (x := "__add__") (qual := "Ratio.__add__") (st := s_Ratio_add) lA cA kA
  have bA := FA.binds (ps := ["self", "other"]) fun _ _ _ _ _ _ us hl => match us, hl with | [_, _], _ => rfl
  have FRA := fun_mk (x := "__radd__") (qual := "Ratio.__radd__") (st := s_Ratio_radd) lRA cRA kRA
  have bRA := FRA.binds (ps := ["self", "other"]) fun _ _ _ _ _ _ us hl => match us, hl with | [_, _], _ => rfl
  have FB := fun_mk (x := "__sub__") (qual := "Ratio.__sub__") (st := s_Ratio_sub) lB cB kB
  have bB := FB.binds (ps := ["self", "other"]) fun _ _ _ _ _ _ us hl => match us, hl with | [_, _], _ => rfl
  have FRB := fun_mk (x := "__rsub__") (qual := "Ratio.__rsub__") (st := s_Ratio_rsub) lRB cRB kRB
  have bRB := FRB.binds (ps := ["self", "other"]) fun _ _ _ _ _ _ us hl => match us, hl with | [_, _], _ => rfl
  have FP := fun_mk (x := "__mul__") (qual := "Ratio.__mul__") (st := s_Ratio_mul) lP cP kP
  have bP := FP.binds (ps := ["self", "other"]) fun _ _ _ _ _ _ us hl => match us, hl with | [_, _], _ => rfl
  have FRP := fun_mk (x := "__rmul__") (qual := "Ratio.__rmul__") (st := s_Ratio_rmul) lRP cRP kRP
  have bRP := FRP.binds (ps := ["self", "other"]) fun _ _ _ _ _ _ us hl => match us, hl with | [_, _], _ => rfl
  have FN := fun_mk (x := "__neg__") (qual := "Ratio.__neg__") (st := s_Ratio_neg) lN cN kN
  have bN := FN.binds (ps := ["self"]) fun _ _ _ _ _ _ us hl => match us, hl with | [_], _ => rfl
  have FO := fun_mk (x := "__abs__") (qual := "Ratio.__abs__") (st := s_Ratio_abs) lO cO kO
  have bO := FO.binds (ps := ["self"]) fun _ _ _ _ _ _ us hl => match us, hl with | [_], _ => rfl
  have FL := fun_mk (x := "is_less") (qual := "Ratio.is_less") (st := s_Ratio_is_less) lL cL kL
  have bL := FL.binds (ps := ["self", "other"]) fun _ _ _ _ _ _ us hl => match us, hl with | [_, _], _ => rfl
  have FV := fun_mk (x := "divided") (qual := "Ratio.divided") (st := s_Ratio_divided) lV cV kV
  have bV := FV.binds (ps := ["self", "other"]) fun _ _ _ _ _ _ us hl => match us, hl with | [_, _], _ => rfl
  have T : Tx mg := { len := PySem.W.mg_none_of X G z0, int := PySem.W.mg_none_of X G z1, abs := PySem.W.mg_none_of X G z2, list := PySem.W.mg_none_of X G z3, range := PySem.W.mg_none_of X G z4, isinstance := PySem.W.mg_none_of X G z5, str := PySem.W.mg_none_of X G z6, bool := PySem.W.mg_none_of X G z7 }
  have me : PySem.W.kitOne K (.ref C) (.ref C) = some true := by
    unfold PySem.W.kitOne
    rw [if_pos (by simp)]
  have ti := kit_mk (K := K) (t := .type "int") (c := C) (b := false) (.inl rfl) j1 j2 OR.sub_int
  have ts := kit_mk (K := K) (t := .type "str") (c := C) (b := false) (.inl rfl) j1 j2 OR.sub_str
  have S : RC K C := ⟨⟨g1, g2, g3, g4⟩, u1, u2, ⟨⟨g1, g2, g3, g4⟩, i1, i2, i3, i4, me⟩, ti, ts⟩
  have mC := PySem.W.mg_of X G aC
  have mB := PySem.W.mg_of X G qB
  have mK := PySem.W.mg_of X G aK
  have mG := PySem.W.mg_of X G aG
  have MI : Mk K C fI := ⟨m1, aI, nI, m2⟩
  have OB : L2.OexC K CB := ⟨⟨_, _, _, _, _, _, _, _, _, _, _, _, _, _, _, o1, o2⟩, qb4, o3, o4, qb2⟩
  have EX : ExcC K CB := ⟨x1, x2, o3, x3, e1, i2, i3, e2⟩
  have kk := kit_mk (K := K) (.inr rfl) s1 s2 p1
  have xx := exm_mk (K := K) o3 p2 o4 y1
  have MV : Meth K C "divided" fV := ⟨aV, nV, kV⟩
  have ML : Meth K C "is_less" fL := ⟨aL, nL, kL⟩
  have Oa : OR.Op K C fA "add" := ⟨i8, aA, nA⟩
  have Os : OR.Op K C fB "sub" := ⟨i8, aB, nB⟩
  have Om : OR.Op K C fP "mul" := ⟨i8, aP, nP⟩
  have Ra : OR.OpR2 K C fRA "add" := ⟨aRA, nRA⟩
  have Rs : OR.OpR2 K C fRB "sub" := ⟨aRB, nRB⟩
  have Rm : OR.OpR2 K C fRP "mul" := ⟨aRP, nRP⟩
  refine ⟨PySem.W.fnOf "law" "law" (defArgs s_law) (defBody s_law) (defScope s_law) .none kV1 dc1 pm1 an1 cd1 ct1, fun s v => .of_eq rfl, fun base _ _ => ?_⟩
  have c_is_integer : Kn l.prog w K mg base "is_integer" ["value"] 1 spIsInt := ⟨f2, _, ok_integer F2 T , PySem.W.mg_of X G a2, F2.kp, b2⟩
  have I0 := ok_init (P := l.prog) (w := w) (base := base) FI T S mG c_is_integer
  have IX := ok_initX (P := l.prog) (w := w) (base := base) FI T mG c_is_integer OB qb1 mB
  have c_digits : Kn l.prog w K mg base "_digits" ["number"] 1 spDig := ⟨f3, _, ok_digits F3 T , PySem.W.mg_of X G a3, F3.kp, b3⟩
  have c_is_number : Kn l.prog w K mg base "_is_number" ["value"] 2 (spIsNum C) := ⟨f4, _, ok_num F4 T S mC c_is_integer, PySem.W.mg_of X G a4, F4.kp, b4⟩
  have c_ratio : Kn l.prog w K mg base "_ratio" ["value"] 4 (spRatio C) := ⟨f5, _, ok_ratio F5 T S mC MI I0 bI1 vJ, PySem.W.mg_of X G a5, F5.kp, b5⟩
  have VX := ok_divX (P := l.prog) (w := w) (base := base) FV T S mC MI IX bI c_is_number c_ratio
  have A0 := ok_add FA T S mC MI I0 bI c_is_number c_ratio
  have P0 := ok_mul FP T S mC MI I0 bI c_is_number c_ratio
  have V0 := ok_divided FV T S mC MI I0 bI c_is_number c_ratio
  have N0 := ok_neg FN T S mC MI I0 bI
  have O0 := ok_abs FO T S mC MI I0 bI
  have L0 := ok_less FL T S c_ratio
  have RA0 := ok_radd FRA T Oa Ra A0 bA
  have RP0 := ok_rmul FRP T Om Rm P0 bP
  have B0 := ok_sub FB T Oa Ra A0 bA aN nN N0 bN c_is_number
  have RB0 := ok_rsub FRB T Oa Ra A0 bA aN nN N0 bN
  have E0' := ok_eq (P := l.prog) (w := w) (base := base) FE T S mC
  have S0 := ok_str FS T S c_digits
  have c_lpen_of : Kn l.prog w K mg base "_law_pen_of" ["_law_script"] 1 (spPen K) := ⟨f6, _, ok_pen F6 T , PySem.W.mg_of X G a6, F6.kp, b6⟩
  have c_ldraw : Kn l.prog w K mg base "_law_draw" ["_law_pen", "_law_many"] 1 spDraw := ⟨f7, _, ok_draw F7 T , PySem.W.mg_of X G a7, F7.kp, b7⟩
  have c_lpick : Kn l.prog w K mg base "_law_pick" ["_law_pen", "_law_menu"] 2 spPickL := ⟨f8, _, ok_pickL F8 T c_ldraw, PySem.W.mg_of X G a8, F8.kp, b8⟩
  have c_lcommon : Kn l.prog w K mg base "_law_common" ["_law_one", "_law_other"] 1 spCom := ⟨f9, _, ok_common F9 T , PySem.W.mg_of X G a9, F9.kp, b9⟩
  have c_lsame : Kn l.prog w K mg base "_law_same" ["_law_ratio", "_law_number", "_law_over"] 2 (spSame C) := ⟨f10, _, ok_same F10 T S c_lcommon, PySem.W.mg_of X G a10, F10.kp, b10⟩
  have c_lnumber_of : Kn l.prog w K mg base "_law_number_of" ["_law_pen"] 3 spNumOf := ⟨f11, _, ok_numof F11 T c_ldraw c_lpick, PySem.W.mg_of X G a11, F11.kp, b11⟩
  have c_lrefused : Kn l.prog w K mg base "_law_refused" ["_law_number", "_law_over"] 6 spRef := ⟨f12, _, ok_refused F12 T S mC mB mK MI I0 IX bI bI1 vJ MV VX bV EX kk xx, PySem.W.mg_of X G a12, F12.kp, b12⟩
  exact ok_law F1 T S (PySem.W.mg_none_of X G z8) mC MI I0 bI bI1 vJ Oa Ra A0 bA RA0 bRA Os Rs B0 bB RB0 bRB Om Rm P0 bP RP0 bRP i5 aN nN N0 bN aO nO O0 bO aS nS S0 bS ⟨aE, nE, i7, i4⟩ E0' bE MV V0 bV ML L0 bL c_lpen_of c_lnumber_of c_lsame c_lrefused
end Law
open PySem PySem.W PyProof.Rows
set_option maxHeartbeats 0 in
theorem PySem.Challenge.cw_wordskips_k18_ratios_holds : PySem.Challenge.rw_wordskips_k18_ratios.Holds := by
  w_on; o_law; k_head; (case hw => w_witness2)
  k_fill
  refine L2.walk_of (l := PySem.Challenge.rw_wordskips_k18_ratios) (n := 63) (k := 10) (x := "_law_script") (CX := fun _ => L2.CX0) (sp := fun w => Law.spLaw _) rfl (by decide) rfl ⟨rfl, by decide, by decide⟩ (fun w h Y => PySem.W.kIn_of Y) ?F (fun _ _ a ns hl _ hS => ⟨a, ns, rfl, hS, hl, fun _ => rfl⟩) (fun _ _ _ _ _ h => h)
  case F =>
    intro w mg fa h KX G hmg
    refine' Law.all_mk KX G hmg (a1 := ?a1) (l1 := ?l1) (c1 := ?c1) (k1 := ?k1) (a2 := ?a2) (l2 := ?l2) (c2 := ?c2) (k2 := ?k2) (a3 := ?a3) (l3 := ?l3) (c3 := ?c3) (k3 := ?k3) (a4 := ?a4) (l4 := ?l4) (c4 := ?c4) (k4 := ?k4) (a5 := ?a5) (l5 := ?l5) (c5 := ?c5) (k5 := ?k5) (a6 := ?a6) (l6 := ?l6) (c6 := ?c6) (k6 := ?k6) (a7 := ?a7) (l7 := ?l7) (c7 := ?c7) (k7 := ?k7) (a8 := ?a8) (l8 := ?l8) (c8 := ?c8) (k8 := ?k8) (a9 := ?a9) (l9 := ?l9) (c9 := ?c9) (k9 := ?k9) (a10 := ?a10) (l10 := ?l10) (c10 := ?c10) (k10 := ?k10) (a11 := ?a11) (l11 := ?l11) (c11 := ?c11) (k11 := ?k11) (a12 := ?a12) (l12 := ?l12) (c12 := ?c12) (k12 := ?k12) (aC := ?aC) (aI := ?aI) (lI := ?lI) (cI := ?cI) (kI := ?kI) (dI := ?dI) (nI := ?nI) (aE := ?aE) (lE := ?lE) (cE := ?cE) (kE := ?kE) (nE := ?nE) (aS := ?aS) (lS := ?lS) (cS := ?cS) (kS := ?kS) (nS := ?nS) (aA := ?aA) (lA := ?lA) (cA := ?cA) (kA := ?kA) (nA := ?nA) (aRA := ?aRA) (lRA := ?lRA) (cRA := ?cRA) (kRA := ?kRA) (nRA := ?nRA) (aB := ?aB) (lB := ?lB) (cB := ?cB) (kB := ?kB) (nB := ?nB) (aRB := ?aRB) (lRB := ?lRB) (cRB := ?cRB) (kRB := ?kRB) (nRB := ?nRB) (aP := ?aP) (lP := ?lP) (cP := ?cP) (kP := ?kP) (nP := ?nP) (aRP := ?aRP) (lRP := ?lRP) (cRP := ?cRP) (kRP := ?kRP) (nRP := ?nRP) (aN := ?aN) (lN := ?lN) (cN := ?cN) (kN := ?kN) (nN := ?nN) (aO := ?aO) (lO := ?lO) (cO := ?cO) (kO := ?kO) (nO := ?nO) (aL := ?aL) (lL := ?lL) (cL := ?cL) (kL := ?kL) (nL := ?nL) (aV := ?aV) (lV := ?lV) (cV := ?cV) (kV := ?kV) (nV := ?nV) (m1 := ?m1) (m2 := ?m2) (g1 := ?g1) (g2 := ?g2) (g3 := ?g3) (g4 := ?g4) (u1 := ?u1) (u2 := ?u2) (i1 := ?i1) (i2 := ?i2) (i3 := ?i3) (i4 := ?i4) (i5 := ?i5) (j1 := ?j1) (j2 := ?j2) (i7 := ?i7) (i8 := ?i8) (aG := ?aG) (qB := ?qB) (aK := ?aK) (qb1 := ?qb1) (qb4 := ?qb4) (qb2 := ?qb2) (o1 := ?o1) (o2 := ?o2) (o3 := ?o3) (o4 := ?o4) (x1 := ?x1) (x2 := ?x2) (x3 := ?x3) (e1 := ?e1) (e2 := ?e2) (p1 := ?p1) (p2 := ?p2) (y1 := ?y1) (s1 := ?s1) (s2 := ?s2) (z0 := ?z0) (z1 := ?z1) (z2 := ?z2) (z3 := ?z3) (z4 := ?z4) (z5 := ?z5) (z6 := ?z6) (z7 := ?z7) (z8 := ?z8)
    (case a1 => k_is); (case l1 => k_is); (case c1 => k_is); (case k1 => k_is); (case a2 => k_is); (case l2 => k_is); (case c2 => k_is); (case k2 => k_is); (case a3 => k_is); (case l3 => k_is); (case c3 => k_is); (case k3 => k_is); (case a4 => k_is); (case l4 => k_is); (case c4 => k_is); (case k4 => k_is); (case a5 => k_is); (case l5 => k_is); (case c5 => k_is); (case k5 => k_is); (case a6 => k_is); (case l6 => k_is); (case c6 => k_is); (case k6 => k_is); (case a7 => k_is); (case l7 => k_is); (case c7 => k_is); (case k7 => k_is); (case a8 => k_is); (case l8 => k_is); (case c8 => k_is); (case k8 => k_is); (case a9 => k_is); (case l9 => k_is); (case c9 => k_is); (case k9 => k_is); (case a10 => k_is); (case l10 => k_is); (case c10 => k_is); (case k10 => k_is); (case a11 => k_is); (case l11 => k_is); (case c11 => k_is); (case k11 => k_is); (case a12 => k_is); (case l12 => k_is); (case c12 => k_is); (case k12 => k_is); (case aC => k_is); (case aI => k_is); (case lI => k_is); (case cI => k_is); (case kI => k_is); (case dI => k_is); (case nI => k_is); (case aE => k_is); (case lE => k_is); (case cE => k_is); (case kE => k_is); (case nE => k_is); (case aS => k_is); (case lS => k_is); (case cS => k_is); (case kS => k_is); (case nS => k_is); (case aA => k_is); (case lA => k_is); (case cA => k_is); (case kA => k_is); (case nA => k_is); (case aRA => k_is); (case lRA => k_is); (case cRA => k_is); (case kRA => k_is); (case nRA => k_is); (case aB => k_is); (case lB => k_is); (case cB => k_is); (case kB => k_is); (case nB => k_is); (case aRB => k_is); (case lRB => k_is); (case cRB => k_is); (case kRB => k_is); (case nRB => k_is); (case aP => k_is); (case lP => k_is); (case cP => k_is); (case kP => k_is); (case nP => k_is); (case aRP => k_is); (case lRP => k_is); (case cRP => k_is); (case kRP => k_is); (case nRP => k_is); (case aN => k_is); (case lN => k_is); (case cN => k_is); (case kN => k_is); (case nN => k_is); (case aO => k_is); (case lO => k_is); (case cO => k_is); (case kO => k_is); (case nO => k_is); (case aL => k_is); (case lL => k_is); (case cL => k_is); (case kL => k_is); (case nL => k_is); (case aV => k_is); (case lV => k_is); (case cV => k_is); (case kV => k_is); (case nV => k_is); (case m1 => k_is); (case m2 => k_is); (case g1 => k_is); (case g2 => k_is); (case g3 => k_is); (case g4 => k_is); (case u1 => k_is); (case u2 => k_is); (case i1 => k_is); (case i2 => k_is); (case i3 => k_is); (case i4 => k_is); (case i5 => k_is); (case j1 => k_is); (case j2 => k_is); (case i7 => k_is); (case i8 => k_is); (case aG => k_is); (case qB => k_is); (case aK => k_is); (case qb1 => k_is); (case qb4 => k_is); (case qb2 => k_is); (case o1 => k_is); (case o2 => decide +kernel); (case o3 => k_is); (case o4 => k_is); (case x1 => k_is); (case x2 => k_is); (case x3 => k_is); (case e1 => k_is); (case e2 => k_is); (case p1 => k_is); (case p2 => k_is); (case y1 => k_is); (case s1 => k_is); (case s2 => k_is); (case z0 => k_is); (case z1 => k_is); (case z2 => k_is); (case z3 => k_is); (case z4 => k_is); (case z5 => k_is); (case z6 => k_is); (case z7 => k_is); (case z8 => k_is)


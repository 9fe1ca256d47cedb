import PyProof.Rows.All
import Wide.All
import OpenK.AllK
import Wide.FinOn
import HandS.ForMost
import HandS.Evl
import KE.GoesZip
import PyProof.EnumMake
import HandS.Strs
import KE.GoesMore
import HandS.IsInst
import HandS.NoneIn
import HandS.Walk
import HandS.Conv
import HandS.TupAny
import HandS.Zip0
import PyProof.CollectIter
import HandS.ClsMeth
import HandS.List
import PyProof.ReprReads
import HandS.FStrTup
import PyProof.EqAt
import PyProof.EqKinds
import PyProof.FactsAll.dict_1
import PyProof.FactsAll.str
import PyProof.FactsAll.subtypes_3
import HandS.Base
import HandS.Call
import HandS.Dict
import PyProof.ReprRoads
import PyProof.ReprDict
import HandS.Exc
import HandS.ExcInit
import HandS.ExcField
import HandS.ExcIs
import HandS.TryOnly
import HandS.TryMany
import HandS.WordsExc
import HandS.MakeKwOnly
import HandS.MakeKw
import HandS.Iter
import HandS.DictComp
import HandS.Codes
import HandS.Text
import HandS.FStr
import HandS.StrMore
import HandS.ReplaceList
import PyProof.NeKinds
import HandS.ExcOwn
import HandS.ReplaceLit
import HandS.Style
import PyProof.Rows.StrStep
import PyProof.Rows.StrRev
import PySem.Challenge.RW_wordskips_k08_bent_texts_of_searchers
set_option Elab.async false
set_option linter.all false
set_option maxRecDepth 100000
set_option maxHeartbeats 4000000
namespace ZS
open PySem PySem.Spec PyProof.Rows L2

/-- two texts side by side: a new pair of signs at each turn -/
def ItzS (x y : Str) : It :=
  ⟨fun i _ => i < x.cps.size ∧ i < y.cps.size,
   fun i H v H' => ∃ T c d, v = .ref T ∧ H T = none ∧ H' = upd H T (.tup [.str ⟨#[c]⟩, .str ⟨#[d]⟩]) ∧ x.cps[i]? = some c ∧ y.cps[i]? = some d,
   fun i _ => i = min x.cps.size y.cps.size⟩
theorem drawsS {prog : Program} {w : World} {A : Around} (hh : A.handled = none) (it : Addr) (x : Str) (t : Tok) :
    Draws prog w A it [it] x.cps.size (fun i v => ∃ c u, x.cps[i]? = some c ∧ v = .str ⟨#[c]⟩ u) (fun i h => h.IsStrIter it (strIterType x) x t i) := by
  unfold strIterType
  cases x.cps.all (· < 128)
  · exact Draws.strWide hh it x t
  · exact Draws.strAscii hh it x t
def StZ (x y : Str) (t u : Tok) (z TI TO i1 i2 : Addr) (i : Nat) (h : Heap) : Prop :=
  IsZip h z TI TO .none ∧ IsTupOf2 h TI (.ref i1) (.ref i2) ∧ (∃ a1 a2, IsTupOf2 h TO a1 a2) ∧ h.IsStrIter i1 (strIterType x) x t i ∧ h.IsStrIter i2 (strIterType y) y u i
theorem walkS {prog : Program} {w : World} {A : Around} (hh : A.handled = none) {z TI TO i1 i2 : Addr} (S : ZipSep2 z TI TO i1 i2 [i1] [i2]) (x y : Str) (t u : Tok) :
    WalksT prog w A z (z :: TI :: TO :: ([i1] ++ [i2])) [z, TO, i1, i2] (min x.cps.size y.cps.size)
      (fun i vals => ∃ v1 v2, (∃ c u, x.cps[i]? = some c ∧ v1 = .str ⟨#[c]⟩ u) ∧ (∃ c u, y.cps[i]? = some c ∧ v2 = .str ⟨#[c]⟩ u) ∧ vals = #[v1, v2])
      (StZ x y t u z TI TO i1 i2)
      (fun i T h => IsZip h z TI TO (rawInt T) ∧ IsTupOf2 h TI (.ref i1) (.ref i2) ∧ (∃ a1 a2, IsTupOf2 h TO a1 a2) ∧ h.IsStrIter i1 (strIterType x) x t (i + 1) ∧ h.IsStrIter i2 (strIterType y) y u (i + 1) ∧ T ≠ z ∧ T ≠ TO ∧ T ≠ i1 ∧ T ≠ i2) :=
  WalksT.zipD2 S (drawsS (A := A.in1) hh i1 x t) (drawsS (A := A.in1) hh i2 y u)
theorem fp5 {z TI TO i1 i2 c : Addr} (h : c ∈ [z, TI, TO, i1, i2]) : c = z ∨ c = TI ∨ c = TO ∨ c = i1 ∨ c = i2 := by simpa using h
theorem turn_zipS {P : Program} {w : World} {K : PySem.W.Frag} {elts : List Expr} {kk : Nat} {tpos : Pos} {z TI TO i1 i2 : Addr} (S : ZipSep2 z TI TO i1 i2 [i1] [i2]) (x y : Str) (t u : Tok) :
    Turn P w K (.Tuple elts kk tpos) (ItzS x y) [z, TI, TO, i1, i2] z (StZ x y t u z TI TO i1 i2) where
  mem := List.mem_cons_self
  obj := fun i h st c hc => by
    obtain ⟨q1, q2, ⟨a1, a2, q3⟩, ⟨o1, e1, _, d1⟩, ⟨o2, e2, _, d2⟩⟩ := st
    rcases fp5 hc with q | q | q | q | q
    all_goals subst q
    · exact ⟨_, q1, fun v q => nomatch q⟩
    · exact ⟨_, q2, fun v q => nomatch q⟩
    · exact ⟨_, q3, fun v q => nomatch q⟩
    · exact ⟨o1, e1, fun v q => by rw [d1] at q; cases q⟩
    · exact ⟨o2, e2, fun v q => by rw [d2] at q; cases q⟩
  keep := fun i h h' st k => by
    obtain ⟨q1, q2, ⟨a1, a2, q3⟩, ⟨o1, e1, r1⟩, ⟨o2, e2, r2⟩⟩ := st
    exact ⟨k z (by simp) _ q1, k TI (by simp) _ q2, ⟨a1, a2, k TO (by simp) _ q3⟩, ⟨o1, k i1 (by simp) _ e1, r1⟩, ⟨o2, k i2 (by simp) _ e2, r2⟩⟩
  item := by
    intro X hP hw hK hc i pins s σ H E I hf st hg
    subst hP hw hK
    have W := walkS (prog := X.prog) (w := X.w) (A := X.A) (I.ok.hd hc) S x y t u
    have hlt : i < min x.cps.size y.cps.size := by
      have h1 := hg.1
      have h2 := hg.2
      omega
    refine W.item i s _ _ hlt st fun T vals h' tk hv hT hIs hm hk => ?_
    refine ⟨.ref T, rfl, ?_⟩
    refine W.go elts kk tpos i T { s with heap := h', toks := tk } _ _ hm fun h2 st2 hk2 => ?_
    obtain ⟨v1, v2, ⟨c, u1, hc1, rfl⟩, ⟨d, u2, hd1, rfl⟩, rfl⟩ := hv
    have ap : T ∉ [z, TO, i1, i2] := W.apart i T h' hm
    have up : ∀ b o, b ∉ [z, TO, i1, i2] → s.heap.get? b = some o → h2.get? b = some o := fun b o hb e => hk2 b o hb (hk b o hb e)
    have hT2 : h2.IsTuple T #[.str ⟨#[c]⟩ u1, .str ⟨#[d]⟩ u2] := hIs.at fun o e => hk2 T o ap e
    obtain ⟨oT, eT, cT, nT, dT⟩ := hT2
    have new : ObjOk X.prog X.w (upd H T (.tup [.str ⟨#[c]⟩, .str ⟨#[d]⟩])) h2 T (.tup [.str ⟨#[c]⟩, .str ⟨#[d]⟩]) :=
      ⟨by show 2 ≤ sizeLine; decide, [.str ⟨#[c]⟩ u1, .str ⟨#[d]⟩ u2], .cons ⟨u1, rfl⟩ (.cons ⟨u2, rfl⟩ .nil), ⟨oT, eT, cT, nT, dT⟩⟩
    have sub : ∀ b, b ∉ [z, TI, TO, i1, i2] → b ∉ [z, TO, i1, i2] := fun b hb hb2 => hb (by
      have q : b = z ∨ b = TO ∨ b = i1 ∨ b = i2 := by simpa using hb2
      rcases q with q | q | q | q <;> simp [q])
    have I1 := I.turnedNew (t' := tk) (ch := [z, TI, TO, i1, i2]) (fun b o hb e => up b o (sub b hb) e) hf hT new
    refine ⟨.ref T, _, I1, rfl, ⟨T, c, d, rfl, I.hok.fresh hT, rfl, hc1, hd1⟩, st2, fun b hb => ?_⟩
    have hlb : b < s.heap.objs.size := by
      obtain ⟨q1, q2, ⟨a1, a2, q3⟩, ⟨o1, e1, r1⟩, ⟨o2, e2, r2⟩⟩ := st
      rcases fp5 hb with q | q | q | q | q
      · rw [q]; exact Heap.lt_size q1
      · rw [q]; exact Heap.lt_size q2
      · rw [q]; exact Heap.lt_size q3
      · rw [q]; exact Heap.lt_size e1
      · rw [q]; exact Heap.lt_size e2
    rw [upd_ne (show b ≠ T from fun e => absurd hT (by rw [← e]; exact Nat.not_le.mpr hlb))]
    exact (hf b hb).1
  done := by
    intro X hP hw hK hc i pins s σ H E I hf st hg
    subst hP hw hK
    have W := walkS (prog := X.prog) (w := X.w) (A := X.A) (I.ok.hd hc) S x y t u
    have hg : i = min x.cps.size y.cps.size := hg
    subst hg
    refine W.done s _ _ st fun h' tk hk => ⟨rfl, ?_⟩
    refine I.turnedL (t' := tk) (ch := [z, TI, TO, i1, i2]) (fun b o hb e => hk b o (fun hb2 => hb ?_) e) hf
    have q : b = z ∨ b = TO ∨ b = i1 ∨ b = i2 := by simpa using hb2
    rcases q with q | q | q | q <;> simp [q]
  self := fun A i s Q E st h => wpAny_pyIter_zip st.1 h

abbrev g1 (h : Heap) (x : Str) (t : Tok) : Heap := h.push { cls := .type (strIterType x), data := .fields #[.str x t, .int 0 0] }
abbrev g3 (h : Heap) (x y : Str) (t u : Tok) : Heap := (g1 (g1 h x t) y u).push { cls := .type "tuple", data := .seq #[.ref h.objs.size, .ref (g1 h x t).objs.size] }
abbrev g4 (h : Heap) (x y : Str) (t u : Tok) : Heap := (g3 h x y t u).push { cls := .type "tuple", data := .seq #[.none, .none] }
abbrev g5 (h : Heap) (x y : Str) (t u : Tok) : Heap := (g4 h x y t u).push { cls := .type "zip", data := .fields #[.none, .bool false, .bool false, .ref (g1 (g1 h x t) y u).objs.size, .ref (g3 h x y t u).objs.size] }
theorem meets_zipS (x y : Str) (t u : Tok) :
    Meets (Builtin.«zip.__new__» ⟨[.type "zip", .str x t, .str y u], []⟩) (fun _ R s => R (.ok (.ret (.ref (g4 s.heap x y t u).objs.size))) { s with heap := g5 s.heap x y t u }) :=
  .of_wp fun prog w A R s h => by
    obtain ⟨hp, gg, d, tk, os⟩ := s
    have hsub := sub_zip
    wp_walk using wpAny_pyIter_strU
    exact ⟨_, rfl, h⟩
theorem call_zipS {prog : Program} {w : World} {A : Around} {E : Value → Shared → Prop} {s : Shared} {x y : Str} {t u : Tok} {Q : Value → Shared → Prop}
    (h : ∀ h', StZ x y t u (s.heap.objs.size + 4) (s.heap.objs.size + 2) (s.heap.objs.size + 3) s.heap.objs.size (s.heap.objs.size + 1) 0 h' → (∀ c o, s.heap.get? c = some o → h'.get? c = some o) → Q (.ref (s.heap.objs.size + 4)) { s with heap := h' }) :
    wpAny (model prog w) A (call (.type "zip") [.str x t, .str y u]) Q E s := by
  refine callType_new F.called_zip (by decide) (F.typeCall_zip_2 _ _) (F.newCall_zip_2 _ _) (fun obj => F.args_object_init_3 obj _ _) F.entry_zip_new (meets_zipS x y t u) ?_
  have n1 : (g1 s.heap x t).objs.size = s.heap.objs.size + 1 := Heap.size_push ..
  have n2 : (g1 (g1 s.heap x t) y u).objs.size = s.heap.objs.size + 2 := by rw [Heap.size_push, n1]
  have n3 : (g3 s.heap x y t u).objs.size = s.heap.objs.size + 3 := by rw [Heap.size_push, n2]
  have n4 : (g4 s.heap x y t u).objs.size = s.heap.objs.size + 4 := by rw [Heap.size_push, n3]
  have k5 : (g5 s.heap x y t u).get? (g4 s.heap x y t u).objs.size = some _ := Heap.get?_push_size _ rfl
  have k4 : (g5 s.heap x y t u).get? (g3 s.heap x y t u).objs.size = some _ := Heap.get?_push_of_some _ (Heap.get?_push_size _ rfl)
  have k3 : (g5 s.heap x y t u).get? (g1 (g1 s.heap x t) y u).objs.size = some _ := Heap.get?_push_of_some _ (Heap.get?_push_of_some _ (Heap.get?_push_size _ rfl))
  have k2 : (g5 s.heap x y t u).get? (g1 s.heap x t).objs.size = some _ := Heap.get?_push_of_some _ (Heap.get?_push_of_some _ (Heap.get?_push_of_some _ (Heap.get?_push_size _ rfl)))
  have k1 : (g5 s.heap x y t u).get? s.heap.objs.size = some _ := Heap.get?_push_of_some _ (Heap.get?_push_of_some _ (Heap.get?_push_of_some _ (Heap.get?_push_of_some _ (Heap.get?_push_size _ rfl))))
  show _ ∧ _
  rw [n2, n3, n4] at k5
  rw [n1, n2] at k3
  rw [n3] at k4
  rw [n1] at k2
  rw [n4]
  exact ⟨⟨_, k5, rfl⟩, h _ ⟨k5, k3, ⟨_, _, k4⟩, ⟨_, k1, rfl, rfl⟩, ⟨_, k2, rfl, rfl⟩⟩ fun c o e =>
    Heap.get?_push_of_some _ (Heap.get?_push_of_some _ (Heap.get?_push_of_some _ (Heap.get?_push_of_some _ (Heap.get?_push_of_some _ e))))⟩
theorem sepS (n : Nat) : ZipSep2 (n + 4) (n + 2) (n + 3) n (n + 1) [n] [n + 1] := by
  constructor <;> first | omega | (simp <;> omega) | simp
def iZipS (ta : TA) : TI := fun σ H R => ta σ H fun vs H1 => ∃ x y, vs = [.str x, .str y] ∧ R (ItzS x y) H1
theorem pi_zipS {X : Cx} {e e2 : Expr} {ta : TA} {p pos tpos : Pos} {elts : List Expr} {kk : Nat} (hg : Gl X "zip") (hm : X.mg "zip" = none) (ha : PA X [e, e2] ta)
    (hs : starEach [e, e2] X.env = (false, eval e X.env) :: starEach [e2] X.env := by rfl) (hpl : (backTo pos (starEach [e2] X.env)).any (·.1) = false := by rfl) :
    PI X (.Tuple elts kk tpos) (.Call (.Name "zip" p) [e, e2] [] pos) (iZipS ta) := by
  refine ⟨fun pins s σ H R I h => ?_⟩
  refine Call_ (ld_blt I hg hm boot_zip (callWith_type1 (thn (ha.run pos pins s σ H _ I h) fun us s1 ⟨vs, H1, I1, r1, q1⟩ => ?_) hs hpl))
  obtain ⟨x, y, ex, q⟩ := q1
  subst ex
  cases r1 with
  | cons r rr =>
    cases rr with
    | cons r' rr =>
      cases rr
      obtain ⟨t, rfl⟩ := r
      obtain ⟨u, rfl⟩ := r'
      refine call_zipS fun h' st hk => wpAny_pyIter_zip st.1 ?_
      have I2 : Inv X pins σ H1 { s1 with heap := h' } := I1.kept (t' := s1.toks) hk
      refine ⟨s1.heap.objs.size + 4, _, _, _, H1, rfl, I2, turn_zipS (sepS _) x y t u, st, fun c hcm => ?_, q⟩
      have hle : s1.heap.objs.size ≤ c := by
        rcases fp5 hcm with z | z | z | z | z <;> rw [z] <;> first | exact Nat.le_add_right _ _ | exact Nat.le_refl _
      exact I1.fpOk hle (I1.hok.fresh hle)
/-- a comprehension over it -/
theorem lc_zipS {x y : Str} {g : TG} {tt : TT} {te : TE} {vs : List Nat} {σ : L2.St} {H1 : Hp} {D : Addr} {Qd : Hp → Prop} (Pv : Nat → Hp → Prop) (h0 : Pv 0 (upd H1 D (.lst [])))
    (hs : ∀ i c d T H, x.cps[i]? = some c → y.cps[i]? = some d → Pv i H → H T = none → g (.ref T) (wipe σ vs) (upd H T (.tup [.str ⟨#[c]⟩, .str ⟨#[d]⟩])) fun σ2 H2 => wipe σ2 vs = wipe σ vs ∧ tt σ2 H2 fun b H3 =>
      if b = true then te σ2 H3 fun z H4 => ∃ acc, H4 D = some (.lst acc) ∧ acc.length < sizeLine ∧ Pv (i + 1) (upd H4 D (.lst (acc ++ [z]))) else Pv (i + 1) H3) (hd : ∀ H, Pv (min x.cps.size y.cps.size) H → Qd H) :
    ∃ W : Nat → Nat → Hp → Prop, (∃ m, W 0 m (upd H1 D (.lst []))) ∧ ∀ i m H, W i m H →
      ((ItzS x y).stop i H ∧ Qd H) ∨ ((ItzS x y).go i H ∧ ∃ Nx : Hp → Prop, (∀ H', Nx H' → ∃ m', m' < m ∧ W (i + 1) m' H') ∧ ∀ v H', (ItzS x y).yld i H v H' → g v (wipe σ vs) H' fun σ2 H2 => wipe σ2 vs = wipe σ vs ∧ tt σ2 H2 fun b H3 =>
        if b = true then te σ2 H3 fun z H4 => ∃ acc, H4 D = some (.lst acc) ∧ acc.length < sizeLine ∧ Nx (upd H4 D (.lst (acc ++ [z]))) else Nx H3) := by
  refine ⟨fun i m H => i + m = min x.cps.size y.cps.size ∧ Pv i H, ⟨_, Nat.zero_add _, h0⟩, ?_⟩
  rintro i m H ⟨e, p⟩
  by_cases hm : m = 0
  · have e2 : i = min x.cps.size y.cps.size := by omega
    refine .inl ⟨e2, hd H ?_⟩
    rw [← e2]
    exact p
  · refine .inr ⟨⟨by omega, by omega⟩, Pv (i + 1), fun H' p' => ⟨m - 1, by omega, by omega, p'⟩, ?_⟩
    rintro v H' ⟨T, c, d, rfl, hT, rfl, hc, hd'⟩
    exact hs i c d T H hc hd' p hT
theorem op_mulS {X : Cx} : OpR X (binaryOp .Mult) (fun x y H Q => ∃ z n, x = .str z ∧ y = .int n ∧ MulOk z n ∧ Q (.str (Txt.mul z n)) H) := by
  intro pins s σ H x y v u Q I rx ry h
  obtain ⟨z, n, rfl, rfl, hz, q⟩ := h
  obtain ⟨t, rfl⟩ := rx
  obtain ⟨t', rfl⟩ := ry
  exact SB.mul hz (fun t' tk => ⟨.str (Txt.mul z n), H, I.tok _, ⟨_, rfl⟩, q⟩)
end ZS

namespace ST
open PySem PySem.Spec PyProof.Rows L2
/-- how many different ones the first i of a list are -/
def dct (xs : List Str) : Nat → Nat
  | 0 => 0
  | i + 1 => if (xs.take i).any (· == xs.getD i Str.empty) = true then dct xs i else dct xs i + 1
theorem dct_le (xs : List Str) : ∀ i, dct xs i ≤ i
  | 0 => Nat.le_refl _
  | i + 1 => by
    have := dct_le xs i
    unfold dct
    split <;> omega
theorem any_next {xs : List Str} {i : Nat} (hi : i < xs.length) (k : Str) : (xs.take (i + 1)).any (· == k) = ((xs.take i).any (· == k) || decide (k = xs.getD i Str.empty)) := by
  rw [List.take_add_one, List.any_append, List.getElem?_eq_getElem hi, List.getD_eq_getElem?_getD, List.getElem?_eq_getElem hi]
  refine congrArg (fun b => (xs.take i).any (· == k) || b) ?_
  show (xs[i] == k || false) = decide (k = xs[i])
  rw [Bool.or_false]
  by_cases e : k = xs[i]
  · rw [decide_eq_true e, ← e]
    simp
  · rw [decide_eq_false e]
    simpa using fun q : xs[i] = k => e q.symm
section
variable {prog : Program} {w : World} {A : Around} {R : Result → Shared → Prop} {It : Addr} {fp wr : List Addr} {Gn : Array GenState → Array GenState → Prop} {n : Nat} {P : Nat → Value → Prop} {St : Nat → Shared → Prop}
theorem fill (W : WalksS prog w A.in1 It fp wr Gn n P St) (a : Addr) (haf : a ∉ fp) (xs : List Str) (hx : xs.length = n) (hn : n + 1 < scanBound) (hv : ∀ i v, P i v → ∃ t, v = .str (xs.getD i Str.empty) t) :
    ∀ (k i : Nat) (s : Shared), n - i = k → i ≤ n → St i s → s.heap.SetOf (PySem.strKind prog w) a (fun z => (xs.take i).any (· == z)) (dct xs i) →
      (∀ s', Moved (a :: wr) Gn s s' → s'.heap.SetOf (PySem.strKind prog w) a (fun z => (xs.take n).any (· == z)) (dct xs n) → R (.ok (.ret .none)) s') →
      codeAny (model prog w) A (.builtin "set.update.loop" ⟨[.ref a, .ref It], []⟩) R s := by
  have haw : a ∉ wr := fun q => haf (W.sub _ q)
  have up : ∀ b ∈ wr, b ∈ a :: wr := fun b q => List.mem_cons_of_mem _ q
  intro k
  induction k with
  | zero =>
    intro i s hk hi hst hset hR
    obtain rfl : i = n := by omega
    refine codeAny_builtin F.entry_set_update_loop ?_
    rw [Around.under_plainId F.plain_set_update_loop _]
    refine wpAny_bind (W.done s _ _ hst fun s' mv => wpAny_pure (hR s' (mv.mono up) ?_))
    obtain ⟨o, es, ep, tb, ho, rest⟩ := hset
    exact ⟨o, es, ep, tb, mv.heap a _ haw ho, rest⟩
  | succ k ih =>
    intro i s hk hi hst hset hR
    have hlt : i < n := by omega
    refine codeAny_builtin F.entry_set_update_loop ?_
    rw [Around.under_plainId F.plain_set_update_loop _]
    refine wpAny_bind (W.item i s _ _ hlt hst fun v s1 hp st1 mv => ?_)
    obtain ⟨t, rfl⟩ := hv i v hp
    have set1 : s1.heap.SetOf (PySem.strKind prog w) a (fun z => (xs.take i).any (· == z)) (dct xs i) := by
      obtain ⟨o, es, ep, tb, ho, rest⟩ := hset
      exact ⟨o, es, ep, tb, mv.heap a _ haw ho, rest⟩
    refine wpAny_bind (wpAny_holding ?_)
    unfold setAdd
    refine wpAny_holding (wpAny_bind ((PySem.strKind prog w).pyHash (k := xs.getD i Str.empty) (strKind_is _ _ _ _) ?_))
    have room : dct xs i + 1 < scanBound := by
      have := dct_le xs i
      omega
    refine wpAny_setAddHashed_of (knd := PySem.strKind prog w) (s := { s1 with toks := s1.toks + 1 }) (strKind_is _ _ _ _) rfl set1 room fun h2 sb set2 => ?_
    have set3 : h2.SetOf (PySem.strKind prog w) a (fun z => (xs.take (i + 1)).any (· == z)) (dct xs (i + 1)) :=
      SetOf_congr set2 (fun z => (any_next (by omega) z).symm) (by
        show dct xs (i + 1) = _
        unfold dct
        rfl)
    refine wpAny_pure ⟨plainId_quiet F.plain_set_update_loop _, ih (i + 1) _ (by omega) hlt (W.frame _ s1 _ _ st1 (Nat.le_succ _) fun b hb o e => ?_) set3 fun s2 mv2 hS2 => ?_⟩
    · rw [sb.2 b (fun q : b = a => haf (by rw [← q]; exact hb))]
      exact e
    · refine hR s2 (Moved.trans W.gtrans ((mv.mono up).then_heap (Nat.le_succ _) fun b o hb e => ?_) mv2) hS2
      rw [sb.2 b (fun q : b = a => hb (by rw [q]; exact List.mem_cons_self))]
      exact e
end
theorem walkStr {prog : Program} {w : World} {A : Around} (hh : A.handled = none) (it : Addr) (x : Str) (t : Tok) :
    Walks prog w A it [it] [it] x.cps.size (SignAt x) (fun i h => h.IsStrIter it (strIterType x) x t i) := by
  unfold strIterType
  cases x.cps.all (· < 128)
  · exact Walks.strWide hh it x t
  · exact Walks.strAscii hh it x t
def signsOf (x : Str) : List Str := x.cps.toList.map fun c => ⟨#[c]⟩
theorem signsOf_len (x : Str) : (signsOf x).length = x.cps.size := by simp [signsOf]
section
variable {prog : Program} {w : World} {A : Around} {E : Value → Shared → Prop} {s : Shared}
theorem call_set_text {x : Str} {t : Tok} {Q : Value → Shared → Prop} (hh : A.handled = none) (hn : x.cps.size + 1 < scanBound)
    (h : ∀ (h' : Heap) (tk : Nat), h'.SetOf (PySem.strKind prog w) s.heap.objs.size (fun z => ((signsOf x).take x.cps.size).any (· == z)) (dct (signsOf x) x.cps.size) →
      (∀ b o, b < s.heap.objs.size → s.heap.get? b = some o → h'.get? b = some o) → Q (.ref s.heap.objs.size) { s with heap := h', toks := tk }) :
    wpAny (model prog w) A (call (.type "set") [.str x t]) Q E s := by
  obtain ⟨c, tl, hmro⟩ := PySem.F.called_set.mro
  have hmade := PySem.F.called_set.made
  have hsub := PySem.F.called_set.sub
  refine wpAny_call (codeAny_of_tree ?_)
  show wpAny _ _ (callAny (.type "set") _) _ _ _
  refine wpAny_pure ⟨Code.quiet_builtin _ (by decide +kernel), codeAny_builtin PySem.F.entry_type_call ?_⟩
  rw [Around.under_plain (weight_type_call_type "set" [.str x t] []) rfl]
  have x1 := PySem.F.called_set.notType
  have x2 := PySem.F.called_set.canCreate
  have x3 := PySem.F.typeCall_set_1 (.str x t)
  repeat (any_goals (first | assumption | wp_step))
  refine codeAny_mono (code_set_new_1 (.str x t) (E := E) (Q₁ := fun obj s₁ => ∃ led : Bool, obj = .ref s.heap.objs.size ∧ s₁ = { s with heap := s.heap.push { cls := .type "set", dict := none, data := .set #[] 0 (.fresh 0 0 led) } }) fun led => ⟨led, rfl, rfl⟩) fun r s₁ hr => ?_
  cases r with
  | error e => exact hr
  | ok fl =>
    cases fl with
    | ret obj =>
      obtain ⟨led, rfl, rfl⟩ := hr
      obtain ⟨hp, hhp⟩ : ∃ hp, s.heap.push { cls := .type "set", dict := none, data := .set #[] 0 (.fresh 0 0 led) } = hp := ⟨_, rfl⟩
      have y1 : hp.get? s.heap.objs.size = some { cls := .type "set", dict := none, data := .set #[] 0 (.fresh 0 0 led) } := by
        rw [← hhp]
        exact Heap.get?_push_size _ rfl
      have y2 : hp.objs.size = s.heap.objs.size + 1 := by
        rw [← hhp]
        exact Heap.size_push ..
      have y3 : ∀ b o, s.heap.get? b = some o → hp.get? b = some o := fun b o e => by
        rw [← hhp]
        exact Heap.get?_push_of_some _ e
      rw [hhp]
      have hT : Shared.TypeIs { s with heap := hp } (.ref s.heap.objs.size) "set" := ⟨_, y1, rfl⟩
      have y4 := PySem.F.called_set.init.lookup
      have y5 := PySem.F.called_set.init.bind (.ref s.heap.objs.size)
      repeat (any_goals (first | assumption | wp_step))
      refine codeAny_mono (codeAny_call_builtin (R := wants (fun r s₂ => r = .none ∧ ∃ h' tk, s₂ = { s with heap := h', toks := tk } ∧
          h'.SetOf (PySem.strKind prog w) s.heap.objs.size (fun z => ((signsOf x).take x.cps.size).any (· == z)) (dct (signsOf x) x.cps.size) ∧
          (∀ b o, b < s.heap.objs.size → s.heap.get? b = some o → h'.get? b = some o)) E) PySem.F.called_set.init.plain PySem.F.entry_set_init (check_set_init_1 hT ?_)) fun r₂ s₂ hr₂ => ?_
      · have sb1 := PySem.F.sub_str_set
        have sb2 := PySem.F.sub_str_frozenset
        have sb3 : (Value.type "str" == Value.type "dict") = false := by decide
        unfold Builtin.«set.__init__» noKeywords Builtin.Frozenset.updateFrom
        generalize hPI : pyIter = PI
        wp_walk
        subst hPI
        refine wpAny_pyIter_strU ?_
        refine wpAny_bind (wpAny_runValue ?_)
        have hh3 : A.in1.in1.in1.handled = none := by simp [hh]
        have z1 : s.heap.objs.size ∉ [hp.objs.size] := by
          rw [y2]
          simp
        refine fill ((walkStr hh3 _ x t).toS) s.heap.objs.size z1 (signsOf x) (signsOf_len x) hn ?_ (x.cps.size - 0) 0 _ (by omega) (Nat.zero_le _)
          ⟨_, Heap.get?_push_size _ rfl, rfl, rfl⟩ ?_ ?_
        · rintro i v ⟨c, u, hc, rfl⟩
          refine ⟨u, ?_⟩
          unfold signsOf
          rw [List.getD_eq_getElem?_getD, List.getElem?_map, Array.getElem?_toList, hc]
          rfl
        · have z2 : (hp.push { cls := .type (strIterType x), data := .fields #[.str x t, .int 0 0] }).get? s.heap.objs.size = some { cls := .type "set", dict := none, data := .set #[] 0 (.fresh 0 0 led) } := Heap.get?_push_of_some _ y1
          exact SetOf_congr ((setObjOf_fresh (knd := PySem.strKind prog w) led).setOf z2 (by unfold scanBound; omega)) (fun _ => rfl) rfl
        · intro s' mv hS'
          obtain ⟨h', g', d', tk', os'⟩ := s'
          obtain rfl : g' = s.gens := mv.gens
          obtain rfl : d' = s.drawn := mv.drawn
          obtain rfl : os' = s.os := mv.os
          refine wpAny_pure ?_
          show wpAny _ _ (ret Value.none) _ _ _
          refine wpAny_pure ⟨rfl, h', tk', rfl, hS', fun b o hb e => ?_⟩
          refine mv.heap b o ?_ (Heap.get?_push_of_some _ (y3 b o e))
          rw [y2]
          simp only [List.mem_cons, List.not_mem_nil, or_false, not_or]
          exact ⟨Nat.ne_of_lt hb, Nat.ne_of_lt (Nat.lt_succ_of_lt hb)⟩
      · cases r₂ with
        | error e => exact hr₂
        | ok fl₂ =>
          cases fl₂ with
          | ret r =>
            obtain ⟨rfl, h', tk, rfl, hS', hk'⟩ := hr₂
            repeat (any_goals (first | assumption | wp_step))
            exact h _ _ hS' hk'
          | _ => exact hr₂.elim
    | _ => exact hr.elim
end
end ST

namespace EN
open PySem PySem.Spec PyProof.Rows L2
/-! ### len(set(text)) -/
def tLenSetS (ta : TE) : TE := fun σ H Q => ta σ H fun x H1 => ∃ z : Str, x = .str z ∧ z.cps.size < 1000 ∧ Q (.int (ST.dct (ST.signsOf z) z.cps.size)) H1
theorem pe_lenSetS {X : Cx} {a : Expr} {ta : TE} {p p2 q pos : Pos} (hc : X.calm = true) (hg : Gl X "len") (hm : X.mg "len" = none) (hg2 : Gl X "set") (hm2 : X.mg "set" = none) (ha : PE X a ta)
    (na : starEach [a] X.env = (false, eval a X.env) :: starEach [] X.env := by rfl) : PE X (.Call (.Name "len" p) [.Call (.Name "set" p2) [a] [] q] [] pos) (tLenSetS ta) := by
  refine ⟨fun pins s σ H Q I h => Call_ (ld_blt I hg hm PySem.boot_len (callWith_builtin1 (args_cons (Call_ (ld_blt I hg2 hm2 boot_set ?_)) rfl) rfl rfl))⟩
  refine callWith_type1 (args_cons (thn (ha.run pins s σ H _ I h) fun v s1 ⟨x, H1, I1, r1, z, ex, hz, q1⟩ => args_nil ?_) na) na rfl
  subst ex
  obtain ⟨t, rfl⟩ := r1
  refine ST.call_set_text (I1.ok.hd hc) (by unfold scanBound; omega) fun h' tk hS hk => args_nil ?_
  obtain ⟨o, es, ep, t, ho, hex, hd, _, _, _, hf, hn⟩ := hS
  have I2 : Inv X pins σ H1 { s1 with heap := h', toks := tk } := I1.kept fun b o e => hk b o (Heap.lt_size e) e
  have hd2 := ST.dct_le (ST.signsOf z) z.cps.size
  exact call_len_set ho hex hd hf (by rw [hn]; omega) ⟨.int _, H1, I2.tok _, ⟨_, by rw [hn]⟩, q1⟩

/-! ### enumerate over a text, over a tuple -/
def ItS (x : Str) : It := ⟨fun i _ => i < x.cps.size,
  fun i H v H' => ∃ T c, v = .ref T ∧ H T = none ∧ H' = upd H T (.tup [.int (i : Nat), .str ⟨#[c]⟩]) ∧ x.cps[i]? = some c, fun i _ => i = x.cps.size⟩
def ItT (K : PySem.W.Frag) (a : Addr) : It := ⟨fun i H => ∃ (xs : List V) (x : V), SqT K H a xs ∧ xs[i]? = some x,
  fun i H v H' => ∃ T x, v = .ref T ∧ H T = none ∧ H' = upd H T (.tup [.int (i : Nat), x]) ∧ ∀ xs, SqT K H a xs → xs[i]? = some x, fun i H => ∃ xs : List V, SqT K H a xs ∧ i = xs.length⟩
theorem two {e it b : Addr} (h : b ∈ [e, it]) : b = e ∨ b = it := by simpa using h
theorem obj_of {h : Heap} {e it : Addr} {i : Int} {old : Value} (he : IsEnum h e it i old) {o : Obj} (ho : h.get? it = some o) {vs : Array Value} (hd : o.data = .fields vs) : ∀ b ∈ [e, it], ∃ o, h.get? b = some o ∧ ∀ v, o.data ≠ .cell v := fun b hb => by
  rcases two hb with z | z
  · rw [z]; exact ⟨_, he, fun v q => nomatch q⟩
  · rw [z]; exact ⟨o, ho, fun v q => by rw [hd] at q; cases q⟩
theorem turn_enumS {P : Program} {w : World} {K : PySem.W.Frag} {elts : List Expr} {kk : Nat} {tpos : Pos} (x : Str) (t : Tok) (e it : Addr) :
    Turn P w K (.Tuple elts kk tpos) (ItS x) [e, it] e (fun i h => (∃ old, IsEnum h e it ((i : Nat) : Int) old) ∧ h.IsStrIter it (strIterType x) x t i ∧ e ≠ it) where
  mem := List.mem_cons_self
  obj := fun i h st b hb => by
    obtain ⟨⟨old, he⟩, ⟨o, ho, _, hd⟩, _⟩ := st
    exact obj_of he ho hd b hb
  keep := fun i h h' st k => by
    obtain ⟨⟨old, he⟩, ⟨o, ho, r⟩, hne⟩ := st
    exact ⟨⟨old, k e (by simp) _ he⟩, ⟨o, k it (by simp) _ ho, r⟩, hne⟩
  item := by
    intro X hP hw hK hc i pins s σ H E I hf st hg
    subst hP hw hK
    obtain ⟨⟨old, he⟩, hit, hne⟩ := st
    have D := ZS.drawsS (prog := X.prog) (w := X.w) (A := X.A.in1) (I.ok.hd hc) it x t
    have l1 : e < s.heap.objs.size := Heap.lt_size he
    have l2 : it < s.heap.objs.size := by obtain ⟨_, q, _⟩ := hit; exact Heap.lt_size q
    refine wpAny_pyNext_enum_itemD D he hit hg hne (by simpa using hne) fun v h' tk hv ho hit' hT hsz hk => ?_
    obtain ⟨c, u, hcx, rfl⟩ := hv
    refine ⟨_, rfl, wpAny_letOwnedTupleGo_enum (s := { s with heap := h', toks := tk + 1 }) ho fun h2 he2 sb => ?_⟩
    have hT2 : h2.get? s.heap.objs.size = some { cls := .type "tuple", data := .seq #[.int i tk, .str ⟨#[c]⟩ u] } := (sb.2 _ (Nat.ne_of_gt l1)).trans hT
    have new : ObjOk X.prog X.w (upd H s.heap.objs.size (.tup [.int (i : Nat), .str ⟨#[c]⟩])) h2 s.heap.objs.size (.tup [.int (i : Nat), .str ⟨#[c]⟩]) :=
      ⟨by show 2 ≤ sizeLine; decide, [.int i tk, .str ⟨#[c]⟩ u], .cons ⟨_, rfl⟩ (.cons ⟨u, rfl⟩ .nil), ⟨_, hT2, rfl, _, rfl⟩⟩
    have I1 := I.turnedNew (t' := tk + 1) (ch := [e, it]) (fun b ob hb q => (sb.2 b (fun z => hb (by simp [z]))).trans (hk b ob (fun z => hb (by simp [z])) (fun z => hb (by simp [z])) q)) hf (Nat.le_refl _) new
    refine ⟨.ref s.heap.objs.size, _, I1, rfl, ⟨_, c, rfl, I.hok.fresh (Nat.le_refl _), rfl, hcx⟩, ⟨⟨.str ⟨#[c]⟩ u, ?_⟩, ?_, hne⟩, fun b hb => ?_⟩
    · rw [show ((i + 1 : Nat) : Int) = (i : Int) + 1 by omega]
      exact he2
    · obtain ⟨o, q, r⟩ := hit'
      exact ⟨o, (sb.2 it (Ne.symm hne)).trans q, r⟩
    · rw [upd_ne (show b ≠ s.heap.objs.size from fun q => by
        rcases two hb with z | z
        · rw [← q, z] at l1; exact Nat.lt_irrefl _ l1
        · rw [← q, z] at l2; exact Nat.lt_irrefl _ l2)]
      exact (hf b hb).1
  done := by
    intro X hP hw hK hc i pins s σ H E I hf st hg
    subst hP hw hK
    obtain ⟨⟨old, he⟩, hit, hne⟩ := st
    have hg : i = x.cps.size := hg
    subst hg
    have D := ZS.drawsS (prog := X.prog) (w := X.w) (A := X.A.in1) (I.ok.hd hc) it x t
    refine wpAny_pyNext_enum_endD D he hit fun h' eb => ⟨rfl, I.turnedL (t' := s.toks) (ch := [e, it]) (fun b o hb q => eb b o (fun z => hb (by simp [z])) q) hf⟩
  self := fun A i s Q E st h => by
    obtain ⟨⟨_, he⟩, _⟩ := st
    exact wpAny_pyIter_enum he h
theorem turn_enumT {P : Program} {w : World} {K : PySem.W.Frag} {elts : List Expr} {kk : Nat} {tpos : Pos} (a e it : Addr) :
    Turn P w K (.Tuple elts kk tpos) (ItT K a) [e, it] e (fun i h => (∃ old, IsEnum h e it ((i : Nat) : Int) old) ∧ h.IsTupleIter it a i ∧ e ≠ it ∧ a ≠ it ∧ a ≠ e) where
  mem := List.mem_cons_self
  obj := fun i h st b hb => by
    obtain ⟨⟨old, he⟩, ⟨o, ho, _, hd⟩, _⟩ := st
    exact obj_of he ho hd b hb
  keep := fun i h h' st k => by
    obtain ⟨⟨old, he⟩, ⟨o, ho, r⟩, hne⟩ := st
    exact ⟨⟨old, k e (by simp) _ he⟩, ⟨o, k it (by simp) _ ho, r⟩, hne⟩
  item := by
    intro X hP hw hK hc i pins s σ H E I hf st hg
    subst hP hw hK
    obtain ⟨⟨old, he⟩, hit, hne, hai, hae⟩ := st
    obtain ⟨xs, x, hq, hx⟩ := hg
    obtain ⟨its, rv, p, hz⟩ := I.tuple hq
    obtain ⟨u, hu, ru⟩ := rv.get hx
    have hlt : i < its.toArray.size := by
      have := (List.getElem?_eq_some_iff.mp hu).1
      simpa using this
    have D := Draws.tuple (prog := X.prog) (w := X.w) (A := X.A.in1) (I.ok.hd hc) it a hai its.toArray
    have l1 : e < s.heap.objs.size := Heap.lt_size he
    have l2 : it < s.heap.objs.size := by obtain ⟨_, q, _⟩ := hit; exact Heap.lt_size q
    have hef : e ∉ [it, a] := by
      intro q
      rcases two q with z | z
      · exact hne z
      · exact hae z.symm
    refine wpAny_pyNext_enum_itemD D he ⟨hit, p⟩ hlt hne hef fun v h' tk hv ho hit' hT hsz hk => ?_
    obtain rfl : v = u := by
      have q : its.toArray[i]? = some v := hv
      rw [List.getElem?_toArray, hu] at q
      exact (Option.some.inj q).symm
    refine ⟨_, rfl, wpAny_letOwnedTupleGo_enum (s := { s with heap := h', toks := tk + 1 }) ho fun h2 he2 sb => ?_⟩
    have hT2 : h2.get? s.heap.objs.size = some { cls := .type "tuple", data := .seq #[.int i tk, v] } := (sb.2 _ (Nat.ne_of_gt l1)).trans hT
    have new : ObjOk X.prog X.w (upd H s.heap.objs.size (.tup [.int (i : Nat), x])) h2 s.heap.objs.size (.tup [.int (i : Nat), x]) :=
      ⟨by show 2 ≤ sizeLine; decide, [.int i tk, v], .cons ⟨_, rfl⟩ (.cons ru .nil), ⟨_, hT2, rfl, _, rfl⟩⟩
    have I1 := I.turnedNew (t' := tk + 1) (ch := [e, it]) (fun b ob hb q => (sb.2 b (fun z => hb (by simp [z]))).trans (hk b ob (fun z => hb (by simp [z])) (fun z => hb (by simp [z])) q)) hf (Nat.le_refl _) new
    refine ⟨.ref s.heap.objs.size, _, I1, rfl, ⟨_, x, rfl, I.hok.fresh (Nat.le_refl _), rfl, fun ys hy => by rw [I.tuple_inj hy hq]; exact hx⟩, ⟨⟨v, ?_⟩, ?_, hne, hai, hae⟩, fun b hb => ?_⟩
    · rw [show ((i + 1 : Nat) : Int) = (i : Int) + 1 by omega]
      exact he2
    · obtain ⟨o, q, r⟩ := hit'.1
      exact ⟨o, (sb.2 it (Ne.symm hne)).trans q, r⟩
    · rw [upd_ne (show b ≠ s.heap.objs.size from fun q => by
        rcases two hb with z | z
        · rw [← q, z] at l1; exact Nat.lt_irrefl _ l1
        · rw [← q, z] at l2; exact Nat.lt_irrefl _ l2)]
      exact (hf b hb).1
  done := by
    intro X hP hw hK hc i pins s σ H E I hf st hg
    subst hP hw hK
    obtain ⟨⟨old, he⟩, hit, hne, hai, hae⟩ := st
    obtain ⟨xs, hq, hx⟩ := hg
    obtain ⟨its, rv, p, hz⟩ := I.tuple hq
    have D := Draws.tuple (prog := X.prog) (w := X.w) (A := X.A.in1) (I.ok.hd hc) it a hai its.toArray
    have hl := rv.length
    have hn : i = its.toArray.size := by
      rw [List.size_toArray]
      omega
    subst hn
    refine wpAny_pyNext_enum_endD D he ⟨hit, p⟩ fun h' eb => ⟨rfl, I.turnedL (t' := s.toks) (ch := [e, it]) (fun b o hb q => eb b o (fun z => hb (by simp [z])) q) hf⟩
  self := fun A i s Q E st h => by
    obtain ⟨⟨_, he⟩, _⟩ := st
    exact wpAny_pyIter_enum he h
theorem meets_enumT (a : Addr) (xs : Array Value) :
    Meets (Builtin.«enumerate.__new__» ⟨[.type "enumerate", .ref a], []⟩) (fun _ R s => s.heap.IsTuple a xs ∧
      R (.ok (.ret (.ref (s.heap.push { cls := .type "tuple_iterator", data := .fields #[.ref a, .int 0 0] }).objs.size)))
        { s with heap := (s.heap.push { cls := .type "tuple_iterator", data := .fields #[.ref a, .int 0 0] }).push { cls := .type "enumerate", data := .fields #[.none, .bool false, .ref s.heap.objs.size, rawInt 0, .none, .none] } }) :=
  .of_wp fun prog w A R s h => by
    obtain ⟨hp, g, d, tk, os⟩ := s
    obtain ⟨hl, h⟩ := h
    have hsub := sub_enumerate
    have hL : Heap.IsTuple (Shared.heap ⟨hp, g, d, tk, os⟩) a xs := hl
    wp_walk
    refine wpAny_stack_any fun st => wpAny_pure ?_
    split
    · rename_i c _ _ _ _ _
      cases (c == Value.type "enumerate")
      all_goals
        wp_walk using wpAny_pyIter_tuple hL
        exact ⟨_, rfl, h⟩
    · wp_walk using wpAny_pyIter_tuple hL
      exact ⟨_, rfl, h⟩
section
variable {X : Cx}
def iEnumS (ta : TA) : TI := fun σ H R => ta σ H fun vs H1 => ∃ x, vs = [.str x] ∧ R (ItS x) H1
theorem pi_enumS {e : Expr} {ta : TA} {p pos tpos : Pos} {elts : List Expr} {kk : Nat} (hg : Gl X "enumerate") (hm : X.mg "enumerate" = none) (ha : PA X [e] ta) (hs : starEach [e] X.env = [(false, eval e X.env)] := by rfl) :
    PI X (.Tuple elts kk tpos) (.Call (.Name "enumerate" p) [e] [] pos) (iEnumS ta) := by
  refine ⟨fun pins s σ H R I h => Call_ (ld_blt I hg hm boot_enumerate (callWith_type1 (thn (ha.run pos pins s σ H _ I h) fun us s1 ⟨vs, H1, I1, r1, q1⟩ => ?_) hs rfl))⟩
  obtain ⟨x, ex, q⟩ := q1
  subst ex
  cases r1 with
  | cons r rr =>
    cases rr
    obtain ⟨t, rfl⟩ := r
    refine call_enumerate_str fun h' he hit hsz hk => wpAny_pyIter_enum he ?_
    refine ⟨s1.heap.objs.size + 1, _, _, _, H1, rfl, I1.kept (t' := s1.toks) hk, turn_enumS x t (s1.heap.objs.size + 1) s1.heap.objs.size, ⟨⟨.none, he⟩, hit, Nat.succ_ne_self _⟩, fun b hb => ?_, q⟩
    have hle : s1.heap.objs.size ≤ b := by
      rcases two hb with z | z <;> rw [z] <;> first | exact Nat.le_add_right _ _ | exact Nat.le_refl _
    exact I1.fpOk hle (I1.hok.fresh hle)
def iEnumT (K : PySem.W.Frag) (ta : TA) : TI := fun σ H R => ta σ H fun vs H1 => ∃ a xs, vs = [.ref a] ∧ SqT K H1 a xs ∧ R (ItT K a) H1
theorem pi_enumT {e : Expr} {ta : TA} {p pos tpos : Pos} {elts : List Expr} {kk : Nat} (hg : Gl X "enumerate") (hm : X.mg "enumerate" = none) (ha : PA X [e] ta) (hs : starEach [e] X.env = [(false, eval e X.env)] := by rfl) :
    PI X (.Tuple elts kk tpos) (.Call (.Name "enumerate" p) [e] [] pos) (iEnumT X.K ta) := by
  refine ⟨fun pins s σ H R I h => Call_ (ld_blt I hg hm boot_enumerate (callWith_type1 (thn (ha.run pos pins s σ H _ I h) fun us s1 ⟨vs, H1, I1, r1, q1⟩ => ?_) hs rfl))⟩
  obtain ⟨a, xs, ex, hq, q⟩ := q1
  subst ex
  cases r1 with
  | cons r rr =>
    cases rr
    cases r
    obtain ⟨its, rv, p', hz⟩ := I1.tuple hq
    obtain ⟨oa, hoa, _⟩ := id p'
    have la : a < s1.heap.objs.size := Heap.lt_size hoa
    refine callType_new F.called_enumerate (by decide) (F.typeCall_enumerate_1 _) (F.newCall_enumerate_1 _) (fun obj => F.args_object_init_2 obj _) F.entry_enumerate_new (meets_enumT a its.toArray) ⟨p', ?_⟩
    have hz : (s1.heap.push { cls := .type "tuple_iterator", data := .fields #[.ref a, .int 0 0] }).objs.size = s1.heap.objs.size + 1 := Heap.size_push ..
    show _ ∧ _
    rw [hz]
    have g1 := Heap.get?_push_size (s1.heap.push { cls := .type "tuple_iterator", data := .fields #[.ref a, .int 0 0] }) (o := { cls := .type "enumerate", data := .fields #[.none, .bool false, .ref s1.heap.objs.size, rawInt 0, .none, .none] }) rfl
    rw [hz] at g1
    have he : IsEnum ((s1.heap.push { cls := .type "tuple_iterator", data := .fields #[.ref a, .int 0 0] }).push { cls := .type "enumerate", data := .fields #[.none, .bool false, .ref s1.heap.objs.size, rawInt 0, .none, .none] }) (s1.heap.objs.size + 1) s1.heap.objs.size 0 .none := g1
    refine ⟨⟨_, he, rfl⟩, wpAny_pyIter_enum he ?_⟩
    refine ⟨s1.heap.objs.size + 1, _, _, _, H1, rfl, I1.kept (t' := s1.toks) fun b o e => Heap.get?_push_of_some _ (Heap.get?_push_of_some _ e), turn_enumT a (s1.heap.objs.size + 1) s1.heap.objs.size,
      ⟨⟨.none, he⟩, ⟨_, Heap.get?_push_of_some _ (Heap.get?_push_size _ rfl), rfl, rfl⟩, Nat.succ_ne_self _, Nat.ne_of_lt la, Nat.ne_of_lt (Nat.lt_succ_of_lt la)⟩, fun b hb => ?_, q⟩
    have hle : s1.heap.objs.size ≤ b := by
      rcases two hb with z | z <;> rw [z] <;> first | exact Nat.le_add_right _ _ | exact Nat.le_refl _
    exact I1.fpOk hle (I1.hok.fresh hle)
end
/-! ### loops over them -/
theorem for_enumS {x : Str} {g : TG} {tb : TS} {D : Ends} {σ : L2.St} {H : Hp} (Pv : Nat → L2.St → Hp → Prop) (h0 : Pv 0 σ H)
    (hs : ∀ (i c : Nat) (T : Addr) (σ : L2.St) (H : Hp), x.cps[i]? = some c → Pv i σ H → H T = none → g (.ref T) σ (upd H T (.tup [.int (i : Nat), .str ⟨#[c]⟩])) fun σ2 H2 => tb { D with nx := Pv (i + 1), ct := Pv (i + 1), bk := D.nx } σ2 H2)
    (hd : ∀ σ H, Pv x.cps.size σ H → D.nx σ H) :
    ∃ W : Nat → Nat → L2.St → Hp → Prop, (∃ m, W 0 m σ H) ∧ ∀ i m σ H, W i m σ H →
      ((ItS x).stop i H ∧ D.nx σ H) ∨ ((ItS x).go i H ∧ ∃ N : L2.St → Hp → Prop, (∀ σ' H', N σ' H' → ∃ m', m' < m ∧ W (i + 1) m' σ' H') ∧ ∀ v H', (ItS x).yld i H v H' → g v σ H' fun σ2 H2 => tb { D with nx := N, ct := N, bk := D.nx } σ2 H2) := by
  refine ⟨fun i m σ H => i + m = x.cps.size ∧ Pv i σ H, ⟨_, Nat.zero_add _, h0⟩, ?_⟩
  rintro i m σ H ⟨e, p⟩
  by_cases hm : m = 0
  · have e2 : i = x.cps.size := by omega
    refine .inl ⟨e2, hd σ H ?_⟩
    rw [← e2]
    exact p
  · refine .inr ⟨show i < x.cps.size by omega, Pv (i + 1), fun σ' H' p' => ⟨m - 1, by omega, by omega, p'⟩, ?_⟩
    rintro v H' ⟨T, c, rfl, hT, rfl, hc⟩
    exact hs i c T σ H hc p hT
theorem for_enumT {K : PySem.W.Frag} {a : Addr} {xs : List V} {g : TG} {tb : TS} {D : Ends} {σ : L2.St} {H : Hp} (Pv : Nat → L2.St → Hp → Prop) (h0 : Pv 0 σ H) (hq : ∀ i σ H, Pv i σ H → SqT K H a xs)
    (hs : ∀ (i : Nat) (x : V) (T : Addr) (σ : L2.St) (H : Hp), xs[i]? = some x → Pv i σ H → H T = none → g (.ref T) σ (upd H T (.tup [.int (i : Nat), x])) fun σ2 H2 => tb { D with nx := Pv (i + 1), ct := Pv (i + 1), bk := D.nx } σ2 H2)
    (hd : ∀ σ H, Pv xs.length σ H → D.nx σ H) :
    ∃ W : Nat → Nat → L2.St → Hp → Prop, (∃ m, W 0 m σ H) ∧ ∀ i m σ H, W i m σ H →
      ((ItT K a).stop i H ∧ D.nx σ H) ∨ ((ItT K a).go i H ∧ ∃ N : L2.St → Hp → Prop, (∀ σ' H', N σ' H' → ∃ m', m' < m ∧ W (i + 1) m' σ' H') ∧ ∀ v H', (ItT K a).yld i H v H' → g v σ H' fun σ2 H2 => tb { D with nx := N, ct := N, bk := D.nx } σ2 H2) := by
  refine ⟨fun i m σ H => i + m = xs.length ∧ Pv i σ H, ⟨_, Nat.zero_add _, h0⟩, ?_⟩
  rintro i m σ H ⟨e, p⟩
  by_cases hm : m = 0
  · have e2 : i = xs.length := by omega
    refine .inl ⟨⟨xs, hq i σ H p, e2⟩, hd σ H ?_⟩
    rw [← e2]
    exact p
  · have hi : i < xs.length := by omega
    refine .inr ⟨⟨xs, xs[i], hq i σ H p, List.getElem?_eq_getElem hi⟩, Pv (i + 1), fun σ' H' p' => ⟨m - 1, by omega, by omega, p'⟩, ?_⟩
    rintro v H' ⟨T, x, rfl, hT, rfl, hx⟩
    exact hs i x T σ H (hx xs (hq i σ H p)) p hT
theorem for_enumL {K : PySem.W.Frag} {a : Addr} {xs : List V} {g : TG} {tb : TS} {D : Ends} {σ : L2.St} {H : Hp} (Pv : Nat → L2.St → Hp → Prop) (h0 : Pv 0 σ H) (hq : ∀ i σ H, Pv i σ H → SqL K H a xs)
    (hs : ∀ (i : Nat) (x : V) (T : Addr) (σ : L2.St) (H : Hp), xs[i]? = some x → Pv i σ H → H T = none → g (.ref T) σ (upd H T (.tup [.int (i : Nat), x])) fun σ2 H2 => tb { D with nx := Pv (i + 1), ct := Pv (i + 1), bk := D.nx } σ2 H2)
    (hd : ∀ σ H, Pv xs.length σ H → D.nx σ H) :
    ∃ W : Nat → Nat → L2.St → Hp → Prop, (∃ m, W 0 m σ H) ∧ ∀ i m σ H, W i m σ H →
      ((Ite K a).stop i H ∧ D.nx σ H) ∨ ((Ite K a).go i H ∧ ∃ N : L2.St → Hp → Prop, (∀ σ' H', N σ' H' → ∃ m', m' < m ∧ W (i + 1) m' σ' H') ∧ ∀ v H', (Ite K a).yld i H v H' → g v σ H' fun σ2 H2 => tb { D with nx := N, ct := N, bk := D.nx } σ2 H2) := by
  refine ⟨fun i m σ H => i + m = xs.length ∧ Pv i σ H, ⟨_, Nat.zero_add _, h0⟩, ?_⟩
  rintro i m σ H ⟨e, p⟩
  by_cases hm : m = 0
  · have e2 : i = xs.length := by omega
    refine .inl ⟨⟨xs, hq i σ H p, by omega⟩, hd σ H ?_⟩
    rw [← e2]
    exact p
  · have hi : i < xs.length := by omega
    refine .inr ⟨⟨xs, xs[i], hq i σ H p, List.getElem?_eq_getElem hi⟩, Pv (i + 1), fun σ' H' p' => ⟨m - 1, by omega, by omega, p'⟩, ?_⟩
    rintro v H' ⟨T, x, rfl, hT, rfl, hx⟩
    exact hs i x T σ H (hx xs (hq i σ H p)) p hT
end EN

namespace TR
open PySem PySem.Spec PyProof.Rows L2 Evl
/-- a list or a tuple of these -/
def ob (k : Bool) (xs : List V) : HO := if k = true then .tup xs else .lst xs
theorem ob_seq {K : PySem.W.Frag} {H : Hp} {a : Addr} {k : Bool} {xs : List V} (h : H a = some (ob k xs)) : SqL K H a xs ∨ SqT K H a xs := by
  cases k
  · exact .inl (sq_of h)
  · exact .inr (st_of h)
theorem ob_list {K : PySem.W.Frag} {H : Hp} {a : Addr} {k : Bool} {xs : List V} (h : H a = some (ob k xs)) : TyX K H (.ref a) (if k = true then .type "tuple" else .type "list") := by
  cases k
  · exact .base (.lst h)
  · exact .base (.tup h)
theorem ob_ne {k : Bool} {xs : List V} {kvs : List (Key × V)} : ob k xs ≠ .dK kvs := by
  cases k <;> intro h <;> cases h
section
variable {X : Cx} {pos : Pos}
/-- a, b, .. = a list or a tuple of that length -/
def gSeq (K : PySem.W.Frag) (n : Nat) (t : TGs) : TG := fun v σ H Q => gUnl K n t v σ H Q ∨ gTup K n t v σ H Q
theorem pg_seq {es : List Expr} {k : Nat} {t : TGs} {n : Nat} (hc : X.calm = true) (h : PGs X es t)
    (hn : (assignEach es X.env).length = n := by rfl) (hst : (assignEach es X.env).findIdx? (·.1) = none := by rfl) : PG X (.Tuple es k pos) (gSeq X.K n t) := by
  refine ⟨fun pins s σ H v u Q I r hw => ?_⟩
  rcases hw with hw | hw
  · exact (pg_unl hc h hn hst).run pins s σ H v u Q I r hw
  · exact (pg_tup hc h hn hst).run pins s σ H v u Q I r hw
theorem gSeq_of {K : PySem.W.Frag} {n : Nat} {t : TGs} {H : Hp} {a : Addr} {k : Bool} {xs : List V} {σ : L2.St} {Q : L2.St → Hp → Prop} (h : H a = some (ob k xs)) (hl : xs.length = n) (q : t xs σ H Q) : gSeq K n t (.ref a) σ H Q := by
  cases k
  · exact .inl ⟨a, xs, rfl, sq_of h, hl, q⟩
  · exact .inr ⟨a, xs, rfl, st_of h, hl, q⟩
/-- a walk over either -/
def iSeq (K : PySem.W.Frag) (te : TE) : TI := fun σ H R => iList K te σ H R ∨ iTup K te σ H R
theorem pi_seq {tg e : Expr} {te : TE} (he : PE X e te) : PI X tg e (iSeq X.K te) := by
  refine ⟨fun pins s σ H R I h => ?_⟩
  rcases h with h | h
  · exact (pi_list he).run pins s σ H R I h
  · exact (pi_tup he).run pins s σ H R I h
def iEnumQ (K : PySem.W.Frag) (ta : TA) : TI := fun σ H R => iEnum K ta σ H R ∨ EN.iEnumT K ta σ H R
theorem pi_enumQ {e : Expr} {ta : TA} {p tpos : Pos} {elts : List Expr} {kk : Nat} (hg : Gl X "enumerate") (hm : X.mg "enumerate" = none) (ha : PA X [e] ta) (hs : starEach [e] X.env = [(false, eval e X.env)] := by rfl) :
    PI X (.Tuple elts kk tpos) (.Call (.Name "enumerate" p) [e] [] pos) (iEnumQ X.K ta) := by
  refine ⟨fun pins s σ H R I h => ?_⟩
  rcases h with h | h
  · exact (pi_enum hg hm ha hs).run pins s σ H R I h
  · exact (EN.pi_enumT hg hm ha hs).run pins s σ H R I h
theorem ix_at {K : PySem.W.Frag} {H : Hp} {a : Addr} {k : Bool} {xs : List V} {i : Int} {v : V} {Q : VK} (h : H a = some (ob k xs)) (hi : atI xs i = some v) (q : Q v H) : rIx K (.ref a) (.int i) H Q := by
  cases k
  · exact .inl ⟨a, xs, i, v, rfl, rfl, sq_of h, hi, q⟩
  · exact .inr (.inl ⟨a, xs, i, v, rfl, rfl, st_of h, hi, q⟩)
end
/-! ### trees -/
mutual
inductive Tr where
  | go (s q : Nat) : Tr
  | tell (n : Nat) (t : Tr) : Tr
  | read (p : Nat) (ts : Trs) : Tr
inductive Trs where
  | nil : Trs
  | cons (t : Tr) (r : Trs) : Trs
end
def Trs.list : Trs → List Tr
  | .nil => []
  | .cons t r => t :: r.list
mutual
def Tr.size : Tr → Nat
  | .go _ _ => 1
  | .tell _ t => t.size + 1
  | .read _ ts => ts.size + 1
def Trs.size : Trs → Nat
  | .nil => 0
  | .cons t r => t.size + r.size
end
mutual
def Tr.depth : Tr → Nat
  | .go _ _ => 1
  | .tell _ t => t.depth + 1
  | .read _ ts => ts.depth + 1
def Trs.depth : Trs → Nat
  | .nil => 0
  | .cons t r => max t.depth r.depth
end
/-! as described, for so many letters, this width, so many states -/
mutual
def Tr.ok (l w n : Nat) : Tr → Prop
  | .go s q => 1 ≤ s ∧ s ≤ w + 1 ∧ q < n
  | .tell k t => k ≤ 2 ∧ t.ok l w n
  | .read p ts => p ≤ w ∧ ts.list.length = l ∧ ts.ok l w n
def Trs.ok (l w n : Nat) : Trs → Prop
  | .nil => True
  | .cons t r => t.ok l w n ∧ r.ok l w n
end
/-- the trees within -/
def Tr.kids : Tr → List Tr
  | .go _ _ => []
  | .tell _ t => [t]
  | .read _ ts => ts.list
/-! how a tree stands in memory, of lists or of tuples -/
mutual
inductive TA (k : Bool) (H : Hp) : V → Tr → Prop
  | go {a : Addr} {s q : Nat} : H a = some (ob k [.str "go", .int (s : Nat), .int (q : Nat)]) → TA k H (.ref a) (.go s q)
  | tell {a : Addr} {n : Nat} {v : V} {t : Tr} : H a = some (ob k [.str "tell", .int (n : Nat), v]) → TA k H v t → TA k H (.ref a) (.tell n t)
  | read {a b : Addr} {p : Nat} {vs : List V} {ts : Trs} : H a = some (ob k [.str "read", .int (p : Nat), .ref b]) → H b = some (ob k vs) → TAs k H vs ts → TA k H (.ref a) (.read p ts)
inductive TAs (k : Bool) (H : Hp) : List V → Trs → Prop
  | nil : TAs k H [] .nil
  | cons {v : V} {vs : List V} {t : Tr} {r : Trs} : TA k H v t → TAs k H vs r → TAs k H (v :: vs) (.cons t r)
end
mutual
theorem TA.ex {k : Bool} {H H' : Hp} (e : Ex H H') : ∀ {t : Tr} {v : V}, TA k H v t → TA k H' v t
  | _, _, .go h => .go (e _ _ h)
  | _, _, .tell h r => .tell (e _ _ h) (TA.ex e r)
  | _, _, .read h1 h2 r => .read (e _ _ h1) (e _ _ h2) (TAs.ex e r)
theorem TAs.ex {k : Bool} {H H' : Hp} (e : Ex H H') : ∀ {ts : Trs} {vs : List V}, TAs k H vs ts → TAs k H' vs ts
  | _, _, .nil => .nil
  | _, _, .cons h r => .cons (TA.ex e h) (TAs.ex e r)
end
/-- a list of trees as it stands -/
inductive Kids (k : Bool) (H : Hp) : List V → List Tr → Prop
  | nil : Kids k H [] []
  | cons {v : V} {vs : List V} {t : Tr} {r : List Tr} : TA k H v t → Kids k H vs r → Kids k H (v :: vs) (t :: r)
theorem TAs.kids {k : Bool} {H : Hp} : ∀ {ts : Trs} {vs : List V}, TAs k H vs ts → Kids k H vs ts.list
  | _, _, .nil => .nil
  | _, _, .cons h r => .cons h r.kids
theorem Kids.ex {k : Bool} {H H' : Hp} (e : Ex H H') : ∀ {vs : List V} {ts : List Tr}, Kids k H vs ts → Kids k H' vs ts
  | _, _, .nil => .nil
  | _, _, .cons h r => .cons (h.ex e) (Kids.ex e r)
theorem Kids.len {k : Bool} {H : Hp} : ∀ {vs : List V} {ts : List Tr}, Kids k H vs ts → vs.length = ts.length
  | _, _, .nil => rfl
  | _, _, .cons _ r => by rw [List.length_cons, List.length_cons, r.len]
theorem Kids.get {k : Bool} {H : Hp} : ∀ {vs : List V} {ts : List Tr} {i : Nat} {x : V}, Kids k H vs ts → vs[i]? = some x → ∃ t, ts[i]? = some t ∧ TA k H x t
  | _, _, _, _, .nil, h => by cases h
  | _, _, 0, _, .cons (t := t) h1 _, h => ⟨t, rfl, by rw [← Option.some.inj h]; exact h1⟩
  | _, _, i + 1, _, .cons _ r, h => Kids.get (i := i) r h
theorem Kids.snoc {k : Bool} {H : Hp} {v : V} {t : Tr} (h : TA k H v t) : ∀ {vs : List V} {ts : List Tr}, Kids k H vs ts → Kids k H (vs ++ [v]) (ts ++ [t])
  | _, _, .nil => .cons h .nil
  | _, _, .cons h1 r => .cons h1 (Kids.snoc h r)
theorem Kids.app {k : Bool} {H : Hp} : ∀ {vs : List V} {ts : List Tr} {us : List V} {rs : List Tr}, Kids k H vs ts → Kids k H us rs → Kids k H (vs ++ us) (ts ++ rs)
  | _, _, _, _, .nil, h => h
  | _, _, _, _, .cons h r, h2 => .cons h (Kids.app r h2)
theorem size_pos : ∀ t : Tr, 1 ≤ t.size
  | .go _ _ => Nat.le_refl 1
  | .tell _ t => by
    show 1 ≤ t.size + 1
    omega
  | .read _ ts => by
    show 1 ≤ ts.size + 1
    omega
def total (ts : List Tr) : Nat := (ts.map Tr.size).sum
theorem Trs.total : ∀ ts : Trs, TR.total ts.list = ts.size
  | .nil => rfl
  | .cons t r => by
    show t.size + TR.total r.list = t.size + r.size
    rw [Trs.total r]
theorem size_kids : ∀ t : Tr, t.size = TR.total t.kids + 1
  | .go _ _ => rfl
  | .tell _ t => rfl
  | .read _ ts => by
    show ts.size + 1 = TR.total ts.list + 1
    rw [Trs.total]
theorem Trs.ok_mem {l w n : Nat} : ∀ {ts : Trs}, ts.ok l w n → ∀ t ∈ ts.list, t.ok l w n
  | .nil, _, _, h => nomatch h
  | .cons t r, h, x, hx => by
    rcases List.mem_cons.mp hx with q | q
    · rw [q]
      exact h.1
    · exact Trs.ok_mem h.2 x q
theorem ok_kids {l w n : Nat} : ∀ {t : Tr}, t.ok l w n → ∀ x ∈ t.kids, x.ok l w n
  | .go _ _, _, _, h => nomatch h
  | .tell _ t, h, x, hx => by
    rw [List.mem_singleton.mp hx]
    exact h.2
  | .read _ ts, h, x, hx => Trs.ok_mem h.2.2 x hx
theorem Trs.depth_mem : ∀ {ts : Trs}, ∀ t ∈ ts.list, t.depth ≤ ts.depth
  | .nil, _, h => nomatch h
  | .cons t r, x, hx => by
    rcases List.mem_cons.mp hx with q | q
    · rw [q]
      exact Nat.le_max_left _ _
    · exact Nat.le_trans (Trs.depth_mem x q) (Nat.le_max_right _ _)
theorem depth_kids : ∀ {t : Tr}, ∀ x ∈ t.kids, x.depth + 1 ≤ t.depth
  | .go _ _, _, h => nomatch h
  | .tell _ t, x, hx => by
    rw [List.mem_singleton.mp hx]
    exact Nat.le_refl _
  | .read _ ts, x, hx => Nat.succ_le_succ (Trs.depth_mem x hx)
end TR

/-! zip of a text and a tuple -/
namespace ZT
open PySem PySem.Spec PyProof.Rows L2
def ItzX (K : PySem.W.Frag) (x : Str) (b : Addr) (ys : List V) : It :=
  ⟨fun i H => SqT K H b ys ∧ i < x.cps.size ∧ i < ys.length,
   fun i H v H' => ∃ T c y, v = .ref T ∧ H T = none ∧ H' = upd H T (.tup [.str ⟨#[c]⟩, y]) ∧ x.cps[i]? = some c ∧ ys[i]? = some y,
   fun i H => SqT K H b ys ∧ i = min x.cps.size ys.length⟩
def StX (x : Str) (t : Tok) (b z TI TO i1 i2 : Addr) (i : Nat) (h : Heap) : Prop :=
  IsZip h z TI TO .none ∧ IsTupOf2 h TI (.ref i1) (.ref i2) ∧ (∃ a1 a2, IsTupOf2 h TO a1 a2) ∧ h.IsStrIter i1 (strIterType x) x t i ∧ h.IsTupleIter i2 b i
theorem walkX {prog : Program} {w : World} {A : Around} (hh : A.handled = none) {z TI TO i1 i2 b : Addr} (S : ZipSep2 z TI TO i1 i2 [i1] [i2, b]) (hne : b ≠ i2) (x : Str) (t : Tok) (items : Array Value) :
    WalksT prog w A z (z :: TI :: TO :: ([i1] ++ [i2, b])) [z, TO, i1, i2] (min x.cps.size items.size)
      (fun i vals => ∃ v1 v2, (∃ c u, x.cps[i]? = some c ∧ v1 = .str ⟨#[c]⟩ u) ∧ items[i]? = some v2 ∧ vals = #[v1, v2])
      (fun i h => IsZip h z TI TO .none ∧ IsTupOf2 h TI (.ref i1) (.ref i2) ∧ (∃ a1 a2, IsTupOf2 h TO a1 a2) ∧ h.IsStrIter i1 (strIterType x) x t i ∧ (h.IsTupleIter i2 b i ∧ h.IsTuple b items))
      (fun i T h => IsZip h z TI TO (rawInt T) ∧ IsTupOf2 h TI (.ref i1) (.ref i2) ∧ (∃ a1 a2, IsTupOf2 h TO a1 a2) ∧ h.IsStrIter i1 (strIterType x) x t (i + 1) ∧ (h.IsTupleIter i2 b (i + 1) ∧ h.IsTuple b items) ∧ T ≠ z ∧ T ≠ TO ∧ T ≠ i1 ∧ T ≠ i2) :=
  WalksT.zipD2 S (ZS.drawsS (A := A.in1) hh i1 x t) (Draws.tuple (A := A.in1) hh i2 b hne items)
theorem turnX {P : Program} {w : World} {K : PySem.W.Frag} {elts : List Expr} {kk : Nat} {tpos : Pos} {z TI TO i1 i2 b : Addr} (S : ZipSep2 z TI TO i1 i2 [i1] [i2, b]) (hne : b ≠ i2) (x : Str) (t : Tok) (ys : List V) :
    Turn P w K (.Tuple elts kk tpos) (ItzX K x b ys) [z, TI, TO, i1, i2] z (StX x t b z TI TO i1 i2) where
  mem := List.mem_cons_self
  obj := fun i h st c hc => by
    obtain ⟨q1, q2, ⟨a1, a2, q3⟩, ⟨o1, e1, _, d1⟩, ⟨o2, e2, _, d2⟩⟩ := st
    rcases ZS.fp5 hc with q | q | q | q | q
    all_goals subst q
    · exact ⟨_, q1, fun v q => nomatch q⟩
    · exact ⟨_, q2, fun v q => nomatch q⟩
    · exact ⟨_, q3, fun v q => nomatch q⟩
    · exact ⟨o1, e1, fun v q => by rw [d1] at q; cases q⟩
    · exact ⟨o2, e2, fun v q => by rw [d2] at q; cases q⟩
  keep := fun i h h' st k => by
    obtain ⟨q1, q2, ⟨a1, a2, q3⟩, ⟨o1, e1, r1⟩, ⟨o2, e2, r2⟩⟩ := st
    exact ⟨k z (by simp) _ q1, k TI (by simp) _ q2, ⟨a1, a2, k TO (by simp) _ q3⟩, ⟨o1, k i1 (by simp) _ e1, r1⟩, ⟨o2, k i2 (by simp) _ e2, r2⟩⟩
  item := by
    intro X hP hw hK hc i pins s σ H E I hf st hg
    subst hP hw hK
    obtain ⟨hq, hx1, hx2⟩ := hg
    obtain ⟨its, rv, p, _⟩ := I.tuple hq
    have ln := rv.length
    have W := walkX (prog := X.prog) (w := X.w) (A := X.A) (I.ok.hd hc) S hne x t its.toArray
    have hlt : i < min x.cps.size its.toArray.size := by
      have : i < its.toArray.size := by
        simp
        omega
      omega
    obtain ⟨q1, q2, q3, q4, q5⟩ := st
    refine W.item i s _ _ hlt ⟨q1, q2, q3, q4, q5, p⟩ fun T vals h' tk hv hT hIs hm hk => ?_
    refine ⟨.ref T, rfl, ?_⟩
    refine W.go elts kk tpos i T { s with heap := h', toks := tk } _ _ hm fun h2 st2 hk2 => ?_
    obtain ⟨v1, v2, ⟨c, u1, hc1, rfl⟩, hd1, rfl⟩ := hv
    obtain ⟨y, hy, ry⟩ : ∃ y, ys[i]? = some y ∧ RelV y v2 := by
      have e1 : its[i]? = some v2 := by simpa using hd1
      obtain ⟨y, hy⟩ : ∃ y, ys[i]? = some y := ⟨_, List.getElem?_eq_getElem hx2⟩
      obtain ⟨v3, e3, r3⟩ := rv.get hy
      rw [e1] at e3
      cases e3
      exact ⟨y, hy, r3⟩
    have ap : T ∉ [z, TO, i1, i2] := W.apart i T h' hm
    have up : ∀ b o, b ∉ [z, TO, i1, i2] → s.heap.get? b = some o → h2.get? b = some o := fun b o hb e => hk2 b o hb (hk b o hb e)
    have hT2 : h2.IsTuple T #[.str ⟨#[c]⟩ u1, v2] := hIs.at fun o e => hk2 T o ap e
    obtain ⟨oT, eT, cT, nT, dT⟩ := hT2
    have new : ObjOk X.prog X.w (upd H T (.tup [.str ⟨#[c]⟩, y])) h2 T (.tup [.str ⟨#[c]⟩, y]) :=
      ⟨by show 2 ≤ sizeLine; decide, [.str ⟨#[c]⟩ u1, v2], .cons ⟨u1, rfl⟩ (.cons ry .nil), ⟨oT, eT, cT, nT, dT⟩⟩
    have sub : ∀ b, b ∉ [z, TI, TO, i1, i2] → b ∉ [z, TO, i1, i2] := fun b hb hb2 => hb (by
      have q : b = z ∨ b = TO ∨ b = i1 ∨ b = i2 := by simpa using hb2
      rcases q with q | q | q | q <;> simp [q])
    have I1 := I.turnedNew (t' := tk) (ch := [z, TI, TO, i1, i2]) (fun b o hb e => up b o (sub b hb) e) hf hT new
    obtain ⟨s1, s2, s3, s4, s5, s6⟩ := st2
    refine ⟨.ref T, _, I1, rfl, ⟨T, c, y, rfl, I.hok.fresh hT, rfl, hc1, hy⟩, ⟨s1, s2, s3, s4, s5⟩, fun b hb => ?_⟩
    have hlb : b < s.heap.objs.size := by
      obtain ⟨a1, a2, r3⟩ := q3
      obtain ⟨o1, e1, r1⟩ := q4
      obtain ⟨o2, e2, r2⟩ := q5
      rcases ZS.fp5 hb with q | q | q | q | q
      · rw [q]; exact Heap.lt_size q1
      · rw [q]; exact Heap.lt_size q2
      · rw [q]; exact Heap.lt_size r3
      · rw [q]; exact Heap.lt_size e1
      · rw [q]; exact Heap.lt_size e2
    rw [upd_ne (show b ≠ T from fun e => absurd hT (by rw [← e]; exact Nat.not_le.mpr hlb))]
    exact (hf b hb).1
  done := by
    intro X hP hw hK hc i pins s σ H E I hf st hg
    subst hP hw hK
    obtain ⟨hq, hi⟩ := hg
    obtain ⟨its, rv, p, _⟩ := I.tuple hq
    have ln := rv.length
    have W := walkX (prog := X.prog) (w := X.w) (A := X.A) (I.ok.hd hc) S hne x t its.toArray
    have e : i = min x.cps.size its.toArray.size := by
      rw [hi, ln]
      rfl
    subst e
    obtain ⟨q1, q2, q3, q4, q5⟩ := st
    refine W.done s _ _ ⟨q1, q2, q3, q4, q5, p⟩ fun h' tk hk => ⟨rfl, ?_⟩
    refine I.turnedL (t' := tk) (ch := [z, TI, TO, i1, i2]) (fun b o hb e => hk b o (fun hb2 => hb ?_) e) hf
    have q : b = z ∨ b = TO ∨ b = i1 ∨ b = i2 := by simpa using hb2
    rcases q with q | q | q | q <;> simp [q]
  self := fun A i s Q E st h => wpAny_pyIter_zip st.1 h
abbrev g1 (h : Heap) (x : Str) (t : Tok) : Heap := h.push { cls := .type (strIterType x), data := .fields #[.str x t, .int 0 0] }
abbrev g2 (h : Heap) (x : Str) (t : Tok) (b : Addr) : Heap := (g1 h x t).push { cls := .type "tuple_iterator", data := .fields #[.ref b, .int 0 0] }
abbrev g3 (h : Heap) (x : Str) (t : Tok) (b : Addr) : Heap := (g2 h x t b).push { cls := .type "tuple", data := .seq #[.ref h.objs.size, .ref (g1 h x t).objs.size] }
abbrev g4 (h : Heap) (x : Str) (t : Tok) (b : Addr) : Heap := (g3 h x t b).push { cls := .type "tuple", data := .seq #[.none, .none] }
abbrev g5 (h : Heap) (x : Str) (t : Tok) (b : Addr) : Heap := (g4 h x t b).push { cls := .type "zip", data := .fields #[.none, .bool false, .bool false, .ref (g2 h x t b).objs.size, .ref (g3 h x t b).objs.size] }
theorem meetsX (x : Str) (t : Tok) (b : Addr) (ys : Array Value) :
    Meets (Builtin.«zip.__new__» ⟨[.type "zip", .str x t, .ref b], []⟩) (fun _ R s => s.heap.IsTuple b ys ∧ R (.ok (.ret (.ref (g4 s.heap x t b).objs.size))) { s with heap := g5 s.heap x t b }) :=
  .of_wp fun prog w A R s h => by
    obtain ⟨hp, gg, d, tk, os⟩ := s
    obtain ⟨hl, h⟩ := h
    have hsub := sub_zip
    have hL2 : Heap.IsTuple (Shared.heap ⟨hp.push { cls := .type (strIterType x), data := .fields #[.str x t, .int 0 0] }, gg, d, tk, os⟩) b ys := Heap.IsTuple.push hl _
    wp_walk using wpAny_pyIter_strU, wpAny_pyIter_tuple hL2
    exact ⟨_, rfl, h⟩
theorem callX {prog : Program} {w : World} {A : Around} {E : Value → Shared → Prop} {s : Shared} {x : Str} {t : Tok} {b : Addr} {ys : Array Value} {Q : Value → Shared → Prop} (hb : s.heap.IsTuple b ys)
    (h : ∀ h', StX x t b (s.heap.objs.size + 4) (s.heap.objs.size + 2) (s.heap.objs.size + 3) s.heap.objs.size (s.heap.objs.size + 1) 0 h' → (∀ c o, s.heap.get? c = some o → h'.get? c = some o) → Q (.ref (s.heap.objs.size + 4)) { s with heap := h' }) :
    wpAny (model prog w) A (call (.type "zip") [.str x t, .ref b]) Q E s := by
  refine callType_new F.called_zip (by decide) (F.typeCall_zip_2 _ _) (F.newCall_zip_2 _ _) (fun obj => F.args_object_init_3 obj _ _) F.entry_zip_new (meetsX x t b ys) ⟨hb, ?_⟩
  have n1 : (g1 s.heap x t).objs.size = s.heap.objs.size + 1 := Heap.size_push ..
  have n2 : (g2 s.heap x t b).objs.size = s.heap.objs.size + 2 := by rw [Heap.size_push, n1]
  have n3 : (g3 s.heap x t b).objs.size = s.heap.objs.size + 3 := by rw [Heap.size_push, n2]
  have n4 : (g4 s.heap x t b).objs.size = s.heap.objs.size + 4 := by rw [Heap.size_push, n3]
  have k5 : (g5 s.heap x t b).get? (g4 s.heap x t b).objs.size = some _ := Heap.get?_push_size _ rfl
  have k4 : (g5 s.heap x t b).get? (g3 s.heap x t b).objs.size = some _ := Heap.get?_push_of_some _ (Heap.get?_push_size _ rfl)
  have k3 : (g5 s.heap x t b).get? (g2 s.heap x t b).objs.size = some _ := Heap.get?_push_of_some _ (Heap.get?_push_of_some _ (Heap.get?_push_size _ rfl))
  have k2 : (g5 s.heap x t b).get? (g1 s.heap x t).objs.size = some _ := Heap.get?_push_of_some _ (Heap.get?_push_of_some _ (Heap.get?_push_of_some _ (Heap.get?_push_size _ rfl)))
  have k1 : (g5 s.heap x t b).get? s.heap.objs.size = some _ := Heap.get?_push_of_some _ (Heap.get?_push_of_some _ (Heap.get?_push_of_some _ (Heap.get?_push_of_some _ (Heap.get?_push_size _ rfl))))
  show _ ∧ _
  rw [n2, n3, n4] at k5
  rw [n1, n2] at k3
  rw [n3] at k4
  rw [n1] at k2
  rw [n4]
  exact ⟨⟨_, k5, rfl⟩, h _ ⟨k5, k3, ⟨_, _, k4⟩, ⟨_, k1, rfl, rfl⟩, ⟨_, k2, rfl, rfl⟩⟩ fun c o e =>
    Heap.get?_push_of_some _ (Heap.get?_push_of_some _ (Heap.get?_push_of_some _ (Heap.get?_push_of_some _ (Heap.get?_push_of_some _ e))))⟩
theorem sepX {n b : Nat} (h : b < n) : ZipSep2 (n + 4) (n + 2) (n + 3) n (n + 1) [n] [n + 1, b] := by
  have k1 : ∀ k : Nat, n + k ≠ b := fun k e => by omega
  constructor <;> first | omega | (simp; done) | (simp; exact k1 _) | (simp; exact k1 0)
def iZipX (K : PySem.W.Frag) (ta : TA) : TI := fun σ H R => ta σ H fun vs H1 => ∃ x b ys, vs = [.str x, .ref b] ∧ SqT K H1 b ys ∧ R (ItzX K x b ys) H1
theorem pi_zipX {X : Cx} {e e2 : Expr} {ta : TA} {p pos tpos : Pos} {elts : List Expr} {kk : Nat} (hg : Gl X "zip") (hm : X.mg "zip" = none) (ha : PA X [e, e2] ta)
    (hs : starEach [e, e2] X.env = (false, eval e X.env) :: starEach [e2] X.env := by rfl) (hpl : (backTo pos (starEach [e2] X.env)).any (·.1) = false := by rfl) :
    PI X (.Tuple elts kk tpos) (.Call (.Name "zip" p) [e, e2] [] pos) (iZipX X.K ta) := by
  refine ⟨fun pins s σ H R I h => ?_⟩
  refine Call_ (ld_blt I hg hm boot_zip (callWith_type1 (thn (ha.run pos pins s σ H _ I h) fun us s1 ⟨vs, H1, I1, r1, q1⟩ => ?_) hs hpl))
  obtain ⟨x, b, ys, ex, hq, q⟩ := q1
  subst ex
  cases r1 with
  | cons r rr =>
    cases rr with
    | cons r' rr =>
      cases rr
      obtain ⟨t, rfl⟩ := r
      cases r'
      obtain ⟨its, rv, p1, _⟩ := I1.tuple hq
      obtain ⟨o1, ho1, _⟩ := id p1
      have hb := Heap.lt_size ho1
      refine callX (show s1.heap.IsTuple b its.toArray from p1) fun h' st hk => wpAny_pyIter_zip st.1 ?_
      have I2 : Inv X pins σ H1 { s1 with heap := h' } := I1.kept (t' := s1.toks) hk
      refine ⟨s1.heap.objs.size + 4, _, _, _, H1, rfl, I2, turnX (sepX hb) (Nat.ne_of_lt (Nat.lt_succ_of_lt hb)) x t ys, st, fun c hcm => ?_, q⟩
      have hle : s1.heap.objs.size ≤ c := by
        rcases ZS.fp5 hcm with z | z | z | z | z <;> rw [z] <;> first | exact Nat.le_add_right _ _ | exact Nat.le_refl _
      exact I1.fpOk hle (I1.hok.fresh hle)
/-- a comprehension over it -/
theorem lc_zipX {K : PySem.W.Frag} {x : Str} {b : Addr} {ys : List V} {g : TG} {tt : TT} {te : TE} {vs : List Nat} {σ : L2.St} {H1 : Hp} {D : Addr} {Qd : Hp → Prop} (hl : x.cps.size = ys.length) (Pv : Nat → Hp → Prop) (h0 : Pv 0 (upd H1 D (.lst []))) (hq : ∀ i H, Pv i H → H b = some (.tup ys))
    (hs : ∀ i c y T H, x.cps[i]? = some c → ys[i]? = some y → Pv i H → H T = none → g (.ref T) (wipe σ vs) (upd H T (.tup [.str ⟨#[c]⟩, y])) fun σ2 H2 => wipe σ2 vs = wipe σ vs ∧ tt σ2 H2 fun b H3 =>
      if b = true then te σ2 H3 fun z H4 => ∃ acc, H4 D = some (.lst acc) ∧ acc.length < sizeLine ∧ Pv (i + 1) (upd H4 D (.lst (acc ++ [z]))) else Pv (i + 1) H3) (hd : ∀ H, Pv ys.length H → Qd H) :
    ∃ W : Nat → Nat → Hp → Prop, (∃ m, W 0 m (upd H1 D (.lst []))) ∧ ∀ i m H, W i m H →
      ((ItzX K x b ys).stop i H ∧ Qd H) ∨ ((ItzX K x b ys).go i H ∧ ∃ Nx : Hp → Prop, (∀ H', Nx H' → ∃ m', m' < m ∧ W (i + 1) m' H') ∧ ∀ v H', (ItzX K x b ys).yld i H v H' → g v (wipe σ vs) H' fun σ2 H2 => wipe σ2 vs = wipe σ vs ∧ tt σ2 H2 fun b H3 =>
        if b = true then te σ2 H3 fun z H4 => ∃ acc, H4 D = some (.lst acc) ∧ acc.length < sizeLine ∧ Nx (upd H4 D (.lst (acc ++ [z]))) else Nx H3) := by
  refine ⟨fun i m H => i + m = ys.length ∧ Pv i H, ⟨_, Nat.zero_add _, h0⟩, ?_⟩
  rintro i m H ⟨e, p⟩
  have hb := hq i H p
  by_cases hm : m = 0
  · have e2 : i = ys.length := by omega
    refine .inl ⟨⟨Evl.st_of hb, by omega⟩, hd H ?_⟩
    rw [← e2]
    exact p
  · refine .inr ⟨⟨Evl.st_of hb, by omega, by omega⟩, Pv (i + 1), fun H' p' => ⟨m - 1, by omega, by omega, p'⟩, ?_⟩
    rintro v H' ⟨T, c, y, rfl, hT, rfl, hc, hy⟩
    exact hs i c y T H hc hy p hT
end ZT

/-! a, *rest = a list -/
namespace SL
open PySem PySem.Spec PyProof.Rows L2
theorem walk_tail {prog : Program} {w : World} {A : Around} {I : Addr} {fp wr : List Addr} {G : Array GenState → Array GenState → Prop} {n : Nat} {P : Nat → Value → Prop} {St : Nat → Shared → Prop} (W : WalksS prog w A I fp wr G (n + 1) P St) :
    WalksS prog w A I fp wr G n (fun i => P (i + 1)) (fun i => St (i + 1)) where
  sub := W.sub
  grefl := W.grefl
  gtrans := W.gtrans
  frame := fun i s h' tk st ht hk => W.frame (i + 1) s h' tk st ht hk
  item := fun i s Q E hi st h => W.item (i + 1) s Q E (by omega) st h
  done := fun s Q E st h => W.done s Q E st h
  self := fun i s Q E st h => W.self (i + 1) s Q E st h
section
variable {prog : Program} {w : World} {A : Around} {E : Value → Shared → Prop} {s : Shared}
theorem unpack_star {a : Addr} {x : Value} {xs : List Value} {targets : List (Bool × (Value → Sem Unit))} {Q : Unit → Shared → Prop} (hh : A.handled = none) (hl : s.heap.IsList a (x :: xs).toArray) (hz : xs.length ≤ sizeLine) (hn : targets.length = 2) (hstar : targets.findIdx? (·.1) = some 1)
    (h : ∀ s' : Shared, s'.gens = s.gens → s'.drawn = s.drawn → s'.os = s.os → (∀ b o, s.heap.get? b = some o → s'.heap.get? b = some o) → wpAny (model prog w) A (assignInOrder (targets.map (·.2)) [x, .ref s'.heap.objs.size]) Q E { s' with heap := s'.heap.push { cls := .type "list", data := .seq xs.toArray } }) :
    wpAny (model prog w) A (unpack (.ref a) targets) Q E s := by
  unfold unpack
  rw [hn, hstar]
  refine wpAny_bind (wpAny_holding ?_)
  unfold unpackItems
  refine wpAny_bind ?_
  unfold notIterableAtAll
  refine wpAny_bind (wpAny_specialOf hl.typeIs slot_list_iter.lookup ?_)
  refine wpAny_pure ?_
  simp only [Bool.false_eq_true, if_false]
  have hne : a ≠ s.heap.objs.size := by
    obtain ⟨o, ho, _⟩ := hl
    exact Nat.ne_of_lt (Heap.lt_size ho)
  refine wpAny_bind (wpAny_holding (wpAny_pyIter_list hl ?_))
  have hit : (s.heap.push { cls := .type "list_iterator", data := .fields #[.ref a, .int 0 0] }).IsListIter s.heap.objs.size a 0 := ⟨_, Heap.get?_push_size _ rfl, rfl, rfl⟩
  have hl2 : (s.heap.push { cls := .type "list_iterator", data := .fields #[.ref a, .int 0 0] }).IsList a (x :: xs).toArray := hl.push _
  have hk : ∀ b o, s.heap.get? b = some o → (s.heap.push { cls := .type "list_iterator", data := .fields #[.ref a, .int 0 0] }).get? b = some o := fun b o e => Heap.get?_push_of_some _ e
  have hlt : s.heap.objs.size < (s.heap.push { cls := .type "list_iterator", data := .fields #[.ref a, .int 0 0] }).objs.size := by
    rw [Heap.size_push]
    exact Nat.lt_succ_self _
  generalize s.heap.push { cls := .type "list_iterator", data := .fields #[.ref a, .int 0 0] } = h1 at hit hl2 hk hlt
  refine wpAny_bind (wpAny_holding ?_)
  unfold draw
  refine wpAny_bind (wpAny_pyNext_list_item (s := { s with heap := h1 }) hit hl2 (x := x) rfl fun h2 hit2 hs2 => ?_)
  unfold draw
  refine wpAny_bind (wpAny_holding (wpAny_pure (wpAny_pure ?_)))
  simp only [List.length_cons, List.length_nil]
  rw [if_neg (by decide)]
  have hl3 : h2.IsList a (x :: xs).toArray := hl2.extBut hs2.extBut hne
  have hlt2 : s.heap.objs.size < h2.objs.size := by
    obtain ⟨o, ho, _⟩ := hit2
    exact Heap.lt_size ho
  have W : WalksS prog w A.in1 s.heap.objs.size [s.heap.objs.size, a] [s.heap.objs.size] (fun a b => b = a) xs.length (fun i v => (x :: xs).toArray[i + 1]? = some v) (fun i s' => s'.heap.IsListIter s.heap.objs.size a (i + 1) ∧ s'.heap.IsList a (x :: xs).toArray) :=
    walk_tail (Walks.list (A := A.in1) hh s.heap.objs.size a hne (x :: xs).toArray).toS
  refine wpAny_bind (wpAny_holding (wpAny_collect_iter (s := { s with heap := h2 }) (.inr (.inr (.inl rfl))) W (fun i s' st => let ⟨o, ho, hc, _⟩ := st.1; ⟨o, ho, hc⟩) ⟨hit2, hl3⟩ (fun b hb => ?_) (by simp) (fun s' acc hm ha => ?_) hz))
  · rcases List.mem_cons.mp hb with e | hb
    · rw [e]
      exact hlt2
    · rw [List.mem_singleton.mp hb]
      obtain ⟨o, ho, _⟩ := hl3
      exact Heap.lt_size ho
  · have sz : acc.size = xs.length := ha.1
    have eacc : acc.toList = xs := by
      apply List.ext_getElem?
      intro j
      by_cases hj : j < xs.length
      · have hj2 : j < acc.size := by omega
        have z := ha.2 j _ (Array.getElem?_eq_getElem hj2)
        rw [Array.getElem?_toList, Array.getElem?_eq_getElem hj2, ← z]
        simp
      · have hj2 : acc.toList.length ≤ j := by
          rw [Array.length_toList]
          omega
        rw [List.getElem?_eq_none hj2, List.getElem?_eq_none (by omega)]
    rw [eacc]
    have e0 : (2 - 1 - 1 : Nat) = 0 := rfl
    rw [if_neg (by omega)]
    refine wpAny_bind (wpAny_newList (s := s') ?_ (by rw [List.length_take]; omega))
    refine wpAny_pure ?_
    have t1 : xs.take (xs.length - (2 - 1 - 1)) = xs := List.take_of_length_le (by omega)
    have t2 : xs.drop (xs.length - (2 - 1 - 1)) = [] := List.drop_of_length_le (by omega)
    rw [t1, t2]
    show wpAny _ _ (assignInOrder (targets.map (·.2)) [x, .ref s'.heap.objs.size]) _ _ _
    have low : ∀ b o, s.heap.get? b = some o → b ≠ s.heap.objs.size := fun b o e => Nat.ne_of_lt (Heap.lt_size e)
    have k3 : ∀ b o, s.heap.get? b = some o → s'.heap.get? b = some o := fun b o e => hm.heap b o (fun z => low b o e (List.mem_singleton.mp z)) (hs2.extBut b o (low b o e) (hk b o e))
    exact h s' hm.gens hm.drawn hm.os k3
end
/-- (a, *b) = a list that has one part at least -/
def gStarL (t1 t2 : TG) : TG := fun v σ H Q => ∃ a x xs, v = .ref a ∧ H a = some (.lst (x :: xs)) ∧ ∀ p, H p = none → t1 x σ (upd H p (.lst xs)) fun σ1 H1 => t2 (.ref p) σ1 H1 Q
theorem pg_starL {X : Cx} {e1 e2 : Expr} {sp pos : Pos} {k : Nat} {t1 t2 : TG} (hc : X.calm = true) (h1 : PG X e1 t1) (h2 : PG X e2 t2) (hst : (assignEach [e1, .Starred e2 sp] X.env).findIdx? (·.1) = some 1 := by rfl)
    (hs : (assignEach [e1, .Starred e2 sp] X.env).map (·.2) = [assign e1 X.env, assign e2 X.env] := by rfl) : PG X (.Tuple [e1, .Starred e2 sp] k pos) (gStarL t1 t2) := by
  refine ⟨fun pins s σ H v u Q I r hw => ?_⟩
  obtain ⟨a, x, xs, e, ha, hw⟩ := hw
  subst e
  cases r
  obtain ⟨its, rv, hl, hz⟩ := I.list (Evl.sq_of ha)
  cases rv with
  | @cons _ u1 _ us r1 rr =>
    have hz2 : us.length ≤ sizeLine := by
      have z := rr.length
      simp only [List.length_cons] at hz
      omega
    rw [assign_Tuple]
    refine wpAny_bind (wpAny_standAt (unpack_star (I.ok.hd hc) hl.isList hz2 (by have z := congrArg List.length hs; simpa using z) hst fun s' hg hd ho hk => ?_))
    rw [hs]
    have I1 : Inv X pins σ H s' := by
      obtain ⟨h0, g0, d0, k0, o0⟩ := s
      obtain ⟨h9, g9, d9, k9, o9⟩ := s'
      cases hg
      cases hd
      cases ho
      exact I.kept (t' := k9) hk
    have hp : H s'.heap.objs.size = none := I1.hok.fresh (Nat.le_refl _)
    have hxs : xs.length ≤ sizeLine := by rw [rr.length]; exact hz2
    have I2 : Inv X pins σ (upd H s'.heap.objs.size (.lst xs)) { s' with heap := s'.heap.push { cls := .type "list", data := .seq us.toArray } } :=
      I1.laid (t' := s'.toks) (fun b o q => Heap.get?_push_of_some _ q) (Nat.le_refl _) ⟨hxs, us, _, rr, Heap.get?_push_size _ rfl⟩
    refine assignInOrder_cons (thn (h1.run pins _ σ _ _ _ _ I2 r1 (hw _ hp)) fun _ s2 ⟨σ1, H1, I3, q1⟩ => ?_)
    refine assignInOrder_cons (thn (h2.run pins s2 σ1 H1 (.ref s'.heap.objs.size) _ Q I3 rfl q1) fun _ s3 q3 => ?_)
    exact assignInOrder_nil q3
end SL

/-! cls(..), cls a name that holds an own class -/
namespace MV
open PySem PySem.Spec PyProof.Rows L2
def tMakeV (C : Addr) (sp : Sp) (E : XK) (tf : TE) (t : TA) : TE := fun σ H Q => tf σ H fun v H1 => v = .ref C ∧ t σ H1 fun vs H2 => ∀ x dx, H2 x = none → H2 dx = none → dx ≠ x → sp (.ref x :: (vs ++ [])) (upd (upd H2 dx (.own x)) x (.ins C dx [])) (fun v H3 => v = .non ∧ Q (.ref x) H3) E
theorem pe_makeV {X : Cx} {CX : CXT} {k : Nat} {f C : Addr} {fd : FuncData} {ps : List Str} {sp : Sp} {E : XK} {x : Str} {p pos : Pos} {e : Expr} {es : List Expr} {tf : TE} {t : TA} (hf : PE X (.Name x p) tf) (M : Mk X.K C f) (F : FnOk X.prog X.w X.K X.mg X.base CX k f fd ps sp) (hr : Room (k + 1) X.A)
    (hb : Binds X.K fd ps []) (hx : Passes CX X E) (ha : PA X (e :: es) t) (he : starEach (e :: es) X.env = (false, eval e X.env) :: starEach es X.env := by rfl) (hpl : (backTo pos (starEach es X.env)).any (·.1) = false := by rfl) :
    PE X (.Call (.Name x p) (e :: es) [] pos) (tMakeV C sp E tf t) := by
  refine ⟨fun pins s σ H Q I h => ?_⟩
  refine wpAny_Call_Name_kw (thn (hf.run pins s σ H _ I h) fun u s0 ⟨v, H0, I0, r0, ev, q0⟩ => ?_)
  subst ev
  obtain rfl : u = Value.ref C := r0
  refine PySem.W.callWith_K (h₀ := X.base) I0.ok.mod.kin M.kp (thn (ha.run pos pins s0 σ H0 _ I0 q0) fun us s1 ⟨vs, H1, I1, r1, q1⟩ => ⟨I1.kIn, ?_⟩) he hpl
  exact run_make M F hr hb .nil hx I1 r1 q1
end MV

namespace Law
open PySem PySem.Spec PyProof.Rows L2 Evl
def top (i : Nat) : Stmt := PySem.Challenge.pw_wordskips_k08_bent_texts_of_searchers.main.body.getD i (.Pass ⟨0, 0, 0, 0⟩)
abbrev s_wall : Stmt := top 0
abbrev N_wall : List Str := ["k"]
theorem sc_wall : FnScope N_wall ["k"] (defScope s_wall) := ⟨rfl, rfl, rfl, by decide +kernel, rfl, by decide +kernel, by decide +kernel⟩
abbrev s_is_list : Stmt := top 2
abbrev N_is_list : List Str := ["value"]
theorem sc_is_list : FnScope N_is_list ["value"] (defScope s_is_list) := ⟨rfl, rfl, rfl, by decide +kernel, rfl, by decide +kernel, by decide +kernel⟩
abbrev s_is_integer : Stmt := top 3
abbrev N_is_integer : List Str := ["value"]
theorem sc_is_integer : FnScope N_is_integer ["value"] (defScope s_is_integer) := ⟨rfl, rfl, rfl, by decide +kernel, rfl, by decide +kernel, by decide +kernel⟩
abbrev s_is_whole : Stmt := top 4
abbrev N_is_whole : List Str := ["value", "low", "high"]
theorem sc_is_whole : FnScope N_is_whole ["value", "low", "high"] (defScope s_is_whole) := ⟨rfl, rfl, rfl, by decide +kernel, rfl, by decide +kernel, by decide +kernel⟩
abbrev s_are_letters : Stmt := top 5
abbrev N_are_letters : List Str := ["value", "sign"]
theorem sc_are_letters : FnScope N_are_letters ["value"] (defScope s_are_letters) := ⟨rfl, rfl, rfl, by decide +kernel, rfl, by decide +kernel, by decide +kernel⟩
abbrev s_kept : Stmt := top 13
abbrev N_kept : List Str := ["value", "part", "key"]
theorem sc_kept : FnScope N_kept ["value"] (defScope s_kept) := ⟨rfl, rfl, rfl, by decide +kernel, rfl, by decide +kernel, by decide +kernel⟩
abbrev s_first_wrong : Stmt := top 16
abbrev N_first_wrong : List Str := ["tree", "letters", "width", "states", "waiting", "number", "part", "depth", "inner"]
theorem sc_first_wrong : FnScope N_first_wrong ["tree", "letters", "width", "states"] (defScope s_first_wrong) := ⟨rfl, rfl, rfl, by decide +kernel, rfl, by decide +kernel, by decide +kernel⟩
abbrev s_all_parts : Stmt := top 17
abbrev N_all_parts : List Str := ["tree", "waiting", "found", "part", "inner"]
theorem sc_all_parts : FnScope N_all_parts ["tree"] (defScope s_all_parts) := ⟨rfl, rfl, rfl, by decide +kernel, rfl, by decide +kernel, by decide +kernel⟩
abbrev s_renamed : Stmt := top 18
abbrev N_renamed : List Str := ["tree", "names", "head", "number", "rest", "inner"]
theorem sc_renamed : FnScope N_renamed ["tree", "names"] (defScope s_renamed) := ⟨rfl, rfl, rfl, by decide +kernel, rfl, by decide +kernel, by decide +kernel⟩
abbrev s_tree_text : Stmt := top 19
abbrev N_tree_text : List Str := ["letters", "tree", "head", "number", "rest", "branches", "letter", "inner", "inside"]
theorem sc_tree_text : FnScope N_tree_text ["letters", "tree"] (defScope s_tree_text) := ⟨rfl, rfl, rfl, by decide +kernel, rfl, by decide +kernel, by decide +kernel⟩
abbrev s_rough_tree : Stmt := top 20
abbrev N_rough_tree : List Str := ["letters", "line", "words", "word"]
theorem sc_rough_tree : FnScope N_rough_tree ["letters", "line"] (defScope s_rough_tree) := ⟨rfl, rfl, rfl, by decide +kernel, rfl, by decide +kernel, by decide +kernel⟩
abbrev s_is_part : Stmt := top 21
abbrev N_is_part : List Str := ["part", "letters", "width", "states", "head", "number", "rest"]
theorem sc_is_part : FnScope N_is_part ["part", "letters", "width", "states"] (defScope s_is_part) := ⟨rfl, rfl, rfl, by decide +kernel, rfl, by decide +kernel, by decide +kernel⟩
abbrev s_within : Stmt := top 22
abbrev N_within : List Str := ["part"]
theorem sc_within : FnScope N_within ["part"] (defScope s_within) := ⟨rfl, rfl, rfl, by decide +kernel, rfl, by decide +kernel, by decide +kernel⟩
abbrev s_taken_tree : Stmt := top 23
abbrev N_taken_tree : List Str := ["letters", "words", "depth", "head", "slide", "number", "place"]
theorem sc_taken_tree : FnScope N_taken_tree ["letters", "words", "depth"] (defScope s_taken_tree) := ⟨rfl, rfl, rfl, by decide +kernel, rfl, by decide +kernel, by decide +kernel⟩
abbrev s_taken_branches : Stmt := top 24
abbrev N_taken_branches : List Str := ["letters", "words", "depth", "trees", "_"]
theorem sc_taken_branches : FnScope N_taken_branches ["letters", "words", "depth"] (defScope s_taken_branches) := ⟨rfl, rfl, rfl, by decide +kernel, rfl, by decide +kernel, by decide +kernel⟩
abbrev s_taken : Stmt := top 25
abbrev N_taken : List Str := ["words"]
theorem sc_taken : FnScope N_taken ["words"] (defScope s_taken) := ⟨rfl, rfl, rfl, by decide +kernel, rfl, by decide +kernel, by decide +kernel⟩
abbrev s_taken_number : Stmt := top 26
abbrev N_taken_number : List Str := ["words", "word"]
theorem sc_taken_number : FnScope N_taken_number ["words"] (defScope s_taken_number) := ⟨rfl, rfl, rfl, by decide +kernel, rfl, by decide +kernel, by decide +kernel⟩
abbrev s_is_width : Stmt := top 32
abbrev N_is_width : List Str := ["text"]
theorem sc_is_width : FnScope N_is_width ["text"] (defScope s_is_width) := ⟨rfl, rfl, rfl, by decide +kernel, rfl, by decide +kernel, by decide +kernel⟩
abbrev s_lpen : Stmt := top 34
abbrev N_lpen : List Str := ["_law_script"]
theorem sc_lpen : FnScope N_lpen ["_law_script"] (defScope s_lpen) := ⟨rfl, rfl, rfl, by decide +kernel, rfl, by decide +kernel, by decide +kernel⟩
abbrev s_ldraw : Stmt := top 35
abbrev N_ldraw : List Str := ["_law_pen_here", "_law_many", "_law_digit", "_law_k", "_law_cells", "_law_cell", "_law_mix"]
theorem sc_ldraw : FnScope N_ldraw ["_law_pen_here", "_law_many"] (defScope s_ldraw) := ⟨rfl, rfl, rfl, by decide +kernel, rfl, by decide +kernel, by decide +kernel⟩
abbrev s_lpick : Stmt := top 36
abbrev N_lpick : List Str := ["_law_pen_here", "_law_some"]
theorem sc_lpick : FnScope N_lpick ["_law_pen_here", "_law_some"] (defScope s_lpick) := ⟨rfl, rfl, rfl, by decide +kernel, rfl, by decide +kernel, by decide +kernel⟩
abbrev s_lletters : Stmt := top 37
abbrev N_lletters : List Str := ["_law_pen_here", "_law_small", "_law_first", "_law_pace", "_law_k"]
theorem sc_lletters : FnScope N_lletters ["_law_pen_here"] (defScope s_lletters) := ⟨rfl, rfl, rfl, by decide +kernel, rfl, by decide +kernel, by decide +kernel⟩
abbrev s_ltree : Stmt := top 38
abbrev N_ltree : List Str := ["_law_pen_here", "_law_letters_here", "_law_width", "_law_states", "_law_depth", "_law_way", "_law_place", "_law_letter"]
theorem sc_ltree : FnScope N_ltree ["_law_pen_here", "_law_letters_here", "_law_width", "_law_states", "_law_depth"] (defScope s_ltree) := ⟨rfl, rfl, rfl, by decide +kernel, rfl, by decide +kernel, by decide +kernel⟩
abbrev s_ltrees : Stmt := top 39
abbrev N_ltrees : List Str := ["_law_pen_here", "_law_letters_here", "_law_width", "_law_many", "_law_depth", "_law_k"]
theorem sc_ltrees : FnScope N_ltrees ["_law_pen_here", "_law_letters_here", "_law_width", "_law_many", "_law_depth"] (defScope s_ltrees) := ⟨rfl, rfl, rfl, by decide +kernel, rfl, by decide +kernel, by decide +kernel⟩
abbrev s_lline : Stmt := top 40
abbrev N_lline : List Str := ["_law_tree_here", "_law_letters_here", "_law_parts", "_law_k"]
theorem sc_lline : FnScope N_lline ["_law_tree_here", "_law_letters_here"] (defScope s_lline) := ⟨rfl, rfl, rfl, by decide +kernel, rfl, by decide +kernel, by decide +kernel⟩
abbrev s_ltold : Stmt := top 41
abbrev N_ltold : List Str := ["_law_text", "e"]
theorem sc_ltold : FnScope N_ltold ["_law_text"] (defScope s_ltold) := ⟨rfl, rfl, rfl, by decide +kernel, rfl, by decide +kernel, by decide +kernel⟩
abbrev s_ltaken : Stmt := top 42
abbrev N_ltaken : List Str := ["_law_line_here", "_law_at", "_law_part"]
theorem sc_ltaken : FnScope N_ltaken ["_law_line_here", "_law_at", "_law_part"] (defScope s_ltaken) := ⟨rfl, rfl, rfl, by decide +kernel, rfl, by decide +kernel, by decide +kernel⟩
abbrev s_lnumber : Stmt := top 43
abbrev N_lnumber : List Str := ["_law_line_here", "_law_at", "_law_low", "_law_high", "_law_end", "_law_digits"]
theorem sc_lnumber : FnScope N_lnumber ["_law_line_here", "_law_at", "_law_low", "_law_high"] (defScope s_lnumber) := ⟨rfl, rfl, rfl, by decide +kernel, rfl, by decide +kernel, by decide +kernel⟩
abbrev s_lgo : Stmt := top 44
abbrev N_lgo : List Str := ["_law_line_here", "_law_at", "_law_world", "_law_slide", "_law_state"]
theorem sc_lgo : FnScope N_lgo ["_law_line_here", "_law_at", "_law_world"] (defScope s_lgo) := ⟨rfl, rfl, rfl, by decide +kernel, rfl, by decide +kernel, by decide +kernel⟩
abbrev s_ltree_at : Stmt := top 45
abbrev N_ltree_at : List Str := ["_law_line_here", "_law_at", "_law_world", "_law_level", "_law_number_here", "_law_inner", "_law_place", "_law_parts", "_law_k"]
theorem sc_ltree_at : FnScope N_ltree_at ["_law_line_here", "_law_at", "_law_world", "_law_level"] (defScope s_ltree_at) := ⟨rfl, rfl, rfl, by decide +kernel, rfl, by decide +kernel, by decide +kernel⟩
abbrev s_ldue : Stmt := top 46
abbrev N_ldue : List Str := ["_law_text", "_law_lines", "_law_letters_here", "_law_width", "_law_small", "_law_sign", "_law_many", "_law_found", "_law_number_here", "_law_tree_here", "_law_at"]
theorem sc_ldue : FnScope N_ldue ["_law_text"] (defScope s_ldue) := ⟨rfl, rfl, rfl, by decide +kernel, rfl, by decide +kernel, by decide +kernel⟩
abbrev s_lbent : Stmt := top 47
abbrev N_lbent : List Str := ["_law_pen_here", "_law_text", "_law_lines", "_law_at", "_law_way", "_law_line_here", "_law_k", "_law_pairs", "_law_old", "_law_new", "_law_heads"]
theorem sc_lbent : FnScope N_lbent ["_law_pen_here", "_law_text"] (defScope s_lbent) := ⟨rfl, rfl, rfl, by decide +kernel, rfl, by decide +kernel, by decide +kernel⟩
abbrev s_law : Stmt := top 48
abbrev N_law : List Str := ["_law_script", "_law_pen_here", "_law_turn", "_law_letters_here", "_law_width", "_law_many", "_law_states", "_law_text", "_law_tree_here", "_law_lap", "_law_bent_here", "_law_long", "_law_odd"]
theorem sc_law : FnScope N_law ["_law_script"] (defScope s_law) := ⟨rfl, rfl, rfl, by decide +kernel, rfl, by decide +kernel, by decide +kernel⟩
abbrev s_TooMany_init : Stmt := inClass (top 10) 0
abbrev N_TooMany_init : List Str := ["self", "what", "many", "most"]
theorem sc_TooMany_init : FnScope N_TooMany_init ["self", "what", "many", "most"] (defScope s_TooMany_init) := ⟨rfl, rfl, rfl, by decide +kernel, rfl, by decide +kernel, by decide +kernel⟩
abbrev s_BadLine_init : Stmt := inClass (top 12) 0
abbrev N_BadLine_init : List Str := ["self", "line"]
theorem sc_BadLine_init : FnScope N_BadLine_init ["self", "line"] (defScope s_BadLine_init) := ⟨rfl, rfl, rfl, by decide +kernel, rfl, by decide +kernel, by decide +kernel⟩
abbrev s_Searcher_init : Stmt := inClass (top 31) 0
abbrev N_Searcher_init : List Str := ["self", "letters", "width", "states", "many", "state", "tree", "node", "nodes", "same"]
theorem sc_Searcher_init : FnScope N_Searcher_init ["self", "letters", "width", "states"] (defScope s_Searcher_init) := ⟨rfl, rfl, rfl, by decide +kernel, rfl, by decide +kernel, by decide +kernel⟩
abbrev s_Searcher_read : Stmt := inClass (top 31) 4
abbrev N_Searcher_read : List Str := ["cls", "text", "head", "lines", "letters", "_", "digit", "width", "trees", "number", "line", "tree"]
theorem sc_Searcher_read : FnScope N_Searcher_read ["cls", "text"] (defScope s_Searcher_read) := ⟨rfl, rfl, rfl, by decide +kernel, rfl, by decide +kernel, by decide +kernel⟩

/-! ### the pen -/
def penK (c : Addr) (op lf : Int) : List (Key × V) := [(.inr "cells", .ref c), (.inr "opened", .int op), (.inr "left", .int lf)]
structure PenI where
  d : Addr
  c : Addr
  ns : List Int
def PenAt (p : PenI) (H0 H : Hp) (n : Nat) : Prop := Ex H0 H ∧ H0 p.d = none ∧ H0 p.c = some (.lst (p.ns.map V.int)) ∧ p.ns.length ≤ 63 ∧
  ∃ (op : Nat) (lf : Int), op ≤ n ∧ H p.d = some (.dK (penK p.c op lf))
theorem PenAt.ex {p : PenI} {H0 H H1 : Hp} {n : Nat} (P : PenAt p H0 H n) (e : Ex H H1) : PenAt p H0 H1 n := by
  obtain ⟨e0, h0, hc, hl, op, lf, ho, hd⟩ := P
  exact ⟨e0.trans e, h0, hc, hl, op, lf, ho, e p.d _ hd⟩
theorem PenAt.le {p : PenI} {H0 H : Hp} {n m : Nat} (P : PenAt p H0 H n) (h : n ≤ m) : PenAt p H0 H m := by
  obtain ⟨e0, h0, hc, hl, op, lf, ho, hd⟩ := P
  exact ⟨e0, h0, hc, hl, op, lf, Nat.le_trans ho h, hd⟩
theorem PenAt.dict {p : PenI} {H0 H : Hp} {n : Nat} (P : PenAt p H0 H n) : ∃ kvs, H p.d = some (.dK kvs) := by
  obtain ⟨_, _, _, _, op, lf, _, h⟩ := P
  exact ⟨_, h⟩
theorem PenAt.lst_ne {p : PenI} {H0 H : Hp} {a : Addr} {n : Nat} {xs : List V} (P : PenAt p H0 H n) (h : H a = some (.lst xs)) : a ≠ p.d := by
  obtain ⟨kvs, h2⟩ := P.dict
  exact ne_of h h2 (by intro z; cases z)
/-- an object made meanwhile may change -/
theorem PenAt.upd {p : PenI} {H0 H : Hp} {a : Addr} {n : Nat} {o : HO} (P : PenAt p H0 H n) (h : H0 a = none) (hd : a ≠ p.d) : PenAt p H0 (upd H a o) n := by
  obtain ⟨e0, h0, hc, hl, op, lf, ho, hd'⟩ := P
  exact ⟨e0.mut h, h0, hc, hl, op, lf, ho, by rw [upd_ne hd.symm]; exact hd'⟩
/-- one more object kept, and let go again -/
theorem PenAt.keep {p : PenI} {H0 H : Hp} {a : Addr} {n : Nat} {o : HO} (P : PenAt p H0 H n) (h : H a = some o) (hd : a ≠ p.d) : PenAt p (L2.upd H0 a o) H n := by
  obtain ⟨e0, h0, hc, r⟩ := P
  refine ⟨fun b u e => ?_, by rw [upd_ne hd.symm]; exact h0, ?_, r⟩
  · by_cases q : b = a
    · subst q
      rw [upd_same] at e
      rw [h, e]
    · rw [upd_ne q] at e
      exact e0 b u e
  · by_cases q : p.c = a
    · have e2 := e0 _ _ hc
      rw [q, h] at e2
      rw [q, upd_same, e2]
    · rw [upd_ne q]
      exact hc
theorem PenAt.drop {p : PenI} {H0 H H' : Hp} {a : Addr} {n m : Nat} {o : HO} (P : PenAt p H0 H n) (h : H a = some o) (P' : PenAt p (L2.upd H0 a o) H' m) : PenAt p H0 H' m := by
  refine ⟨fun b u e => ?_, P.2.1, P.2.2.1, P'.2.2.2⟩
  by_cases q : b = a
  · subst q
    have e2 := P.1 _ _ e
    rw [h] at e2
    exact P'.1 _ _ (by rw [upd_same, e2])
  · exact P'.1 _ _ (by rw [upd_ne q]; exact e)
theorem cells_opened : ¬ (("cells" : Str) = "opened") := by decide +kernel
theorem cells_left : ¬ (("cells" : Str) = "left") := by decide +kernel
theorem opened_left : ¬ (("opened" : Str) = "left") := by decide +kernel
theorem get_cells (c : Addr) (op lf : Int) : valV (penK c op lf) (.inr "cells") = some (.ref c) := by
  unfold valV penK
  rw [List.find?_cons_of_pos (by simp)]
  rfl
theorem get_opened (c : Addr) (op lf : Int) : valV (penK c op lf) (.inr "opened") = some (.int op) := by
  unfold valV penK
  rw [List.find?_cons_of_neg (by simpa using cells_opened), List.find?_cons_of_pos (by simp)]
  rfl
theorem get_left (c : Addr) (op lf : Int) : valV (penK c op lf) (.inr "left") = some (.int lf) := by
  unfold valV penK
  rw [List.find?_cons_of_neg (by simpa using cells_left), List.find?_cons_of_neg (by simpa using opened_left), List.find?_cons_of_pos (by simp)]
  rfl
theorem put_opened (c : Addr) (op lf x : Int) : putK (penK c op lf) (.inr "opened") (.int x) = penK c x lf := by
  unfold putK penK
  simp [cells_opened, opened_left, cells_left, Ne.symm opened_left]
theorem put_left (c : Addr) (op lf x : Int) : putK (penK c op lf) (.inr "left") (.int x) = penK c op x := by
  unfold putK penK
  simp [cells_opened, opened_left, cells_left]
theorem dget_of {H : Hp} {d : Addr} {kvs : List (Key × V)} {k : Str} {v : V} (e : H d = some (.dK kvs)) (h : valV kvs (.inr k) = some v) : DGet H d (.str k) (some v) := by
  rw [← h]
  exact DGet.k (k := .inr k) e
theorem dput_of {H : Hp} {d : Addr} {kvs kvs' : List (Key × V)} {k : Str} {v : V} (e : H d = some (.dK kvs)) (hl : kvs.length < 100) (h : putK kvs (.inr k) v = kvs') : DPut H d (.str k) v (upd H d (.dK kvs')) := by
  rw [← h]
  exact DPut.k (k := .inr k) e (Nat.lt_of_lt_of_le hl (by decide))

/-! ### lists of ints as data -/
theorem lay_ints : ∀ ns : List Int, PyData.canLayAll0 (ns.map PyData.int) = true
  | [] => rfl
  | n :: r => by
    show (PyData.canLay0 (.int n) && PyData.canLayAll0 (r.map PyData.int)) = true
    rw [lay_ints r]
    rfl
theorem depth_ints : ∀ ns : List Int, PyData.depthAll (ns.map PyData.int) = 0
  | [] => rfl
  | n :: r => by
    show max (PyData.depth (.int n)) (PyData.depthAll (r.map PyData.int)) = 0
    rw [depth_ints r]
    rfl
theorem shaped_ints (ns : List Int) : SeqAt.shaped (.list (ns.map PyData.int)) = true := by
  unfold SeqAt.shaped
  have e1 : (PyData.list (ns.map PyData.int)).canLay0 = true := lay_ints ns
  have e2 : (PyData.list (ns.map PyData.int)).depth = 1 := by
    show PyData.depthAll (ns.map PyData.int) + 1 = 1
    rw [depth_ints]
  rw [e1, e2]
  rfl
theorem dp_ints {K : PySem.W.Frag} {H : Hp} : ∀ ns : List Int, DpAll K H (ns.map V.int) (ns.map PyData.int)
  | [] => .nil
  | n :: r => .cons (.int n) (dp_ints r)
theorem eqv_nil (ns : List Int) : PyData.eqv (.list (ns.map PyData.int)) (.list []) = ns.isEmpty := by
  cases ns <;> rfl

/-! ### what is known of a def that is called -/
structure Kn (P : Program) (w : World) (K : PySem.W.Frag) (mg : Str → Option Value) (base : Heap) (x : Str) (ps : List Str) (k : Nat) (sp : Sp) where
  f : Addr
  fd : FuncData
  ok : FnOk P w K mg base CX0 k f fd ps sp
  g : mg x = some (.ref f)
  kp : PySem.W.keepIn K (.ref f) = true
  b : Binds K fd ps []
structure Tx (mg : Str → Option Value) where
  len : mg "len" = none
  int : mg "int" = none
  bool : mg "bool" = none
  abs : mg "abs" = none
  min : mg "min" = none
  list : mg "list" = none
  all : mg "all" = none
  range : mg "range" = none
  isinstance : mg "isinstance" = none
  str : mg "str" = none
  set : mg "set" = none
  tuple : mg "tuple" = none
  enumerate : mg "enumerate" = none
  reversed : mg "reversed" = none
  sum : mg "sum" = none
  zip : mg "zip" = none
  dict : mg "dict" = none
  k_DEEPEST : Tok
  m_DEEPEST : mg "DEEPEST" = some (.int 40 k_DEEPEST)
  k_MOST_WIDTH : Tok
  m_MOST_WIDTH : mg "MOST_WIDTH" = some (.int 8 k_MOST_WIDTH)
  k_MOST_STATES : Tok
  m_MOST_STATES : mg "MOST_STATES" = some (.int 64 k_MOST_STATES)
  k_MOST_NODES : Tok
  m_MOST_NODES : mg "MOST_NODES" = some (.int 3000 k_MOST_NODES)

def spPen (K : PySem.W.Frag) : Sp := fun vs H Q _ => ∃ (a : Addr) (ns : List Int), vs = [.ref a] ∧ SqL K H a (ns.map V.int) ∧ ns.length ≤ 63 ∧ ∀ p H0 H', Ex H H0 → PenAt p H0 H' 0 → Q (.ref p.d) H'
def spDraw : Sp := fun vs H Q _ => ∃ (p : PenI) (H0 : Hp) (n : Nat) (m : Int), vs = [.ref p.d, .int m] ∧ PenAt p H0 H n ∧ n < 1000000 ∧ 0 < m ∧ m < 10000 ∧ ∀ H' r, PenAt p H0 H' (n + 1) → 0 ≤ r → r < m → Q (.int r) H'

section
variable {P : Program} {w : World} {K : PySem.W.Frag} {mg : Str → Option Value} {base : Heap}
theorem ok_pen {f : Addr} {fd : FuncData} (F : Fun K "_law_pen" "_law_pen" s_lpen f fd) (T : Tx mg) : FnOk P w K mg base CX0 1 f fd ["_law_script"] (spPen K) := by
  refine F.ok sc_lpen (fun vs H Q E h => ?_) (fun cdv A outer s H vs Q E hr h => ?_)
  · obtain ⟨a, ns, rfl, _⟩ := h
    rfl
  · obtain ⟨a, ns, rfl, hS, hl, q⟩ := h
    refine ⟨_, (pss_one (ps_ret (pe_disp (pps_cons pe_str (pe_callTy call_list_of (by rfl) T.list PyProof.Rows.boot_list (pa_cons (pe_slice sl_list (pv 0) po_none (po_some pe_int)) pa_nil)) (pps_cons pe_str pe_int (pps_cons pe_str pe_int pps_nil))) (by rfl) (by rfl) (fun z => by cases z) (by decide)))), ?_⟩
    intro d hd
    have e1 : Ex H (upd H d (.dK [])) := Ex.new hd
    refine ⟨.ref a, rfl, 63, rfl, a, _, rfl, ex_l e1 hS, fun c hc => ?_⟩
    have e2 := e1.trans (Ex.new (o := .lst (cutV (ns.map V.int) none (some 63))) hc)
    refine ⟨c, _, rfl, .inl (.inl (.inl upd_same)), fun c2 hc2 => ?_⟩
    have e3 := e2.trans (Ex.new (o := .lst (cutV (ns.map V.int) none (some 63))) hc2)
    have ncd : c ≠ d := fun z => by rw [z, upd_same] at hc; cases hc
    have nc2c : c2 ≠ c := fun z => by rw [z, upd_same] at hc2; cases hc2
    have nc2d : c2 ≠ d := fun z => by rw [z, upd_ne ncd.symm, upd_same] at hc2; cases hc2
    refine ⟨by rw [upd_ne nc2d.symm, upd_ne ncd.symm, upd_same], penK c2 0 0, rfl, (by show 3 ≤ 15; decide), ?_⟩
    have em : mergeK [] (penK c2 0 0) = penK c2 0 0 := by
      unfold mergeK penK
      simp [putK, cells_opened, opened_left, cells_left]
    rw [em]
    have el : ((cutV (ns.map V.int) none (some 63)) : List V) = ((ns.drop (HT.sIx ns.length 0 none)).take (HT.sIx ns.length ns.length (some 63) - HT.sIx ns.length 0 none)).map V.int := by
      unfold cutV
      rw [List.length_map, List.map_take, List.map_drop]
    have hn2 : H c2 = none := by
      rw [upd_ne nc2c, upd_ne nc2d] at hc2
      exact hc2
    refine q ⟨d, c2, (ns.drop (HT.sIx ns.length 0 none)).take (HT.sIx ns.length ns.length (some 63) - HT.sIx ns.length 0 none)⟩ (upd H c2 (.lst (cutV (ns.map V.int) none (some 63)))) _ (Ex.new hn2) ⟨fun b u e => ?_, ?_, ?_, ?_, 0, 0, Nat.le_refl _, upd_same⟩
    · have nbd : b ≠ d := fun z => by
        rw [z, upd_ne nc2d.symm, hd] at e
        cases e
      rw [upd_ne nbd]
      by_cases z : b = c2
      · subst z
        rw [upd_same] at e ⊢
        exact e
      · rw [upd_ne z] at e ⊢
        exact (e1.trans (Ex.new hc)) _ _ e
    · exact (upd_ne nc2d.symm).trans hd
    · show upd H c2 _ c2 = _
      rw [upd_same, el]
    · rw [List.length_take, List.length_drop]
      omega
theorem ok_draw {f : Addr} {fd : FuncData} (F : Fun K "_law_draw" "_law_draw" s_ldraw f fd) (T : Tx mg) : FnOk P w K mg base CX0 1 f fd ["_law_pen_here", "_law_many"] spDraw := by
  refine F.ok sc_ldraw (fun vs H Q E h => ?_) (fun cdv A outer s H vs Q E hr h => ?_)
  · obtain ⟨p, H0, n, m, rfl, _⟩ := h
    rfl
  · obtain ⟨⟨d, c, ns⟩, H0, n, m, rfl, ⟨e0, h0, hc0, hl, op, lf, ho, hd⟩, hn, hm0, hm1, q⟩ := h
    have hc : H c = some (.lst (ns.map V.int)) := e0 _ _ hc0
    dsimp only at h0 hl hd q ⊢
    have ncd : c ≠ d := ne_of hc hd (by intro z; cases z)
    have fin : ∀ (o2 : Nat) (l2 : Int) (H' : Hp), Ex H0 H' → H' c = some (.lst (ns.map V.int)) → H' d = some (.dK (penK c o2 l2)) → o2 ≤ n + 1 → PenAt ⟨d, c, ns⟩ H0 H' (n + 1) :=
      fun o2 l2 H' x1 x2 x3 x4 => ⟨x1, h0, hc0, hl, o2, l2, x4, x3⟩
    refine ⟨_, (pss_cons (ps_if (pt_cmpR op_gt (pe_dget (hu_of hr) (pv 0) pe_str (fun _ _ => rfl)) pe_int (nomark _)) (pss_cons (ps_set (i := 2) sc_ldraw.nd rfl (Or.inl rfl) (pe_op op_mod (pe_callTy call_int1 (by rfl) T.int PyProof.Rows.boot_int (pa_cons (pe_dget (hu_of hr) (pv 0) pe_str (fun _ _ => rfl)) pa_nil)) (pv 1)))
      (pss_cons (ps_dput (hu_of hr) (pv 0) pe_str (pe_op op_fdivN (pe_dget (hu_of hr) (pv 0) pe_str (fun _ _ => rfl)) (pv 1)) rfl)
      (pss_one (ps_ret (pv 2))))) pss_nil)
      (pss_cons (ps_par (i := 3) (j := 4) (by rfl) sc_ldraw.nd rfl rfl (by decide) rfl rfl (pa_cons (pe_dget (hu_of hr) (pv 0) pe_str (fun _ _ => rfl)) (pa_cons (pe_dget (hu_of hr) (pv 0) pe_str (fun _ _ => rfl)) pa_nil)) (by rfl))
      (pss_cons (ps_dput (hu_of hr) (pv 0) pe_str (pe_op op_add (pv 3) pe_int) rfl)
      (pss_cons (ps_if (pt_cmpR (op_eqD hr.units) (pv 4) (pe_lst pa_nil) (nomark _)) (pss_one (ps_ret (pe_op op_mod (pe_callTy call_int1 (by rfl) T.int PyProof.Rows.boot_int (pa_cons (pe_op op_add (pe_op op_mul pe_int (pv 3)) pe_int) pa_nil)) (pv 1)))) pss_nil)
      (pss_cons (ps_set (i := 5) sc_ldraw.nd rfl (Or.inl rfl) (pe_ix ix_list (pv 4) (pe_op op_mod (pe_callTy call_int1 (by rfl) T.int PyProof.Rows.boot_int (pa_cons (pv 3) pa_nil)) (pe_callB call_len_seq (by rfl) T.len PySem.boot_len (pa_cons (pv 4) pa_nil))) (fun _ _ => rfl)))
      (pss_cons (ps_if (PW.pt (pw_and (pt_cmpR op_lt (pv 3) (pe_callB call_len_seq (by rfl) T.len PySem.boot_len (pa_cons (pv 4) pa_nil)) (nomark _)) (pw_and1 (pt_cmpR op_ge (pe_callB call_abs (by rfl) T.abs (by decide +kernel) (pa_cons (pv 5) pa_nil)) (pe_op op_pow pe_int pe_int) (nomark _))))) (pss_cons (ps_dput (hu_of hr) (pv 0) pe_str (pe_op op_fdivN (pe_op op_sub (pe_callB call_abs (by rfl) T.abs (by decide +kernel) (pa_cons (pv 5) pa_nil)) (pe_op op_pow pe_int pe_int)) (pv 1)) rfl)
      (pss_one (ps_ret (pe_op op_mod (pe_callTy call_int1 (by rfl) T.int PyProof.Rows.boot_int (pa_cons (pe_op op_sub (pe_callB call_abs (by rfl) T.abs (by decide +kernel) (pa_cons (pv 5) pa_nil)) (pe_op op_pow pe_int pe_int)) pa_nil)) (pv 1))))) pss_nil)
      (pss_cons (ps_set (i := 6) sc_ldraw.nd rfl (Or.inl rfl) (pe_op op_mod (pe_callTy call_int1 (by rfl) T.int PyProof.Rows.boot_int (pa_cons (pe_op op_add (pe_op op_add (pe_op op_add (pe_op op_mul (pe_op op_mod (pe_callTy call_int1 (by rfl) T.int PyProof.Rows.boot_int (pa_cons (pv 5) pa_nil)) pe_int) pe_int) (pe_op op_mul (pe_op op_mul pe_int (pv 3)) (pv 3))) (pe_op op_mul pe_int (pv 3))) pe_int) pa_nil)) pe_int))
      (pss_cons (ps_set (i := 6) sc_ldraw.nd rfl (Or.inl rfl) (pe_op op_mod (pe_callTy call_int1 (by rfl) T.int PyProof.Rows.boot_int (pa_cons (pe_op op_add (pe_op op_add (pe_op op_mul (pv 6) (pv 6)) (pe_op op_mul pe_int (pv 6))) (pe_op op_mul pe_int (pv 3))) pa_nil)) pe_int))
      (pss_one (ps_ret (pe_op op_mod (pe_callTy call_int1 (by rfl) T.int PyProof.Rows.boot_int (pa_cons (pe_op op_fdivN (pe_op op_mod (pe_callTy call_int1 (by rfl) T.int PyProof.Rows.boot_int (pa_cons (pe_op op_mul (pv 6) (pe_op op_add (pv 6) pe_int)) pa_nil)) pe_int) pe_int) pa_nil)) (pv 1)))))))))))), ?_⟩
    refine ⟨_, rfl, d, .int lf, rfl, dget_of hd (get_left _ _ _), _, _, rfl, rfl, _, rfl, ite2 (fun hp => ?_) (fun hp => ?_)⟩
    · refine ⟨_, rfl, d, .int lf, rfl, dget_of hd (get_left _ _ _), .inl ⟨_, rfl, ?_⟩⟩
      refine ⟨_, rfl, _, _, rfl, rfl, hm0, ?_⟩
      refine ⟨_, rfl, d, .int lf, rfl, dget_of hd (get_left _ _ _), _, rfl, _, _, rfl, rfl, ⟨by omega, by omega⟩, ?_⟩
      refine ⟨_, rfl, d, _, rfl, dput_of hd (by show 3 < 100; decide) (put_left _ _ _ _), ?_⟩
      refine ⟨_, rfl, ?_⟩
      exact q _ _ (fin op _ _ (e0.mut h0) (by rw [upd_ne ncd]; exact hc) upd_same (by omega)) (Int.emod_nonneg _ (by omega)) (Int.emod_lt_of_pos _ hm0)
    · refine ⟨_, rfl, d, _, rfl, dget_of hd (get_opened _ _ _), _, rfl, d, _, rfl, dget_of hd (get_cells _ _ _), _, _, rfl, ?_⟩
      refine ⟨_, rfl, _, _, rfl, rfl, _, rfl, d, _, rfl, dput_of hd (by show 3 < 100; decide) (put_opened _ _ _ _), ?_⟩
      have x1 : Ex H0 (upd H d (.dK (penK c ((op : Int) + 1) lf))) := e0.mut h0
      have hc1 : (upd H d (.dK (penK c ((op : Int) + 1) lf))) c = some (.lst (ns.map V.int)) := by
        rw [upd_ne ncd]
        exact hc
      have hd1 : (upd H d (.dK (penK c ((op : Int) + 1) lf))) d = some (.dK (penK c ((op + 1 : Nat) : Int) lf)) := upd_same
      generalize (upd H d (.dK (penK c ((op : Int) + 1) lf))) = H1 at x1 hc1 hd1 ⊢
      -- if cells == []
      refine ⟨_, rfl, Nat.zero_le _, fun el hel => ?_⟩
      have x2 := x1.trans (Ex.new (o := .lst []) hel)
      have hc2 : (upd H1 el (.lst [])) c = some (.lst (ns.map V.int)) := Ex.new hel _ _ hc1
      have hd2 : (upd H1 el (.lst [])) d = some (.dK (penK c ((op + 1 : Nat) : Int) lf)) := Ex.new hel _ _ hd1
      refine ⟨.list (ns.map PyData.int), .list [], .lst (sq_of hc2) (dp_ints ns), .lst (xs := []) (sq_of upd_same) .nil, shaped_ints ns, rfl, _, rfl, ?_⟩
      rw [eqv_nil]
      generalize (upd H1 el (.lst [])) = H2 at x2 hc2 hd2 ⊢
      cases hns : ns.isEmpty with
      | true =>
        refine iteT ?_
        refine ⟨_, rfl, _, _, rfl, rfl, .inl (by decide), _, _, rfl, rfl, .inl ⟨_, rfl, _, rfl, _, _, rfl, rfl, hm0, ?_⟩⟩
        exact q _ _ (fin _ _ _ x2 hc2 hd2 (by omega)) (Int.emod_nonneg _ (by omega)) (Int.emod_lt_of_pos _ hm0)
      | false =>
        refine iteF ?_
        have hpos : 0 < ns.length := by
          cases ns with
          | nil => cases hns
          | cons x r => exact Nat.succ_pos _
        have hL : (0 : Int) < ((ns.map V.int).length : Int) := by
          rw [List.length_map]
          omega
        -- cell = cells[int(k) % len(cells)]
        obtain ⟨i, hi⟩ : ∃ i : Nat, (op : Int) % ((ns.map V.int).length : Int) = (i : Int) := ⟨((op : Int) % ((ns.map V.int).length : Int)).toNat, (Int.toNat_of_nonneg (Int.emod_nonneg _ (by omega))).symm⟩
        have hi2 : i < ns.length := by
          have := Int.emod_lt_of_pos (op : Int) hL
          rw [hi, List.length_map] at this
          omega
        have hat : atI (ns.map V.int) ((op : Int) % ((ns.map V.int).length : Int)) = some (V.int ns[i]) := by
          rw [hi]
          exact atI_nat (by rw [List.getElem?_map, List.getElem?_eq_getElem hi2]; rfl)
        refine ⟨_, rfl, _, rfl, .inl ⟨_, rfl, _, rfl, c, _, rfl, .inl (sq_of hc2), _, _, rfl, rfl, hL, c, _, _, _, rfl, rfl, sq_of hc2, hat, ?_⟩⟩
        generalize ns[i] = x
        -- the test
        have hcell : ∀ {σ : L2.St} {H' : Hp}, σ[5]? = some (some (V.int x)) → Ev (tVar 5) σ H' (V.int x) := fun h => ev_var h
        dsimp only [gName]
        refine q_when (b := decide ((op : Int) < ((ns.map V.int).length : Int)) && decide ((10 : Int) ^ (18 : Int).toNat ≤ (if x < 0 then -x else x)))
          (et_and (fun H4 e4 Q4 q4 => ?_) (fun _ H4 e4 Q4 q4 => ?_)) (fun hb H3 e3 => ?_) (fun hb H3 e3 => ?_)
        · exact ⟨_, rfl, _, rfl, c, _, rfl, .inl (sq_of (e4 _ _ hc2)), _, _, rfl, rfl, _, rfl, q4 _ (Ex.refl _)⟩
        · exact ⟨_, rfl, _, rfl, _, _, rfl, rfl, ⟨by decide, by decide, by decide⟩, _, _, rfl, rfl, _, rfl, q4 _ (Ex.refl _)⟩
        · have x3 := x2.trans e3
          refine ⟨_, rfl, _, rfl, _, _, rfl, rfl, ⟨by decide, by decide, by decide⟩, _, _, rfl, rfl, _, rfl, _, _, rfl, rfl, ⟨by omega, by omega⟩, ?_⟩
          refine ⟨_, rfl, d, _, rfl, dput_of (e3 _ _ hd2) (by show 3 < 100; decide) (put_left _ _ _ _), ?_⟩
          refine ⟨_, rfl, _, rfl, _, _, rfl, rfl, ⟨by decide, by decide, by decide⟩, _, _, rfl, rfl, .inl ⟨_, rfl, _, rfl, _, _, rfl, rfl, hm0, ?_⟩⟩
          exact q _ _ (fin _ _ _ (x3.mut h0) (by rw [upd_ne ncd]; exact e3 _ _ hc2) upd_same (by omega)) (Int.emod_nonneg _ (by omega)) (Int.emod_lt_of_pos _ hm0)
        · have x3 := x2.trans e3
          have b1 : (0 : Int) ≤ x % 4294965521 := Int.emod_nonneg _ (by decide)
          have b2 : x % 4294965521 < 4294965521 := Int.emod_lt_of_pos _ (by decide)
          refine ⟨_, rfl, .inl ⟨_, rfl, _, _, rfl, rfl, (by show (0 : Int) < _; decide), _, _, rfl, rfl, .inr ⟨by decide, by decide⟩, ?_⟩⟩
          refine ⟨_, rfl, _, _, rfl, rfl, .inl ⟨by decide, by decide⟩, _, rfl, _, _, rfl, rfl, .inr ⟨by omega, by omega⟩, _, _, rfl, rfl, ?_⟩
          refine ⟨_, rfl, _, _, rfl, rfl, .inl ⟨by decide, by decide⟩, _, _, rfl, rfl, _, _, rfl, rfl, .inl ⟨_, rfl, _, _, rfl, rfl, (by show (0 : Int) < _; decide), ?_⟩⟩
          generalize hy : (x % 4294965521 * 43793 + 25999 * (op : Int) * (op : Int) + 839 * (op : Int) + 67) % 4294965583 = y
          have b3 : 0 ≤ y := by rw [← hy]; exact Int.emod_nonneg _ (by decide)
          have b4 : y < 4294965583 := by rw [← hy]; exact Int.emod_lt_of_pos _ (by decide)
          refine ⟨_, rfl, _, rfl, _, _, rfl, rfl, .inl ⟨by omega, by omega⟩, _, rfl, _, _, rfl, rfl, .inl ⟨by decide, by decide⟩, _, _, rfl, rfl, ?_⟩
          refine ⟨_, rfl, _, _, rfl, rfl, .inl ⟨by decide, by decide⟩, _, _, rfl, rfl, .inl ⟨_, rfl, _, _, rfl, rfl, (by show (0 : Int) < _; decide), ?_⟩⟩
          generalize hz : (y * y + 40163 * y + 31 * (op : Int)) % 4294965511 = z
          have b5 : 0 ≤ z := by rw [← hz]; exact Int.emod_nonneg _ (by decide)
          have b6 : z < 4294965511 := by rw [← hz]; exact Int.emod_lt_of_pos _ (by decide)
          refine ⟨_, rfl, _, rfl, _, _, rfl, rfl, _, _, rfl, rfl, .inl ⟨by omega, by omega⟩, .inl ⟨_, rfl, _, _, rfl, rfl, (by show (0 : Int) < _; decide), _, _, rfl, rfl, ⟨by decide, by decide⟩, .inl ⟨_, rfl, _, rfl, _, _, rfl, rfl, hm0, ?_⟩⟩⟩
          exact q _ _ (fin _ _ _ x3 (e3 _ _ hc2) (e3 _ _ hd2) (by omega)) (Int.emod_nonneg _ (by omega)) (Int.emod_lt_of_pos _ hm0)
end
end Law

namespace Law
open PySem PySem.Spec PyProof.Rows L2 Evl
theorem sz_le {n : Nat} (h : n < 1000) : n ≤ sizeLine := Nat.le_trans (Nat.le_of_lt h) (by decide)
theorem at_draw {α : Type} {xs : List α} {r : Int} (h0 : 0 ≤ r) (h1 : r < (xs.length : Int)) : ∃ v, v ∈ xs ∧ atI xs r = some v := by
  obtain ⟨j, rfl⟩ : ∃ j : Nat, r = (j : Int) := ⟨r.toNat, (Int.toNat_of_nonneg h0).symm⟩
  have hj : j < xs.length := by omega
  exact ⟨xs[j], List.getElem_mem hj, atI_nat (List.getElem?_eq_getElem hj)⟩
def spPickS : Sp := fun vs H Q _ => ∃ (p : PenI) (H0 : Hp) (n : Nat) (z : Str), vs = [.ref p.d, .str z] ∧ PenAt p H0 H n ∧ n < 1000000 ∧ 0 < z.length ∧ z.length < 1000 ∧ ∀ H' c, PenAt p H0 H' (n + 1) → c ∈ z.cps.toList → Q (.str ⟨#[c]⟩) H'
def spPickL : Sp := fun vs H Q _ => ∃ (p : PenI) (H0 : Hp) (a : Addr) (n : Nat) (xs : List V), vs = [.ref p.d, .ref a] ∧ PenAt p H0 H n ∧ n < 1000000 ∧ H a = some (.lst xs) ∧ 0 < xs.length ∧ xs.length < 10000 ∧ ∀ H' v, PenAt p H0 H' (n + 1) → v ∈ xs → Q v H'
section
variable {P : Program} {w : World} {K : PySem.W.Frag} {mg : Str → Option Value} {base : Heap}
theorem ok_pickS {f : Addr} {fd : FuncData} (F : Fun K "_law_pick" "_law_pick" s_lpick f fd) (T : Tx mg) (c_ldraw : Kn P w K mg base "_law_draw" ["_law_pen_here", "_law_many"] 1 spDraw) : FnOk P w K mg base CX0 2 f fd ["_law_pen_here", "_law_some"] spPickS := by
  refine F.ok sc_lpick (fun vs H Q E h => ?_) (fun cdv A outer s H vs Q E hr h => ?_)
  · obtain ⟨p, H0, n, z, rfl, _⟩ := h
    rfl
  · obtain ⟨p, H0, n, z, rfl, P0, hn, hz0, hz1, q⟩ := h
    have ez : z.length = z.cps.toList.length := by simp [Str.length]
    refine ⟨_, (pss_one (ps_ret (pe_ix ix_str (pv 1) (pe_call c_ldraw.ok (hr.mono (by decide)) (by rfl) c_ldraw.g c_ldraw.kp c_ldraw.b .nil pass0 (pa_cons (pv 0) (pa_cons (pe_callB call_len_str (by rfl) T.len PySem.boot_len (pa_cons (pv 1) pa_nil)) pa_nil))) (fun _ _ => rfl)))), ?_⟩
    refine ⟨_, rfl, _, rfl, _, rfl, z, rfl, sz_le hz1, p, H0, n, _, rfl, P0, hn, by omega, by omega, fun H' r P1 r0 r1 => ?_⟩
    obtain ⟨c, hc, ha⟩ := at_draw (xs := z.cps.toList) r0 (by rw [← ez]; exact r1)
    exact ⟨z, r, c, rfl, rfl, sz_le hz1, ha, q _ _ P1 hc⟩
theorem ok_pickL {f : Addr} {fd : FuncData} (F : Fun K "_law_pick" "_law_pick" s_lpick f fd) (T : Tx mg) (c_ldraw : Kn P w K mg base "_law_draw" ["_law_pen_here", "_law_many"] 1 spDraw) : FnOk P w K mg base CX0 2 f fd ["_law_pen_here", "_law_some"] spPickL := by
  refine F.ok sc_lpick (fun vs H Q E h => ?_) (fun cdv A outer s H vs Q E hr h => ?_)
  · obtain ⟨p, H0, a, n, xs, rfl, _⟩ := h
    rfl
  · obtain ⟨p, H0, a, n, xs, rfl, P0, hn, hx, hz0, hz1, q⟩ := h
    refine ⟨_, (pss_one (ps_ret (pe_ix ix_list (pv 1) (pe_call c_ldraw.ok (hr.mono (by decide)) (by rfl) c_ldraw.g c_ldraw.kp c_ldraw.b .nil pass0 (pa_cons (pv 0) (pa_cons (pe_callB call_len_seq (by rfl) T.len PySem.boot_len (pa_cons (pv 1) pa_nil)) pa_nil))) (fun _ _ => rfl)))), ?_⟩
    refine ⟨_, rfl, _, rfl, _, rfl, a, xs, rfl, .inl (sq_of hx), p, upd H0 a (.lst xs), n, _, rfl, P0.keep hx (P0.lst_ne hx), hn, by omega, by omega, fun H' r P1 r0 r1 => ?_⟩
    obtain ⟨v, hv, ha⟩ := at_draw (xs := xs) r0 r1
    exact ⟨a, xs, r, v, rfl, rfl, sq_of (P1.1 _ _ upd_same), ha, q _ _ (P0.drop hx P1) hv⟩
end
end Law

namespace Law
open PySem PySem.Spec PyProof.Rows L2 Evl
def sg (c : Nat) : Str := ⟨#[c]⟩
def tx (l : List Nat) : Str := ⟨l.toArray⟩
theorem tx_len (l : List Nat) : (tx l).length = l.length := by simp [tx, Str.length]
theorem tx_list (l : List Nat) : (tx l).cps.toList = l := rfl
theorem tx_of (z : Str) : tx z.cps.toList = z := TL.ext_tl rfl
theorem sg_len (c : Nat) : (sg c).length = 1 := rfl
theorem joinL_nil : ∀ cs : List Nat, TL.joinL [] (cs.map fun c => [c]) = cs
  | [] => rfl
  | [c] => rfl
  | c :: d :: r => by
    show [c] ++ ([] ++ TL.joinL [] ((d :: r).map fun c => [c])) = c :: d :: r
    rw [joinL_nil (d :: r)]
    rfl
theorem join_sg (cs : List Nat) : Txt.join (Str.ofString "") (cs.map sg) = tx cs := by
  refine TL.ext_tl ?_
  rw [TL.join_eq, TL.tl_join, List.map_map, show TL.tl (Str.ofString "") = [] by decide +kernel]
  exact joinL_nil cs
theorem join_size (cs : List Nat) : ((cs.map sg).map (·.length)).sum = cs.length := by
  induction cs with
  | nil => rfl
  | cons c r ih =>
    show 1 + ((r.map sg).map (·.length)).sum = r.length + 1
    rw [ih, Nat.add_comm]
/-- the signs joined -/
theorem join_done {K : PySem.W.Frag} {H : Hp} {D : Addr} {cs : List Nat} {Q : VK} (hD : H D = some (.lst ((cs.map sg).map V.str))) (hl : cs.length ≤ 1000000) (q : Q (.str (tx cs)) H) :
    ∃ (a : Str) (p : Addr), ∃ ys : List Str, V.str (Str.ofString "") = .str a ∧ [V.ref D] = [.ref p] ∧ (SqL K H p (ys.map V.str) ∨ SqT K H p (ys.map V.str)) ∧ (ys.map (·.length)).sum + ys.length * a.length ≤ 16777216 ∧ Q (.str (Txt.join a ys)) H := by
  refine ⟨_, D, cs.map sg, rfl, rfl, .inl (sq_of hD), ?_, ?_⟩
  · rw [join_size, show (Str.ofString "").length = 0 from rfl]
    omega
  · rw [join_sg]
    exact q
def lets (f p n : Nat) : List Nat := (List.range n).map fun k => 97 + (f + p * k) % 26
def paces : List Nat := [1, 3, 5, 7, 9, 11, 15, 17, 19, 21, 23, 25]
def spLetters : Sp := fun vs H Q _ => ∃ (p : PenI) (H0 : Hp) (n : Nat), vs = [.ref p.d] ∧ PenAt p H0 H n ∧ n < 900000 ∧ ∀ H' f q m, PenAt p H0 H' (n + 3) → f < 26 → q ∈ paces → 2 ≤ m → m ≤ 4 → Q (.str (tx (lets f q m))) H'
theorem abc_at (r : Int) : ∃ c, atI (Str.ofString "abcdefghijklmnopqrstuvwxyz").cps.toList (r % 26) = some c ∧ c = 97 + (r % 26).toNat := by
  have h0 : 0 ≤ r % 26 := Int.emod_nonneg _ (by decide)
  have h1 : r % 26 < 26 := Int.emod_lt_of_pos _ (by decide)
  generalize hi : (r % 26) = i at h0 h1
  obtain ⟨j, rfl⟩ : ∃ j : Nat, i = (j : Int) := ⟨i.toNat, (Int.toNat_of_nonneg h0).symm⟩
  have hj : j < 26 := by omega
  have key : ∀ j : Nat, j < 26 → (Str.ofString "abcdefghijklmnopqrstuvwxyz").cps.toList[j]? = some (97 + j) := by decide +kernel
  exact ⟨97 + j, atI_nat (key j hj), by simp⟩
theorem paces_le : ∀ x ∈ paces, x ≤ 25 := by decide
theorem lets_succ (f p n : Nat) : lets f p (n + 1) = lets f p n ++ [97 + (f + p * n) % 26] := by
  unfold lets
  rw [List.range_succ, List.map_append]
  rfl
theorem lets_len (f p n : Nat) : (lets f p n).length = n := by
  unfold lets
  rw [List.length_map, List.length_range]
theorem sg_snoc (cs : List Nat) (c : Nat) : ((cs.map sg).map V.str) ++ [.str (sg c)] = ((cs ++ [c]).map sg).map V.str := by
  rw [List.map_append, List.map_append]
  rfl
theorem fresh0 {p : PenI} {H0 H : Hp} {n : Nat} {a : Addr} (P : PenAt p H0 H n) (h : H a = none) : H0 a = none := fresh_back P.1 h
theorem fresh_ne {p : PenI} {H0 H : Hp} {n : Nat} {a : Addr} (P : PenAt p H0 H n) (h : H a = none) : a ≠ p.d := by
  obtain ⟨kvs, h2⟩ := P.dict
  intro e
  rw [e, h2] at h
  cases h
section
variable {P : Program} {w : World} {K : PySem.W.Frag} {mg : Str → Option Value} {base : Heap}
theorem ok_letters {f : Addr} {fd : FuncData} (F : Fun K "_law_letters" "_law_letters" s_lletters f fd) (T : Tx mg) (c_ldraw : Kn P w K mg base "_law_draw" ["_law_pen_here", "_law_many"] 1 spDraw)
    (c_pickL : Kn P w K mg base "_law_pick" ["_law_pen_here", "_law_some"] 2 spPickL) : FnOk P w K mg base CX0 3 f fd ["_law_pen_here"] spLetters := by
  refine F.ok sc_lletters (fun vs H Q E h => ?_) (fun cdv A outer s H vs Q E hr h => ?_)
  · obtain ⟨p, H0, n, rfl, _⟩ := h
    rfl
  · obtain ⟨p, H0, n, rfl, P0, hn, q⟩ := h
    refine ⟨_, (pss_cons (ps_asg (pe_tup (pa_cons pe_str (pa_cons (pe_call c_ldraw.ok (hr.mono (by decide)) (by rfl) c_ldraw.g c_ldraw.kp c_ldraw.b .nil pass0 (pa_cons (pv 0) (pa_cons pe_int pa_nil))) pa_nil))) (pg_tup (by rfl) (pgs_cons (pg_name (i := 1) sc_lletters.nd rfl (Or.inr rfl)) (pgs_cons (pg_name (i := 2) sc_lletters.nd rfl (Or.inr rfl)) pgs_nil))))
      (pss_cons (ps_set (i := 3) sc_lletters.nd rfl (Or.inr rfl) (pe_call c_pickL.ok (hr.mono (by decide)) (by rfl) c_pickL.g c_pickL.kp c_pickL.b .nil pass0 (pa_cons (pv 0) (pa_cons (pe_lst (pa_cons pe_int (pa_cons pe_int (pa_cons pe_int (pa_cons pe_int (pa_cons pe_int (pa_cons pe_int (pa_cons pe_int (pa_cons pe_int (pa_cons pe_int (pa_cons pe_int (pa_cons pe_int (pa_cons pe_int pa_nil))))))))))))) pa_nil))))
      (pss_one (ps_ret (pe_join pe_str (pe_lc (own := [("_law_k", 4)]) (g := gName 4) (tt := tYes) rfl sc_lletters.nd (pi_range1 (by rfl) T.range (pa_cons (pe_op op_add pe_int (pe_call c_ldraw.ok (hr.mono (by decide)) (by rfl) c_ldraw.g c_ldraw.kp c_ldraw.b .nil pass0 (pa_cons (pv 0) (pa_cons pe_int pa_nil)))) pa_nil)) (blkOk_by (N := N_lletters) (sc := defScope s_lletters) (by decide +kernel)) (fun _ _ _ _ _ => (pg_name (i := 4) sc_lletters.nd rfl (Or.inl rfl))) (fun _ _ _ _ _ => pts_nil) (fun _ _ _ _ _ => (pe_ix ix_str (pv 1) (pe_op op_mod (pe_callTy call_int1 (by rfl) T.int PyProof.Rows.boot_int (pa_cons (pe_op op_add (pv 2) (pe_op op_mul (pv 3) (pv 4))) pa_nil)) pe_int) (fun _ _ => rfl))))))))), ?_⟩
    refine ⟨_, rfl, p, H0, n, 26, rfl, P0, by omega, by decide, by decide, fun H1 r P1 r0 r1 => ⟨by show 2 ≤ sizeLine; decide, fun t ht => ?_⟩⟩
    refine ⟨t, _, rfl, .inl (.inl upd_same), rfl, _, _, rfl, _, _, rfl, rfl, ?_⟩
    have P2 := P1.ex (Ex.new (o := .tup [V.str (Str.ofString "abcdefghijklmnopqrstuvwxyz"), V.int r]) ht)
    generalize (upd H1 t (.tup [V.str (Str.ofString "abcdefghijklmnopqrstuvwxyz"), V.int r])) = H2 at P2 ⊢
    refine ⟨_, rfl, by show 12 ≤ sizeLine; decide, fun l hl => ⟨p, H0, l, n + 1, _, rfl, P2.ex (Ex.new hl), by omega, upd_same, by show 0 < 12; decide, by show 12 < 10000; decide, fun H3 v P3 hv => ?_⟩⟩
    obtain ⟨pc, hpc, rfl⟩ : ∃ pc : Nat, pc ∈ paces ∧ v = .int pc := by
      have hv2 : v ∈ paces.map fun pc => V.int ((pc : Nat) : Int) := hv
      obtain ⟨x, h1, h2⟩ := List.mem_map.mp hv2
      exact ⟨x, h1, h2.symm⟩
    refine ⟨⟨_, rfl⟩, _, rfl, p, H0, n + 2, 3, rfl, P3, by omega, by decide, by decide, fun H4 r2 P4 s0 s1 => ⟨_, _, rfl, rfl, _, rfl, by omega, by omega, fun D hD => ?_⟩⟩
    obtain ⟨m, hm⟩ : ∃ m : Nat, (2 + r2).toNat = m := ⟨_, rfl⟩
    obtain ⟨fr, rfl⟩ : ∃ fr : Nat, r = (fr : Int) := ⟨r.toNat, (Int.toNat_of_nonneg r0).symm⟩
    rw [hm]
    have pc1 := paces_le pc hpc
    have d0 := fresh0 P4 hD
    have d1 := fresh_ne P4 hD
    refine lc_range (lo := 0) (n := m) (fun i H => PenAt p H0 H (n + 3) ∧ H D = some (.lst (((lets fr pc i).map sg).map V.str))) ⟨(P4.upd d0 d1).le (by omega), upd_same⟩ (fun i H hi hw => ?_) (fun H hw => ?_)
    · refine ⟨rfl, _, rfl, _, rfl, _, rfl, _, rfl, _, _, rfl, rfl, .inl ⟨by omega, by omega⟩, _, _, rfl, rfl, .inl ⟨_, rfl, _, _, rfl, rfl, (by show (0 : Int) < 26; decide), ?_⟩⟩
      obtain ⟨c, hc1, hc2⟩ := abc_at ((fr : Int) + (pc : Int) * ((0 : Int) + (i : Int)))
      refine ⟨_, _, c, rfl, rfl, by decide +kernel, hc1, _, hw.2, ?_, hw.1.upd d0 d1, ?_⟩
      · rw [List.length_map, List.length_map, lets_len]
        exact Nat.lt_of_lt_of_le (show i < 100 by omega) (by decide)
      · rw [upd_same]
        refine congrArg (fun l => some (HO.lst l)) ?_
        rw [lets_succ, ← sg_snoc]
        have e : c = 97 + (fr + pc * i) % 26 := by
          rw [hc2]
          have e1 : ((fr : Int) + (pc : Int) * ((0 : Int) + (i : Int))) = ((fr + pc * i : Nat) : Int) := by
            rw [Int.zero_add]
            simp
          rw [e1]
          omega
        rw [e]
        rfl
    · exact join_done hw.2 (by unfold lets; rw [List.length_map, List.length_range]; omega) (q _ _ _ _ hw.1 (by omega) hpc (by omega) (by omega))
end
end Law

namespace Law
open PySem PySem.Spec PyProof.Rows L2 Evl TR
theorem fold_app (l : List (Array Nat)) : ∀ a : Array Nat, (l.foldl (· ++ ·) a).toList = a.toList ++ (l.map Array.toList).flatten := by
  induction l with
  | nil => intro a; simp
  | cons x r ih =>
    intro a
    rw [List.foldl_cons, ih, List.map_cons, List.flatten_cons, Array.toList_append, List.append_assoc]
theorem mul_tx (l : List Nat) {n : Int} (h : 1 ≤ n) : Txt.mul (tx l) n = tx (List.replicate n.toNat l).flatten := by
  refine TL.ext_tl ?_
  unfold Txt.mul
  rw [if_neg (by omega)]
  by_cases q : (n == 1 || (tx l).length == 0) = true
  · rw [if_pos q]
    rw [Bool.or_eq_true, beq_iff_eq, beq_iff_eq] at q
    rcases q with q | q
    · subst q
      show l = (List.replicate 1 l).flatten
      simp
    · rw [tx_len] at q
      have e : l = [] := List.length_eq_zero_iff.mp q
      subst e
      show ([] : List Nat) = (List.replicate n.toNat []).flatten
      simp
  · rw [if_neg q]
    show (List.foldl (· ++ ·) #[] (List.replicate n.toNat (tx l).cps)).toList = (List.replicate n.toNat l).flatten
    rw [fold_app, List.map_replicate]
    rfl
theorem rep_len (n : Nat) (l : List Nat) : (List.replicate n l).flatten.length = n * l.length := by
  induction n with
  | zero => simp
  | succ k ih => rw [List.replicate_succ, List.flatten_cons, List.length_append, ih, Nat.succ_mul, Nat.add_comm]
theorem cut_to (l : List Nat) (k : Nat) : cutS (tx l) none (some (k : Int)) = tx (l.take k) := by
  refine TL.ext_tl ?_
  show (List.take _ (List.drop _ l)) = l.take k
  rw [HT.sIx_none, HT.sIx_nat, tx_len, Nat.sub_zero, List.drop_zero]
  rw [List.take_eq_take_iff]
  omega
theorem cut_from (l : List Nat) (k : Nat) : cutS (tx l) (some (k : Int)) none = tx (l.drop k) := by
  refine TL.ext_tl ?_
  show (List.take _ (List.drop _ l)) = l.drop k
  rw [HT.sIx_none, HT.sIx_nat, tx_len]
  by_cases h : k ≤ l.length
  · rw [Nat.min_eq_left h, List.take_of_length_le (by rw [List.length_drop]; omega)]
  · rw [Nat.min_eq_right (by omega), Nat.sub_self, List.take_zero, List.drop_eq_nil_of_le (by omega)]
theorem cut_mid (l : List Nat) (a b : Nat) : cutS (tx l) (some (a : Int)) (some ((a : Int) + (b : Int))) = tx ((l.drop a).take b) := by
  refine TL.ext_tl ?_
  show (List.take _ (List.drop _ l)) = (l.drop a).take b
  rw [show (a : Int) + (b : Int) = ((a + b : Nat) : Int) by omega, HT.sIx_nat, HT.sIx_nat, tx_len]
  by_cases h : a ≤ l.length
  · rw [Nat.min_eq_left h, List.take_eq_take_iff, List.length_drop]
    omega
  · have x1 : min a l.length = l.length := by omega
    have x2 : min (a + b) l.length = l.length := by omega
    rw [x1, x2, List.drop_length, List.drop_eq_nil_of_le (show l.length ≤ a by omega), List.take_nil, List.take_nil]
theorem join_bound (cs : List Nat) (h : cs.length ≤ 1000000) : ((cs.map sg).map (·.length)).sum + (cs.map sg).length * (Str.ofString "").length ≤ 16777216 := by
  rw [join_size, show (Str.ofString "").length = 0 from rfl]
  omega
theorem tx_le {l : List Nat} (h : l.length < 1000) : (tx l).length ≤ sizeLine := by
  rw [tx_len]
  exact sz_le h
theorem sg_tx (c : Nat) : sg c = tx [c] := rfl
theorem mem_rep {n : Nat} {l : List Nat} {c : Nat} (h : c ∈ (List.replicate n l).flatten) : c ∈ l := by
  obtain ⟨m, hm, hc⟩ := List.mem_flatten.mp h
  rw [List.eq_of_mem_replicate hm] at hc
  exact hc
theorem tx_app (l m : List Nat) : tx l ++ tx m = tx (l ++ m) := by
  refine TL.ext_tl ?_
  rw [TL.tl_append]
  rfl
theorem sgs_of (l : List Nat) : ST.signsOf (tx l) = l.map sg := rfl
theorem tx_size (l : List Nat) : (tx l).cps.size = l.length := by simp [tx]
theorem tx_at {l : List Nat} {i c : Nat} (h : (tx l).cps[i]? = some c) : l[i]? = some c := by
  rw [← h]
  simp [tx]
theorem sg_inj2 {c d : Nat} (h : sg c = sg d) : c = d := by
  have h2 : (sg c).cps.toList = (sg d).cps.toList := by rw [h]
  exact List.head_eq_of_cons_eq h2
theorem dct_nodup {l : List Nat} (h : l.Nodup) : ∀ i, i ≤ l.length → ST.dct (l.map sg) i = i
  | 0, _ => rfl
  | i + 1, hi => by
    have ih := dct_nodup h i (by omega)
    unfold ST.dct
    have hno : (((l.map sg).take i).any (· == (l.map sg).getD i Str.empty)) = false := by
      rw [Bool.eq_false_iff]
      intro q
      rw [List.any_eq_true] at q
      obtain ⟨x, hx, he⟩ := q
      rw [beq_iff_eq] at he
      have hi2 : i < l.length := by omega
      have e1 : (l.map sg).getD i Str.empty = sg l[i] := by
        rw [List.getD_eq_getElem?_getD, List.getElem?_map, List.getElem?_eq_getElem hi2]
        rfl
      rw [e1] at he
      obtain ⟨j, hj, ej⟩ := List.mem_iff_getElem.mp hx
      rw [List.length_take, List.length_map] at hj
      have ej2 : sg (l[j]'(by omega)) = x := by
        rw [← ej, List.getElem_take, List.getElem_map]
      have e2 : l[j]'(by omega) = l[i] := sg_inj2 (ej2.trans he)
      exact List.pairwise_iff_getElem.mp h j i (by omega) hi2 (by omega) e2
    rw [hno]
    show (if false = true then _ else _) = i + 1
    rw [if_neg (by decide), ih]
/-- letters: two to four different small ones -/
structure LG (l : List Nat) : Prop where
  lo : 2 ≤ l.length
  hi : l.length ≤ 4
  az : ∀ c ∈ l, 97 ≤ c ∧ c ≤ 122
  nd : l.Nodup
theorem lets_good {f p m : Nat} (hf : f < 26) (hp : p ∈ paces) (h1 : 2 ≤ m) (h2 : m ≤ 4) : LG (lets f p m) := by
  refine ⟨by rw [lets_len]; exact h1, by rw [lets_len]; exact h2, fun c hc => ?_, ?_⟩
  · unfold lets at hc
    obtain ⟨k, _, rfl⟩ := List.mem_map.mp hc
    omega
  · have key : ∀ f : Nat, f < 26 → ∀ p ∈ paces, (lets f p 2).Nodup ∧ (lets f p 3).Nodup ∧ (lets f p 4).Nodup := by decide +kernel
    obtain ⟨a, b, c⟩ := key f hf p hp
    have hm : m = 2 ∨ m = 3 ∨ m = 4 := by omega
    rcases hm with rfl | rfl | rfl <;> assumption
def spAreL : Sp := fun vs H Q _ => ∃ L : List Nat, vs = [.str (tx L)] ∧ LG L ∧ ∀ H', Ex H H' → Q (.bl true) H'
theorem kit_lt {K : PySem.W.Frag} : PySem.W.kitAny K (.type "list") [.type "list", .type "tuple"] = some true :=
  kitAny_cons (b := true) (kit_ty (by decide +kernel)) (fun h => by cases h) fun _ => rfl
theorem kit_tt {K : PySem.W.Frag} : PySem.W.kitAny K (.type "tuple") [.type "list", .type "tuple"] = some true :=
  kitAny_cons (b := false) (kit_ty (by decide +kernel)) (fun _ => kitAny_cons (b := true) (kit_ty (by decide +kernel)) (fun h => by cases h) fun _ => rfl) fun h => by cases h
theorem kit_ss {K : PySem.W.Frag} : PySem.W.kitOne K (.type "str") (.type "str") = some true := kit_ty (by decide +kernel)
theorem kit_ii {K : PySem.W.Frag} : PySem.W.kitOne K (.type "int") (.type "int") = some true := kit_ty (by decide +kernel)
theorem kit_ib {K : PySem.W.Frag} : PySem.W.kitOne K (.type "int") (.type "bool") = some false := kit_ty (by decide +kernel)
def spIsQ : Sp := fun vs H Q _ => ∃ (a : Addr) (k : Bool) (xs : List V), vs = [.ref a] ∧ H a = some (ob k xs) ∧ ∀ H', Ex H H' → Q (.bl true) H'
def spIsInt : Sp := fun vs H Q _ => ∃ v : Int, vs = [.int v] ∧ ∀ H', Ex H H' → Q (.bl true) H'
def spWhole : Sp := fun vs H Q _ => ∃ v lo hi : Int, vs = [.int v, .int lo, .int hi] ∧ lo ≤ v ∧ v ≤ hi ∧ ∀ H', Ex H H' → Q (.bl true) H'
def spIsPart : Sp := fun vs H Q _ => ∃ (t : Tr) (v : V) (k : Bool) (L : List Nat) (w n : Nat), vs = [v, .str (tx L), .int (w : Int), .int (n : Int)] ∧ TA k H v t ∧ t.ok L.length w n ∧ L.length ≤ 10 ∧ ∀ H', Ex H H' → Q (.bl true) H'
def spWithin : Sp := fun vs H Q _ => ∃ (t : Tr) (v : V) (k : Bool) (H0 : Hp), vs = [v] ∧ TA k H0 v t ∧ Ex H0 H ∧ ∀ r H' us, Ex H H' → H r = none → H' r = some (.lst us) → Kids k H0 us t.kids → Q (.ref r) H'
theorem go_ne_read : ¬ (V.str (Str.ofString "go") = V.str (Str.ofString "read")) := fun h => absurd (V.str.inj h) (by decide +kernel)
theorem go_ne_tell : ¬ (V.str (Str.ofString "go") = V.str (Str.ofString "tell")) := fun h => absurd (V.str.inj h) (by decide +kernel)
theorem tell_ne_read : ¬ (V.str (Str.ofString "tell") = V.str (Str.ofString "read")) := fun h => absurd (V.str.inj h) (by decide +kernel)
theorem tell_ne_go : ¬ (V.str (Str.ofString "tell") = V.str (Str.ofString "go")) := fun h => absurd (V.str.inj h) (by decide +kernel)
theorem read_ne_go : ¬ (V.str (Str.ofString "read") = V.str (Str.ofString "go")) := fun h => absurd (V.str.inj h) (by decide +kernel)
theorem read_ne_tell : ¬ (V.str (Str.ofString "read") = V.str (Str.ofString "tell")) := fun h => absurd (V.str.inj h) (by decide +kernel)
theorem iteD {c A B : Prop} [Decidable c] (hc : c) (h : A) : if decide c = true then A else B := by
  rw [if_pos (decide_eq_true hc)]
  exact h
theorem iteDn {c A B : Prop} [Decidable c] (hc : ¬ c) (h : B) : if decide c = true then A else B := by
  rw [if_neg (by rw [decide_eq_true_eq]; exact hc)]
  exact h
section
variable {P : Program} {w : World} {K : PySem.W.Frag} {mg : Str → Option Value} {base : Heap}
theorem ok_isQ {f : Addr} {fd : FuncData} (F : Fun K "is_list" "is_list" s_is_list f fd) (T : Tx mg) : FnOk P w K mg base CX0 1 f fd ["value"] spIsQ := by
  refine F.ok sc_is_list (fun vs H Q E h => ?_) (fun cdv A outer s H vs Q E hr h => ?_)
  · obtain ⟨a, k, xs, rfl, _⟩ := h
    rfl
  · obtain ⟨a, k, xs, rfl, ha, q⟩ := h
    refine ⟨_, (pss_one (ps_ret (pe_callB call_isiT (by rfl) T.isinstance PyProof.Rows.boot_isinstance (pa_cons (pv 0) (pa_cons (pe_tup (pa_cons (pe_bltn (v := .ty "list") (by rfl) T.list PyProof.Rows.boot_list rfl) (pa_cons (pe_bltn (v := .ty "tuple") (by rfl) T.tuple PyProof.Rows.boot_tuple rfl) pa_nil))) pa_nil))))), ?_⟩
    refine ⟨_, rfl, by show 2 ≤ sizeLine; decide, fun t ht => ?_⟩
    cases k
    · exact ⟨_, t, _, _, _, true, rfl, upd_same, .cons (.ty _) (.cons (.ty _) .nil), .base (.lst (Ex.new ht _ _ ha)), kit_lt, q _ (Ex.new ht)⟩
    · exact ⟨_, t, _, _, _, true, rfl, upd_same, .cons (.ty _) (.cons (.ty _) .nil), .base (.tup (Ex.new ht _ _ ha)), kit_tt, q _ (Ex.new ht)⟩
theorem ok_integer {f : Addr} {fd : FuncData} (F : Fun K "is_integer" "is_integer" s_is_integer f fd) (T : Tx mg) : FnOk P w K mg base CX0 1 f fd ["value"] spIsInt := by
  refine F.ok sc_is_integer (fun vs H Q E h => ?_) (fun cdv A outer s H vs Q E hr h => ?_)
  · obtain ⟨v, rfl, _⟩ := h
    rfl
  · obtain ⟨v, rfl, q⟩ := h
    refine ⟨_, (pss_one (ps_ret (pe_and (pe_callB call_isi (by rfl) T.isinstance PyProof.Rows.boot_isinstance (pa_cons (pv 0) (pa_cons (pe_bltn (v := .ty "int") (by rfl) T.int PyProof.Rows.boot_int rfl) pa_nil))) (pe_one (pe_not (pe_callB call_isi (by rfl) T.isinstance PyProof.Rows.boot_isinstance (pa_cons (pv 0) (pa_cons (pe_bltn (v := .ty "bool") (by rfl) T.bool PyProof.Rows.boot_bool rfl) pa_nil)))))))), ?_⟩
    refine ⟨_, rfl, _, _, _, _, true, rfl, .ty _, .base (.int _), kit_ii, true, rfl, ?_⟩
    exact ⟨_, rfl, _, _, _, _, false, rfl, .ty _, .base (.int _), kit_ib, false, rfl, q H (Ex.refl _)⟩
theorem ok_whole {f : Addr} {fd : FuncData} (F : Fun K "is_whole" "is_whole" s_is_whole f fd) (T : Tx mg) (c_is_integer : Kn P w K mg base "is_integer" ["value"] 1 spIsInt) : FnOk P w K mg base CX0 2 f fd ["value", "low", "high"] spWhole := by
  refine F.ok sc_is_whole (fun vs H Q E h => ?_) (fun cdv A outer s H vs Q E hr h => ?_)
  · obtain ⟨v, lo, hi, rfl, _⟩ := h
    rfl
  · obtain ⟨v, lo, hi, rfl, h1, h2, q⟩ := h
    refine ⟨_, (pss_one (ps_ret (pe_and (pe_call c_is_integer.ok (hr.mono (by decide)) (by rfl) c_is_integer.g c_is_integer.kp c_is_integer.b .nil pass0 (pa_cons (pv 0) pa_nil)) (pe_one (pe_chain op_le op_le (pv 1) (pv 0) (pv 2)))))), ?_⟩
    refine ⟨_, rfl, v, rfl, fun H' e => ⟨true, rfl, ?_⟩⟩
    refine ⟨_, rfl, _, rfl, _, _, rfl, rfl, _, rfl, iteD h1 ⟨_, rfl, _, _, rfl, rfl, ?_⟩⟩
    have q2 := q H' e
    show Q (V.bl (decide (v ≤ hi))) H'
    rw [decide_eq_true h2]
    exact q2
theorem le_a {c : Nat} (h : 97 ≤ c) : (!decide ((sg c).cps.toList < (Str.ofString "a").cps.toList)) = true := by
  rw [show (Str.ofString "a").cps.toList = [97] by decide +kernel, show (sg c).cps.toList = [c] from rfl]
  rw [decide_eq_false]
  · rfl
  · intro q
    rw [List.cons_lt_cons_iff] at q
    rcases q with q | ⟨_, q⟩
    · omega
    · exact absurd q (by simp)
theorem le_z {c : Nat} (h : c ≤ 122) : (!decide ((Str.ofString "z").cps.toList < (sg c).cps.toList)) = true := by
  rw [show (Str.ofString "z").cps.toList = [122] by decide +kernel, show (sg c).cps.toList = [c] from rfl]
  rw [decide_eq_false]
  · rfl
  · intro q
    rw [List.cons_lt_cons_iff] at q
    rcases q with q | ⟨_, q⟩
    · omega
    · exact absurd q (by simp)
theorem lc_str {x : Str} {g : TG} {tt : TT} {te : TE} {vs : List Nat} {σ : L2.St} {H1 : Hp} {D : Addr} {Qd : Hp → Prop} (Pv : Nat → Hp → Prop) (h0 : Pv 0 (upd H1 D (.lst [])))
    (hs : ∀ i c H, x.cps[i]? = some c → Pv i H → g (.str ⟨#[c]⟩) (wipe σ vs) H fun σ2 H2 => wipe σ2 vs = wipe σ vs ∧ tt σ2 H2 fun b H3 =>
      if b = true then te σ2 H3 fun z H4 => ∃ acc, H4 D = some (.lst acc) ∧ acc.length < sizeLine ∧ Pv (i + 1) (upd H4 D (.lst (acc ++ [z]))) else Pv (i + 1) H3) (hd : ∀ H, Pv x.cps.size H → Qd H) :
    ∃ W : Nat → Nat → Hp → Prop, (∃ m, W 0 m (upd H1 D (.lst []))) ∧ ∀ i m H, W i m H →
      ((Its x).stop i H ∧ Qd H) ∨ ((Its x).go i H ∧ ∃ Nx : Hp → Prop, (∀ H', Nx H' → ∃ m', m' < m ∧ W (i + 1) m' H') ∧ ∀ v H', (Its x).yld i H v H' → g v (wipe σ vs) H' fun σ2 H2 => wipe σ2 vs = wipe σ vs ∧ tt σ2 H2 fun b H3 =>
        if b = true then te σ2 H3 fun z H4 => ∃ acc, H4 D = some (.lst acc) ∧ acc.length < sizeLine ∧ Nx (upd H4 D (.lst (acc ++ [z]))) else Nx H3) := by
  refine ⟨fun i m H => i + m = x.cps.size ∧ Pv i H, ⟨_, Nat.zero_add _, h0⟩, ?_⟩
  rintro i m H ⟨e, p⟩
  by_cases hm : m = 0
  · have e2 : i = x.cps.size := by omega
    refine .inl ⟨by show x.cps.size ≤ i; omega, hd H ?_⟩
    rw [← e2]
    exact p
  · refine .inr ⟨by show i < x.cps.size; omega, Pv (i + 1), fun H' p' => ⟨m - 1, by omega, by omega, p'⟩, ?_⟩
    rintro v H' ⟨rfl, c, hc, rfl⟩
    exact hs i c _ hc p
theorem bl_snoc' (bs : List Bool) (b : Bool) : bs.map V.bl ++ [.bl b] = (bs ++ [b]).map V.bl := by
  rw [List.map_append]
  rfl
theorem all_yes (n : Nat) : (List.replicate n true).all id = true := by
  rw [List.all_eq_true]
  intro x hx
  rw [List.eq_of_mem_replicate hx]
  rfl
theorem ok_areL {f : Addr} {fd : FuncData} (F : Fun K "are_letters" "are_letters" s_are_letters f fd) (T : Tx mg) : FnOk P w K mg base CX0 1 f fd ["value"] spAreL := by
  refine F.ok sc_are_letters (fun vs H Q E h => ?_) (fun cdv A outer s H vs Q E hr h => ?_)
  · obtain ⟨L, rfl, _⟩ := h
    rfl
  · obtain ⟨L, rfl, hL, q⟩ := h
    have h1 := hL.lo
    have h2 := hL.hi
    refine ⟨_, (pss_cons (ps_if (PW.pt (pw_or (pt_not (pt_val (pe_callB call_isi (by rfl) T.isinstance PyProof.Rows.boot_isinstance (pa_cons (pv 0) (pa_cons (pe_bltn (v := .ty "str") (by rfl) T.str PyProof.Rows.boot_str rfl) pa_nil))))) (pw_or1 (pt_not (pt_chain op_le op_le pe_int (pe_callB call_len_str (by rfl) T.len PySem.boot_len (pa_cons (pv 0) pa_nil)) pe_int))))) (pss_one (ps_ret pe_bl)) pss_nil)
      (pss_one (ps_ret (pe_and (pe_callB (cr_all rfl) (by rfl) T.all PyProof.Rows.boot_all (pa_cons (pe_lc (own := [("sign", 1)]) (g := gName 1) (tt := tYes) rfl sc_are_letters.nd (pi_str (pv 0)) (blkOk_by (N := N_are_letters) (sc := defScope s_are_letters) (by decide +kernel)) (fun _ _ _ _ _ => (pg_name (i := 1) sc_are_letters.nd rfl (Or.inl rfl))) (fun _ _ _ _ _ => pts_nil) (fun _ _ _ _ _ => (pe_chain op_le_str op_le_str pe_str (pv 1) pe_str))) pa_nil)) (pe_one (pe_cmpR op_eq (EN.pe_lenSetS rfl (by rfl) T.len (by rfl) T.set (pv 0)) (pe_callB call_len_str (by rfl) T.len PySem.boot_len (pa_cons (pv 0) pa_nil)) (nomark _))))))), ?_⟩
    refine ⟨_, rfl, _, _, _, _, true, rfl, .ty _, .base (.str _), kit_ss, true, rfl, ?_⟩
    refine ⟨_, rfl, _, rfl, tx_le (by omega), _, _, rfl, rfl, _, rfl, ite2 (fun _ => ?_) (fun hn => absurd (decide_eq_true (by rw [tx_len]; omega)) hn)⟩
    refine ⟨_, _, rfl, rfl, _, rfl, ite2 (fun hb => ?_) (fun _ => ?_)⟩
    · rw [tx_len, decide_eq_true (by omega)] at hb
      cases hb
    refine ⟨_, rfl, _, rfl, fun D hD => ?_⟩
    refine lc_str (x := tx L) (fun i H' => Ex H H' ∧ H' D = some (.lst ((List.replicate i true).map V.bl))) ⟨Ex.new hD, upd_same⟩ (fun i c H' hic hw => ?_) (fun H' hw => ?_)
    · obtain ⟨e, hl⟩ := hw
      have hc := tx_at hic
      have az := hL.az c (List.mem_of_getElem? hc)
      have hi := (List.getElem?_eq_some_iff.mp hc).1
      refine ⟨rfl, _, rfl, _, _, rfl, rfl, _, rfl, ite2 (fun _ => ?_) (fun hn => absurd (le_a az.1) hn)⟩
      refine ⟨_, _, rfl, rfl, _, hl, ?_, e.mut hD, ?_⟩
      · rw [List.length_map, List.length_replicate]
        exact sz_lt (by omega)
      · rw [upd_same]
        refine congrArg (fun l => some (HO.lst l)) ?_
        show (List.replicate i true).map V.bl ++ [V.bl (!decide ((Str.ofString "z").cps.toList < (sg c).cps.toList))] = _
        rw [le_z az.2, bl_snoc', List.replicate_succ']
    · obtain ⟨e, hl⟩ := hw
      refine ⟨D, _, rfl, sq_of hl, _, rfl, ?_⟩
      rw [all_yes]
      refine ⟨_, rfl, _, rfl, by rw [tx_size]; omega, _, rfl, _, rfl, tx_le (by omega), rfl, ?_⟩
      have e2 : decide (V.int ((ST.dct (ST.signsOf (tx L)) (tx L).cps.size : Nat) : Int) = V.int (((tx L).length : Nat) : Int)) = true := decide_eq_true (by
        rw [sgs_of, tx_size, dct_nodup hL.nd _ (Nat.le_refl _), tx_len])
      show Q (V.bl (decide (V.int ((ST.dct (ST.signsOf (tx L)) (tx L).cps.size : Nat) : Int) = V.int (((tx L).length : Nat) : Int)))) H'
      rw [e2]
      exact q _ e
theorem ok_ispart {f : Addr} {fd : FuncData} (F : Fun K "_is_part" "_is_part" s_is_part f fd) (T : Tx mg) (c_is_list : Kn P w K mg base "is_list" ["value"] 1 spIsQ)
    (c_is_whole : Kn P w K mg base "is_whole" ["value", "low", "high"] 2 spWhole) : FnOk P w K mg base CX0 3 f fd ["part", "letters", "width", "states"] spIsPart := by
  refine F.ok sc_is_part (fun vs H Q E h => ?_) (fun cdv A outer s H vs Q E hr h => ?_)
  · obtain ⟨t, v, k, L, wd, n, rfl, _⟩ := h
    rfl
  · obtain ⟨t, v, k, L, wd, n, rfl, hT, hok, hL, q⟩ := h
    refine ⟨_, (pss_cons (ps_if (PW.pt (pw_or (pt_not (pt_val (pe_call c_is_list.ok (hr.mono (by decide)) (by rfl) c_is_list.g c_is_list.kp c_is_list.b .nil pass0 (pa_cons (pv 0) pa_nil)))) (pw_or1 (pt_cmpR op_ne (pe_callB call_len_seq (by rfl) T.len PySem.boot_len (pa_cons (pv 0) pa_nil)) pe_int (nomark _))))) (pss_one (ps_ret pe_bl)) pss_nil)
      (pss_cons (ps_asg (pv 0) (TR.pg_seq (by rfl) (pgs_cons (pg_name (i := 4) sc_is_part.nd rfl (Or.inl rfl)) (pgs_cons (pg_name (i := 5) sc_is_part.nd rfl (Or.inl rfl)) (pgs_cons (pg_name (i := 6) sc_is_part.nd rfl (Or.inl rfl)) pgs_nil)))))
      (pss_cons (ps_if (pt_cmpR op_eq (pv 4) pe_str (nomark _)) (pss_one (ps_ret (pe_and (pe_call c_is_whole.ok (hr.mono (by decide)) (by rfl) c_is_whole.g c_is_whole.kp c_is_whole.b .nil pass0 (pa_cons (pv 5) (pa_cons pe_int (pa_cons (pv 2) pa_nil)))) (pe_and (pe_call c_is_list.ok (hr.mono (by decide)) (by rfl) c_is_list.g c_is_list.kp c_is_list.b .nil pass0 (pa_cons (pv 6) pa_nil)) (pe_one (pe_cmpR op_eq (pe_callB call_len_seq (by rfl) T.len PySem.boot_len (pa_cons (pv 6) pa_nil)) (pe_callB call_len_str (by rfl) T.len PySem.boot_len (pa_cons (pv 1) pa_nil)) (nomark _))))))) pss_nil)
      (pss_cons (ps_if (pt_cmpR op_eq (pv 4) pe_str (nomark _)) (pss_one (ps_ret (pe_call c_is_whole.ok (hr.mono (by decide)) (by rfl) c_is_whole.g c_is_whole.kp c_is_whole.b .nil pass0 (pa_cons (pv 5) (pa_cons pe_int (pa_cons pe_int pa_nil)))))) pss_nil)
      (pss_cons (ps_if (pt_cmpR op_eq (pv 4) pe_str (nomark _)) (pss_one (ps_ret (pe_and (pe_call c_is_whole.ok (hr.mono (by decide)) (by rfl) c_is_whole.g c_is_whole.kp c_is_whole.b .nil pass0 (pa_cons (pv 5) (pa_cons pe_int (pa_cons (pe_op op_add (pv 2) pe_int) pa_nil)))) (pe_one (pe_call c_is_whole.ok (hr.mono (by decide)) (by rfl) c_is_whole.g c_is_whole.kp c_is_whole.b .nil pass0 (pa_cons (pv 6) (pa_cons pe_int (pa_cons (pe_op op_sub (pv 3) pe_int) pa_nil)))))))) pss_nil)
      (pss_one (ps_ret pe_bl))))))), ?_⟩
    cases hT with
    | @go a s' q' h =>
      obtain ⟨o1, o2, o3⟩ := hok
      refine ⟨_, rfl, a, k, _, rfl, h, fun H1 e1 => ⟨true, rfl, ?_⟩⟩
      refine ⟨_, rfl, a, _, rfl, ob_seq (e1 _ _ h), rfl, _, rfl, iteNS rfl ?_⟩
      refine ⟨_, rfl, gSeq_of (e1 _ _ h) rfl ⟨_, _, rfl, _, _, rfl, _, _, rfl, rfl, ?_⟩⟩
      refine ⟨_, rfl, rfl, _, rfl, iteDn go_ne_read ?_⟩
      refine ⟨_, rfl, rfl, _, rfl, iteDn go_ne_tell ?_⟩
      refine ⟨_, rfl, rfl, _, rfl, iteD rfl ?_⟩
      refine ⟨_, rfl, _, rfl, _, _, rfl, rfl, _, _, _, rfl, by omega, by omega, fun H2 e2 => ⟨true, rfl, ?_⟩⟩
      exact ⟨_, rfl, _, rfl, _, _, rfl, rfl, _, _, _, rfl, by omega, by omega, fun H3 e3 => q _ ((e1.trans e2).trans e3)⟩
    | @tell a n' v' t' h r =>
      obtain ⟨o1, o2⟩ := hok
      refine ⟨_, rfl, a, k, _, rfl, h, fun H1 e1 => ⟨true, rfl, ?_⟩⟩
      refine ⟨_, rfl, a, _, rfl, ob_seq (e1 _ _ h), rfl, _, rfl, iteNS rfl ?_⟩
      refine ⟨_, rfl, gSeq_of (e1 _ _ h) rfl ⟨_, _, rfl, _, _, rfl, _, _, rfl, rfl, ?_⟩⟩
      refine ⟨_, rfl, rfl, _, rfl, iteDn tell_ne_read ?_⟩
      refine ⟨_, rfl, rfl, _, rfl, iteD rfl ?_⟩
      exact ⟨_, rfl, _, _, _, rfl, by omega, by omega, fun H2 e2 => q _ (e1.trans e2)⟩
    | @read a b p' us ts h hb r =>
      obtain ⟨o1, o2, o3⟩ := hok
      have lk := r.kids.len
      refine ⟨_, rfl, a, k, _, rfl, h, fun H1 e1 => ⟨true, rfl, ?_⟩⟩
      refine ⟨_, rfl, a, _, rfl, ob_seq (e1 _ _ h), rfl, _, rfl, iteNS rfl ?_⟩
      refine ⟨_, rfl, gSeq_of (e1 _ _ h) rfl ⟨_, _, rfl, _, _, rfl, _, _, rfl, rfl, ?_⟩⟩
      refine ⟨_, rfl, rfl, _, rfl, iteD rfl ?_⟩
      refine ⟨_, rfl, _, rfl, _, _, _, rfl, by omega, by omega, fun H2 e2 => ⟨true, rfl, ?_⟩⟩
      have e12 := e1.trans e2
      refine ⟨_, rfl, b, k, _, rfl, e12 _ _ hb, fun H3 e3 => ⟨true, rfl, ?_⟩⟩
      have e13 := e12.trans e3
      refine ⟨_, rfl, b, _, rfl, ob_seq (e13 _ _ hb), _, rfl, _, rfl, tx_le (by omega), rfl, ?_⟩
      have ee : decide (V.int ((us.length : Nat) : Int) = V.int (((tx L).length : Nat) : Int)) = true := decide_eq_true (by rw [tx_len, lk, o2])
      show Q (V.bl (decide (V.int ((us.length : Nat) : Int) = V.int (((tx L).length : Nat) : Int)))) _
      rw [ee]
      exact q _ e13
theorem ok_within {f : Addr} {fd : FuncData} (F : Fun K "_within" "_within" s_within f fd) (T : Tx mg) : FnOk P w K mg base CX0 1 f fd ["part"] spWithin := by
  refine F.ok sc_within (fun vs H Q E h => ?_) (fun cdv A outer s H vs Q E hr h => ?_)
  · obtain ⟨t, v, k, H0, rfl, _⟩ := h
    rfl
  · obtain ⟨t, v, k, H0, rfl, hT, e0, q⟩ := h
    refine ⟨_, (pss_cons (ps_if (pt_cmpR op_eq (pe_ix ix_seq (pv 0) pe_int (fun _ _ => rfl)) pe_str (nomark _)) (pss_one (ps_ret (pe_callTy call_list_of (by rfl) T.list PyProof.Rows.boot_list (pa_cons (pe_ix ix_seq (pv 0) pe_int (fun _ _ => rfl)) pa_nil)))) pss_nil)
      (pss_cons (ps_if (pt_cmpR op_eq (pe_ix ix_seq (pv 0) pe_int (fun _ _ => rfl)) pe_str (nomark _)) (pss_one (ps_ret (pe_lst (pa_cons (pe_ix ix_seq (pv 0) pe_int (fun _ _ => rfl)) pa_nil)))) pss_nil)
      (pss_one (ps_ret (pe_lst pa_nil))))), ?_⟩
    cases hT with
    | @go a s' q' h =>
      refine ⟨_, rfl, ix_at (e0 _ _ h) (atI_nat (j := 0) rfl) ⟨rfl, _, rfl, iteDn go_ne_read ?_⟩⟩
      refine ⟨_, rfl, ix_at (e0 _ _ h) (atI_nat (j := 0) rfl) ⟨rfl, _, rfl, iteDn go_ne_tell ?_⟩⟩
      exact ⟨Nat.zero_le _, fun r hr => q r _ _ (Ex.new hr) hr upd_same .nil⟩
    | @tell a n' v' t' h r0 =>
      refine ⟨_, rfl, ix_at (e0 _ _ h) (atI_nat (j := 0) rfl) ⟨rfl, _, rfl, iteDn tell_ne_read ?_⟩⟩
      refine ⟨_, rfl, ix_at (e0 _ _ h) (atI_nat (j := 0) rfl) ⟨rfl, _, rfl, iteD rfl ?_⟩⟩
      exact ⟨_, rfl, ix_at (e0 _ _ h) (atI_nat (j := 2) rfl) ⟨by show 1 ≤ sizeLine; decide, fun r hr => q r _ _ (Ex.new hr) hr upd_same (.cons r0 .nil)⟩⟩
    | @read a b p' us ts h hb r0 =>
      refine ⟨_, rfl, ix_at (e0 _ _ h) (atI_nat (j := 0) rfl) ⟨rfl, _, rfl, iteD rfl ?_⟩⟩
      exact ⟨_, rfl, ix_at (e0 _ _ h) (atI_nat (j := 2) rfl) ⟨b, _, rfl, ob_seq (e0 _ _ hb), fun r hr => q r _ _ (Ex.new hr) hr upd_same r0.kids⟩⟩
end
end Law

namespace Law
open PySem PySem.Spec PyProof.Rows L2 Evl TR
/-! ### the waiting ones -/
inductive Stk (k : Bool) (H0 H : Hp) : List V → List (Tr × Nat) → Prop
  | nil : Stk k H0 H [] []
  | cons {r : Addr} {v : V} {t : Tr} {d : Nat} {vs : List V} {ps : List (Tr × Nat)} : H r = some (.tup [v, .int (d : Nat)]) → TA k H0 v t → Stk k H0 H vs ps → Stk k H0 H (.ref r :: vs) ((t, d) :: ps)
theorem Stk.ex {k : Bool} {H0 H H' : Hp} (e : Ex H H') : ∀ {vs : List V} {ps : List (Tr × Nat)}, Stk k H0 H vs ps → Stk k H0 H' vs ps
  | _, _, .nil => .nil
  | _, _, .cons h1 h2 r => .cons (e _ _ h1) h2 (Stk.ex e r)
theorem Stk.len {k : Bool} {H0 H : Hp} : ∀ {vs : List V} {ps : List (Tr × Nat)}, Stk k H0 H vs ps → vs.length = ps.length
  | _, _, .nil => rfl
  | _, _, .cons _ _ r => by rw [List.length_cons, List.length_cons, r.len]
theorem Stk.app {k : Bool} {H0 H : Hp} : ∀ {vs : List V} {ps : List (Tr × Nat)} {us : List V} {qs : List (Tr × Nat)}, Stk k H0 H vs ps → Stk k H0 H us qs → Stk k H0 H (vs ++ us) (ps ++ qs)
  | _, _, _, _, .nil, h => h
  | _, _, _, _, .cons h1 h2 r, h => .cons h1 h2 (Stk.app r h)
theorem Stk.upd {k : Bool} {H0 H : Hp} {a : Addr} {o : HO} : ∀ {vs : List V} {ps : List (Tr × Nat)}, Stk k H0 H vs ps → (∀ xs, H a ≠ some (.tup xs)) → Stk k H0 (L2.upd H a o) vs ps
  | _, _, .nil, _ => .nil
  | _, _, .cons (r := r) h1 h2 r1, hn => .cons (by rw [upd_ne (fun q : r = a => hn _ (by rw [← q]; exact h1))]; exact h1) h2 (Stk.upd r1 hn)
theorem Stk.last {k : Bool} {H0 H : Hp} : ∀ {vs : List V} {ps : List (Tr × Nat)}, Stk k H0 H vs ps → vs ≠ [] →
    ∃ us r v t d qs, vs = us ++ [.ref r] ∧ ps = qs ++ [(t, d)] ∧ Stk k H0 H us qs ∧ H r = some (.tup [v, .int (d : Nat)]) ∧ TA k H0 v t
  | _, _, .nil, h => absurd rfl h
  | _, _, .cons (r := r) (v := v) (t := t) (d := d) h1 h2 .nil, _ => ⟨[], r, v, t, d, [], rfl, rfl, .nil, h1, h2⟩
  | _, _, .cons (r := r) (v := v) (t := t) (d := d) h1 h2 (.cons a1 a2 a3), _ => by
    obtain ⟨us, r', v', t', d', qs, e1, e2, s, b1, b2⟩ := Stk.last (.cons a1 a2 a3) (by intro q; cases q)
    exact ⟨.ref r :: us, r', v', t', d', (t, d) :: qs, by rw [e1]; rfl, by rw [e2]; rfl, .cons h1 h2 s, b1, b2⟩
def tot (ps : List (Tr × Nat)) : Nat := (ps.map fun p => p.1.size).sum
theorem tot_app (ps qs : List (Tr × Nat)) : tot (ps ++ qs) = tot ps + tot qs := by
  unfold tot
  rw [List.map_append, List.sum_append]
theorem tot_kids (ts : List Tr) (d : Nat) : tot (ts.map fun t => (t, d)) = total ts := by
  unfold tot total
  rw [List.map_map]
  rfl
theorem total_rev (ts : List Tr) : total ts.reverse = total ts := by
  unfold total
  rw [List.map_reverse, List.sum_reverse]
theorem len_tot : ∀ ps : List (Tr × Nat), ps.length ≤ tot ps
  | [] => Nat.zero_le _
  | p :: r => by
    have h1 := len_tot r
    have h2 := size_pos p.1
    show r.length + 1 ≤ p.1.size + tot r
    omega
def spFW : Sp := fun vs H Q _ => ∃ (t : Tr) (v : V) (k : Bool) (L : List Nat) (w n : Nat), vs = [v, .str (tx L), .int (w : Int), .int (n : Int)] ∧ TA k H v t ∧ t.ok L.length w n ∧ L.length ≤ 10 ∧ t.depth ≤ 40 ∧ t.size ≤ 10000 ∧ ∀ H', Ex H H' → Q .non H'
theorem pop_last {α : Type} (us : List α) (x : α) : (us ++ [x])[(us ++ [x]).length - 1]? = some x := by
  rw [List.length_append]
  simp
theorem take_next' {α : Type} {l : List α} {i : Nat} {x : α} (h : l[i]? = some x) : l.take (i + 1) = l.take i ++ [x] := by
  rw [List.take_add_one, h]
  rfl
theorem rev_get {α : Type} {l : List α} {i : Nat} {x : α} (h : l[l.length - 1 - i]? = some x) (hi : i < l.length) : l.reverse[i]? = some x := by
  rw [List.getElem?_reverse hi]
  exact h
section
variable {P : Program} {w : World} {K : PySem.W.Frag} {mg : Str → Option Value} {base : Heap}
theorem ok_fw {f : Addr} {fd : FuncData} (F : Fun K "first_wrong" "first_wrong" s_first_wrong f fd) (T : Tx mg) (c_is_part : Kn P w K mg base "_is_part" ["part", "letters", "width", "states"] 3 spIsPart)
    (c_within : Kn P w K mg base "_within" ["part"] 1 spWithin) : FnOk P w K mg base CX0 4 f fd ["tree", "letters", "width", "states"] spFW := by
  refine F.ok sc_first_wrong (fun vs H Q E h => ?_) (fun cdv A outer s H vs Q E hr h => ?_)
  · obtain ⟨t, v, k, L, wd, n, rfl, _⟩ := h
    rfl
  · obtain ⟨t, v, k, L, wd, n, rfl, hT, hok, hL, hdp, hsz, q⟩ := h
    refine ⟨_, (pss_cons (ps_set (i := 4) sc_first_wrong.nd rfl (Or.inl rfl) (pe_lst (pa_cons (pe_tup (pa_cons (pv 0) (pa_cons pe_int pa_nil))) pa_nil)))
      (pss_cons (ps_set (i := 5) sc_first_wrong.nd rfl (Or.inl rfl) pe_int)
      (pss_cons (ps_while PassesOwn.never (pt_truth (pv 4) (by intro _; rfl)) (pss_cons (ps_asg (pe_bm0 PySem.F.plainAttrs_list PySem.F.slot_list_pop PySem.F.type_list_pop mt_pop (pv 4)) (pg_tup (by rfl) (pgs_cons (pg_name (i := 6) sc_first_wrong.nd rfl (Or.inl rfl)) (pgs_cons (pg_name (i := 7) sc_first_wrong.nd rfl (Or.inr rfl)) pgs_nil))))
      (pss_cons (ps_if (PW.pt (pw_or (pt_cmpR op_gt (pv 7) (pe_glob (v := .int 40) rfl T.m_DEEPEST ⟨_, rfl⟩) (nomark _)) (pw_or1 (pt_not (pt_val (pe_call c_is_part.ok (hr.mono (by decide)) (by rfl) c_is_part.g c_is_part.kp c_is_part.b .nil pass0 (pa_cons (pv 6) (pa_cons (pv 1) (pa_cons (pv 2) (pa_cons (pv 3) pa_nil)))))))))) (pss_one (ps_ret (pv 5))) pss_nil)
      (pss_cons (ps_expr (pe_bm PySem.F.plainAttrs_list PySem.F.slot_list_extend PySem.F.type_list_extend mt_extend (pv 4) (pa_cons (pe_lc (own := [("inner", 8)]) (g := gName 8) (tt := tYes) rfl sc_first_wrong.nd (pi_reversed (by rfl) T.reversed (pa_cons (pe_call c_within.ok (hr.mono (by decide)) (by rfl) c_within.g c_within.kp c_within.b .nil pass0 (pa_cons (pv 6) pa_nil)) pa_nil)) (blkOk_by (N := N_first_wrong) (sc := defScope s_first_wrong) (by decide +kernel)) (fun _ _ _ _ _ => (pg_name (i := 8) sc_first_wrong.nd rfl (Or.inl rfl))) (fun _ _ _ _ _ => pts_nil) (fun _ _ _ _ _ => (pe_tup (pa_cons (pv 8) (pa_cons (pe_op op_add (pv 7) pe_int) pa_nil))))) pa_nil)))
      (pss_one (ps_aug (i := 5) sc_first_wrong.nd rfl (Or.inl rfl) pe_int ip_add))))))
      (pss_one (ps_ret pe_non))))), ?_⟩
    refine ⟨_, rfl, by show 2 ≤ sizeLine; decide, fun t1 ht1 => ⟨by show 1 ≤ sizeLine; decide, fun l hl => ?_⟩⟩
    have hl0 : H l = none := fresh_back (Ex.new ht1) hl
    have e1 := (Ex.new (o := .tup [v, .int 1]) ht1).trans (Ex.new (o := .lst [V.ref t1]) hl)
    refine ⟨fun m σ H' => ∃ (st : List V) (ps : List (Tr × Nat)) (nm : Int) (y6 y7 y8 : Option V), σ = [some v, some (.str (tx L)), some (.int (wd : Int)), some (.int (n : Int)), some (.ref l), some (.int nm), y6, y7, y8] ∧
        Ex H H' ∧ H' l = some (.lst st) ∧ Stk k H H' st ps ∧ (∀ p ∈ ps, p.1.ok L.length wd n ∧ p.2 + p.1.depth ≤ 41) ∧ m = tot ps ∧ m ≤ 10000,
      ⟨t.size, [.ref t1], [(t, 1)], 0, none, none, none, rfl, e1, upd_same, .cons (Ex.new hl _ _ upd_same) hT .nil, fun p hp => ?_, ?_, hsz⟩, fun m σ H' hw => ?_⟩
    · rw [List.mem_singleton.mp hp]
      exact ⟨hok, by show 1 + t.depth ≤ 41; omega⟩
    · show t.size = t.size + 0
      rfl
    obtain ⟨st, ps, nm, y6, y7, y8, rfl, e2, hst, S, hall, hm, hm2⟩ := hw
    refine ⟨_, rfl, !st.isEmpty, .inl ⟨st, sq_of hst, rfl⟩, ?_⟩
    cases st with
    | nil =>
      refine iteF ?_
      exact q _ e2
    | cons s0 srest =>
      refine iteT ?_
      obtain ⟨us, r, pv_, pt, d, qs, eS, eP, S', hr, hTA⟩ := S.last (by intro z; cases z)
      rw [eS] at hst
      rw [eP] at hm hall
      have hpt := hall (pt, d) (List.mem_append_right _ List.mem_cons_self)
      have hpt2 : d + pt.depth ≤ 41 := hpt.2
      have dpos : 1 ≤ pt.depth := by
        cases pt
        · exact Nat.le_refl 1
        · exact Nat.succ_le_succ (Nat.zero_le _)
        · exact Nat.succ_le_succ (Nat.zero_le _)
      have hm3 : m = tot qs + pt.size := by
        rw [hm, tot_app]
        rfl
      have nrl : r ≠ l := fun z => by
        rw [z, hst] at hr
        cases hr
      refine ⟨fun σ2 H2 => ∃ m', m' < m ∧ ∃ (st : List V) (ps : List (Tr × Nat)) (nm : Int) (y6 y7 y8 : Option V), σ2 = [some v, some (.str (tx L)), some (.int (wd : Int)), some (.int (n : Int)), some (.ref l), some (.int nm), y6, y7, y8] ∧
        Ex H H2 ∧ H2 l = some (.lst st) ∧ Stk k H H2 st ps ∧ (∀ p ∈ ps, p.1.ok L.length wd n ∧ p.2 + p.1.depth ≤ 41) ∧ m' = tot ps ∧ m' ≤ 10000, fun σ2 H2 h => h, ?_⟩
      refine ⟨_, rfl, .inl ⟨rfl, _, sq_of hst⟩, l, _, _, rfl, rfl, hst, pop_last _ _, ?_⟩
      rw [List.dropLast_concat]
      have e3 : Ex H (L2.upd H' l (.lst us)) := e2.mut hl0
      have hl3 : (L2.upd H' l (.lst us)) l = some (.lst us) := upd_same
      have hr3 : (L2.upd H' l (.lst us)) r = some (.tup [pv_, .int (d : Nat)]) := by
        rw [upd_ne nrl]
        exact hr
      have S3 := S'.upd (a := l) (o := .lst us) fun xs hh => by
        rw [hst] at hh
        cases hh
      generalize (L2.upd H' l (.lst us)) = H3 at e3 hl3 hr3 S3 ⊢
      refine ⟨r, _, rfl, st_of hr3, rfl, _, _, rfl, _, _, rfl, rfl, ?_⟩
      refine ⟨_, rfl, _, _, rfl, rfl, _, rfl, iteDn (by omega) ?_⟩
      refine ⟨_, rfl, _, rfl, _, rfl, _, rfl, pt, pv_, k, L, wd, n, rfl, hTA.ex e3, hpt.1, hL, fun H4 e4 => ⟨true, rfl, ?_⟩⟩
      have e34 := e3.trans e4
      refine ⟨_, rfl, .inl ⟨rfl, _, sq_of (e4 _ _ hl3)⟩, ?_⟩
      refine ⟨_, rfl, pt, pv_, k, H, rfl, hTA, e34, fun r2 H5 ks e5 hr2 hks KK => ?_⟩
      have e35 := e34.trans e5
      have lks := KK.len
      refine ⟨r2, ks, rfl, sq_of hks, fun D hD => ?_⟩
      refine lc_it (walk_rev (K := K) (a := r2) (xs := ks)) (fun i H6 => Ex H5 H6 ∧ ∃ zs, H6 D = some (.lst zs) ∧ Stk k H H6 zs ((pt.kids.reverse.take i).map fun x => (x, d + 1))) ⟨Ex.new hD, [], upd_same, .nil⟩ (fun i H6 _ hw => sq_of (hw.1 _ _ hks)) (fun i x H6 H7 hi hw hy => ?_) (fun H6 hw => ?_)
      · obtain ⟨e6, zs, hzs, Z⟩ := hw
        obtain ⟨rfl, hx⟩ := hy
        obtain ⟨kt, hkt, hka⟩ := KK.get hx
        have hi2 : i < pt.kids.length := by omega
        have hkt2 : pt.kids.reverse[i]? = some kt := rev_get (by rw [← lks]; exact hkt) hi2
        have lz := Z.len
        refine ⟨rfl, _, rfl, _, rfl, _, _, rfl, rfl, by show 2 ≤ sizeLine; decide, fun q2 hq2 => ?_⟩
        have nDq : D ≠ q2 := fun z => by
          rw [z, hq2] at hzs
          cases hzs
        refine ⟨zs, Ex.new hq2 _ _ hzs, ?_, (e6.trans (Ex.new hq2)).mut hD, zs ++ [.ref q2], upd_same, ?_⟩
        · have : zs.length ≤ i := by
            rw [lz, List.length_map, List.length_take]
            exact Nat.min_le_left _ _
          have l2 := KK.len
          have l3 : pt.kids.length ≤ total pt.kids := by
            have := len_tot (pt.kids.map fun x => (x, 0))
            rw [List.length_map, tot_kids] at this
            exact this
          have l4 := size_kids pt
          exact sz_lt (by omega)
        · rw [take_next' hkt2, List.map_append]
          refine Stk.upd ((Z.ex (Ex.new hq2)).app (.cons upd_same hka .nil)) fun xs hh => ?_
          rw [upd_ne nDq, hzs] at hh
          cases hh
      · obtain ⟨e6, zs, hzs, Z⟩ := hw
        rw [lks, ← List.length_reverse, List.take_length] at Z
        have e46 := e5.trans e6
        have lz := Z.len
        have lu := S3.len
        rw [List.length_map, List.length_reverse] at lz
        have l3 : pt.kids.length ≤ total pt.kids := by
          have := len_tot (pt.kids.map fun x => (x, 0))
          rw [List.length_map, tot_kids] at this
          exact this
        have l4 := size_kids pt
        have l5 := len_tot qs
        have hl6 : H6 l = some (.lst us) := e46 _ _ (e4 _ _ hl3)
        refine ⟨l, D, us, zs, rfl, rfl, hl6, hzs, sz_of (by omega), ?_⟩
        refine ⟨_, rfl, _, _, rfl, rfl, tot (qs ++ pt.kids.reverse.map fun x => (x, d + 1)), ?_, us ++ zs, qs ++ pt.kids.reverse.map fun x => (x, d + 1), nm + 1, _, _, _, rfl, (e35.trans e6).mut hl0, upd_same, ?_, fun p hp => ?_, rfl, ?_⟩
        · rw [tot_app, tot_kids, total_rev]
          omega
        · refine Stk.upd ((S3.ex (e4.trans e46)).app Z) fun xs hh => ?_
          rw [hl6] at hh
          cases hh
        · rcases List.mem_append.mp hp with h | h
          · exact hall p (List.mem_append_left _ h)
          · obtain ⟨x, hx, rfl⟩ := List.mem_map.mp h
            have hx2 := List.mem_reverse.mp hx
            have hd := depth_kids x hx2
            exact ⟨ok_kids hpt.1 x hx2, by show d + 1 + x.depth ≤ 41; omega⟩
        · rw [tot_app, tot_kids, total_rev]
          omega
end
end Law

namespace TR
open PySem PySem.Spec L2 Evl
theorem Kids.last {k : Bool} {H : Hp} : ∀ {vs : List V} {ts : List Tr}, Kids k H vs ts → vs ≠ [] → ∃ us v rs t, vs = us ++ [v] ∧ ts = rs ++ [t] ∧ Kids k H us rs ∧ TA k H v t
  | _, _, .nil, h => absurd rfl h
  | _, _, .cons (v := v) (t := t) h .nil, _ => ⟨[], v, [], t, rfl, rfl, .nil, h⟩
  | _, _, .cons (v := v) (t := t) h (.cons a1 a2), _ => by
    obtain ⟨us, v', rs, t', e1, e2, s, b1⟩ := Kids.last (.cons a1 a2) (by intro q; cases q)
    exact ⟨v :: us, v', t :: rs, t', by rw [e1]; rfl, by rw [e2]; rfl, .cons h s, b1⟩
theorem Kids.rev {k : Bool} {H : Hp} : ∀ {vs : List V} {ts : List Tr}, Kids k H vs ts → Kids k H vs.reverse ts.reverse
  | _, _, .nil => .nil
  | _, _, .cons h r => by
    rw [List.reverse_cons, List.reverse_cons]
    exact r.rev.snoc h
/-! ### trees of tuples do not change with a list -/
mutual
theorem TA.upd {H : Hp} {a : Addr} {o : HO} (hn : ∀ xs, H a ≠ some (.tup xs)) : ∀ {t : Tr} {v : V}, TA true H v t → TA true (L2.upd H a o) v t
  | _, _, .go (a := r) h => .go (by rw [upd_ne (fun q : r = a => hn _ (by rw [← q]; exact h))]; exact h)
  | _, _, .tell (a := r) h r1 => .tell (by rw [upd_ne (fun q : r = a => hn _ (by rw [← q]; exact h))]; exact h) (TA.upd hn r1)
  | _, _, .read (a := r) (b := b) h hb r1 => .read (by rw [upd_ne (fun q : r = a => hn _ (by rw [← q]; exact h))]; exact h) (by rw [upd_ne (fun q : b = a => hn _ (by rw [← q]; exact hb))]; exact hb) (TAs.upd hn r1)
theorem TAs.upd {H : Hp} {a : Addr} {o : HO} (hn : ∀ xs, H a ≠ some (.tup xs)) : ∀ {ts : Trs} {vs : List V}, TAs true H vs ts → TAs true (L2.upd H a o) vs ts
  | _, _, .nil => .nil
  | _, _, .cons h r => .cons (TA.upd hn h) (TAs.upd hn r)
end
theorem Kids.upd {H : Hp} {a : Addr} {o : HO} (hn : ∀ xs, H a ≠ some (.tup xs)) : ∀ {vs : List V} {ts : List Tr}, Kids true H vs ts → Kids true (L2.upd H a o) vs ts
  | _, _, .nil => .nil
  | _, _, .cons h r => .cons (h.upd hn) (Kids.upd hn r)
theorem Kids.tas {k : Bool} {H : Hp} : ∀ {ts : Trs} {vs : List V}, Kids k H vs ts.list → TAs k H vs ts
  | .nil, _, .nil => .nil
  | .cons _ _, _, .cons h r => .cons h (Kids.tas r)
end TR
namespace Law
open PySem PySem.Spec PyProof.Rows L2 Evl TR
theorem total_app (ts us : List Tr) : total (ts ++ us) = total ts + total us := by
  unfold total
  rw [List.map_append, List.sum_append]
theorem len_total (ts : List Tr) : ts.length ≤ total ts := by
  have := len_tot (ts.map fun x => (x, 0))
  rw [List.length_map, tot_kids] at this
  exact this
def spAll : Sp := fun vs H Q _ => ∃ (t : Tr) (v : V) (k : Bool), vs = [v] ∧ TA k H v t ∧ t.size ≤ 10000 ∧ ∀ r H' us, Ex H H' → H r = none → H' r = some (.lst us) → us.length = t.size → Q (.ref r) H'
theorem size_mem {t : Tr} : ∀ {ts : List Tr}, t ∈ ts → t.size ≤ total ts
  | x :: r, h => by
    rcases List.mem_cons.mp h with q | q
    · rw [q]
      exact Nat.le_add_right _ _
    · exact Nat.le_trans (size_mem q) (Nat.le_add_left _ _)
/-- names that leave the states as they are -/
def Same1 (xs : List V) (n : Nat) : Prop := ∀ q : Nat, q < n → atI xs (q : Int) = some (.int (q : Nat))
def spRen (d : Nat) : Sp := fun vs H Q _ => ∃ (t : Tr) (v : V) (k : Bool) (l w n : Nat) (an : Addr) (xs : List V), vs = [v, .ref an] ∧ TA k H v t ∧ t.ok l w n ∧ H an = some (.lst xs) ∧ Same1 xs n ∧ t.depth ≤ d ∧ t.size ≤ 10000 ∧ ∀ H' v', Ex H H' → TA true H' v' t → Q v' H'
section
variable {P : Program} {w : World} {K : PySem.W.Frag} {mg : Str → Option Value} {base : Heap}
theorem ok_all {f : Addr} {fd : FuncData} (F : Fun K "all_parts" "all_parts" s_all_parts f fd) (T : Tx mg) (c_within : Kn P w K mg base "_within" ["part"] 1 spWithin) : FnOk P w K mg base CX0 2 f fd ["tree"] spAll := by
  refine F.ok sc_all_parts (fun vs H Q E h => ?_) (fun cdv A outer s H vs Q E hr h => ?_)
  · obtain ⟨t, v, k, rfl, _⟩ := h
    rfl
  · obtain ⟨t, v, k, rfl, hT, hsz, q⟩ := h
    refine ⟨_, (pss_cons (ps_set (i := 1) sc_all_parts.nd rfl (Or.inl rfl) (pe_lst (pa_cons (pv 0) pa_nil)))
      (pss_cons (ps_set (i := 2) sc_all_parts.nd rfl (Or.inl rfl) (pe_lst pa_nil))
      (pss_cons (ps_while PassesOwn.never (pt_truth (pv 1) (by intro _; rfl)) (pss_cons (ps_set (i := 3) sc_all_parts.nd rfl (Or.inl rfl) (pe_bm0 PySem.F.plainAttrs_list PySem.F.slot_list_pop PySem.F.type_list_pop mt_pop (pv 1)))
      (pss_cons (ps_expr (pe_bm PySem.F.plainAttrs_list PySem.F.slot_list_append PySem.F.type_list_append mt_append (pv 2) (pa_cons (pv 3) pa_nil)))
      (pss_one (ps_expr (pe_bm PySem.F.plainAttrs_list PySem.F.slot_list_extend PySem.F.type_list_extend mt_extend (pv 1) (pa_cons (pe_lc (own := [("inner", 4)]) (g := gName 4) (tt := tYes) rfl sc_all_parts.nd (pi_reversed (by rfl) T.reversed (pa_cons (pe_call c_within.ok (hr.mono (by decide)) (by rfl) c_within.g c_within.kp c_within.b .nil pass0 (pa_cons (pv 3) pa_nil)) pa_nil)) (blkOk_by (N := N_all_parts) (sc := defScope s_all_parts) (by decide +kernel)) (fun _ _ _ _ _ => (pg_name (i := 4) sc_all_parts.nd rfl (Or.inl rfl))) (fun _ _ _ _ _ => pts_nil) (fun _ _ _ _ _ => (pv 4))) pa_nil)))))))
      (pss_one (ps_ret (pv 2)))))), ?_⟩
    refine ⟨_, rfl, by show 1 ≤ sizeLine; decide, fun l1 hl1 => ?_⟩
    have e0 := Ex.new (o := .lst [v]) hl1
    refine ⟨Nat.zero_le _, fun l2 hl2 => ?_⟩
    have hl20 : H l2 = none := fresh_back e0 hl2
    have e1 := e0.trans (Ex.new (o := .lst []) hl2)
    have n12 : l1 ≠ l2 := fun z => by
      rw [← z, upd_same] at hl2
      cases hl2
    refine ⟨fun m σ H' => ∃ (st : List V) (ts : List Tr) (fs : List V) (y3 y4 : Option V), σ = [some v, some (.ref l1), some (.ref l2), y3, y4] ∧ Ex H H' ∧ H' l1 = some (.lst st) ∧ Kids k H st ts ∧ H' l2 = some (.lst fs) ∧ fs.length + total ts = t.size ∧ m = total ts,
      ⟨t.size, [v], [t], [], none, none, rfl, e1, Ex.new hl2 _ _ upd_same, .cons hT .nil, upd_same, by show 0 + (t.size + 0) = t.size; omega, rfl⟩, fun m σ H' hw => ?_⟩
    obtain ⟨st, ts, fs, y3, y4, rfl, e2, hst, KK, hfs, hsum, hm⟩ := hw
    refine ⟨_, rfl, !st.isEmpty, .inl ⟨st, sq_of hst, rfl⟩, ?_⟩
    cases st with
    | nil =>
      refine iteF ?_
      cases KK
      exact ⟨_, rfl, q l2 _ fs e2 hl20 hfs hsum⟩
    | cons s0 srest =>
      refine iteT ?_
      obtain ⟨us, x, rs, pt, eS, eP, K', hTA⟩ := KK.last (by intro z; cases z)
      rw [eS] at hst
      subst eP
      rw [total_app, show total [pt] = pt.size from Nat.add_zero _] at hsum hm
      have hk := size_kids pt
      refine ⟨fun σ2 H2 => ∃ m', m' < m ∧ ∃ (st : List V) (ts : List Tr) (fs : List V) (y3 y4 : Option V), σ2 = [some v, some (.ref l1), some (.ref l2), y3, y4] ∧ Ex H H2 ∧ H2 l1 = some (.lst st) ∧ Kids k H st ts ∧ H2 l2 = some (.lst fs) ∧ fs.length + total ts = t.size ∧ m' = total ts, fun σ2 H2 h => h, ?_⟩
      refine ⟨_, rfl, .inl ⟨rfl, _, sq_of hst⟩, l1, _, _, rfl, rfl, hst, pop_last _ _, ?_⟩
      rw [List.dropLast_concat]
      have e3 : Ex H (L2.upd H' l1 (.lst us)) := e2.mut hl1
      have hl3 : (L2.upd H' l1 (.lst us)) l1 = some (.lst us) := upd_same
      have hf3 : (L2.upd H' l1 (.lst us)) l2 = some (.lst fs) := by
        rw [upd_ne n12.symm]
        exact hfs
      generalize (L2.upd H' l1 (.lst us)) = H3 at e3 hl3 hf3 ⊢
      refine ⟨_, rfl, .inl ⟨rfl, _, sq_of hf3⟩, _, rfl, l2, _, _, rfl, rfl, hf3, sz_lt (by omega), ?_⟩
      have e4 : Ex H (L2.upd H3 l2 (.lst (fs ++ [x]))) := e3.mut hl20
      have hl4 : (L2.upd H3 l2 (.lst (fs ++ [x]))) l1 = some (.lst us) := by
        rw [upd_ne n12]
        exact hl3
      have hf4 : (L2.upd H3 l2 (.lst (fs ++ [x]))) l2 = some (.lst (fs ++ [x])) := upd_same
      generalize (L2.upd H3 l2 (.lst (fs ++ [x]))) = H4 at e4 hl4 hf4 ⊢
      refine ⟨_, rfl, .inl ⟨rfl, _, sq_of hl4⟩, ?_⟩
      refine ⟨_, rfl, pt, x, k, H, rfl, hTA, e4, fun r2 H5 ks e5 hr2 hks KX => ?_⟩
      have lks := KX.len
      have ltk := len_total pt.kids
      refine ⟨r2, ks, rfl, sq_of hks, fun D hD => ?_⟩
      refine lc_it (walk_rev (K := K) (a := r2) (xs := ks)) (fun i H6 => Ex H5 H6 ∧ H6 D = some (.lst (ks.reverse.take i))) ⟨Ex.new hD, upd_same⟩ (fun i H6 _ hw => sq_of (hw.1 _ _ hks)) (fun i z H6 H7 hi hw hy => ?_) (fun H6 hw => ?_)
      · obtain ⟨e6, hz⟩ := hw
        obtain ⟨rfl, hx⟩ := hy
        refine ⟨rfl, _, rfl, _, hz, ?_, e6.mut hD, ?_⟩
        · rw [List.length_take]
          exact sz_lt (by omega)
        · rw [upd_same, take_next' (rev_get hx hi)]
      · obtain ⟨e6, hz⟩ := hw
        rw [← List.length_reverse, List.take_length] at hz
        have hl6 := e6 _ _ (e5 _ _ hl4)
        have lu := K'.len
        have ltr := len_total rs
        refine ⟨l1, D, us, ks.reverse, rfl, rfl, hl6, hz, sz_of (by rw [List.length_reverse]; omega), ?_⟩
        refine ⟨total (rs ++ pt.kids.reverse), by rw [total_app, total_rev]; omega, us ++ ks.reverse, rs ++ pt.kids.reverse, fs ++ [x], _, _, rfl, ((e4.trans e5).trans e6).mut hl1, upd_same, K'.app KX.rev, ?_, ?_, rfl⟩
        · rw [upd_ne n12.symm]
          exact e6 _ _ (e5 _ _ hf4)
        · rw [List.length_append, total_app, total_rev]
          show fs.length + 1 + _ = _
          omega
theorem ok_ren0 {f : Addr} {fd : FuncData} (F : Fun K "renamed" "renamed" s_renamed f fd) (T : Tx mg) (g : mg "renamed" = some (.ref f)) (b : Binds K fd ["tree", "names"] []) : ∀ d : Nat, FnOk P w K mg base CX0 (d + 1) f fd ["tree", "names"] (spRen d)
  | 0 => by
    refine F.ok sc_renamed (fun vs H Q E h => ?_) (fun cdv A outer s H vs Q E hr h => ?_)
    · obtain ⟨t, v, k, l, wd, n, an, xs, rfl, _⟩ := h
      rfl
    · obtain ⟨t, v, k, l, wd, n, an, xs, rfl, hT, hok, han, hS, hd, hsz, q⟩ := h
      exfalso
      cases t
      · exact absurd hd (by show ¬ (1 ≤ 0); omega)
      · exact absurd hd (by show ¬ (_ + 1 ≤ 0); omega)
      · exact absurd hd (by show ¬ (_ + 1 ≤ 0); omega)
  | d + 1 => by
    have c_renamed : Kn P w K mg base "renamed" ["tree", "names"] (d + 1) (spRen d) := ⟨f, fd, ok_ren0 F T g b d, g, F.kp, b⟩
    refine F.ok sc_renamed (fun vs H Q E h => ?_) (fun cdv A outer s H vs Q E hr h => ?_)
    · obtain ⟨t, v, k, l, wd, n, an, xs, rfl, _⟩ := h
      rfl
    · obtain ⟨t, v, k, l, wd, n, an, xs, rfl, hT, hok, han, hS, hd, hsz, q⟩ := h
      refine ⟨_, (pss_cons (ps_asg (pv 0) (TR.pg_seq (by rfl) (pgs_cons (pg_name (i := 2) sc_renamed.nd rfl (Or.inl rfl)) (pgs_cons (pg_name (i := 3) sc_renamed.nd rfl (Or.inl rfl)) (pgs_cons (pg_name (i := 4) sc_renamed.nd rfl (Or.inl rfl)) pgs_nil)))))
      (pss_cons (ps_if (pt_cmpR op_eq (pv 2) pe_str (nomark _)) (pss_one (ps_ret (pe_tup (pa_cons (pv 2) (pa_cons (pv 3) (pa_cons (pe_ix ix_list (pv 1) (pv 4) (fun _ _ => rfl)) pa_nil)))))) pss_nil)
      (pss_cons (ps_if (pt_cmpR op_eq (pv 2) pe_str (nomark _)) (pss_one (ps_ret (pe_tup (pa_cons (pv 2) (pa_cons (pv 3) (pa_cons (pe_call c_renamed.ok (hr.mono (by omega)) (by rfl) c_renamed.g c_renamed.kp c_renamed.b .nil pass0 (pa_cons (pv 4) (pa_cons (pv 1) pa_nil))) pa_nil)))))) pss_nil)
      (pss_one (ps_ret (pe_tup (pa_cons (pv 2) (pa_cons (pv 3) (pa_cons (pe_callTy call_tuple_of (by rfl) T.tuple PyProof.Rows.boot_tuple (pa_cons (pe_lc (own := [("inner", 5)]) (g := gName 5) (tt := tYes) rfl sc_renamed.nd (TR.pi_seq (pv 4)) (blkOk_by (N := N_renamed) (sc := defScope s_renamed) (by decide +kernel)) (fun _ _ _ _ _ => (pg_name (i := 5) sc_renamed.nd rfl (Or.inl rfl))) (fun _ _ _ _ _ => pts_nil) (fun _ _ _ _ _ => (pe_call c_renamed.ok (hr.mono (by omega)) (by rfl) c_renamed.g c_renamed.kp c_renamed.b .nil pass0 (pa_cons (pv 5) (pa_cons (pv 1) pa_nil))))) pa_nil)) pa_nil))))))))), ?_⟩
      cases hT with
      | @go a s' q' h =>
        refine ⟨_, rfl, gSeq_of h rfl ⟨_, _, rfl, _, _, rfl, _, _, rfl, rfl, ?_⟩⟩
        refine ⟨_, rfl, rfl, _, rfl, iteD rfl ?_⟩
        exact ⟨_, rfl, _, rfl, _, rfl, _, rfl, an, _, _, _, rfl, rfl, sq_of han, hS _ hok.2.2, by show 3 ≤ sizeLine; decide, fun r hr2 => q _ _ (Ex.new hr2) (.go upd_same)⟩
      | @tell a n' v' t' h r0 =>
        have hd' : t'.depth ≤ d := by
          have : t'.depth + 1 ≤ d + 1 := hd
          omega
        have hs' : t'.size ≤ 10000 := by
          have : t'.size + 1 ≤ 10000 := hsz
          omega
        refine ⟨_, rfl, gSeq_of h rfl ⟨_, _, rfl, _, _, rfl, _, _, rfl, rfl, ?_⟩⟩
        refine ⟨_, rfl, rfl, _, rfl, iteDn tell_ne_go ?_⟩
        refine ⟨_, rfl, rfl, _, rfl, iteD rfl ?_⟩
        refine ⟨_, rfl, _, rfl, _, rfl, _, rfl, t', v', k, l, wd, n, an, xs, rfl, r0, hok.2, han, hS, hd', hs', fun H1 v1 e1 hv1 => ⟨by show 3 ≤ sizeLine; decide, fun r hr2 => ?_⟩⟩
        exact q _ _ (e1.trans (Ex.new hr2)) (.tell upd_same (hv1.ex (Ex.new hr2)))
      | @read a b' p' us ts h hb r0 =>
        have hd' : ts.depth ≤ d := by
          have : ts.depth + 1 ≤ d + 1 := hd
          omega
        have hs' : ts.size ≤ 9999 := by
          have : ts.size + 1 ≤ 10000 := hsz
          omega
        have KK := r0.kids
        have lks := KK.len
        have ltk := len_total ts.list
        rw [Trs.total] at ltk
        refine ⟨_, rfl, gSeq_of h rfl ⟨_, _, rfl, _, _, rfl, _, _, rfl, rfl, ?_⟩⟩
        refine ⟨_, rfl, rfl, _, rfl, iteDn read_ne_go ?_⟩
        refine ⟨_, rfl, rfl, _, rfl, iteDn read_ne_tell ?_⟩
        refine ⟨_, rfl, _, rfl, ?_⟩
        cases k
        · refine .inl ⟨_, rfl, b', rfl, ⟨us, sq_of hb⟩, fun D hD => lc_it (walk_list (K := K) (a := b') (xs := us)) (fun i H6 => Ex H H6 ∧ ∃ zs, H6 D = some (.lst zs) ∧ Kids true H6 zs (ts.list.take i)) ⟨Ex.new hD, [], upd_same, .nil⟩ (fun i H6 _ hw => sq_of (hw.1 _ _ hb)) (fun i x H6 H7 hi hw hy => ?_) (fun H6 hw => ?_)⟩
          · obtain ⟨e6, zs, hz, Z⟩ := hw
            obtain ⟨rfl, hx⟩ := hy
            obtain ⟨kt, hkt, hka⟩ := KK.get hx
            have mem := List.mem_of_getElem? hkt
            have dk := Trs.depth_mem kt mem
            have sk : kt.size ≤ ts.size := by
              have h1 := size_mem mem
              rw [Trs.total] at h1
              exact h1
            have lz := Z.len
            rw [List.length_take] at lz
            refine ⟨rfl, _, rfl, _, rfl, kt, x, _, l, wd, n, an, xs, rfl, hka.ex e6, Trs.ok_mem hok.2.2 kt mem, e6 _ _ han, hS, by omega, by omega, fun H8 v8 e8 hv8 => ?_⟩
            refine ⟨zs, e8 _ _ hz, sz_lt (by omega), (e6.trans e8).mut hD, zs ++ [v8], upd_same, ?_⟩
            rw [take_next' hkt]
            refine Kids.upd (fun ys hh => ?_) ((Z.ex e8).snoc hv8)
            rw [e8 _ _ hz] at hh
            cases hh
          · obtain ⟨e6, zs, hz, Z⟩ := hw
            rw [lks, List.take_length] at Z
            refine ⟨D, zs, rfl, .inl ⟨sq_of hz, fun t2 ht2 => ⟨by show 3 ≤ sizeLine; decide, fun r hr2 => ?_⟩⟩⟩
            exact q _ _ ((e6.trans (Ex.new ht2)).trans (Ex.new hr2)) (.read upd_same (Ex.new hr2 _ _ upd_same) ((Z.ex ((Ex.new ht2).trans (Ex.new hr2))).tas))
        · refine .inr ⟨_, rfl, b', rfl, ⟨us, st_of hb⟩, fun D hD => lc_it (walk_tup (K := K) (a := b') (xs := us)) (fun i H6 => Ex H H6 ∧ ∃ zs, H6 D = some (.lst zs) ∧ Kids true H6 zs (ts.list.take i)) ⟨Ex.new hD, [], upd_same, .nil⟩ (fun i H6 _ hw => st_of (hw.1 _ _ hb)) (fun i x H6 H7 hi hw hy => ?_) (fun H6 hw => ?_)⟩
          · obtain ⟨e6, zs, hz, Z⟩ := hw
            obtain ⟨rfl, hx⟩ := hy
            obtain ⟨kt, hkt, hka⟩ := KK.get hx
            have mem := List.mem_of_getElem? hkt
            have dk := Trs.depth_mem kt mem
            have sk : kt.size ≤ ts.size := by
              have h1 := size_mem mem
              rw [Trs.total] at h1
              exact h1
            have lz := Z.len
            rw [List.length_take] at lz
            refine ⟨rfl, _, rfl, _, rfl, kt, x, _, l, wd, n, an, xs, rfl, hka.ex e6, Trs.ok_mem hok.2.2 kt mem, e6 _ _ han, hS, by omega, by omega, fun H8 v8 e8 hv8 => ?_⟩
            refine ⟨zs, e8 _ _ hz, sz_lt (by omega), (e6.trans e8).mut hD, zs ++ [v8], upd_same, ?_⟩
            rw [take_next' hkt]
            refine Kids.upd (fun ys hh => ?_) ((Z.ex e8).snoc hv8)
            rw [e8 _ _ hz] at hh
            cases hh
          · obtain ⟨e6, zs, hz, Z⟩ := hw
            rw [lks, List.take_length] at Z
            refine ⟨D, zs, rfl, .inl ⟨sq_of hz, fun t2 ht2 => ⟨by show 3 ≤ sizeLine; decide, fun r hr2 => ?_⟩⟩⟩
            exact q _ _ ((e6.trans (Ex.new ht2)).trans (Ex.new hr2)) (.read upd_same (Ex.new hr2 _ _ upd_same) ((Z.ex ((Ex.new ht2).trans (Ex.new hr2))).tas))
end
end Law

namespace TR
open PySem PySem.Spec L2 Evl
def rLenQ (K : PySem.W.Frag) : List V → Hp → VK → Prop := fun xs H Q => ∃ p ys, xs = [.ref p] ∧ (SqL K H p ys ∨ SqT K H p ys) ∧ Q (.int ys.length) H
end TR
namespace Law
open PySem PySem.Spec PyProof.Rows L2 Evl TR
abbrev lcR (g : TG) (tt : TT) (tl : TE) (vs : List Nat) (σ : L2.St) (Q : Addr → Hp → Prop) : It → Hp → Prop := fun J H1 => ∀ D, H1 D = none → ∃ W : Nat → Nat → Hp → Prop, (∃ m, W 0 m (upd H1 D (.lst []))) ∧ ∀ i m H, W i m H →
  (J.stop i H ∧ Q D H) ∨ (J.go i H ∧ ∃ Nx : Hp → Prop, (∀ H', Nx H' → ∃ m', m' < m ∧ W (i + 1) m' H') ∧ ∀ x H', J.yld i H x H' → g x (wipe σ vs) H' fun σ2 H2 => wipe σ2 vs = wipe σ vs ∧ tt σ2 H2 fun b H3 =>
    if b = true then tl σ2 H3 fun y H4 => ∃ acc, H4 D = some (.lst acc) ∧ acc.length < sizeLine ∧ Nx (upd H4 D (.lst (acc ++ [y]))) else Nx H3)
/-- a walk over a list or a tuple, in a comprehension -/
theorem lcq {K : PySem.W.Frag} {te tl : TE} {g : TG} {tt : TT} {vs : List Nat} {σ : L2.St} {H : Hp} {Q : Addr → Hp → Prop} {a : Addr} {k : Bool} {xs : List V} (h : H a = some (ob k xs)) (hv : ∀ R : VK, R (.ref a) H → te σ H R) (Pv : Addr → Nat → Hp → Prop)
    (h0 : ∀ D, H D = none → Pv D 0 (upd H D (.lst []))) (hk : ∀ D i H', H D = none → Pv D i H' → Ex H H')
    (hs : ∀ D i x H', H D = none → xs[i]? = some x → Pv D i H' → g x (wipe σ vs) H' fun σ2 H2 => wipe σ2 vs = wipe σ vs ∧ tt σ2 H2 fun b H3 =>
      if b = true then tl σ2 H3 fun y H4 => ∃ acc, H4 D = some (.lst acc) ∧ acc.length < sizeLine ∧ Pv D (i + 1) (upd H4 D (.lst (acc ++ [y]))) else Pv D (i + 1) H3)
    (hd : ∀ D H', H D = none → Pv D xs.length H' → Q D H') : iList K te σ H (lcR g tt tl vs σ Q) ∨ iTup K te σ H (lcR g tt tl vs σ Q) := by
  cases k
  · exact .inl (hv _ ⟨a, rfl, ⟨xs, sq_of h⟩, fun D hD => lc_list (Pv D) (h0 D hD) (fun i H' _ p => sq_of (hk D i H' hD p _ _ h)) (fun i x H' hx p => hs D i x H' hD hx p) (fun H' p => hd D H' hD p)⟩)
  · exact .inr (hv _ ⟨a, rfl, ⟨xs, st_of h⟩, fun D hD => lc_tup (Pv D) (h0 D hD) (fun i H' _ p => st_of (hk D i H' hD p _ _ h)) (fun i x H' hx p => hs D i x H' hD hx p) (fun H' p => hd D H' hD p)⟩)
/-- .. in a loop over enumerate -/
theorem forq {K : PySem.W.Frag} {ta : TA} {g : TG} {tb : TS} {D : Ends} {σ : L2.St} {H : Hp} {a : Addr} {k : Bool} {xs : List V} (h : H a = some (ob k xs)) (hv : ∀ R : List V → Hp → Prop, R [.ref a] H → ta σ H R) (Pv : Nat → L2.St → Hp → Prop) (h0 : Pv 0 σ H)
    (hk : ∀ i σ H', Pv i σ H' → Ex H H')
    (hs : ∀ (i : Nat) (x : V) (T : Addr) (σ : L2.St) (H : Hp), xs[i]? = some x → Pv i σ H → H T = none → g (.ref T) σ (upd H T (.tup [.int (i : Nat), x])) fun σ2 H2 => tb { D with nx := Pv (i + 1), ct := Pv (i + 1), bk := D.nx } σ2 H2)
    (hd : ∀ σ H, Pv xs.length σ H → D.nx σ H) : tFor (iEnumQ K ta) g tb D σ H := by
  cases k
  · exact .inl (hv _ ⟨a, xs, rfl, sq_of h, EN.for_enumL Pv h0 (fun i σ H' p => sq_of (hk i σ H' p _ _ h)) hs hd⟩)
  · exact .inr (hv _ ⟨a, xs, rfl, st_of h, EN.for_enumT Pv h0 (fun i σ H' p => st_of (hk i σ H' p _ _ h)) hs hd⟩)
/-- what of the text the class has -/
structure SC (K : PySem.W.Frag) (C : Addr) : Prop where
  cl : Cls K C
  nl : NoAttr K C "letters"
  nw : NoAttr K C "width"
  ns : NoAttr K C "states"
  nn : NoAttr K C "nodes"
def sFs (l w s n : V) : List (Str × V) := [("letters", l), ("width", w), ("states", s), ("nodes", n)]
theorem putF4 (l w s n : V) : putF "nodes" n (putF "states" s (putF "width" w (putF "letters" l []))) = sFs l w s n := by
  have a1 : ¬ (("letters" : Str) = "width") := by decide +kernel
  have a2 : ¬ (("letters" : Str) = "states") := by decide +kernel
  have a3 : ¬ (("letters" : Str) = "nodes") := by decide +kernel
  have a4 : ¬ (("width" : Str) = "states") := by decide +kernel
  have a5 : ¬ (("width" : Str) = "nodes") := by decide +kernel
  have a6 : ¬ (("states" : Str) = "nodes") := by decide +kernel
  simp [putF, sFs, a1, a2, a3, a4, a5, a6]
/-- a searcher: its letters, its width, its trees -/
structure SObj (C : Addr) (H : Hp) (o : Addr) (L : List Nat) (w : Nat) (ts : List Tr) : Prop where
  ex : ∃ (dx st : Addr) (us : List V), H o = some (.ins C dx (sFs (.str (tx L)) (.int (w : Int)) (.ref st) (.int (total ts : Nat)))) ∧ H st = some (.tup us) ∧ Kids true H us ts
theorem sum_sizes : ∀ ts : List Tr, (ts.map fun t => (t.size : Int)).sum = ((total ts : Nat) : Int)
  | [] => rfl
  | t :: r => by
    rw [List.map_cons, List.sum_cons, sum_sizes r]
    show _ = (((t.size + total r : Nat)) : Int)
    omega
def spInit (C : Addr) : Sp := fun vs H Q _ => ∃ (o dx sa : Addr) (L : List Nat) (w : Nat) (kt k : Bool) (xs : List V) (ts : List Tr) (H0 : Hp), vs = [.ref o, .str (tx L), .int (w : Int), .ref sa] ∧ Ex H0 H ∧ H0 o = none ∧ H o = some (.ins C dx []) ∧ H0 sa = some (ob kt xs) ∧ Kids k H0 xs ts ∧ LG L ∧ 1 ≤ w ∧ w ≤ 8 ∧ 1 ≤ ts.length ∧ ts.length ≤ 64 ∧ (∀ t ∈ ts, t.ok L.length w ts.length ∧ t.depth ≤ 40) ∧ total ts ≤ 3000 ∧ ∀ H', Ex H0 H' → SObj C H' o L w ts → Q .non H'
theorem same_rg (n : Nat) : Same1 (rgV 0 (n : Int)) n := by
  intro q hq
  unfold rgV
  rw [show (((n : Int) - 0).toNat) = n by omega]
  refine atI_nat ?_
  rw [List.getElem?_map, List.getElem?_range hq]
  show some (V.int (0 + (q : Int))) = _
  rw [Int.zero_add]
section
variable {P : Program} {w : World} {K : PySem.W.Frag} {mg : Str → Option Value} {base : Heap}
theorem ok_init {f C : Addr} {fd : FuncData} (F : Fun K "__init__" "Searcher.__init__" s_Searcher_init f fd) (T : Tx mg) (S : SC K C) (c_are_letters : Kn P w K mg base "are_letters" ["value"] 1 spAreL)
    (c_is_whole : Kn P w K mg base "is_whole" ["value", "low", "high"] 2 spWhole) (c_is_list : Kn P w K mg base "is_list" ["value"] 1 spIsQ) (c_first_wrong : Kn P w K mg base "first_wrong" ["tree", "letters", "width", "states"] 4 spFW)
    (c_all_parts : Kn P w K mg base "all_parts" ["tree"] 2 spAll) (c_renamed : Kn P w K mg base "renamed" ["tree", "names"] 41 (spRen 40)) : FnOk P w K mg base CX0 42 f fd ["self", "letters", "width", "states"] (spInit C) := by
  refine F.ok sc_Searcher_init (fun vs H Q E h => ?_) (fun cdv A outer s H vs Q E hr h => ?_)
  · obtain ⟨o, dx, sa, L, wd, kt, k, xs, ts, H0, rfl, _⟩ := h
    rfl
  · obtain ⟨o, dx, sa, L, wd, kt, k, xs, ts, H0, rfl, e0, ho0, ho, hsa, KK, hL, w1, w8, n1, n64, hall, htot, q⟩ := h
    have lks := KK.len
    have hL2 := hL.hi
    refine ⟨_, (pss_cons (ps_if (pt_not (pt_val (pe_call c_are_letters.ok (hr.mono (by decide)) (by rfl) c_are_letters.g c_are_letters.kp c_are_letters.b .nil pass0 (pa_cons (pv 1) pa_nil)))) (pss_one ps_never) pss_nil)
      (pss_cons (ps_if (pt_not (pt_val (pe_call c_is_whole.ok (hr.mono (by decide)) (by rfl) c_is_whole.g c_is_whole.kp c_is_whole.b .nil pass0 (pa_cons (pv 2) (pa_cons pe_int (pa_cons (pe_glob (v := .int 8) rfl T.m_MOST_WIDTH ⟨_, rfl⟩) pa_nil)))))) (pss_one ps_never) pss_nil)
      (pss_cons (ps_set (i := 4) sc_Searcher_init.nd rfl (Or.inl rfl) (pe_ifExp (pt_val (pe_call c_is_list.ok (hr.mono (by decide)) (by rfl) c_is_list.g c_is_list.kp c_is_list.b .nil pass0 (pa_cons (pv 3) pa_nil))) (pe_callB call_len_seq (by rfl) T.len PySem.boot_len (pa_cons (pv 3) pa_nil)) pe_int))
      (pss_cons (ps_if (pt_not (pt_chain op_le op_le pe_int (pv 4) (pe_glob (v := .int 64) rfl T.m_MOST_STATES ⟨_, rfl⟩))) (pss_one ps_never) pss_nil)
      (pss_cons (ps_for PassesOwn.never rfl (TR.pi_enumQ (by rfl) T.enumerate (pa_cons (pv 3) pa_nil)) (pg_tup (by rfl) (pgs_cons (pg_name (i := 5) sc_Searcher_init.nd rfl (Or.inl rfl)) (pgs_cons (pg_name (i := 6) sc_Searcher_init.nd rfl (Or.inl rfl)) pgs_nil))) (pss_cons (ps_set (i := 7) sc_Searcher_init.nd rfl (Or.inl rfl) (pe_call c_first_wrong.ok (hr.mono (by decide)) (by rfl) c_first_wrong.g c_first_wrong.kp c_first_wrong.b .nil pass0 (pa_cons (pv 6) (pa_cons (pv 1) (pa_cons (pv 2) (pa_cons (pv 4) pa_nil))))))
      (pss_one (ps_if (pt_cmpR op_notN (pv 7) pe_non (nomark _)) (pss_one ps_never) pss_nil))))
      (pss_cons (ps_set (i := 8) sc_Searcher_init.nd rfl (Or.inl rfl) (pe_callB (cr_sum rfl) (by rfl) T.sum (by decide +kernel) (pa_cons (pe_lc (own := [("tree", 6)]) (g := gName 6) (tt := tYes) rfl sc_Searcher_init.nd (TR.pi_seq (pv 3)) (blkOk_by (N := N_Searcher_init) (sc := defScope s_Searcher_init) (by decide +kernel)) (fun _ _ _ _ _ => (pg_name (i := 6) sc_Searcher_init.nd rfl (Or.inl rfl))) (fun _ _ _ _ _ => pts_nil) (fun _ _ _ _ _ => (pe_callB (show CallR _ _ (TR.rLenQ K) from call_len_seq) (by rfl) T.len PySem.boot_len (pa_cons (pe_call c_all_parts.ok (hr.mono (by decide)) (by rfl) c_all_parts.g c_all_parts.kp c_all_parts.b .nil pass0 (pa_cons (pv 6) pa_nil)) pa_nil)))) pa_nil)))
      (pss_cons (ps_if (pt_cmpR op_gt (pv 8) (pe_glob (v := .int 3000) rfl T.m_MOST_NODES ⟨_, rfl⟩) (nomark _)) (pss_one ps_never) pss_nil)
      (pss_cons (ps_set (i := 9) sc_Searcher_init.nd rfl (Or.inr rfl) (pe_listRg rfl (by rfl) T.list (prg_1 (by rfl) T.range (pv 4))))
      (pss_cons (ps_fld (pv 0) (pv 1) rfl)
      (pss_cons (ps_fld (pv 0) (pv 2) rfl)
      (pss_cons (ps_fld (pv 0) (pe_callTy call_tuple_of (by rfl) T.tuple PyProof.Rows.boot_tuple (pa_cons (pe_lc (own := [("tree", 6)]) (g := gName 6) (tt := tYes) rfl sc_Searcher_init.nd (TR.pi_seq (pv 3)) (blkOk_by (N := N_Searcher_init) (sc := defScope s_Searcher_init) (by decide +kernel)) (fun _ _ _ _ _ => (pg_name (i := 6) sc_Searcher_init.nd rfl (Or.inl rfl))) (fun _ _ _ _ _ => pts_nil) (fun _ _ _ _ _ => (pe_call c_renamed.ok (hr.mono (by decide)) (by rfl) c_renamed.g c_renamed.kp c_renamed.b .nil pass0 (pa_cons (pv 6) (pa_cons (pv 9) pa_nil))))) pa_nil)) rfl)
      (pss_one (ps_fld (pv 0) (pv 8) rfl))))))))))))), ?_⟩
    refine ⟨_, rfl, L, rfl, hL, fun H1 e1 => ⟨true, rfl, ?_⟩⟩
    refine ⟨_, rfl, _, _, _, rfl, by omega, by omega, fun H2 e2 => ⟨true, rfl, ?_⟩⟩
    have e3 := e1.trans e2
    have hs2 := e3 _ _ (e0 _ _ hsa)
    refine ⟨_, rfl, sa, kt, xs, rfl, hs2, fun H3 e4 => ⟨true, rfl, ?_⟩⟩
    have hs3 := e4 _ _ hs2
    refine ⟨_, rfl, sa, _, rfl, ob_seq hs3, ?_⟩
    refine ⟨_, rfl, _, _, rfl, rfl, _, rfl, iteD (by omega) ⟨_, _, rfl, rfl, _, rfl, ite2 (fun hb => ?_) (fun _ => ?_)⟩⟩
    · rw [decide_eq_true (by omega)] at hb
      cases hb
    have e5 := e3.trans e4
    have e6 := e0.trans e5
    refine forq hs3 (fun R h => ⟨_, rfl, h⟩) (fun i σ H' => ∃ y5 y6 y7 : Option V, σ = [some (.ref o), some (.str (tx L)), some (.int (wd : Int)), some (.ref sa), some (.int (xs.length : Nat)), y5, y6, y7, none, none] ∧ Ex H3 H') ⟨none, none, none, rfl, Ex.refl _⟩ (fun i σ H' p => by obtain ⟨_, _, _, _, e⟩ := p; exact e) (fun i x T' σ H' hx p hT => ?_) (fun σ H' p => ?_)
    · obtain ⟨y5, y6, y7, rfl, e7⟩ := p
      have e8 := e7.trans (Ex.new (o := .tup [.int (i : Nat), x]) hT)
      obtain ⟨t, ht, hta⟩ := KK.get hx
      have mem := List.mem_of_getElem? ht
      obtain ⟨tok, tdp⟩ := hall t mem
      have tsz := size_mem mem
      refine ⟨T', _, rfl, .inl (.inl upd_same), rfl, _, _, rfl, _, _, rfl, rfl, ?_⟩
      refine ⟨_, rfl, _, rfl, _, rfl, _, rfl, t, x, k, L, wd, ts.length, by rw [lks]; rfl, hta.ex (e6.trans e8), tok, by omega, tdp, by omega, fun H4 e9 => ?_⟩
      refine ⟨_, rfl, rfl, _, rfl, ite2 (fun hb => by cases hb) (fun _ => ?_)⟩
      exact ⟨_, _, _, rfl, e8.trans e9⟩
    obtain ⟨y5, y6, y7, rfl, e7⟩ := p
    have hs4 := e7 _ _ hs3
    have e8 := e6.trans e7
    refine lcq hs4 (fun R h => ⟨_, rfl, h⟩) (fun D i H'' => Ex H' H'' ∧ H'' D = some (.lst (((ts.take i).map fun t => (t.size : Int)).map V.int))) (fun D hD => ⟨Ex.new hD, upd_same⟩) (fun D i H'' _ p => p.1) (fun D i x H'' hD hx p => ?_) (fun D H'' hD p => ?_)
    · obtain ⟨e9, hz⟩ := p
      obtain ⟨t, ht, hta⟩ := KK.get hx
      have mem := List.mem_of_getElem? ht
      have tsz := size_mem mem
      have hi := (List.getElem?_eq_some_iff.mp ht).1
      refine ⟨rfl, _, rfl, t, x, k, rfl, hta.ex (e8.trans e9), by omega, fun r H5 us e10 hr hus hl => ?_⟩
      refine ⟨r, us, rfl, .inl (sq_of hus), _, e10 _ _ hz, ?_, (e9.trans e10).mut hD, ?_⟩
      · rw [List.length_map, List.length_map, List.length_take]
        exact sz_lt (by omega)
      · rw [upd_same, take_next' ht, List.map_append, List.map_append, hl]
        rfl
    obtain ⟨e9, hz⟩ := p
    rw [lks, List.take_length] at hz
    refine ⟨D, _, rfl, sq_of hz, ?_⟩
    rw [sum_sizes]
    refine ⟨_, rfl, _, _, rfl, rfl, _, rfl, ite2 (fun hb => absurd (of_decide_eq_true hb) (by omega)) (fun _ => ?_)⟩
    refine ⟨_, rfl, _, rfl, RgOk.of_le (by omega) (by omega) (by omega) (by omega), fun an han => ?_⟩
    have eA := (e8.trans e9).trans (Ex.new (o := .lst (rgV 0 (xs.length : Int))) han)
    have hoA := ((((e5.trans e7).trans e9).trans (Ex.new (o := .lst (rgV 0 (xs.length : Int))) han)) _ _ ho)
    have hanA : (upd H'' an (.lst (rgV 0 (xs.length : Int)))) an = some (.lst (rgV 0 (xs.length : Int))) := upd_same
    generalize (upd H'' an (.lst (rgV 0 (xs.length : Int)))) = HA at eA hoA hanA ⊢
    have nao : an ≠ o := ne_of hanA hoA (by intro z; cases z)
    refine ⟨_, rfl, _, rfl, o, C, dx, _, rfl, hoA, S.cl, S.nl, by show 0 < 1000; decide, ?_⟩
    have eB := eA.mut (o := .ins C dx (putF "letters" (.str (tx L)) [])) ho0
    have hoB : (upd HA o (.ins C dx (putF "letters" (.str (tx L)) []))) o = _ := upd_same
    have hanB := (upd_ne (H := HA) (o := .ins C dx (putF "letters" (.str (tx L)) [])) nao).trans hanA
    generalize (upd HA o (.ins C dx (putF "letters" (.str (tx L)) []))) = HB at eB hoB hanB ⊢
    refine ⟨_, rfl, _, rfl, o, C, dx, _, rfl, hoB, S.cl, S.nw, by show 1 < 1000; decide, ?_⟩
    generalize hf2 : putF "width" (.int (wd : Int)) (putF "letters" (.str (tx L)) []) = f2
    have lf2 : f2.length < 1000 := by
      rw [← hf2]
      show 2 < 1000
      decide
    have eC := eB.mut (o := .ins C dx f2) ho0
    have hoC : (upd HB o (.ins C dx f2)) o = _ := upd_same
    have hanC := (upd_ne (H := HB) (o := .ins C dx f2) nao).trans hanB
    generalize (upd HB o (.ins C dx f2)) = HC at eC hoC hanC ⊢
    refine lcq (eC _ _ hsa) (fun R h => ⟨_, rfl, h⟩) (fun D i H'' => Ex HC H'' ∧ ∃ zs, H'' D = some (.lst zs) ∧ Kids true H'' zs (ts.take i)) (fun D hD => ⟨Ex.new hD, [], upd_same, .nil⟩) (fun D i H'' _ p => p.1) (fun D i x H'' hD hx p => ?_) (fun D H'' hD p => ?_)
    · obtain ⟨e9, zs, hz, Z⟩ := p
      obtain ⟨t, ht, hta⟩ := KK.get hx
      have mem := List.mem_of_getElem? ht
      obtain ⟨tok, tdp⟩ := hall t mem
      have tsz := size_mem mem
      have lz := Z.len
      rw [List.length_take] at lz
      refine ⟨rfl, _, rfl, _, rfl, t, x, k, L.length, wd, ts.length, an, _, rfl, hta.ex (eC.trans e9), tok, e9 _ _ hanC, ?_, tdp, by omega, fun H8 v8 e10 hv8 => ?_⟩
      · rw [← lks]
        exact same_rg _
      refine ⟨zs, e10 _ _ hz, sz_lt (by omega), (e9.trans e10).mut hD, zs ++ [v8], upd_same, ?_⟩
      rw [take_next' ht]
      refine Kids.upd (fun ys hh => ?_) ((Z.ex e10).snoc hv8)
      rw [e10 _ _ hz] at hh
      cases hh
    obtain ⟨e9, zs, hz, Z⟩ := p
    rw [lks, List.take_length] at Z
    refine ⟨D, zs, rfl, .inl ⟨sq_of hz, fun t2 ht2 => ?_⟩⟩
    have e10 := e9.trans (Ex.new (o := .tup zs) ht2)
    have hoD := e10 _ _ hoC
    have ZD := Z.ex (Ex.new (o := .tup zs) ht2)
    have ht3 : (upd H'' t2 (.tup zs)) t2 = some (.tup zs) := upd_same
    have eD := eC.trans e10
    generalize (upd H'' t2 (.tup zs)) = HD at hoD ZD ht3 eD ⊢
    have nto : t2 ≠ o := ne_of ht3 hoD (by intro z; cases z)
    refine ⟨_, rfl, o, C, dx, _, rfl, hoD, S.cl, S.ns, lf2, ?_⟩
    refine ⟨_, rfl, _, rfl, o, C, dx, _, rfl, upd_same, S.cl, S.nn, ?_, ?_⟩
    · rw [← hf2]
      show 3 < 1000
      decide
    refine q _ ((eD.mut ho0).mut ho0) ⟨dx, t2, zs, ?_, ?_, ?_⟩
    · rw [upd_same, ← hf2, putF4]
    · rw [upd_ne nto, upd_ne nto]
      exact ht3
    · refine Kids.upd (fun ys hh => ?_) (Kids.upd (fun ys hh => ?_) ZD)
      · rw [upd_same] at hh
        cases hh
      · rw [hoD] at hh
        cases hh
end
end Law

namespace TR
open PySem PySem.Spec L2 Evl
def Trs.of : List Tr → Trs
  | [] => .nil
  | t :: r => .cons t (Trs.of r)
theorem Trs.of_list : ∀ l : List Tr, (Trs.of l).list = l
  | [] => rfl
  | t :: r => congrArg (t :: ·) (Trs.of_list r)
theorem Trs.ok_of {l w n : Nat} : ∀ {ts : List Tr}, (∀ t ∈ ts, t.ok l w n) → (Trs.of ts).ok l w n
  | [], _ => True.intro
  | t :: r, h => ⟨h t List.mem_cons_self, Trs.ok_of fun x hx => h x (List.mem_cons_of_mem _ hx)⟩
theorem Trs.depth_of {d : Nat} : ∀ {ts : List Tr}, (∀ t ∈ ts, t.depth ≤ d) → (Trs.of ts).depth ≤ d
  | [], _ => Nat.zero_le _
  | t :: r, h => Nat.max_le.mpr ⟨h t List.mem_cons_self, Trs.depth_of fun x hx => h x (List.mem_cons_of_mem _ hx)⟩
theorem total_le {s : Nat} : ∀ {ts : List Tr}, (∀ t ∈ ts, t.size ≤ s) → TR.total ts ≤ ts.length * s
  | [], _ => Nat.zero_le _
  | t :: r, h => by
    have h1 := h t List.mem_cons_self
    have h2 := total_le (ts := r) fun x hx => h x (List.mem_cons_of_mem _ hx)
    show t.size + TR.total r ≤ (r.length + 1) * s
    rw [Nat.succ_mul]
    omega
end TR
namespace Law
open PySem PySem.Spec PyProof.Rows L2 Evl TR
theorem PenAt.both {p : PenI} {H0 H : Hp} {a : Addr} {n : Nat} {o : HO} (P : PenAt p H0 H n) (hd : a ≠ p.d) (hc : a ≠ p.c) : PenAt p (L2.upd H0 a o) (L2.upd H a o) n := by
  obtain ⟨e0, h0, hc0, hl, op, lf, ho, hd'⟩ := P
  refine ⟨fun b u e => ?_, by rw [upd_ne hd.symm]; exact h0, by rw [upd_ne hc.symm]; exact hc0, hl, op, lf, ho, by rw [upd_ne hd.symm]; exact hd'⟩
  by_cases q : b = a
  · subst q
    rw [upd_same] at e ⊢
    exact e
  · rw [upd_ne q] at e ⊢
    exact e0 b u e
theorem fresh_nc {p : PenI} {H0 H : Hp} {n : Nat} {a : Addr} (P : PenAt p H0 H n) (h : H a = none) : a ≠ p.c := fun e => by
  rw [e, P.1 _ _ P.2.2.1] at h
  cases h
/-- one more object made -/
theorem PenAt.made {p : PenI} {H0 H : Hp} {a : Addr} {n : Nat} {o : HO} (P : PenAt p H0 H n) (h : H a = none) : PenAt p (L2.upd H0 a o) (L2.upd H a o) n ∧ Ex H0 (L2.upd H0 a o) :=
  ⟨P.both (fresh_ne P h) (fresh_nc P h), Ex.new (fresh0 P h)⟩
/-- draws of a tree, its size -/
def nd : Nat → Nat
  | 0 => 2
  | d + 1 => 2 + 4 * nd d
def sz : Nat → Nat
  | 0 => 1
  | d + 1 => 1 + 4 * sz d
theorem nd_pos : ∀ d, 2 ≤ nd d
  | 0 => Nat.le_refl _
  | d + 1 => Nat.le_add_right _ _
theorem sz_pos : ∀ d, 1 ≤ sz d
  | 0 => Nat.le_refl _
  | d + 1 => Nat.le_add_right _ _
def spTree (k : Nat) : Sp := fun vs H Q _ => ∃ (p : PenI) (H0 : Hp) (n d : Nat) (L : List Nat) (w m : Nat), vs = [.ref p.d, .str (tx L), .int (w : Int), .int (m : Int), .int (d : Int)] ∧ d < k ∧ PenAt p H0 H n ∧ n + nd d < 900000 ∧ 2 ≤ L.length ∧ L.length ≤ 4 ∧ 1 ≤ w ∧ w ≤ 8 ∧ 1 ≤ m ∧ m ≤ 64 ∧
  ∀ H1 H' v t, Ex H0 H1 → PenAt p H1 H' (n + nd d) → TR.TA true H1 v t → t.ok L.length w m → t.depth ≤ d + 1 → t.size ≤ sz d → Q v H'
section
variable {P : Program} {w : World} {K : PySem.W.Frag} {mg : Str → Option Value} {base : Heap}
theorem ok_tree {f : Addr} {fd : FuncData} (F : Fun K "_law_tree" "_law_tree" s_ltree f fd) (T : Tx mg) (g : mg "_law_tree" = some (.ref f)) (b : Binds K fd ["_law_pen_here", "_law_letters_here", "_law_width", "_law_states", "_law_depth"] [])
    (c_ldraw : Kn P w K mg base "_law_draw" ["_law_pen_here", "_law_many"] 1 spDraw) : ∀ k : Nat, FnOk P w K mg base CX0 (k + 2) f fd ["_law_pen_here", "_law_letters_here", "_law_width", "_law_states", "_law_depth"] (spTree k)
  | 0 => by
    refine F.ok sc_ltree (fun vs H Q E h => ?_) (fun cdv A outer s H vs Q E hr h => ?_)
    · obtain ⟨p, H0, n, d, L, wd, m, rfl, _⟩ := h
      rfl
    · obtain ⟨p, H0, n, d, L, wd, m, rfl, hk, _⟩ := h
      exact absurd hk (Nat.not_lt_zero _)
  | k + 1 => by
    have c_ltree : Kn P w K mg base "_law_tree" ["_law_pen_here", "_law_letters_here", "_law_width", "_law_states", "_law_depth"] (k + 2) (spTree k) := ⟨f, fd, ok_tree F T g b c_ldraw k, g, F.kp, b⟩
    refine F.ok sc_ltree (fun vs H Q E h => ?_) (fun cdv A outer s H vs Q E hr h => ?_)
    · obtain ⟨p, H0, n, d, L, wd, m, rfl, _⟩ := h
      rfl
    · obtain ⟨p, H0, n, d, L, wd, m, rfl, hk, P0, hn, l2, l4, w1, w8, m1, m64, q⟩ := h
      have ndp := nd_pos d
      refine ⟨_, (pss_cons (ps_set (i := 5) sc_ltree.nd rfl (Or.inl rfl) (pe_ifExp (pt_cmpR op_gt (pv 4) pe_int (nomark _)) (pe_call c_ldraw.ok (hr.mono (by omega)) (by rfl) c_ldraw.g c_ldraw.kp c_ldraw.b .nil pass0 (pa_cons (pv 0) (pa_cons pe_int pa_nil))) pe_int))
      (pss_cons (ps_if (pt_cmpR op_lt (pv 5) pe_int (nomark _)) (pss_cons (ps_set (i := 6) sc_ltree.nd rfl (Or.inl rfl) (pe_call c_ldraw.ok (hr.mono (by omega)) (by rfl) c_ldraw.g c_ldraw.kp c_ldraw.b .nil pass0 (pa_cons (pv 0) (pa_cons (pe_op op_add (pv 2) pe_int) pa_nil))))
      (pss_one (ps_ret (pe_tup (pa_cons pe_str (pa_cons (pv 6) (pa_cons (pe_callTy call_tuple_of (by rfl) T.tuple PyProof.Rows.boot_tuple (pa_cons (pe_lc (own := [("_law_letter", 7)]) (g := gName 7) (tt := tYes) rfl sc_ltree.nd (pi_str (pv 1)) (blkOk_by (N := N_ltree) (sc := defScope s_ltree) (by decide +kernel)) (fun _ _ _ _ _ => (pg_name (i := 7) sc_ltree.nd rfl (Or.inl rfl))) (fun _ _ _ _ _ => pts_nil) (fun _ _ _ _ _ => (pe_call c_ltree.ok (hr.mono (by omega)) (by rfl) c_ltree.g c_ltree.kp c_ltree.b .nil pass0 (pa_cons (pv 0) (pa_cons (pv 1) (pa_cons (pv 2) (pa_cons (pv 3) (pa_cons (pe_op op_sub (pv 4) pe_int) pa_nil)))))))) pa_nil)) pa_nil))))))) pss_nil)
      (pss_cons (ps_if (pt_cmpR op_eq (pv 5) pe_int (nomark _)) (pss_one (ps_ret (pe_tup (pa_cons pe_str (pa_cons (pe_call c_ldraw.ok (hr.mono (by omega)) (by rfl) c_ldraw.g c_ldraw.kp c_ldraw.b .nil pass0 (pa_cons (pv 0) (pa_cons pe_int pa_nil))) (pa_cons (pe_call c_ltree.ok (hr.mono (by omega)) (by rfl) c_ltree.g c_ltree.kp c_ltree.b .nil pass0 (pa_cons (pv 0) (pa_cons (pv 1) (pa_cons (pv 2) (pa_cons (pv 3) (pa_cons (pe_op op_sub (pv 4) pe_int) pa_nil)))))) pa_nil)))))) pss_nil)
      (pss_one (ps_ret (pe_tup (pa_cons pe_str (pa_cons (pe_op op_add pe_int (pe_call c_ldraw.ok (hr.mono (by omega)) (by rfl) c_ldraw.g c_ldraw.kp c_ldraw.b .nil pass0 (pa_cons (pv 0) (pa_cons (pe_op op_add (pv 2) pe_int) pa_nil)))) (pa_cons (pe_call c_ldraw.ok (hr.mono (by omega)) (by rfl) c_ldraw.g c_ldraw.kp c_ldraw.b .nil pass0 (pa_cons (pv 0) (pa_cons (pv 3) pa_nil))) pa_nil))))))))), ?_⟩
      refine ⟨_, rfl, _, _, rfl, rfl, _, rfl, ite2 (fun hb => ?_) (fun hb => ?_)⟩
      · have hd0 : 0 < (d : Int) := of_decide_eq_true hb
        obtain ⟨d', rfl⟩ : ∃ d', d = d' + 1 := ⟨d - 1, by omega⟩
        have nde : nd (d' + 1) = 2 + 4 * nd d' := rfl
        have sze : sz (d' + 1) = 1 + 4 * sz d' := rfl
        have ndp' := nd_pos d'
        have szp' := sz_pos d'
        have dm : (V.int (((d' + 1 : Nat) : Int) - 1)) = V.int (d' : Int) := congrArg V.int (by omega)
        refine ⟨_, rfl, p, H0, n, 6, rfl, P0, by omega, by decide, by decide, fun H1 r P1 r0 r1 => ?_⟩
        refine ⟨_, rfl, _, _, rfl, rfl, _, rfl, ite2 (fun hb1 => ?_) (fun hb1 => ?_)⟩
        · refine ⟨_, rfl, _, rfl, _, _, rfl, rfl, p, H0, n + 1, _, rfl, P1, by omega, by omega, by omega, fun H2 pl P2 p0 p1 => ?_⟩
          obtain ⟨pn, rfl⟩ : ∃ pn : Nat, pl = (pn : Int) := ⟨pl.toNat, (Int.toNat_of_nonneg p0).symm⟩
          refine ⟨_, rfl, _, rfl, _, rfl, fun D hD => ?_⟩
          have d0 := fresh0 P2 hD
          have d1 := fresh_ne P2 hD
          have d2 := fresh_nc P2 hD
          refine lc_str (x := tx L) (fun i H' => ∃ (Hb : Hp) (zs : List V) (ts : List Tr), Ex H0 Hb ∧ PenAt p Hb H' (n + 2 + i * nd d') ∧ Hb D = some (.lst zs) ∧ Kids true Hb zs ts ∧ ts.length = i ∧ ∀ t ∈ ts, t.ok L.length wd m ∧ t.depth ≤ d' + 1 ∧ t.size ≤ sz d')
            ⟨L2.upd H0 D (.lst []), [], [], Ex.new d0, (P2.both d1 d2).le (by omega), upd_same, .nil, rfl, fun t ht => nomatch ht⟩ (fun i c H' hic hw => ?_) (fun H' hw => ?_)
          · obtain ⟨Hb, zs, ts, e, Pb, hz, KK, hl, hall⟩ := hw
            have hi := (List.getElem?_eq_some_iff.mp (tx_at hic)).1
            have hi4 : (i + 1) * nd d' ≤ 4 * nd d' := Nat.mul_le_mul_right _ (by omega)
            rw [Nat.succ_mul] at hi4
            have lz := KK.len
            refine ⟨rfl, _, rfl, _, rfl, _, rfl, _, rfl, _, rfl, _, _, rfl, rfl, p, Hb, n + 2 + i * nd d', d', L, wd, m, congrArg (fun z => [V.ref p.d, V.str (tx L), V.int (wd : Int), V.int (m : Int), z]) dm, by omega, Pb, by omega, l2, l4, w1, w8, m1, m64, fun H3 H4 v t e3 P4 hta tok tdp tsz => ?_⟩
            refine ⟨zs, P4.1 _ _ (e3 _ _ hz), sz_lt (by omega), L2.upd H3 D (.lst (zs ++ [v])), zs ++ [v], ts ++ [t], (e.trans e3).mut d0, (P4.both d1 d2).le ?_, upd_same, ?_, ?_, ?_⟩
            · rw [Nat.succ_mul]
              omega
            · refine Kids.upd (fun ys hh => ?_) ((KK.ex e3).snoc hta)
              rw [e3 _ _ hz] at hh
              cases hh
            · rw [List.length_append, hl]
              rfl
            · intro x hx
              rcases List.mem_append.mp hx with h | h
              · exact hall x h
              · rw [List.mem_singleton.mp h]
                exact ⟨tok, tdp, tsz⟩
          · obtain ⟨Hb, zs, ts, e, Pb, hz, KK, hl, hall⟩ := hw
            rw [tx_size] at hl
            refine ⟨D, zs, rfl, .inl ⟨sq_of (Pb.1 _ _ hz), fun t2 ht2 => ⟨by show 3 ≤ sizeLine; decide, fun r2 hr2 => ?_⟩⟩⟩
            obtain ⟨Pc, ec⟩ := Pb.made (o := .tup zs) ht2
            obtain ⟨Pd, ed⟩ := Pc.made (o := .tup [.str "read", .int (pn : Int), .ref t2]) hr2
            have hn2 : L.length * nd d' ≤ 4 * nd d' := Nat.mul_le_mul_right _ l4
            have hs2 : L.length * sz d' ≤ 4 * sz d' := Nat.mul_le_mul_right _ l4
            have tot := total_le (s := sz d') fun t ht => (hall t ht).2.2
            rw [hl] at tot
            rw [tx_size] at Pd
            refine q _ _ _ (.read pn (Trs.of ts)) ((e.trans ec).trans ed) (Pd.le (by omega)) (.read upd_same (ed _ _ upd_same) ?_) ⟨by omega, ?_, Trs.ok_of fun t ht => (hall t ht).1⟩ ?_ ?_
            · refine Kids.tas ?_
              rw [Trs.of_list]
              exact KK.ex (ec.trans ed)
            · rw [Trs.of_list]
              exact hl
            · exact Nat.succ_le_succ (Trs.depth_of fun t ht => (hall t ht).2.1)
            · show (Trs.of ts).size + 1 ≤ _
              rw [← Trs.total, Trs.of_list]
              omega
        · refine ⟨_, rfl, rfl, _, rfl, ite2 (fun hb2 => ?_) (fun hb2 => ?_)⟩
          · refine ⟨_, rfl, p, H0, n + 1, 3, rfl, P1, by omega, by decide, by decide, fun H2 r2 P2 s0 s1 => ?_⟩
            obtain ⟨rn, rfl⟩ : ∃ rn : Nat, r2 = (rn : Int) := ⟨r2.toNat, (Int.toNat_of_nonneg s0).symm⟩
            refine ⟨_, rfl, _, rfl, _, rfl, _, rfl, _, rfl, _, _, rfl, rfl, p, H0, n + 2, d', L, wd, m, congrArg (fun z => [V.ref p.d, V.str (tx L), V.int (wd : Int), V.int (m : Int), z]) dm, by omega, P2, by omega, l2, l4, w1, w8, m1, m64, fun H3 H4 v t e3 P4 hta tok tdp tsz => ⟨by show 3 ≤ sizeLine; decide, fun r3 hr3 => ?_⟩⟩
            obtain ⟨Pd, ed⟩ := P4.made (o := .tup [.str "tell", .int (rn : Int), v]) hr3
            exact q _ _ _ (.tell rn t) (e3.trans ed) (Pd.le (by omega)) (.tell upd_same (hta.ex ed)) ⟨by omega, tok⟩ (Nat.succ_le_succ tdp) (by show t.size + 1 ≤ _; omega)
          · refine ⟨_, rfl, _, rfl, _, _, rfl, rfl, p, H0, n + 1, _, rfl, P1, by omega, by omega, by omega, fun H2 r2 P2 s0 s1 => ⟨_, _, rfl, rfl, ?_⟩⟩
            refine ⟨_, rfl, _, rfl, p, H0, n + 2, _, rfl, P2, by omega, by omega, by omega, fun H3 r3 P3 u0 u1 => ⟨by show 3 ≤ sizeLine; decide, fun r4 hr4 => ?_⟩⟩
            obtain ⟨an, rfl⟩ : ∃ an : Nat, r2 = (an : Int) := ⟨r2.toNat, (Int.toNat_of_nonneg s0).symm⟩
            obtain ⟨bn, rfl⟩ : ∃ bn : Nat, r3 = (bn : Int) := ⟨r3.toNat, (Int.toNat_of_nonneg u0).symm⟩
            obtain ⟨Pd, ed⟩ := P3.made (o := .tup [.str "go", .int (1 + (an : Int)), .int (bn : Int)]) hr4
            refine q _ _ _ (.go (1 + an) bn) ed (Pd.le (by omega)) (.go ?_) ⟨by omega, by omega, by omega⟩ (by show 1 ≤ _; omega) (by show 1 ≤ _; omega)
            rw [upd_same]
            rfl
      · have hd0 : d = 0 := by
          have : ¬ (0 < (d : Int)) := fun z => hb (decide_eq_true z)
          omega
        subst hd0
        have nde : nd 0 = 2 := rfl
        refine ⟨_, rfl, _, _, rfl, rfl, _, rfl, ite2 (fun hb1 => absurd (of_decide_eq_true hb1) (by decide)) (fun hb1 => ?_)⟩
        refine ⟨_, rfl, rfl, _, rfl, ite2 (fun hb2 => absurd hb2 (by decide)) (fun hb2 => ?_)⟩
        refine ⟨_, rfl, _, rfl, _, _, rfl, rfl, p, H0, n, _, rfl, P0, by omega, by omega, by omega, fun H2 r2 P2 s0 s1 => ⟨_, _, rfl, rfl, ?_⟩⟩
        refine ⟨_, rfl, _, rfl, p, H0, n + 1, _, rfl, P2, by omega, by omega, by omega, fun H3 r3 P3 u0 u1 => ⟨by show 3 ≤ sizeLine; decide, fun r4 hr4 => ?_⟩⟩
        obtain ⟨an, rfl⟩ : ∃ an : Nat, r2 = (an : Int) := ⟨r2.toNat, (Int.toNat_of_nonneg s0).symm⟩
        obtain ⟨bn, rfl⟩ : ∃ bn : Nat, r3 = (bn : Int) := ⟨r3.toNat, (Int.toNat_of_nonneg u0).symm⟩
        obtain ⟨Pd, ed⟩ := P3.made (o := .tup [.str "go", .int (1 + (an : Int)), .int (bn : Int)]) hr4
        refine q _ _ _ (.go (1 + an) bn) ed (Pd.le (by omega)) (.go ?_) ⟨by omega, by omega, by omega⟩ (by show 1 ≤ _; omega) (by show 1 ≤ 1; omega)
        rw [upd_same]
        rfl
/-- the states drawn -/
def spTrees : Sp := fun vs H Q _ => ∃ (p : PenI) (H0 : Hp) (n : Nat) (L : List Nat) (w m : Nat), vs = [.ref p.d, .str (tx L), .int (w : Int), .int (m : Int), .int 2] ∧ PenAt p H0 H n ∧ n < 800000 ∧ 2 ≤ L.length ∧ L.length ≤ 4 ∧ 1 ≤ w ∧ w ≤ 8 ∧ 1 ≤ m ∧ m ≤ 5 ∧
  ∀ H1 H' r vs ts, Ex H0 H1 → PenAt p H1 H' (n + 1000) → H0 r = none → H1 r = some (.lst vs) → Kids true H1 vs ts → ts.length = m → (∀ t ∈ ts, t.ok L.length w m ∧ t.depth ≤ 3 ∧ t.size ≤ 100) → Q (.ref r) H'
theorem ok_trees {f : Addr} {fd : FuncData} (F : Fun K "_law_trees" "_law_trees" s_ltrees f fd) (T : Tx mg) (c_ltree : Kn P w K mg base "_law_tree" ["_law_pen_here", "_law_letters_here", "_law_width", "_law_states", "_law_depth"] 6 (spTree 4)) :
    FnOk P w K mg base CX0 7 f fd ["_law_pen_here", "_law_letters_here", "_law_width", "_law_many", "_law_depth"] spTrees := by
  refine F.ok sc_ltrees (fun vs H Q E h => ?_) (fun cdv A outer s H vs Q E hr h => ?_)
  · obtain ⟨p, H0, n, L, wd, m, rfl, _⟩ := h
    rfl
  · obtain ⟨p, H0, n, L, wd, m, rfl, P0, hn, l2, l4, w1, w8, m1, m4, q⟩ := h
    refine ⟨_, (pss_one (ps_ret (pe_lc (own := [("_law_k", 5)]) (g := gName 5) (tt := tYes) rfl sc_ltrees.nd (pi_range1 (by rfl) T.range (pa_cons (pv 3) pa_nil)) (blkOk_by (N := N_ltrees) (sc := defScope s_ltrees) (by decide +kernel)) (fun _ _ _ _ _ => (pg_name (i := 5) sc_ltrees.nd rfl (Or.inl rfl))) (fun _ _ _ _ _ => pts_nil) (fun _ _ _ _ _ => (pe_call c_ltree.ok (hr.mono (by decide)) (by rfl) c_ltree.g c_ltree.kp c_ltree.b .nil pass0 (pa_cons (pv 0) (pa_cons (pv 1) (pa_cons (pv 2) (pa_cons (pv 3) (pa_cons (pv 4) pa_nil)))))))))), ?_⟩
    have n3 : nd 2 = 42 := rfl
    have z3 : sz 2 = 21 := rfl
    refine ⟨_, rfl, _, rfl, by omega, by omega, fun D hD => ?_⟩
    have d0 := fresh0 P0 hD
    have d1 := fresh_ne P0 hD
    have d2 := fresh_nc P0 hD
    refine lc_range (lo := 0) (n := m) (fun i H' => ∃ (Hb : Hp) (zs : List V) (ts : List Tr), Ex H0 Hb ∧ PenAt p Hb H' (n + i * 170) ∧ Hb D = some (.lst zs) ∧ Kids true Hb zs ts ∧ ts.length = i ∧ ∀ t ∈ ts, t.ok L.length wd m ∧ t.depth ≤ 3 ∧ t.size ≤ 100)
      ⟨L2.upd H0 D (.lst []), [], [], Ex.new d0, (P0.both d1 d2).le (by omega), upd_same, .nil, rfl, fun t ht => nomatch ht⟩ (fun i H' hi hw => ?_) (fun H' hw => ?_)
    · obtain ⟨Hb, zs, ts, e, Pb, hz, KK, hl, hall⟩ := hw
      have lz := KK.len
      refine ⟨rfl, _, rfl, _, rfl, _, rfl, _, rfl, _, rfl, p, Hb, n + i * 170, 2, L, wd, m, rfl, by decide, Pb, by omega, l2, l4, w1, w8, m1, by omega, fun H3 H4 v t e3 P4 hta tok tdp tsz => ?_⟩
      refine ⟨zs, P4.1 _ _ (e3 _ _ hz), sz_lt (by omega), L2.upd H3 D (.lst (zs ++ [v])), zs ++ [v], ts ++ [t], (e.trans e3).mut d0, (P4.both d1 d2).le (by omega), upd_same, ?_, ?_, ?_⟩
      · refine Kids.upd (fun ys hh => ?_) ((KK.ex e3).snoc hta)
        rw [e3 _ _ hz] at hh
        cases hh
      · rw [List.length_append, hl]
        rfl
      · intro x hx
        rcases List.mem_append.mp hx with h | h
        · exact hall x h
        · rw [List.mem_singleton.mp h]
          exact ⟨tok, tdp, by omega⟩
    · obtain ⟨Hb, zs, ts, e, Pb, hz, KK, hl, hall⟩ := hw
      exact q _ _ _ _ _ e (Pb.le (by omega)) d0 hz KK hl hall
end
end Law

namespace TR
open PySem PySem.Spec PyProof.Rows L2 Evl
/-! ### t + u of tuples, either may be empty -/
theorem cat_tup0 {prog : Program} {w : World} {A : Around} {E : Value → Shared → Prop} {s : Shared} {t b : Addr} {vs ws : List Value} {Q : Value → Shared → Prop} (ht : Heap.IsTuple s.heap t vs.toArray) (hb : Heap.IsTuple s.heap b ws.toArray) (hv : vs = [])
    (h : Q (.ref b) s) : wpAny (model prog w) A (binaryOp .Add (.ref t) (.ref b)) Q E s := by
  obtain ⟨⟨cls, dd, data, sl⟩, ho, hc, n, hd⟩ := id ht
  obtain ⟨⟨cls2, dd2, data2, sl2⟩, ho2, hc2, n2, hd2⟩ := id hb
  simp only at hc hd hc2 hd2
  subst hc hd hc2 hd2
  exact concat_meets ⟨_, ho, rfl⟩ ⟨_, ho2, rfl⟩ noFill_tuple_add seq_tuple_add PySem.F.slot_tuple_add PySem.F.entry_tuple_add (PySem.F.args_tuple_add_2 _ _)
    (tuple_addW0 t b vs.toArray ws.toArray n n2 dd dd2 sl sl2 (by simp [hv])) ⟨ho, ho2, h⟩
def rCatA : R2 := fun x y H Q => ∃ a b xs ys, x = .ref a ∧ y = .ref b ∧ H a = some (.tup xs) ∧ H b = some (.tup ys) ∧ xs.length + ys.length ≤ sizeLine ∧ ∀ p H', Ex H H' → H' p = some (.tup (xs ++ ys)) → Q (.ref p) H'
theorem op_catTA {X : Cx} : OpR X (binaryOp .Add) rCatA := by
  intro pins s σ H x y v u Q I rx ry h
  obtain ⟨a, b, xs, ys, rfl, rfl, ha, hb, hz, q⟩ := h
  by_cases hx : xs = []
  · subst hx
    cases rx
    cases ry
    obtain ⟨its, r1, p1, _⟩ := I.tuple (st_of ha)
    obtain ⟨its2, r2, p2, _⟩ := I.tuple (st_of hb)
    exact cat_tup0 p1 p2 (r1.nil_iff.mpr rfl) ⟨.ref b, H, I, rfl, q b H (Ex.refl _) hb⟩
  · refine op_catT pins s σ H (.ref a) (.ref b) v u Q I rx ry ⟨a, b, xs, ys, rfl, rfl, st_of ha, st_of hb, hx, hz, fun hy => ?_, fun _ p hp => q p _ (Ex.new hp) upd_same⟩
    refine q a H (Ex.refl _) ?_
    rw [hy, List.append_nil]
    exact ha
theorem cut_take (xs : List V) (k : Nat) : cutV xs none (some (k : Int)) = xs.take k := by
  unfold cutV
  rw [HT.sIx_none, HT.sIx_nat, Nat.sub_zero, List.drop_zero, List.take_eq_take_iff]
  omega
theorem cut_drop (xs : List V) (k : Nat) : cutV xs (some (k : Int)) none = xs.drop k := by
  unfold cutV
  rw [HT.sIx_none, HT.sIx_nat]
  by_cases h : k ≤ xs.length
  · rw [Nat.min_eq_left h, List.take_of_length_le (by rw [List.length_drop]; omega)]
  · rw [Nat.min_eq_right (by omega), List.drop_of_length_le (Nat.le_refl _), List.drop_of_length_le (show xs.length ≤ k by omega)]
    rw [List.take_nil]

/-! ### == and != of data nested deeper than 64 -/
def rEqDD (K : PySem.W.Frag) : R2 := fun x y H Q => ∃ d e, Dp K H x d ∧ Dp K H y e ∧ d.canLay0 = true ∧ e.canLay0 = true ∧ d.depth ≤ 180 ∧ Q (.bl (PyData.eqv d e)) H
def rNeDD (K : PySem.W.Frag) : R2 := fun x y H Q => ∃ d e, Dp K H x d ∧ Dp K H y e ∧ d.canLay0 = true ∧ e.canLay0 = true ∧ d.depth ≤ 180 ∧ Q (.bl (!PyData.eqv d e)) H
theorem op_eqDD {X : Cx} {k : Nat} (hr : Room k X.A) : OpR X (compareOp .Eq) (rEqDD X.K) := by
  intro pins s σ H x y v u Q I rx ry h
  obtain ⟨d, e, hd, he, sd, se, hz, q⟩ := h
  obtain ⟨as, r1⟩ := Dp.reads I d x v hd rx
  obtain ⟨bs, r2⟩ := Dp.reads I e y u he ry
  have h2 : min d.depth e.depth ≤ d.depth := Nat.min_le_left _ _
  have := hr.un
  exact SeqAt.compareEq_reads r1 r2 sd se (by omega) ⟨.bl _, H, I, rfl, q⟩
theorem op_neDD {X : Cx} {k : Nat} (hr : Room k X.A) : OpR X (compareOp .NotEq) (rNeDD X.K) := by
  intro pins s σ H x y v u Q I rx ry h
  obtain ⟨d, e, hd, he, sd, se, hz, q⟩ := h
  obtain ⟨as, r1⟩ := Dp.reads I d x v hd rx
  obtain ⟨bs, r2⟩ := Dp.reads I e y u he ry
  have h2 : min d.depth e.depth ≤ d.depth := Nat.min_le_left _ _
  have := hr.un
  exact SeqAt.compareNe_reads r1 r2 sd se (by omega) ⟨.bl _, H, I, rfl, q⟩
end TR

namespace TR
open PySem PySem.Spec L2 Evl
/-! ### a tree as data -/
mutual
def Tr.data : Tr → PyData
  | .go s q => .tuple [.str "go", .int (s : Nat), .int (q : Nat)]
  | .tell n t => .tuple [.str "tell", .int (n : Nat), t.data]
  | .read p ts => .tuple [.str "read", .int (p : Nat), .tuple ts.data]
def Trs.data : Trs → List PyData
  | .nil => []
  | .cons t r => t.data :: r.data
end
mutual
theorem TA.dp {K : PySem.W.Frag} {H : Hp} : ∀ {t : Tr} {v : V}, TA true H v t → Dp K H v t.data
  | _, _, .go h => .tup (st_of h) (.cons (.str _) (.cons (.int _) (.cons (.int _) .nil)))
  | _, _, .tell h r => .tup (st_of h) (.cons (.str _) (.cons (.int _) (.cons (TA.dp r) .nil)))
  | _, _, .read h hb r => .tup (st_of h) (.cons (.str _) (.cons (.int _) (.cons (.tup (st_of hb) (TAs.dp r)) .nil)))
theorem TAs.dp {K : PySem.W.Frag} {H : Hp} : ∀ {ts : Trs} {vs : List V}, TAs true H vs ts → DpAll K H vs ts.data
  | _, _, .nil => .nil
  | _, _, .cons h r => .cons (TA.dp h) (TAs.dp r)
end
theorem Kids.dp {K : PySem.W.Frag} {H : Hp} : ∀ {ts : List Tr} {vs : List V}, Kids true H vs ts → DpAll K H vs (ts.map Tr.data)
  | _, _, .nil => .nil
  | _, _, .cons h r => .cons h.dp (Kids.dp r)
theorem ok_str (x : String) (h : PyData.canLay0 (.str x) = true := by decide +kernel) : PyData.canLay0 (.str x) = true := h
mutual
theorem Tr.lays : ∀ t : Tr, t.data.canLay0 = true
  | .go s q => by
    simp only [Tr.data, PyData.canLay0, PyData.canLayAll0, Bool.and_true]
    decide +kernel
  | .tell n t => by
    simp only [Tr.data, PyData.canLay0, PyData.canLayAll0, Bool.and_true, Bool.true_and, Tr.lays t]
    decide +kernel
  | .read p ts => by
    simp only [Tr.data, PyData.canLay0, PyData.canLayAll0, Bool.and_true, Bool.true_and, Trs.lays ts]
    decide +kernel
theorem Trs.lays : ∀ ts : Trs, PyData.canLayAll0 ts.data = true
  | .nil => by simp only [Trs.data, PyData.canLayAll0]
  | .cons t r => by simp only [Trs.data, PyData.canLayAll0, Tr.lays t, Trs.lays r, Bool.and_true]
end
mutual
theorem Tr.deep : ∀ t : Tr, t.data.depth ≤ 2 * t.depth
  | .go s q => by
    simp only [Tr.data, PyData.depth, PyData.depthAll, Tr.depth]
    decide
  | .tell n t => by
    have := Tr.deep t
    simp only [Tr.data, PyData.depth, PyData.depthAll, Tr.depth]
    omega
  | .read p ts => by
    have := Trs.deep ts
    simp only [Tr.data, PyData.depth, PyData.depthAll, Tr.depth]
    omega
theorem Trs.deep : ∀ ts : Trs, PyData.depthAll ts.data ≤ 2 * ts.depth
  | .nil => Nat.zero_le _
  | .cons t r => by
    have := Tr.deep t
    have := Trs.deep r
    simp only [Trs.data, PyData.depthAll, Trs.depth]
    omega
end
theorem eqv3 (x y : Str) (m n : Nat) (a b : PyData) : PyData.eqv (.tuple [.str x, .int (m : Nat), a]) (.tuple [.str y, .int (n : Nat), b]) = ((x == y) && (((m : Int) == (n : Int)) && (PyData.eqv a b && true))) := by
  simp only [PyData.eqv, PyData.eqvAll]
theorem eqv3_of {x y : Str} {m n : Nat} {a b : PyData} (h : PyData.eqv (.tuple [.str x, .int (m : Nat), a]) (.tuple [.str y, .int (n : Nat), b]) = true) : x = y ∧ m = n ∧ PyData.eqv a b = true := by
  rw [eqv3] at h
  simp only [Bool.and_eq_true, beq_iff_eq] at h
  exact ⟨h.1, by have := h.2.1; omega, h.2.2.1⟩
theorem g_t : ¬ (("go" : Str) = "tell") := by decide +kernel
theorem g_r : ¬ (("go" : Str) = "read") := by decide +kernel
theorem t_r : ¬ (("tell" : Str) = "read") := by decide +kernel
theorem eqvI {m n : Nat} (h : PyData.eqv (.int (m : Nat)) (.int (n : Nat)) = true) : m = n := by
  have h2 : ((m : Int) == (n : Int)) = true := by
    simpa only [PyData.eqv] using h
  have := beq_iff_eq.mp h2
  omega
theorem eqvT {xs ys : List PyData} : PyData.eqv (.tuple xs) (.tuple ys) = PyData.eqvAll xs ys := by
  simp only [PyData.eqv]
mutual
theorem Tr.inj : ∀ t u : Tr, PyData.eqv t.data u.data = true → t = u
  | .go s q, .go s' q', h => by
    obtain ⟨_, h1, h2⟩ := eqv3_of h
    rw [h1, eqvI h2]
  | .tell n t, .tell n' t', h => by
    obtain ⟨_, h1, h2⟩ := eqv3_of h
    rw [h1, Tr.inj t t' h2]
  | .read p ts, .read p' us, h => by
    obtain ⟨_, h1, h2⟩ := eqv3_of h
    rw [eqvT] at h2
    rw [h1, Trs.inj ts us h2]
  | .go _ _, .tell _ _, h => absurd (eqv3_of h).1 g_t
  | .go _ _, .read _ _, h => absurd (eqv3_of h).1 g_r
  | .tell _ _, .go _ _, h => absurd (eqv3_of h).1.symm g_t
  | .tell _ _, .read _ _, h => absurd (eqv3_of h).1 t_r
  | .read _ _, .go _ _, h => absurd (eqv3_of h).1.symm g_r
  | .read _ _, .tell _ _, h => absurd (eqv3_of h).1.symm t_r
theorem Trs.inj : ∀ t u : Trs, PyData.eqvAll t.data u.data = true → t = u
  | .nil, .nil, _ => rfl
  | .cons t r, .cons t' r', h => by
    simp only [Trs.data, PyData.eqvAll, Bool.and_eq_true] at h
    rw [Tr.inj t t' h.1, Trs.inj r r' h.2]
  | .nil, .cons _ _, h => by simp [Trs.data, PyData.eqvAll] at h
  | .cons _ _, .nil, h => by simp [Trs.data, PyData.eqvAll] at h
end
theorem eqv3_mk (x : Str) (m : Nat) {a : PyData} (h : PyData.eqv a a = true) : PyData.eqv (.tuple [.str x, .int (m : Nat), a]) (.tuple [.str x, .int (m : Nat), a]) = true := by
  rw [eqv3, h]
  simp
mutual
theorem Tr.same : ∀ t : Tr, PyData.eqv t.data t.data = true
  | .go s q => eqv3_mk _ _ (by simp only [PyData.eqv, beq_self_eq_true])
  | .tell n t => eqv3_mk _ _ (Tr.same t)
  | .read p ts => eqv3_mk _ _ (by rw [eqvT]; exact Trs.same ts)
theorem Trs.same : ∀ t : Trs, PyData.eqvAll t.data t.data = true
  | .nil => by simp only [Trs.data, PyData.eqvAll]
  | .cons t r => by simp only [Trs.data, PyData.eqvAll, Tr.same t, Trs.same r, Bool.and_true]
end
/-- the states as data -/
def sdata (ts : List Tr) : PyData := .tuple (ts.map Tr.data)
theorem sd_inj : ∀ ts us : List Tr, PyData.eqvAll (ts.map Tr.data) (us.map Tr.data) = true → ts = us
  | [], [], _ => rfl
  | t :: r, u :: s, h => by
    simp only [List.map_cons, PyData.eqvAll, Bool.and_eq_true] at h
    rw [Tr.inj t u h.1, sd_inj r s h.2]
  | [], _ :: _, h => by simp [PyData.eqvAll] at h
  | _ :: _, [], h => by simp [PyData.eqvAll] at h
theorem sd_same : ∀ ts : List Tr, PyData.eqvAll (ts.map Tr.data) (ts.map Tr.data) = true
  | [] => by simp only [List.map_nil, PyData.eqvAll]
  | t :: r => by simp only [List.map_cons, PyData.eqvAll, Tr.same t, sd_same r, Bool.and_true]
theorem sd_lays : ∀ ts : List Tr, PyData.canLayAll0 (ts.map Tr.data) = true
  | [] => by simp only [List.map_nil, PyData.canLayAll0]
  | t :: r => by simp only [List.map_cons, PyData.canLayAll0, Tr.lays t, sd_lays r, Bool.and_true]
theorem sd_deep {d : Nat} : ∀ {ts : List Tr}, (∀ t ∈ ts, t.depth ≤ d) → PyData.depthAll (ts.map Tr.data) ≤ 2 * d
  | [], _ => by simp only [List.map_nil, PyData.depthAll]; exact Nat.zero_le _
  | t :: r, h => by
    have h1 := Tr.deep t
    have h2 := h t List.mem_cons_self
    have h3 := sd_deep (ts := r) fun x hx => h x (List.mem_cons_of_mem _ hx)
    simp only [List.map_cons, PyData.depthAll]
    omega
theorem sd_cl (ts : List Tr) : (sdata ts).canLay0 = true := by
  unfold sdata
  simp only [PyData.canLay0, sd_lays]
theorem sd_dp {d : Nat} {ts : List Tr} (h : ∀ t ∈ ts, t.depth ≤ d) : (sdata ts).depth ≤ 2 * d + 1 := by
  have h1 := sd_deep h
  unfold sdata
  simp only [PyData.depth]
  omega
theorem sd_shaped {ts : List Tr} (h : ∀ t ∈ ts, t.depth ≤ 31) : SeqAt.shaped (sdata ts) = true := by
  have h1 := sd_deep h
  unfold SeqAt.shaped sdata
  rw [Bool.and_eq_true]
  refine ⟨by simp only [PyData.canLay0, sd_lays], decide_eq_true ?_⟩
  simp only [PyData.depth]
  omega
theorem sd_eqv {ts us : List Tr} (d : Bool) (h : d = true ↔ ts = us) : PyData.eqv (sdata ts) (sdata us) = d := by
  unfold sdata
  rw [eqvT]
  cases d
  · cases e : PyData.eqvAll (ts.map Tr.data) (us.map Tr.data)
    · rfl
    · exact absurd (h.mpr (sd_inj _ _ e)) (by decide)
  · rw [h.mp rfl]
    exact sd_same _
end TR

namespace GD
open PySem PySem.Spec PyProof.Rows L2
/-- a law's promise, where no text of an object is being made -/
structure Gd (P : Program) (w : World) (K : PySem.W.Frag) (mg : Str → Option Value) (base : Heap) (k : Nat) (f : Addr) (fd : FuncData) (ps : List Str) (sp : Sp) : Prop where
  run : ∀ (A : Around) (outer : List Env) (s : Shared) (H : Hp) (args : Args) (us : List Value) (vs : List V) (Q : VK) (E : XK), Room k A → A.guards = some [] → Env0 P w K mg base A outer s H → BindsTo s fd args (ps.zip us) → Vals vs us → sp vs H Q E →
    codeAny (model P w) A (.call (.ref f) args) (CR CX0 outer P w H s Q E) s
section
variable {P : Program} {w : World} {K : PySem.W.Frag} {mg : Str → Option Value} {base : Heap}
theorem deeper_guards {A : Around} {env : Env} (h : A.guards = some []) : (A.deeper env).guards = some [] := h
/-- the rule for a def, once more -/
theorem okG {x qual : Str} {st : Stmt} {f : Addr} {fd : FuncData} {N ps : List Str} {k : Nat} {sp : Sp} (F : Fun K x qual st f fd) (S : FnScope N ps (defScope st)) (len : ∀ vs H Q E, sp vs H Q E → vs.length = ps.length)
    (hbody : ∀ (cdv : Value) (A : Around) (outer : List Env) (s : Shared) (H : Hp) (vs : List V) (Q : VK) (E : XK), Room k (A.deeper (envOfC qual (defScope st) s.heap.objs.size f cdv)) → (A.deeper (envOfC qual (defScope st) s.heap.objs.size f cdv)).guards = some [] → sp vs H Q E →
      ∃ t, PSs (cxOf CX0 P w K mg base N qual (defScope st) f cdv A outer s H E).nox (defBody st) t ∧ t { nx := fun _ H' => Q .non H', rt := Q } (start N vs) H) : Gd P w K mg base (k + 1) f fd ps sp := by
  obtain ⟨oc, od, kV, doc, pm, an, cdv, ct, osl, rfl, lk, hcd⟩ := F.ex
  refine ⟨fun A outer s H args us vs Q E hr hg e0 hb r hsp => ?_⟩
  have kin : K.In s.heap := e0.mod.kin.keeps fun b o e => (e0.bs b o e).1
  have nolim : s.heap.NoLimit := e0.mod.nolimit.keeps fun b o e => (e0.bs b o e).1
  have names : ∀ y ∈ ps.zip us, (defScope st).names.lookup y.1 = some .local ∨ ((defScope st).names.lookup y.1 = some .cell ∧ ((cellsFrom (s.heap.objs.size + 1) (defScope st).names []).lookup y.1).isSome = true) := by
    rintro ⟨n, v⟩ hy
    rcases S.par n (List.of_mem_zip hy).1 with q | q
    · exact .inl q
    · exact .inr ⟨q, PySem.W.cellsFrom_some _ _ _ (.inl q)⟩
  refine codeAny_call_function hr.depth (kin _ _ lk) rfl S.co S.gen rfl (PySem.W.codeRec_of kin hcd) (hb _ _ _ _ (wpAny_newFunctionEnv_cells S.kind names fun env he s1 z => ?_))
  subst he
  refine ⟨nolim.keeps z.toInCall.keep, codeAny_func ?_⟩
  obtain ⟨t, ht, hq⟩ := hbody cdv A outer s H vs Q E (hr.deeper _) (deeper_guards hg) hsp
  have I := inv_start (CX := CX0) (E := E) S hr.hd e0 (len _ _ _ _ hsp) r z
  refine wpAny_mono (ht.nox.run [] s1 (start N vs) H _ I hq) (fun fl s' hs => ?_) fun e s' hs => hs
  cases fl with
  | ret u =>
    obtain ⟨v, σ', H', J, rv, q⟩ := hs
    exact ⟨v, H', J.os, J.bare, J.base, J.hok, rv, q⟩
  | next =>
    obtain ⟨σ', H', J, q⟩ := hs
    exact ⟨V.non, H', J.os, J.bare, J.base, J.hok, rfl, q⟩
  | brk =>
    obtain ⟨_, _, _, q⟩ := hs
    exact q.elim
  | cont =>
    obtain ⟨_, _, _, q⟩ := hs
    exact q.elim
end
/-! ### the end: the law's promise at the heap behind the top -/
/-- the script alone is known -/
def one (a : Addr) (vs : List Value) (ns : List Int) : Hp := fun b => if b = a then some (.frz { cls := .type "list", data := .seq vs.toArray } (.lst (ns.map V.int))) else none
theorem callG {P : Program} {w : World} {K : PySem.W.Frag} {mg mb : Str → Option Value} {k : Nat} {fa a : Addr} {fd : FuncData} {x : Str} {sp : Sp} {s : Shared} {vs : List Value} {ns : List Int}
    (kin : K.In s.heap) (hns : s.heap.Ns mainGlobals mg) (hb : s.heap.Ns builtinsNs mb) (hbb : ∀ x : Str, x ≠ "__name__" → mb x = bootBuiltins x) (nolim : s.heap.NoLimit) (gens : s.gens = #[])
    (ha : s.heap.get? a = some { cls := .type "list", data := .seq vs.toArray }) (hi : IntsAre vs ns) (hl : ns.length ≤ sizeLine) (room : Room k callerA)
    (F : ∀ base : Heap, K.In base → base.Ns mainGlobals mg → Gd P w K mg base k fa fd [x] sp) (binds : ∀ (s : Shared) (u : Value), BindsTo s fd ⟨[u], []⟩ [(x, u)])
    (hsp : ∀ H : Hp, SqL K H a (ns.map V.int) → sp [.ref a] H (fun v _ => v = .bl true) E0) :
    codeAny (model P w) callerA (.call (.ref fa) ⟨[.ref a], []⟩) (fun r s' => r = .ok (.ret (.bool true)) ∧ OldK s.heap s'.heap ∧ s'.os = s.os ∧ AllBare s'.gens) s := by
  have rv := vals_ints hi
  have step : ∀ H : Hp, (∀ b u, H b = some u → b = a ∧ K.lookup a = none ∧ ∃ o xs, u = .frz o (.lst xs)) → HOk P w H s.heap → SqL K H a (ns.map V.int) →
      codeAny (model P w) callerA (.call (.ref fa) ⟨[.ref a], []⟩) (fun r s' => r = .ok (.ret (.bool true)) ∧ OldK s.heap s'.heap ∧ s'.os = s.os ∧ AllBare s'.gens) s := by
    intro H only hok hS
    have free : ∀ {b : Addr}, b ≠ a → H b = none := fun {b} n => by
      cases e : H b with
      | none => rfl
      | some u => exact absurd (only b u e).1 n
    have stays : ∀ {b : Addr} {m : Str → Option Value}, s.heap.Ns b m → (hidT s.heap H).Ns b m := fun {b m} ⟨o, es, ep, e, d, r⟩ => by
      refine ⟨o, es, ep, hidT_get e (free fun z => ?_), d, r⟩
      rw [z, ha] at e
      cases e
      cases (show Data.seq vs.toArray _ = Data.dict es ep from d)
    have kinB : K.In (hidT s.heap H) := fun b o e => hidT_get (kin b o e) (by
      cases q : H b with
      | none => rfl
      | some u =>
        obtain ⟨h1, h2, _⟩ := only b u q
        rw [h1, h2] at e
        cases e)
    have e0 : Env0 P w K mg (hidT s.heap H) callerA [] s H :=
      ⟨rfl, ⟨kinB, stays hns, ⟨mb, stays hb, hbb⟩, let ⟨mc, h1, h2⟩ := nolim; ⟨mc, stays h1, h2⟩⟩, fun b o e => of_hidT e, Nat.le_of_eq (hidT_size _ _), trivial, fun b hb => (nomatch (show b ∈ ([] : List Addr) from hb)), hok, .of_eq gens⟩
    refine codeAny_mono ((F _ kinB (stays hns)).run callerA [] s H ⟨[.ref a], []⟩ [.ref a] [.ref a] _ E0 room rfl e0 (binds s (.ref a)) (.cons rfl .nil) (hsp H hS)) fun r s' h => ?_
    cases r with
    | error e => exact h.elim
    | ok fl =>
      cases fl with
      | ret u =>
        obtain ⟨v, H', os, bare, un, hok', r', q⟩ := h
        obtain rfl : v = .bl true := q
        obtain rfl : u = Value.bool true := r'
        refine ⟨rfl, OldK.of_keep fun b o e => ?_, os, bare⟩
        cases q : H b with
        | none => exact un.keep b o e q (by intro z; exact (nomatch (show b ∈ ([] : List Addr) from z))) (by simp)
        | some u =>
          obtain ⟨_, _, ob, xs, rfl⟩ := only b u q
          obtain ⟨e1, _⟩ := hok b _ q
          obtain ⟨e2, _⟩ := hok' b _ (un.frzs b ob _ q)
          rw [e] at e1
          cases e1
          exact e2
      | next => exact h.elim
      | brk => exact h.elim
      | cont => exact h.elim
  cases hk : K.lookup a with
  | some o =>
    have e := kin a o hk
    rw [ha] at e
    cases e
    refine step (fun _ => none) (fun b u z => by cases z) (fun b u z => by cases z) (.inr ⟨_, vs.toArray, _, hk, rfl, rfl, rfl, ?_, by simpa using rv⟩)
    rw [List.size_toArray, hi.length]
    exact hl
  | none =>
    refine step (one a vs ns) (fun b u z => ?_) (fun b u z => ?_) (.inl (.inr ⟨_, if_pos rfl⟩))
    · unfold one at z
      by_cases q : b = a
      · rw [if_pos q] at z
        cases z
        exact ⟨q, hk, _, _, rfl⟩
      · rw [if_neg q] at z
        cases z
    · unfold one at z
      by_cases q : b = a
      · rw [if_pos q] at z
        cases z
        subst q
        exact ⟨ha, by rw [List.length_map]; exact hl, vs, _, rv, ha⟩
      · rw [if_neg q] at z
        cases z
theorem walkG {l : PySem.W.OpenLaw} {n k : Nat} {q : Program} {loose : List Str} {XP : (Str → Option Value) → Heap → Prop} {YP : World → Heap → Prop} {d : DefRec} {K : Params → PySem.W.Frag} {sp : World → Sp} {x : Str}
    (hn : l.most = some n) (hn2 : n ≤ sizeLine) (hdf : d.params.defaults = []) (hr : Room k callerA) (hY : ∀ (w : World) (h : Heap), YP w h → (K w.params).In h)
    (F : ∀ (w : World) (mg : Str → Option Value) (fa : Addr) (h : Heap), (K w.params).In h → h.Ns mainGlobals mg → mg d.name = some (.ref fa) →
      ∃ fd : FuncData, (∀ (s : Shared) (u : Value), BindsTo s fd ⟨[u], []⟩ [(x, u)]) ∧ ∀ base : Heap, (K w.params).In base → base.Ns mainGlobals mg → Gd l.prog w (K w.params) mg base k fa fd [x] (sp w))
    (hsp : ∀ (w : World) (H : Hp) (a : Addr) (ns : List Int), ns.length ≤ n → SqL (K w.params) H a (ns.map V.int) → sp w [.ref a] H (fun v _ => v = .bl true) E0) :
    PySem.W.WalkO q loose XP YP l.row.toRowW d [] (fun f vs => PySem.call f vs) := by
  refine Att.attach_call hn hdf fun w s₀ s₁ mg mb fa o pm cd doc a vs ns G Y ho hd hcd hmg hobj hints hlen hg => ?_
  have kin := hY w _ Y
  obtain ⟨fd, hb, hF⟩ := F w mg fa _ kin G.T.g hmg
  exact callG kin G.T.g G.T.b G.T.builtins G.T.nolimit hg hobj hints (Nat.le_trans hlen hn2) hr hF hb fun H hS => hsp w H a ns hlen hS
end GD

namespace TR
open PySem PySem.Spec L2 Evl
theorem dig (n : Nat) (h : n < 100) : ((toString ((n : Nat) : Int) : String) : Str).length ≤ 2 := by
  have all : ∀ i : Fin 100, ((toString ((i.val : Nat) : Int) : String) : Str).length ≤ 2 := by decide +kernel
  exact all ⟨n, h⟩
theorem q_go : (reprText ("go" : Str)).length ≤ 6 := by decide +kernel
theorem q_tell : (reprText ("tell" : Str)).length ≤ 6 := by decide +kernel
theorem q_read : (reprText ("read" : Str)).length ≤ 6 := by decide +kernel
theorem shown3 (x : Str) (n : Nat) (a : PyData) (hx : (reprText x).length ≤ 6) (hn : n < 100) : (PyData.shown (.tuple [.str x, .int (n : Nat), a])).length ≤ 16 + a.shown.length := by
  have h1 := fmt_text [reprText x, ((toString ((n : Nat) : Int) : String) : Str), a.shown]
  rw [piled_cons, piled_cons, piled_cons] at h1
  have h2 := dig n hn
  have e0 : piled [] = 0 := rfl
  have e : PyData.shown (.tuple [.str x, .int (n : Nat), a]) = tupleText [reprText x, ((toString ((n : Nat) : Int) : String) : Str), a.shown] := by
    simp only [PyData.shown, PyData.shownAll]
  rw [e]
  omega
mutual
theorem Tr.shown_le {l w n : Nat} (hw : w ≤ 8) (hn : n ≤ 64) : ∀ t : Tr, t.ok l w n → t.data.shown.length + 2 ≤ 40 * t.size
  | .go s q, h => by
    have h1 := shown3 "go" s (.int (q : Nat)) q_go (by have := h.2.1; omega)
    have h2 : (PyData.shown (.int (q : Nat))).length ≤ 2 := by
      have e : PyData.shown (.int (q : Nat)) = ((toString ((q : Nat) : Int) : String) : Str) := by simp only [PyData.shown]
      rw [e]
      exact dig q (by have := h.2.2; omega)
    show (PyData.shown (.tuple [.str "go", .int (s : Nat), .int (q : Nat)])).length + 2 ≤ 40 * 1
    omega
  | .tell k t, h => by
    have h1 := shown3 "tell" k t.data q_tell (by have := h.1; omega)
    have h2 := Tr.shown_le hw hn t h.2
    show (PyData.shown (.tuple [.str "tell", .int (k : Nat), t.data])).length + 2 ≤ 40 * (t.size + 1)
    omega
  | .read p ts, h => by
    have h1 := shown3 "read" p (.tuple ts.data) q_read (by have := h.1; omega)
    have h2 := Trs.shown_le hw hn ts h.2.2
    have h3 := fmt_text (PyData.shownAll ts.data)
    have e : PyData.shown (.tuple ts.data) = tupleText (PyData.shownAll ts.data) := by simp only [PyData.shown]
    rw [e] at h1
    show (PyData.shown (.tuple [.str "read", .int (p : Nat), .tuple ts.data])).length + 2 ≤ 40 * (ts.size + 1)
    omega
theorem Trs.shown_le {l w n : Nat} (hw : w ≤ 8) (hn : n ≤ 64) : ∀ ts : Trs, ts.ok l w n → piled (PyData.shownAll ts.data) ≤ 40 * ts.size
  | .nil, _ => by
    have e : PyData.shownAll Trs.nil.data = [] := by simp only [Trs.data, PyData.shownAll]
    rw [e]
    exact Nat.zero_le _
  | .cons t r, h => by
    have h1 := Tr.shown_le hw hn t h.1
    have h2 := Trs.shown_le hw hn r h.2
    have e : PyData.shownAll (Trs.cons t r).data = t.data.shown :: PyData.shownAll r.data := by simp only [Trs.data, PyData.shownAll]
    rw [e, piled_cons]
    show _ ≤ 40 * (t.size + r.size)
    omega
end
theorem sd_piled {l w n : Nat} (hw : w ≤ 8) (hn : n ≤ 64) : ∀ {ts : List Tr}, (∀ t ∈ ts, t.ok l w n) → piled (PyData.shownAll (ts.map Tr.data)) ≤ 40 * TR.total ts
  | [], _ => by
    have e : PyData.shownAll (([] : List Tr).map Tr.data) = [] := by simp only [List.map_nil, PyData.shownAll]
    rw [e]
    exact Nat.zero_le _
  | t :: r, h => by
    have h1 := Tr.shown_le hw hn t (h t List.mem_cons_self)
    have h2 := sd_piled hw hn (ts := r) fun x hx => h x (List.mem_cons_of_mem _ hx)
    have e : PyData.shownAll ((t :: r).map Tr.data) = t.data.shown :: PyData.shownAll (r.map Tr.data) := by simp only [List.map_cons, PyData.shownAll]
    rw [e, piled_cons]
    show _ ≤ 40 * (t.size + TR.total r)
    omega
theorem sd_shown {l w n : Nat} (hw : w ≤ 8) (hn : n ≤ 64) {ts : List Tr} (h : ∀ t ∈ ts, t.ok l w n) : (sdata ts).shown.length ≤ 40 * TR.total ts + 2 := by
  have h1 := fmt_text (PyData.shownAll (ts.map Tr.data))
  have h2 := sd_piled hw hn h
  have e : (sdata ts).shown = tupleText (PyData.shownAll (ts.map Tr.data)) := by
    unfold sdata
    simp only [PyData.shown]
  rw [e]
  omega
/-- repr of data, where no text is being made -/
structure RP (K : PySem.W.Frag) (xs : List V) (H : Hp) (Q : VK) : Prop where
  ex : ∃ a d, xs = [.ref a] ∧ Dp K H (.ref a) d ∧ d.showable = true ∧ d.hasDict = false ∧ d.depth ≤ 180 ∧ d.shown.length ≤ sizeLine ∧ Q (.str d.shown) H
abbrev rRepr (K : PySem.W.Frag) : List V → Hp → VK → Prop := fun xs H Q => RP K xs H Q
theorem call_reprD {X : Cx} (hg : X.A.guards = some []) (hu : X.A.units + 190 < cLine) : CallR X (.builtin "repr") (rRepr X.K) := by
  intro pins s σ H xs us Q I r h
  obtain ⟨a, d, rfl, hd, h1, h2, h3, h4, q⟩ := h.ex
  obtain ⟨u, rfl, ru⟩ := vals1 r
  obtain ⟨as, rd⟩ := Dp.reads I d _ u hd ru
  cases ru
  exact repr_of_reads' rd h1 (fun e => by rw [h2] at e; cases e) hg (by omega) (fun _ _ e => e) (fun h' u tk hk => ⟨.str d.shown, H, I.kept hk, ⟨u, rfl⟩, q⟩) h4
theorem shI {n : Nat} (h : n < 100) : PyData.showable (.int (n : Nat)) = true := by
  have all : ∀ i : Fin 100, PyData.showable (.int (i.val : Nat)) = true := by
    intro i
    simp only [PyData.showable, decide_eq_true_eq]
    revert i
    decide +kernel
  exact all ⟨n, h⟩
theorem sh3 (x : Str) {n : Nat} {a : PyData} (h : n < 100) (ha : a.showable = true) : PyData.showable (.tuple [.str x, .int (n : Nat), a]) = true := by
  have h2 := shI h
  simp only [PyData.showable, PyData.showableAll, Bool.and_true, Bool.true_and] at h2 ⊢
  rw [h2, ha]
  rfl
theorem hd3 (x : Str) {n : Nat} {a : PyData} (ha : a.hasDict = false) : PyData.hasDict (.tuple [.str x, .int (n : Nat), a]) = false := by
  simp only [PyData.hasDict, PyData.hasDictAll, Bool.or_false, Bool.false_or, ha]
mutual
theorem Tr.shows {l w n : Nat} (hw : w ≤ 8) (hn : n ≤ 64) : ∀ t : Tr, t.ok l w n → t.data.showable = true ∧ t.data.hasDict = false
  | .go s q, h => ⟨sh3 _ (by have := h.2.1; omega) (shI (by have := h.2.2; omega)), hd3 _ (by simp only [PyData.hasDict])⟩
  | .tell k t, h => ⟨sh3 _ (by have := h.1; omega) (Tr.shows hw hn t h.2).1, hd3 _ (Tr.shows hw hn t h.2).2⟩
  | .read p ts, h => ⟨sh3 _ (by have := h.1; omega) (by simp only [PyData.showable]; exact (Trs.shows hw hn ts h.2.2).1), hd3 _ (by simp only [PyData.hasDict]; exact (Trs.shows hw hn ts h.2.2).2)⟩
theorem Trs.shows {l w n : Nat} (hw : w ≤ 8) (hn : n ≤ 64) : ∀ ts : Trs, ts.ok l w n → PyData.showableAll ts.data = true ∧ PyData.hasDictAll ts.data = false
  | .nil, _ => ⟨by simp only [Trs.data, PyData.showableAll], by simp only [Trs.data, PyData.hasDictAll]⟩
  | .cons t r, h => ⟨by simp only [Trs.data, PyData.showableAll, (Tr.shows hw hn t h.1).1, (Trs.shows hw hn r h.2).1, Bool.and_true], by simp only [Trs.data, PyData.hasDictAll, (Tr.shows hw hn t h.1).2, (Trs.shows hw hn r h.2).2, Bool.or_false]⟩
end
theorem sd_shows {l w n : Nat} (hw : w ≤ 8) (hn : n ≤ 64) : ∀ {ts : List Tr}, (∀ t ∈ ts, t.ok l w n) → PyData.showableAll (ts.map Tr.data) = true ∧ PyData.hasDictAll (ts.map Tr.data) = false
  | [], _ => ⟨by simp only [List.map_nil, PyData.showableAll], by simp only [List.map_nil, PyData.hasDictAll]⟩
  | t :: r, h => by
    have h1 := Tr.shows hw hn t (h t List.mem_cons_self)
    have h2 := sd_shows hw hn (ts := r) fun x hx => h x (List.mem_cons_of_mem _ hx)
    exact ⟨by simp only [List.map_cons, PyData.showableAll, h1.1, h2.1, Bool.and_true], by simp only [List.map_cons, PyData.hasDictAll, h1.2, h2.2, Bool.or_false]⟩
/-- the text of the states -/
theorem repr_st {K : PySem.W.Frag} {H : Hp} {a : Addr} {us : List V} {ts : List Tr} {l w n : Nat} {Q : VK} (h : H a = some (.tup us)) (KK : Kids true H us ts) (hw : w ≤ 8) (hn : n ≤ 64) (hok : ∀ t ∈ ts, t.ok l w n) (hd : ∀ t ∈ ts, t.depth ≤ 31) (hs : TR.total ts ≤ 10000)
    (q : Q (.str (sdata ts).shown) H) : RP K [.ref a] H Q := by
  have h1 := sd_shown hw hn hok
  have h2 := sd_shows hw hn hok
  have h3 := sd_deep hd
  refine ⟨⟨a, sdata ts, rfl, .tup (st_of h) KK.dp, ?_, ?_, ?_, Nat.le_trans (show (sdata ts).shown.length ≤ 1000000 by omega) (by decide), q⟩⟩
  · unfold sdata
    simp only [PyData.showable]
    exact h2.1
  · unfold sdata
    simp only [PyData.hasDict]
    exact h2.2
  · unfold sdata
    simp only [PyData.depth]
    omega
end TR

/-! x == a text, whatever x is -/
namespace ES
open PySem PySem.Spec PyProof.Rows L2
open AutoSeq1 (wpAny_loadPart')
open MeetsSeq MeetsSeq2 MeetsSeq3 SeqRoads2
theorem dict_says_no (l : Addr) (es : Array DictEntry) (n : Nat) (dd : Option Addr) (sl : Array (Option Value)) (b : Str) (u : Tok) :
    Meets (Builtin.«dict.__eq__» ⟨[.ref l, .str b u], []⟩) (fun _ R s => s.heap.get? l = some { cls := .type "dict", dict := dd, data := .dict es n, slots := sl } ∧ R (.ok (.ret .notImplemented)) s) :=
  .of_wp fun prog w A R s h => by
    obtain ⟨hp, g, d, tk, os⟩ := s
    obtain ⟨hl, h⟩ := h
    have f1 := F.sub_str_dict
    wp_walk using wpAny_loadPart' hl
    exact ⟨_, rfl, h⟩
theorem str_says_no (b : Str) (u : Tok) (l : Addr) (c : Value) (es : Array DictEntry) (n : Nat) (dd : Option Addr) (sl : Array (Option Value)) :
    Meets (Builtin.«str.__eq__» ⟨[.str b u, .ref l], []⟩) (fun _ R s => s.heap.get? l = some { cls := c, dict := dd, data := .dict es n, slots := sl } ∧ R (.ok (.ret .notImplemented)) s) :=
  .of_wp fun prog w A R s h => by
    obtain ⟨hp, g, d, tk, os⟩ := s
    obtain ⟨hl, h⟩ := h
    wp_walk using wpAny_loadPart' hl, wpAny_load hl
    exact ⟨_, rfl, h⟩
theorem dict_str {A : Around} {s : Shared} {l : Addr} {o : Obj} {es : Array DictEntry} {n : Nat} (b : Str) (u : Tok) (ho : s.heap.get? l = some o) (hc : o.cls = .type "dict") (hd : o.data = .dict es n) (hu : A.units < cLine) : SeqAt.RcAt A s (.ref l) (.str b u) false := fun prog w E Q h => by
  obtain ⟨cls, dd, data, sl⟩ := o
  simp only at hc hd
  subst hc hd
  exact SeqAt.rc_eq_decline_or (k := false) ⟨_, ho, rfl⟩ (typeIs_str s b u) (by decide) F.sub_str_dict F.slot_dict_eq F.slot_str_eq_refl
    (fun _ hq => call_meets F.slot_dict_eq ⟨_, ho, rfl⟩ F.entry_dict_eq (F.args_dict_eq_2 _ _) (dict_says_no l es n dd sl b u) ⟨ho, hq⟩)
    (fun _ hq => call_meets F.slot_str_eq_refl (typeIs_str s b u) F.entry_str_eq (F.args_str_eq_2 _ _) (str_says_no b u l (.type "dict") es n dd sl) ⟨ho, hq⟩)
    (fun _ hq => wpAny_of_eq (rfl : isSame (.ref l) (.str b u) = pure false) hq) (.inr hu) h
def rEqS (K : PySem.W.Frag) : R2 := fun x y H Q => rEq x y H Q ∨ ∃ a z, x = .ref a ∧ y = .str z ∧ ((∃ xs, SqL K H a xs) ∨ (∃ xs, SqT K H a xs) ∨ ∃ kvs, H a = some (.dK kvs)) ∧ Q (.bl false) H
theorem op_eqS {X : Cx} (hu : X.A.units + 64 < cLine) : OpR X (compareOp .Eq) (rEqS X.K) := by
  intro pins s σ H x y v u Q I rx ry h
  rcases h with h | ⟨a, z, rfl, rfl, h, q⟩
  · exact op_eq pins s σ H x y v u Q I rx ry h
  · cases (show v = Value.ref a from rx)
    obtain ⟨t, rfl⟩ := ry
    have un : X.A.units < cLine := by omega
    show wpAny _ _ (richCompare .Eq _ _) _ _ _
    rcases h with ⟨xs, h⟩ | ⟨xs, h⟩ | ⟨kvs, h⟩
    · obtain ⟨us, r1, p1, _⟩ := I.list h
      exact (SeqAt.RcAt.list_str z t p1.isList un) X.prog X.w _ _ ⟨.bl false, H, I, rfl, q⟩
    · obtain ⟨us, r1, p1, _⟩ := I.tuple h
      exact (SeqAt.RcAt.tuple_str z t p1 un) X.prog X.w _ _ ⟨.bl false, H, I, rfl, q⟩
    · obtain ⟨_, _, vs, kv, o, es, ep, g, ed, dd, _⟩ := dk_of I.hok h
      exact (dict_str z t g ed.1 dd un) X.prog X.w _ _ ⟨.bl false, H, I, rfl, q⟩
end ES

/-! what may stand where a tree should: any data -/
namespace GX
open PySem PySem.Spec PyProof.Rows L2 Evl TR
inductive Gt where
  | int (i : Int)
  | str (z : Str)
  | bl (b : Bool)
  | oth
  | seq (k : Bool) (gs : List Gt)
mutual
inductive GA (H : Hp) : V → Gt → Prop
  | int (i : Int) : GA H (.int i) (.int i)
  | str (z : Str) : GA H (.str z) (.str z)
  | bl (b : Bool) : GA H (.bl b) (.bl b)
  | non : GA H .non .oth
  | dct {a : Addr} {kvs : List (Key × V)} : H a = some (.dK kvs) → GA H (.ref a) .oth
  | seq {a : Addr} {k : Bool} {vs : List V} {gs : List Gt} : H a = some (ob k vs) → GAs H vs gs → GA H (.ref a) (.seq k gs)
inductive GAs (H : Hp) : List V → List Gt → Prop
  | nil : GAs H [] []
  | cons {v : V} {g : Gt} {vs : List V} {gs : List Gt} : GA H v g → GAs H vs gs → GAs H (v :: vs) (g :: gs)
end
mutual
theorem GA.ex {H H' : Hp} (e : Ex H H') : ∀ {v : V} {g : Gt}, GA H v g → GA H' v g
  | _, _, .int i => .int i
  | _, _, .str z => .str z
  | _, _, .bl b => .bl b
  | _, _, .non => .non
  | _, _, .dct h => .dct (e _ _ h)
  | _, _, .seq h r => .seq (e _ _ h) (GAs.ex e r)
theorem GAs.ex {H H' : Hp} (e : Ex H H') : ∀ {vs : List V} {gs : List Gt}, GAs H vs gs → GAs H' vs gs
  | _, _, .nil => .nil
  | _, _, .cons h r => .cons (GA.ex e h) (GAs.ex e r)
end
section
variable {H : Hp}
theorem GAs.len : ∀ {vs : List V} {gs : List Gt}, GAs H vs gs → vs.length = gs.length
  | _, _, .nil => rfl
  | _, _, .cons _ r => by rw [List.length_cons, List.length_cons, r.len]
theorem GAs.get : ∀ {vs : List V} {gs : List Gt} {i : Nat} {v : V}, GAs H vs gs → vs[i]? = some v → ∃ g, gs[i]? = some g ∧ GA H v g
  | _, _, _, _, .nil, h => by cases h
  | _, _, 0, _, .cons (g := g) a _, h => by
    cases h
    exact ⟨g, rfl, a⟩
  | _, _, i + 1, _, .cons _ r, h => GAs.get (i := i) r h
theorem GAs.get' : ∀ {vs : List V} {gs : List Gt} {i : Nat} {g : Gt}, GAs H vs gs → gs[i]? = some g → ∃ v, vs[i]? = some v ∧ GA H v g
  | _, _, _, _, .nil, h => by cases h
  | _, _, 0, _, .cons (v := v) a _, h => by
    cases h
    exact ⟨v, rfl, a⟩
  | _, _, i + 1, _, .cons _ r, h => GAs.get' (i := i) r h
theorem GAs.app : ∀ {vs : List V} {gs : List Gt} {us : List V} {fs : List Gt}, GAs H vs gs → GAs H us fs → GAs H (vs ++ us) (gs ++ fs)
  | _, _, _, _, .nil, h => h
  | _, _, _, _, .cons h1 r, h => .cons h1 (GAs.app r h)
theorem GAs.snoc {vs : List V} {gs : List Gt} {v : V} {g : Gt} (h : GAs H vs gs) (h1 : GA H v g) : GAs H (vs ++ [v]) (gs ++ [g]) := h.app (.cons h1 .nil)
theorem GAs.rev : ∀ {vs : List V} {gs : List Gt}, GAs H vs gs → GAs H vs.reverse gs.reverse
  | _, _, .nil => .nil
  | _, _, .cons h r => by
    rw [List.reverse_cons, List.reverse_cons]
    exact r.rev.snoc h
theorem GAs.take : ∀ {vs : List V} {gs : List Gt} (k : Nat), GAs H vs gs → GAs H (vs.take k) (gs.take k)
  | _, _, k, .nil => by rw [List.take_nil, List.take_nil]; exact .nil
  | _, _, 0, .cons _ _ => .nil
  | _, _, k + 1, .cons h r => .cons h (GAs.take k r)
theorem GAs.drop : ∀ {vs : List V} {gs : List Gt} (k : Nat), GAs H vs gs → GAs H (vs.drop k) (gs.drop k)
  | _, _, k, .nil => by rw [List.drop_nil, List.drop_nil]; exact .nil
  | _, _, 0, .cons h r => .cons h r
  | _, _, k + 1, .cons _ r => GAs.drop k r
theorem GAs.last : ∀ {vs : List V} {gs : List Gt}, GAs H vs gs → vs ≠ [] → ∃ us v fs g, vs = us ++ [v] ∧ gs = fs ++ [g] ∧ GAs H us fs ∧ GA H v g
  | _, _, .nil, h => absurd rfl h
  | _, _, .cons (v := v) (g := g) h .nil, _ => ⟨[], v, [], g, rfl, rfl, .nil, h⟩
  | _, _, .cons (v := v) (g := g) h (.cons a1 a2), _ => by
    obtain ⟨us, v', fs, g', e1, e2, s, b1⟩ := GAs.last (.cons a1 a2) (by intro q; cases q)
    exact ⟨v :: us, v', g :: fs, g', by rw [e1]; rfl, by rw [e2]; rfl, .cons h s, b1⟩
end
/-! ### the whole of it: how many parts, how deep -/
mutual
def Gt.size : Gt → Nat
  | .seq _ gs => Gt.sizes gs + 1
  | _ => 1
def Gt.sizes : List Gt → Nat
  | [] => 0
  | g :: r => g.size + Gt.sizes r
end
mutual
def Gt.depth : Gt → Nat
  | .seq _ gs => Gt.depths gs + 1
  | _ => 1
def Gt.depths : List Gt → Nat
  | [] => 0
  | g :: r => max g.depth (Gt.depths r)
end
theorem size_pos (g : Gt) : 1 ≤ g.size := by
  cases g <;> simp only [Gt.size] <;> omega
theorem sizes_app : ∀ a b : List Gt, Gt.sizes (a ++ b) = Gt.sizes a + Gt.sizes b
  | [], b => by simp only [List.nil_append, Gt.sizes, Nat.zero_add]
  | g :: r, b => by
    simp only [List.cons_append, Gt.sizes, sizes_app r b]
    omega
theorem sizes_rev : ∀ a : List Gt, Gt.sizes a.reverse = Gt.sizes a
  | [] => rfl
  | g :: r => by
    rw [List.reverse_cons, sizes_app, sizes_rev r]
    simp only [Gt.sizes]
    omega
theorem len_sizes : ∀ a : List Gt, a.length ≤ Gt.sizes a
  | [] => Nat.zero_le _
  | g :: r => by
    have := len_sizes r
    have := size_pos g
    simp only [Gt.sizes, List.length_cons]
    omega
theorem size_mem : ∀ {a : List Gt} {g : Gt}, g ∈ a → g.size ≤ Gt.sizes a
  | x :: r, g, h => by
    simp only [Gt.sizes]
    rcases List.mem_cons.mp h with q | q
    · rw [q]; omega
    · have := size_mem q
      omega
theorem depth_mem : ∀ {a : List Gt} {g : Gt}, g ∈ a → g.depth ≤ Gt.depths a
  | x :: r, g, h => by
    simp only [Gt.depths]
    rcases List.mem_cons.mp h with q | q
    · rw [q]; omega
    · have := depth_mem q
      omega
/-! ### right parts -/
def hd (z : Str) : Gt → Bool
  | .str y => decide (y = z)
  | _ => false
def whole (lo hi : Int) : Gt → Bool
  | .int i => decide (lo ≤ i) && decide (i ≤ hi)
  | _ => false
def seqN (n : Nat) : Gt → Bool
  | .seq _ gs => decide (gs.length = n)
  | _ => false
def isP (l w n : Nat) : Gt → Bool
  | .seq _ [h, a, r] => if hd "read" h = true then whole 0 w a && seqN l r else if hd "tell" h = true then whole 0 2 a else if hd "go" h = true then whole 1 (w + 1) a && whole 0 ((n : Int) - 1) r else false
  | _ => false
def kids : Gt → List Gt
  | .seq _ [h, _, r] => if hd "read" h = true then (match r with
      | .seq _ gs => gs
      | _ => []) else if hd "tell" h = true then [r] else []
  | _ => []
theorem kids_size (g : Gt) : Gt.sizes (kids g) + 1 ≤ g.size := by
  unfold kids
  split
  · rename_i k h a r
    have := size_pos h
    have := size_pos a
    split
    · split
      · simp only [Gt.size, Gt.sizes]
        omega
      · simp only [Gt.size, Gt.sizes]
        omega
    · split
      · simp only [Gt.size, Gt.sizes]
        omega
      · simp only [Gt.size, Gt.sizes]
        omega
  · have := size_pos g
    simp only [Gt.sizes]
    omega
/-! ### the walk -/
def tot (ps : List (Gt × Nat)) : Nat := Gt.sizes (ps.map (·.1))
def fwF (l w n : Nat) : Nat → List (Gt × Nat) → Nat → Bool × Nat
  | 0, _, m => (false, m)
  | _ + 1, [], m => (false, m)
  | f + 1, (g, d) :: r, m => if d > 40 ∨ isP l w n g = false then (true, m) else fwF l w n f ((kids g).map (fun x => (x, d + 1)) ++ r) (m + 1)
theorem fw_nil {l w n f m : Nat} : fwF l w n f [] m = (false, m) := by
  cases f <;> rfl
def cntF : Nat → List Gt → Nat → Nat
  | 0, _, m => m
  | _ + 1, [], m => m
  | f + 1, g :: r, m => cntF f (kids g ++ r) (m + 1)
theorem cnt_nil {f m : Nat} : cntF f [] m = m := by
  cases f <;> rfl
theorem fw_cnt {l w n : Nat} : ∀ {f : Nat} {ps : List (Gt × Nat)} {m N : Nat}, fwF l w n f ps m = (false, N) → cntF f (ps.map (·.1)) m = N
  | 0, _, _, _, h => by cases h; rfl
  | f + 1, [], _, _, h => by cases h; rfl
  | f + 1, (g, d) :: r, m, N, h => by
    unfold fwF at h
    split at h
    · cases h
    · have := fw_cnt h
      rw [List.map_append, List.map_map] at this
      show cntF f (kids g ++ r.map (·.1)) (m + 1) = N
      have e : List.map ((fun x : Gt × Nat => x.1) ∘ fun x => (x, d + 1)) (kids g) = kids g := by
        rw [show ((fun x : Gt × Nat => x.1) ∘ fun x => (x, d + 1)) = (id : Gt → Gt) from rfl, List.map_id]
      rw [e] at this
      exact this
/-- right within so many levels -/
inductive Rt (l w n : Nat) : Nat → Gt → Prop
  | mk {d : Nat} {g : Gt} : isP l w n g = true → (∀ x ∈ kids g, Rt l w n d x) → Rt l w n (d + 1) g
theorem fw_rt {l w n : Nat} : ∀ {f : Nat} {ps : List (Gt × Nat)} {m N : Nat}, fwF l w n f ps m = (false, N) → tot ps ≤ f → ∀ p ∈ ps, Rt l w n (41 - p.2) p.1
  | 0, ps, _, _, _, ht => fun p hp => by
    have : p.1.size ≤ tot ps := size_mem (List.mem_map.mpr ⟨p, hp, rfl⟩)
    have := size_pos p.1
    omega
  | f + 1, [], _, _, _, _ => fun p hp => by cases hp
  | f + 1, (g, d) :: r, m, N, h, ht => by
    unfold fwF at h
    split at h
    · cases h
    · rename_i hc
      have hd : d ≤ 40 := Nat.le_of_not_lt fun z => hc (.inl z)
      have hp : isP l w n g = true := by
        cases q : isP l w n g with
        | true => rfl
        | false => exact absurd (.inr q) hc
      have ks := kids_size g
      have t2 : tot ((kids g).map (fun x => (x, d + 1)) ++ r) ≤ f := by
        unfold tot at ht ⊢
        rw [List.map_append, List.map_map, sizes_app, show ((fun x : Gt × Nat => x.1) ∘ fun x => (x, d + 1)) = (id : Gt → Gt) from rfl, List.map_id]
        simp only [List.map_cons, Gt.sizes] at ht
        omega
      have ih := fw_rt h t2
      intro p hpm
      rcases List.mem_cons.mp hpm with e | e
      · subst e
        show Rt l w n (41 - d) g
        rw [show 41 - d = (40 - d) + 1 by omega]
        refine .mk hp fun x hx => ?_
        have := ih (x, d + 1) (List.mem_append_left _ (List.mem_map.mpr ⟨x, hx, rfl⟩))
        rw [show 40 - d = 41 - (d + 1) by omega]
        exact this
      · exact ih p (List.mem_append_right _ e)
/-! ### the waiting ones, the top at the end -/
inductive Stk (H0 H : Hp) : List V → List (Gt × Nat) → Prop
  | nil : Stk H0 H [] []
  | cons {r : Addr} {v : V} {g : Gt} {d : Nat} {vs : List V} {ps : List (Gt × Nat)} : H r = some (.tup [v, .int (d : Nat)]) → GA H0 v g → Stk H0 H vs ps → Stk H0 H (.ref r :: vs) ((g, d) :: ps)
theorem Stk.ex {H0 H H' : Hp} (e : Ex H H') : ∀ {vs : List V} {ps : List (Gt × Nat)}, Stk H0 H vs ps → Stk H0 H' vs ps
  | _, _, .nil => .nil
  | _, _, .cons h1 h2 r => .cons (e _ _ h1) h2 (Stk.ex e r)
theorem Stk.len {H0 H : Hp} : ∀ {vs : List V} {ps : List (Gt × Nat)}, Stk H0 H vs ps → vs.length = ps.length
  | _, _, .nil => rfl
  | _, _, .cons _ _ r => by rw [List.length_cons, List.length_cons, r.len]
theorem Stk.app {H0 H : Hp} : ∀ {vs : List V} {ps : List (Gt × Nat)} {us : List V} {qs : List (Gt × Nat)}, Stk H0 H vs ps → Stk H0 H us qs → Stk H0 H (vs ++ us) (ps ++ qs)
  | _, _, _, _, .nil, h => h
  | _, _, _, _, .cons h1 h2 r, h => .cons h1 h2 (Stk.app r h)
theorem Stk.upd {H0 H : Hp} {a : Addr} {o : HO} : ∀ {vs : List V} {ps : List (Gt × Nat)}, Stk H0 H vs ps → (∀ xs, H a ≠ some (.tup xs)) → Stk H0 (L2.upd H a o) vs ps
  | _, _, .nil, _ => .nil
  | _, _, .cons (r := r) h1 h2 r1, hn => .cons (by rw [upd_ne (fun q : r = a => hn _ (by rw [← q]; exact h1))]; exact h1) h2 (Stk.upd r1 hn)
theorem Stk.last {H0 H : Hp} : ∀ {vs : List V} {ps : List (Gt × Nat)}, Stk H0 H vs ps → vs ≠ [] →
    ∃ us r v g d qs, vs = us ++ [.ref r] ∧ ps = qs ++ [(g, d)] ∧ Stk H0 H us qs ∧ H r = some (.tup [v, .int (d : Nat)]) ∧ GA H0 v g
  | _, _, .nil, h => absurd rfl h
  | _, _, .cons (r := r) (v := v) (g := g) (d := d) h1 h2 .nil, _ => ⟨[], r, v, g, d, [], rfl, rfl, .nil, h1, h2⟩
  | _, _, .cons (r := r) (v := v) (g := g) (d := d) h1 h2 (.cons a1 a2 a3), _ => by
    obtain ⟨us, r', v', g', d', qs, e1, e2, s, b1, b2⟩ := Stk.last (.cons a1 a2 a3) (by intro q; cases q)
    exact ⟨.ref r :: us, r', v', g', d', (g, d) :: qs, by rw [e1]; rfl, by rw [e2]; rfl, .cons h1 h2 s, b1, b2⟩
theorem tot_app (ps qs : List (Gt × Nat)) : tot (ps ++ qs) = tot ps + tot qs := by
  unfold tot
  rw [List.map_append, sizes_app]
theorem tot_map (gs : List Gt) (d : Nat) : tot (gs.map fun g => (g, d)) = Gt.sizes gs := by
  unfold tot
  rw [List.map_map, show ((fun x : Gt × Nat => x.1) ∘ fun g => (g, d)) = (id : Gt → Gt) from rfl, List.map_id]
theorem len_tot (ps : List (Gt × Nat)) : ps.length ≤ tot ps := by
  have := len_sizes (ps.map (·.1))
  rw [List.length_map] at this
  exact this
/-! ### right trees of the law's own making -/
mutual
def ofT : Tr → Gt
  | .go s q => .seq true [.str "go", .int (s : Nat), .int (q : Nat)]
  | .tell n t => .seq true [.str "tell", .int (n : Nat), ofT t]
  | .read p ts => .seq true [.str "read", .int (p : Nat), .seq true (ofTs ts)]
def ofTs : Trs → List Gt
  | .nil => []
  | .cons t r => ofT t :: ofTs r
end
mutual
theorem TA.ga {H : Hp} : ∀ {t : Tr} {v : V}, TA true H v t → GA H v (ofT t)
  | _, _, .go h => .seq h (.cons (.str _) (.cons (.int _) (.cons (.int _) .nil)))
  | _, _, .tell h r => .seq h (.cons (.str _) (.cons (.int _) (.cons (TA.ga r) .nil)))
  | _, _, .read h hb r => .seq h (.cons (.str _) (.cons (.int _) (.cons (.seq hb (TAs.ga r)) .nil)))
theorem TAs.ga {H : Hp} : ∀ {ts : Trs} {vs : List V}, TAs true H vs ts → GAs H vs (ofTs ts)
  | _, _, .nil => .nil
  | _, _, .cons h r => .cons (TA.ga h) (TAs.ga r)
end
end GX

/-! repr of data with dicts that are empty: only the dicts must stand apart from the modules' table -/
namespace DY
open PySem PySem.Spec PyProof.Rows L2
mutual
/-- v is the data d; a dict is an empty one -/
inductive DE (K : PySem.W.Frag) (H : Hp) : V → PyData → Prop
  | non : DE K H .non .none
  | bl (b : Bool) : DE K H (.bl b) (.bool b)
  | int (i : Int) : DE K H (.int i) (.int i)
  | str (x : Str) : DE K H (.str x) (.str x)
  | lst {a : Addr} {xs : List V} {ds : List PyData} : SqL K H a xs → DEs K H xs ds → DE K H (.ref a) (.list ds)
  | tup {a : Addr} {xs : List V} {ds : List PyData} : SqT K H a xs → DEs K H xs ds → DE K H (.ref a) (.tuple ds)
  | emp {a : Addr} : H a = some (.dK []) → DE K H (.ref a) (.dict [])
  | one {a : Addr} {k : Str} {i : Int} : H a = some (.dK [(.inr k, .int i)]) → DE K H (.ref a) (.dict [(.str k, .int i)])
inductive DEs (K : PySem.W.Frag) (H : Hp) : List V → List PyData → Prop
  | nil : DEs K H [] []
  | cons {v : V} {vs : List V} {d : PyData} {ds : List PyData} : DE K H v d → DEs K H vs ds → DEs K H (v :: vs) (d :: ds)
end
section
variable {X : Cx} {pins : List (Addr × Obj)} {σ : L2.St} {H : Hp} {s : Shared}
theorem emp_at (I : Inv X pins σ H s) {a : Addr} (h : H a = some (.dK [])) : (a == sysModules) = false ∧ ∃ o n, s.heap.get? a = some o ∧ o.cls = .type "dict" ∧ o.data = .dict #[] n := by
  obtain ⟨_, h1, vs, kv, o, es, ep, g, ed, dd, k1, k2, _⟩ := dk_of I.hok h
  cases kv
  have e : es = #[] := by
    cases es with
    | mk l =>
      cases l with
      | nil => rfl
      | cons x r => cases k2
  subst e
  exact ⟨h1, o, ep, g, ed.1, dd⟩
theorem one_at (I : Inv X pins σ H s) {a : Addr} {k : Str} {i : Int} (h : H a = some (.dK [(.inr k, .int i)])) : (a == sysModules) = false ∧ ∃ o n e t1 t2, s.heap.get? a = some o ∧ o.cls = .type "dict" ∧ o.data = .dict #[e] n ∧ e.key = Value.str k t1 ∧ e.val = Value.int i t2 := by
  obtain ⟨_, h1, vs, kv, o, es, ep, g, ed, dd, k1, k2, _⟩ := dk_of I.hok h
  cases kv with
  | cons hp hn =>
    cases hn
    obtain ⟨q1, q2⟩ := hp
    cases es with
    | mk l =>
      cases l with
      | nil => cases k2
      | cons x r =>
        cases k2 with
        | cons r1 r2 r3 =>
          cases r3
          rw [← q1] at r1
          have r1' : keyIs (.inr k) x.key = true := r1
          obtain ⟨i2, t, z, _⟩ | ⟨y, t, z, e1⟩ := keyIs_shape r1'
          · cases z
          · cases z
            obtain ⟨t2, e2⟩ := q2
            exact ⟨h1, o, ep, x, t, t2, g, ed.1, dd, e1, by rw [r2, e2]⟩
/-- how v is read and shown -/
structure Sh (prog : Program) (w : World) (h : Heap) (u : Value) (d : PyData) : Prop where
  r : ∃ as, Reads h u d as
  k : ∃ bs, ReadAtMost h d.depth bs ∧ ReprK prog w bs h d.depth u d.shown
structure Shs (prog : Program) (w : World) (h : Heap) (us : List Value) (ds : List PyData) : Prop where
  r : ∃ as, ReadsAll h us ds as
  k : ∃ bs, ReadAtMost h (PyData.depthAll ds) bs ∧ ReprAllK prog w bs h (PyData.depthAll ds) us (PyData.shownAll ds)
theorem mem_l {t : Str} {ts : List Str} (h : t ∈ ts) : t.length ≤ (listText ts).length := by
  have z := PySem.listText_mem_le h
  exact z
mutual
theorem DE.sh (I : Inv X pins σ H s) : ∀ (d : PyData) (v : V) (u : Value), DE X.K H v d → RelV v u → d.showable = true → d.shown.length ≤ sizeLine → Sh X.prog X.w s.heap u d
  | .none, _, _, h, r, _, _ => by
    cases h
    cases r
    exact ⟨⟨_, Reads.none⟩, [], (fun _ h => nomatch h), by simp only [PyData.shown]; exact .of_is ReprIs.none _ _ _⟩
  | .bool b, _, _, h, r, _, _ => by
    cases h
    cases r
    exact ⟨⟨_, Reads.bool b⟩, [], (fun _ h => nomatch h), by simp only [PyData.shown]; exact .of_is (ReprIs.bool b) _ _ _⟩
  | .int i, _, _, h, r, hs, _ => by
    cases h
    obtain ⟨t, rfl⟩ := r
    exact ⟨⟨_, Reads.int i t⟩, [], (fun _ h => nomatch h), by simp only [PyData.shown]; exact .of_is (ReprIs.int t (by simpa [PyData.showable] using hs)) _ _ _⟩
  | .str x, _, _, h, r, _, hz => by
    cases h
    obtain ⟨t, rfl⟩ := r
    exact ⟨⟨_, Reads.str x t⟩, [], (fun _ h => nomatch h), by simp only [PyData.shown]; exact .of_is (ReprIs.str x t (by simpa only [PyData.shown] using hz)) _ _ _⟩
  | .list ds, _, _, h, r, hs, hz => by
    cases h with
    | lst hq ha =>
      cases r
      obtain ⟨its, rv, ⟨o, n, ho, hc, _, hd⟩, _⟩ := I.list hq
      have hz2 : (listText (PyData.shownAll ds)).length ≤ sizeLine := by simpa only [PyData.shown] using hz
      obtain ⟨⟨as, hr⟩, bs, hb, hk⟩ := DEs.sh I ds _ its ha rv (by simpa [PyData.showable] using hs) fun t ht => Nat.le_trans (listText_mem_le ht) hz2
      have r2 : Reads s.heap _ (.list ds) _ := Reads.list ho hc hd hr
      refine ⟨⟨_, r2⟩, _ :: bs, ReadAtMost.cons r2 (by simp only [PyData.depth]; omega) hb, ?_⟩
      have hna := not_mem_of_deeper r2 (show PyData.depthAll ds < _ by simp only [PyData.depth]; omega) hb
      simp only [PyData.depth, PyData.shown]
      cases its with
      | nil =>
        cases rv
        cases ha
        simp only [PyData.shownAll, listText_nil]
        exact ReprK.listEmpty ho hc hd
      | cons x l => exact ReprK.list ho hc hd hna (by simpa using hk.length_eq) (fun i y e => hk.item i y (by simpa using e))
  | .tuple ds, _, _, h, r, hs, hz => by
    cases h with
    | tup hq ha =>
      cases r
      obtain ⟨its, rv, ⟨o, ho, hc, n, hd⟩, _⟩ := I.tuple hq
      have hz2 : (tupleText (PyData.shownAll ds)).length ≤ sizeLine := by simpa only [PyData.shown] using hz
      obtain ⟨⟨as, hr⟩, bs, hb, hk⟩ := DEs.sh I ds _ its ha rv (by simpa [PyData.showable] using hs) fun t ht => Nat.le_trans (tupleText_mem_le ht) hz2
      have r2 : Reads s.heap _ (.tuple ds) _ := Reads.tuple ho hc hd hr
      refine ⟨⟨_, r2⟩, _ :: bs, ReadAtMost.cons r2 (by simp only [PyData.depth]; omega) hb, ?_⟩
      have hna := not_mem_of_deeper r2 (show PyData.depthAll ds < _ by simp only [PyData.depth]; omega) hb
      simp only [PyData.depth, PyData.shown]
      exact ReprK.tuple ho hc hd hna hk
  | .dict kvs, _, _, h, r, hs, hz => by
    cases h with
    | emp hq =>
      cases r
      obtain ⟨hy, o, n, ho, hc, hd⟩ := emp_at I hq
      have r2 : Reads s.heap _ (.dict []) _ := Reads.dict ho hc hd ReadsAll.nil ReadsAll.nil
      refine ⟨⟨_, r2⟩, [_], ReadAtMost.cons r2 (Nat.le_refl _) (fun _ h => nomatch h), ?_⟩
      simp only [PyData.depth, PyData.shown, PyData.shownKv_eq]
      exact ReprK.dict ho hc hd hy (fun h => nomatch h) (ReprEntriesK.of_two [] _ _ .nil .nil)
    | @one a k i hq =>
      cases r
      obtain ⟨hy, o, n, e, t1, t2, ho, hc, hd, e1, e2⟩ := one_at I hq
      have hs2 : (PyData.int i).showable = true := by
        simp only [PyData.showable, PyData.showableKv, Bool.and_eq_true] at hs ⊢
        first
          | exact hs.1.2
          | exact hs.2.1
          | exact hs.2
          | simpa using hs
      have hz2 : (dictText (PyData.shownKv [(.str k, .int i)])).length ≤ sizeLine := by simpa only [PyData.shown] using hz
      have hk : (PyData.str k).shown.length ≤ sizeLine := by
        have h1 := dictText_mem_le (ps := PyData.shownKv [(.str k, .int i)]) (p := (PyData.str k).shown ++ ": " ++ (PyData.int i).shown) (by simp only [PyData.shownKv]; exact List.mem_cons_self ..)
        rw [Str.length_append, Str.length_append] at h1
        omega
      have rk : Reads s.heap e.key (.str k) [] := by rw [e1]; exact Reads.str k t1
      have rv : Reads s.heap e.val (.int i) [] := by rw [e2]; exact Reads.int i t2
      have r2 : Reads s.heap (.ref a) (.dict [(.str k, .int i)]) _ := Reads.dict ho hc hd (ReadsAll.cons rk ReadsAll.nil) (ReadsAll.cons rv ReadsAll.nil)
      refine ⟨⟨_, r2⟩, [_], ReadAtMost.cons r2 (Nat.le_refl _) (fun _ h => nomatch h), ?_⟩
      simp only [PyData.depth, PyData.shown, PyData.shownKv_eq]
      refine ReprK.dict ho hc hd hy (fun h => nomatch h) (ReprEntriesK.of_two [e] _ _ (.cons ?_ .nil) (.cons ?_ .nil))
      · show ReprK X.prog X.w [] s.heap _ e.key (PyData.str k).shown
        rw [e1]
        simp only [PyData.shown]
        exact .of_is (ReprIs.str k t1 (by simpa only [PyData.shown] using hk)) _ _ _
      · show ReprK X.prog X.w [] s.heap _ e.val (PyData.int i).shown
        rw [e2]
        simp only [PyData.shown]
        exact .of_is (ReprIs.int t2 (by simpa [PyData.showable] using hs2)) _ _ _
theorem DEs.sh (I : Inv X pins σ H s) : ∀ (ds : List PyData) (vs : List V) (us : List Value), DEs X.K H vs ds → Vals vs us → PyData.showableAll ds = true → (∀ t ∈ PyData.shownAll ds, t.length ≤ sizeLine) → Shs X.prog X.w s.heap us ds
  | [], _, _, h, r, _, _ => by
    cases h
    cases r
    exact ⟨⟨_, ReadsAll.nil⟩, [], (fun _ h => nomatch h), by simp only [PyData.shownAll]; exact .nil⟩
  | d :: ds, _, _, h, r, hs, hz => by
    cases h with
    | cons h1 h2 =>
      cases r with
      | cons r1 r2 =>
        have hs2 : d.showable = true ∧ PyData.showableAll ds = true := by simpa [PyData.showableAll] using hs
        obtain ⟨⟨as, q1⟩, b1, hb1, k1⟩ := DE.sh I d _ _ h1 r1 hs2.1 (hz _ (by simp only [PyData.shownAll]; exact List.mem_cons_self ..))
        obtain ⟨⟨bs, q2⟩, b2, hb2, k2⟩ := DEs.sh I ds _ _ h2 r2 hs2.2 fun t ht => hz t (by simp only [PyData.shownAll]; exact List.mem_cons_of_mem _ ht)
        refine ⟨⟨_, ReadsAll.cons q1 q2⟩, b1 ++ b2, fun b hm => ?_, ?_⟩
        · simp only [PyData.depthAll]
          rcases List.mem_append.mp hm with hm | hm
          · obtain ⟨e, ys, y1, y2⟩ := hb1 b hm
            exact ⟨e, ys, y1, Nat.le_trans y2 (Nat.le_max_left _ _)⟩
          · obtain ⟨e, ys, y1, y2⟩ := hb2 b hm
            exact ⟨e, ys, y1, Nat.le_trans y2 (Nat.le_max_right _ _)⟩
        · simp only [PyData.depthAll, PyData.shownAll]
          exact .cons ((k1.more fun b hb => List.mem_append_left _ hb).level_le (Nat.le_max_left _ _)) (k2.more_le (fun b hb => List.mem_append_right _ hb) (Nat.le_max_right _ _))
end
/-- repr of None, or of a tuple of data, where no text is being made -/
structure RX (K : PySem.W.Frag) (xs : List V) (H : Hp) (Q : VK) : Prop where
  ex : (xs = [.non] ∧ Q (.str "None") H) ∨ ∃ a ys ds, xs = [.ref a] ∧ SqT K H a ys ∧ DEs K H ys ds ∧ (PyData.tuple ds).showable = true ∧ (PyData.tuple ds).depth ≤ 64 ∧ (PyData.tuple ds).shown.length ≤ sizeLine ∧ Q (.str (PyData.tuple ds).shown) H
abbrev rRy (K : PySem.W.Frag) : List V → Hp → VK → Prop := fun xs H Q => RX K xs H Q
theorem call_reprY {X : Cx} (hg : X.A.guards = some []) (hu : X.A.units + 70 < cLine) : CallR X (.builtin "repr") (rRy X.K) := by
  intro pins s σ H xs us Q I r h
  rcases h.ex with ⟨rfl, q⟩ | ⟨a, xs, ds, rfl, hq, ha, h1, h3, h4, q⟩
  · obtain ⟨u, rfl, rfl⟩ := vals1 r
    exact PySem.P.repr_of_none ⟨.str _, H, I.tok _, ⟨_, rfl⟩, q⟩
  · obtain ⟨u, rfl, ru⟩ := vals1 r
    have fin : ∀ h' u' tk, (∀ b o, s.heap.get? b = some o → h'.get? b = some o) → EP X pins σ Q (.str (PyData.tuple ds).shown u') { s with heap := h', toks := tk } := fun h' u' tk hk => ⟨.str (PyData.tuple ds).shown, H, I.kept hk, ⟨u', rfl⟩, q⟩
    have un : X.A.units + 1 < cLine := by omega
    cases ru
    obtain ⟨its, rv, ⟨o, ho, hc, n, hd⟩, _⟩ := I.tuple hq
    have hz2 : (tupleText (PyData.shownAll ds)).length ≤ sizeLine := by simpa only [PyData.shown] using h4
    obtain ⟨⟨as, hr⟩, bs, hb, hk⟩ := DEs.sh I ds _ its ha rv (by simpa [PyData.showable] using h1) fun t ht => Nat.le_trans (tupleText_mem_le ht) hz2
    have r2 : Reads s.heap (.ref a) (.tuple ds) _ := Reads.tuple ho hc hd hr
    have hna := not_mem_of_deeper r2 (show PyData.depthAll ds < _ by simp only [PyData.depth]; omega) hb
    simp only [PyData.depth] at h3
    simp only [PyData.shown] at fin
    refine call_repr_slot un ⟨o, ho, hc⟩ F.slot_tuple_repr ?_
    exact call_tuple_reprK ho hc hd hna hk hg (fun b _ => Clear.nil b) (by show X.A.units + 1 + _ < cLine; omega) (fun _ _ e => e) (fun h' u' tk hk' => ⟨_, _, rfl, fin h' u' tk hk'⟩) hz2
end
end DY

/-! own errors over an own base whose __init__ they call; several except clauses with a name -/
namespace EK
open PySem PySem.Spec PyProof.Rows L2
section
variable {X : Cx} {C0 : Addr} {x : Str} {e : Expr} {es : List Expr} {ta : TA} {p1 p2 pos : Pos}
/-- B.__init__(self, ..), B an own class over ValueError without an __init__ of its own -/
theorem pe_skinit {pl : Sem Bool} (hg : Gl X x) (hm : X.mg x = some (.ref C0)) (r : ClX.CRead X.K C0 (.type "type")) (k : PySem.W.findCls X.K (.ref C0) (.type "type") "__init__" = some (.val (.builtin "ValueError.__init__"))) (ha : PA X (e :: es) ta)
    (hc : eval (.Call (.Attribute (.Name x p1) "__init__" p2) (e :: es) [] pos) X.env = (do
      let ov ← eval (.Name x p1) X.env
      standAt p2.atName
      let (f, first) ← holding [ov] (getMethod ov "__init__" pl)
      callWith pos f first (backTo pos (starEach (e :: es) X.env)) (backToKw pos (keywordEach [] X.env))) := by rfl)
    (hdb : (x == ("__debug__" : Str)) = false := by decide)
    (he : starEach (e :: es) X.env = (false, eval e X.env) :: starEach es X.env := by rfl) (hpl : (backTo pos (starEach es X.env)).any (·.1) = false := by rfl) :
    PE X (.Call (.Attribute (.Name x p1) "__init__" p2) (e :: es) [] pos) (tVeI X.K ta) := by
  refine ⟨fun pins s σ H Q I h => ?_⟩
  refine PySem.W.methodCall_KW (ld_glob I hg hm ?_ hdb) hc
  refine PySem.W.method_cls I.kIn r.ga (PySem.W.cls_value I.kIn r.rd k rfl ?_)
  show wpAny _ _ (callWith pos (Value.builtin "ValueError.__init__") [] (backTo pos (starEach (e :: es) X.env)) []) _ _ _
  refine PyProof.Rows.callWith_method1 (thn (ha.run pos pins _ σ H _ (I.tok _) h) fun us s1 ⟨vs, H1, I1, r1, a, C, ws, ev, hl, T, ea, q⟩ => ?_) he hpl
  subst ev
  cases r1 with
  | @cons _ u0 _ ur ra rw' =>
    obtain rfl : u0 = Value.ref a := ra
    have hlen : ur.length ≤ sizeLine := by
      rw [← Paired.length rw', sizeLine_eq]
      omega
    exact oinit_ok T I1 ea hlen fun s' J => ⟨.non, H1, J, rfl, q⟩
end
end EK
/-! ### isinstance of a caught error that has its dict -/
namespace PySem.W
open PySem PySem.Spec PySem.Calls PyProof.Rows
section
variable {prog : Program} {w : World} {A : Around} {E : Value → Shared → Prop} {s : Shared} {K : Frag} {x D : Addr} {ox : Obj} {od : Option Obj}
theorem ek_findObj {C : Addr} {name : Str} {a g : Value} (hc : (clsIn K C).isSome = true) (ha : findIn K (.ref C) name = some (some a)) (hg : specialIn K a "__get__" = some (some g)) (ht : takesIn K a = some true) : findObj K C od name = some (.bind g a) := by
  obtain ⟨cd, hc⟩ := Option.isSome_iff_exists.mp hc
  unfold findObj
  rw [hc, Option.bind_some, ha, Option.bind_some]
  simp [hg, ht]
theorem ek_kin_class {Q : Option Value → Shared → Prop} (hga : findIn K (.ref D) "__getattribute__" = some (some (.builtin "BaseException.__getattribute__"))) (hgt : findIn K (.ref D) "__getattr__" = some none) (hsub : subIn K (.ref D) (.type "BaseException") = some true)
    (hdct : hasDictIn K D = true) (ha : findIn K (.ref D) "__class__" = some (some (.builtin "object.__class__")))
    (hn : specialIn K (.builtin "object.__class__") "__get__" = some (some (.builtin "getset_descriptor.__get__"))) (htk : takesIn K (.builtin "object.__class__") = some true) (hm : mroIn K D (.type "object") = some true)
    (X : K.In s.heap) (I : InstAt s.heap x ox D od) (h : Q (some (.ref D)) { s with toks := s.toks + 1 }) : wpAny (model prog w) A (getAttr? (.ref x) "__class__") Q E s := by
  have hf : findObj K D od "__class__" = some (.bind (.builtin "getset_descriptor.__get__") (.builtin "object.__class__")) := ek_findObj (by obtain ⟨cd, hc, _⟩ := any_some hdct; rw [hc]; rfl) ha hn htk
  obtain ⟨hp, g, d, t, os⟩ := s
  have L0 := I.type (M := model prog w)
  have L1 := looks_findIn (M := model prog w) X hga
  have L2 := looks_findIn (M := model prog w) X hgt
  have L3 := looks_find (M := model prog w) X I hf
  have sub : Looks (model prog w) hp (isInstance (.ref x) (.type "BaseException")) true := L0.andThen (looks_subIn X hsub)
  have hx0 : (false && onTheHeap (Value.builtin "BaseException.__getattribute__")) = false := rfl
  have hx2 : (Value.builtin "BaseException.__getattribute__" == Value.builtin "object.__getattribute__") = false := by decide +kernel
  have hx1 : (onTheHeap (Value.ref D) && Value.builtin "BaseException.__getattribute__" == Value.builtin "object.__getattribute__") = false := by rw [hx2]; rfl
  unfold getAttr? getAttrBy? getAttrBy
  refine wpAny_bind (wpAny_mkText (wpAny_bind (wpAny_attempt (wpAny_holding (wpAny_bind (L0.at (wpAny_bind (L1.at ?_))))))))
  show wpAny _ _ (if (onTheHeap (Value.ref D) && Value.builtin "BaseException.__getattribute__" == Value.builtin "object.__getattribute__") = true then _ else _) _ _ _
  rw [hx1, if_neg Bool.false_ne_true]
  unfold getAttrByItsOwn hookBefore
  refine wpAny_bind ?_
  rw [if_pos (show onTheHeap (Value.ref D) = true from rfl)]
  refine L2.at ?_
  refine wpAny_bind (wpAny_attempt (wpAny_holding ?_))
  unfold callGetattribute
  rw [hx0, if_neg Bool.false_ne_true]
  unfold boundAndCalled
  rw [PySem.F.excAttr_ValueError.ga.bind (.ref x)]
  refine wpAny_bind (wpAny_pure ?_)
  show wpAny _ _ (call (.builtin "BaseException.__getattribute__") [.ref x, .str "__class__" t]) _ _ _
  refine wpAny_call (codeAny_call_builtin PySem.F.excAttr_ValueError.ga.plain PySem.F.entry_bexc_ga ?_)
  refine @check_slot (model prog w) _ _ ⟨hp, g, d, t + 1, os⟩ "BaseException.__getattribute__" "BaseException" "__getattribute__" (.ref x) [.str "__class__" t] [] _ (by decide +kernel) (by decide +kernel) sub (PySem.F.args_bexc_ga (.ref x) (.str "__class__" t)) ?_
  unfold Builtin.«object.__getattribute__»
  refine wpAny_bind (wpAny_of_eq (a := ((Value.ref x : Value), [Value.str "__class__" t])) (by first | rfl | (simp only [slotArgs]; rfl)) ?_)
  refine wpAny_bind (wpAny_pure (wpAny_bind (L0.at (wpAny_bind (L3.at ?_)))))
  show wpAny _ _ (holding [Value.builtin "object.__class__"] (call (.builtin "getset_descriptor.__get__") [.builtin "object.__class__", .ref x, .ref D]) >>= ret) _ _ _
  refine wpAny_bind (wpAny_holding (wpAny_call (class_get (s := ⟨hp, g, d, t + 1, os⟩) (ox := ox) (od := od) X I hm ?_)))
  refine wpAny_pure ?_
  show wpAny _ _ (handedOut (.ref D)) _ _ _
  rw [handedOut_of (v := .ref D) rfl]
  first
    | exact wpAny_pure (wpAny_pure h)
    | exact wpAny_pure h
    | exact wpAny_pure (wpAny_bind (wpAny_pure (wpAny_pure h)))
theorem ek_kitx (hga : findIn K (.ref D) "__getattribute__" = some (some (.builtin "BaseException.__getattribute__"))) (hgt : findIn K (.ref D) "__getattr__" = some none) (hsub : subIn K (.ref D) (.type "BaseException") = some true) (hdct : hasDictIn K D = true) (ha : findIn K (.ref D) "__class__" = some (some (.builtin "object.__class__")))
    (hn : specialIn K (.builtin "object.__class__") "__get__" = some (some (.builtin "getset_descriptor.__get__"))) (htk : takesIn K (.builtin "object.__class__") = some true) (hm : mroIn K D (.type "object") = some true) :
    KitX K (.ref x) (.ref D) (fun h => InstAt h x ox D od) where
  ty := fun _ _ _ I => I.type
  it := fun _ _ X _ => by
    obtain ⟨cdD, hcD, _⟩ := any_some hdct
    unfold clsIn at hcD
    split at hcD
    · rename_i c' d' cd' sl' ho
      intro A' Q' E' s' k q
      unfold isType loadHead
      exact wpAny_bind (wpAny_loadPart (k _ _ (X _ _ ho)) (wpAny_pure q))
    · cases hcD
  ne := fun h tp dd its n sl X htp => by
    obtain ⟨cdD, hcD, _⟩ := any_some hdct
    refine Bool.eq_false_iff.mpr fun q => ?_
    have e : D = tp := Value.ref.inj (beq_iff_eq.mp q)
    subst e
    unfold clsIn at hcD
    split at hcD
    · rename_i c' d' cd' sl' ho
      have z := (X _ _ ho).symm.trans htp
      cases z
    · cases hcD
  ca := fun X I k => ek_kin_class hga hgt hsub hdct ha hn htk hm X I k
end
end PySem.W
namespace EK
open PySem PySem.Spec PyProof.Rows L2
/-- isinstance(e, c), e the exception that the suite holds: its class D, its dict at d -/
def rIsE (K : PySem.W.Frag) (cls : Value) (d : Option Addr) (D a : Addr) : List V → Hp → VK → Prop := fun xs H Q => ∃ (c : V) (cv : Value) (b : Bool), xs = [.ref a, c] ∧ cls = .ref D ∧ (∃ dd fs, d = some dd ∧ H dd = some (.xd fs)) ∧ ClsV c cv ∧ PySem.W.kitOne K (.ref D) cv = some b ∧ Q (.bl b) H
theorem call_isE {X : Cx} {a D : Addr} {cls : Value} {d : Option Addr} {oe : Obj} {pn : List (Addr × Obj)} (C : ExcC X.K D) (hz : Zc cls d oe) (hf : ∃ vs, oe.data = .fields vs) : CallR (X.suite a ((a, oe) :: pn)) (.builtin "isinstance") (rIsE X.K cls d D a) := by
  intro pins s σ H xs us Q I r h
  obtain ⟨c, cv, b, rfl, ec, ⟨dd, fs, ed, hd⟩, k, e, q⟩ := h
  obtain ⟨u1, u2, rfl, r1, r2⟩ := vals2 r
  cases r1
  have e2 := k.eq r2
  subst e2 ec ed
  obtain ⟨hget, _⟩ := I.pin (a, oe) (List.mem_append.mpr (.inl List.mem_cons_self))
  obtain ⟨vs, hv⟩ := hf
  have hx : ObjOk X.prog X.w H s.heap dd (.xd fs) := I.hok dd _ hd
  obtain ⟨mA, hns, _⟩ := hx
  obtain ⟨od, ho, _⟩ := lookIn_ns hns
  have J : PySem.W.InstAt s.heap a oe D (some od) := ⟨hget, hz.1, by unfold PySem.W.notCls; rw [hv] <;> rfl, by rw [hz.2]; exact ho⟩
  exact PySem.W.kia_one (PySem.W.ek_kitx C.hg C.hk C.hs C.hd C.ha C.hn C.ht C.hm) I.kIn J e (fun z => nomatch z) fun tk => ⟨.bl b, H, I.kept (t' := tk) fun _ _ z => z, rfl, q⟩
/-! ### several except clauses, all with one name -/
def endsN (D : Ends) (i : Nat) : Ends := { nx := fun σ' H' => D.nx (σ'.set i none) H', rt := D.rt, bk := fun σ' H' => D.bk (σ'.set i none) H', ct := fun σ' H' => D.ct (σ'.set i none) H' }
def wManyN (K : PySem.W.Frag) (Wout : WX) (D : Ends) (i : Nat) : List (Value × (Addr → Value → Option Addr → TS)) → WX
  | [] => Wout
  | (c, ts) :: r => fun cls d σ H => ∃ b, PySem.W.exmOne K cls c = some b ∧ (b = true → ∀ a, H a = none → ts a cls d (endsN D i) (σ.set i (some (.ref a))) H) ∧ (b = false → wManyN K Wout D i r cls d σ H)
inductive HdsN (X : Cx) (n : Str) : List ExceptHandler → List (Value × (Addr → Value → Option Addr → TS)) → Prop
  | nil : HdsN X n [] []
  | cons {x : Str} {c : Value} {ts : Addr → Value → Option Addr → TS} {b₀ : Stmt} {suite : List Stmt} {np pos' : Pos} {hds : List ExceptHandler} {l : List (Value × (Addr → Value → Option Addr → TS))} (hc : Names X x c)
      (hsu : ∀ (a : Addr) (oe : Obj) (cls : Value) (d : Option Addr) (pn : List (Addr × Obj)), Zc cls d oe → (∃ vs, oe.data = .fields vs) → PSs (X.suite a ((a, oe) :: pn)) (b₀ :: suite) (ts a cls d)) (r : HdsN X n hds l) :
      HdsN X n (.ExceptHandler (some (.Name x np)) (some n) (b₀ :: suite) pos' :: hds) ((c, ts) :: l)
section
variable {X : Cx} {n : Str} {i : Nat} {body : List Stmt} {h₀ : ExceptHandler} {hds : List ExceptHandler} {l : List (Value × (Addr → Value → Option Addr → TS))} {pos : Pos} {tb : WX → TS} {Wout : WX}
theorem ps_tryN (hs : X.stack = X.env :: X.outer) (hf : X.env.frame = some X.env.locals) (hN : X.N.Nodup) (hi : X.N[i]? = some n) (hln : X.env.kindOf n = some .local) (tk : Takes X Wout)
    (hb : ∀ (W : WX) (pn : List (Addr × Obj)) (xe : Value → Shared → Prop), Takes (X.tr pn xe) W → PassesOwn (model X.prog X.w) X.A X.env xe → PSs (X.tr pn xe) body (tb W))
    (hh : HdsN X n (h₀ :: hds) l) : PS X (.Try body (h₀ :: hds) [] [] pos) (fun D σ H => tb (wManyN X.K Wout D i l) D σ H) := by
  refine ⟨fun pins s σ H D I h => ?_⟩
  have ok := I.ok
  have hfr : X.A.frames = some (X.env :: X.outer) := by rw [ok.frames, hs]
  have hloc : Loc X.env.scope n := .inl hln
  refine wpAny_Try_except ?_
  refine wpAny_mono ((hb (wManyN X.K Wout D i l) (X.pn ++ pins) (fun e s₁ => wpAny (model X.prog X.w) X.A (noteFrame e X.env) (fun _ s₂ => wpAny (model X.prog X.w) X.A (setFlight e none) (fun _ s₃ =>
    wpAny (model X.prog X.w) X.A (handleBy e X.env (h₀ :: hds)) (SP X pins D) X.xe s₃) X.xe s₂) X.xe s₁) (fun u s' xx => ?_) PassesOwn.looking).run [] s σ H D (I.toTry _) h) (fun f s1 hsp => ?_) (fun e s1 he => he)
  · -- the catch
    obtain ⟨a, B, sI, pins', σ', H', cls, d, rfl, J', nb, up, sky, na, os, ag, w⟩ := xx
    have J : Inv X pins σ' H' sI := J'.ofTry ok
    have sky' : Sky B (X.env :: X.outer) a (Zc cls d) X.env.locals s'.heap := by rw [← hs]; exact sky
    show wpAny (model X.prog X.w) X.A (noteFrame (.ref a) X.env) _ _ _
    refine Sky.land Zc.steady hfr hf sky' fun h3 fl3 up3 => ?_
    have J3 : Inv X pins σ' H' { s' with heap := h3 } := J.landed nb fl3.1 (up.trans up3) os ag
    obtain ⟨oe3, vs3, he3, hz3, hd3⟩ := fl3.there
    have notFr : ∀ {h : Heap} {o : Obj} {vs : Array Value}, h.FunFrames B (X.env :: X.outer) → h.get? a = some o → o.data = .fields vs → a ∉ frs (X.env :: X.outer) := fun {h o vs} ff e dd hm => by
      obtain ⟨_, o', e', hnf⟩ := ff.mem hm
      rw [e] at e'; cases e'
      exact hnf _ dd
    have nfr := notFr fl3.2.2.1 he3 hd3
    have nL : a ≠ X.env.locals := fun z => nfr (List.mem_filterMap.mpr ⟨X.env, List.mem_cons_self, by rw [hf, z]⟩)
    have nF : a ∉ X.fs := fun hm => by
      obtain ⟨e, he, q⟩ := List.mem_filterMap.mp hm
      exact nfr (List.mem_filterMap.mpr ⟨e, List.mem_cons_of_mem _ he, q⟩)
    have S3 := J3.suite he3 hd3 na nL nF
    have go : ∀ {hds' : List ExceptHandler} {l' : List (Value × (Addr → Value → Option Addr → TS))}, HdsN X n hds' l' → wManyN X.K Wout D i l' cls d σ' H' →
        wpAny (model X.prog X.w) X.A (handleBy (.ref a) X.env hds') (SP X pins D) X.xe { s' with heap := h3 } := by
      intro hds' l' hk
      induction hk with
      | nil =>
        intro w
        refine wpAny_handleBy_nil ?_
        obtain ⟨k1, k2, k3, oe, vs, T, oT, ts', he, hz, hd, h1, hr⟩ := id fl3
        unfold PySem.passOn
        refine wpAny_bind (wpAny_field he hd h1 ?_)
        rw [if_neg (show ¬ ((Value.ref T == Value.none) = true) from by simp)]
        have fin : wpAny (model X.prog X.w) X.A (setFlight (.ref a) X.env.frame) (fun _ s4 => wpAny (model X.prog X.w) X.A (throw (.ref a) : Sem Flow) (SP X pins D) X.xe s4) X.xe { s' with heap := h3 } := by
          rw [hf]
          refine HandSPX.setFlight_upZ fl3 fun h4 hh4 up4 => wpAny_throw (tk _ _ ?_)
          exact ⟨a, B, sI, pins, σ', H', cls, d, rfl, J, nb, (up.trans up3).trans up4, .inr (.inr (by rw [hs]; exact hh4)), na, os, ag, w⟩
        first
          | exact wpAny_bind (wpAny_pure (wpAny_bind fin))
          | exact wpAny_bind fin
      | @cons x c ts b₀ suite np pos' hds2 l2 hc hsu r ih =>
        intro w
        obtain ⟨b, hb1, hyes, hno⟩ := w
        refine wpAny_handleBy_cons (codeAny_handlers_test ?_) (by intro q; cases q)
        have LT : PySem.W.Looks (model X.prog X.w) h3 (typeOf (.ref a)) cls := fun A Q E s k q => wpAny_typeOf_ref (k _ _ he3) (by rw [hz3.1]; exact q)
        have LM := PySem.W.exm_one (M := model X.prog X.w) (J3.kIn) LT hb1
        have test : ∀ {Q : Value → Shared → Prop} {E : Value → Shared → Prop}, Q c { s' with heap := h3 } → wpAny (model X.prog X.w) (X.A.mark (some (.ref a))) (eval (.Name x np) X.env) Q E { s' with heap := h3 } := fun {Q E} q => by
          obtain ⟨hg, hdbg, hm | ⟨hm, hv, hnn⟩⟩ := hc
          · exact ld_glob (X := X.suite a ((a, oe3) :: (X.pn ++ pins))) S3 hg hm q hdbg
          · exact ld_blt (X := X.suite a ((a, oe3) :: (X.pn ++ pins))) S3 hg hm hv q hnn hdbg
        refine test (LM.here ?_)
        cases b with
        | true =>
          refine codeAny_handlers_suite_as ?_
          refine HandSPX.lands_againZ fl3 fun h4 fl4 up4 => ?_
          have J4 : Inv X pins σ' H' { s' with heap := h4 } := J.landed nb fl4.1 ((up.trans up3).trans up4) os ag
          obtain ⟨oe4, vs4, he4, hz4, hd4⟩ := fl4.there
          have S4 := J4.suite he4 hd4 na nL nF
          refine store_ok (X := X.suite a ((a, oe4) :: (X.pn ++ pins))) (v := .ref a) S4 hN hi hloc rfl (fun s5 S5 => ?_) (.inr hln)
          refine wpAny_mono ((hsu a oe4 cls d (X.pn ++ pins) hz4 ⟨_, hd4⟩).run [] s5 _ H' _ S5 (hyes rfl a na)) (fun f s6 hsp => ?_) (fun _ _ z => False.elim z)
          have end_ : ∀ {σ6 : L2.St} {H6 : Hp} {Q : Shared → Prop}, Inv (X.suite a ((a, oe4) :: (X.pn ++ pins))) [] σ6 H6 s6 → (∀ s7, Inv X pins (σ6.set i none) H6 s7 → Q s7) →
              wpAny (model X.prog X.w) X.A (do bindName X.env n .none; unbindBehindTheSuite X.env n pos') (fun _ s7 => Q s7) X.xe s6 := fun {σ6 H6 Q} S6 hq => gone_ok (S6.unsuite ok) hN hi hln hq
          cases f with
          | next =>
            obtain ⟨σ6, H6, S6, q6⟩ := hsp
            exact end_ S6 fun s7 J7 => ⟨_, _, J7, q6⟩
          | brk =>
            obtain ⟨σ6, H6, S6, q6⟩ := hsp
            exact end_ S6 fun s7 J7 => ⟨_, _, J7, q6⟩
          | cont =>
            obtain ⟨σ6, H6, S6, q6⟩ := hsp
            exact end_ S6 fun s7 J7 => ⟨_, _, J7, q6⟩
          | ret u =>
            obtain ⟨v6, σ6, H6, S6, r6, q6⟩ := hsp
            exact end_ S6 fun s7 J7 => ⟨_, _, _, J7, r6, q6⟩
        | false =>
          show wpAny _ X.A (handleBy (.ref a) X.env hds2) _ _ _
          exact ih (hno rfl)
    exact go hh w
  · cases f with
    | next =>
      obtain ⟨σ', H', J', q⟩ := hsp
      exact wpAny_execs_nil ⟨σ', H', J'.ofTry ok, q⟩
    | brk =>
      obtain ⟨σ', H', J', q⟩ := hsp
      exact ⟨σ', H', J'.ofTry ok, q⟩
    | cont =>
      obtain ⟨σ', H', J', q⟩ := hsp
      exact ⟨σ', H', J'.ofTry ok, q⟩
    | ret u =>
      obtain ⟨v, σ', H', J', r, q⟩ := hsp
      exact ⟨v, σ', H', J'.ofTry ok, r, q⟩
end
end EK

/-! exceptions of own classes as values: made by position and by name, their fields, isinstance -/
namespace PySem
namespace ExV
open PySem.Spec PySem.W PySem.Calls PyProof.Rows PySem.HandSPX Builtin Builtin.ObjectAttr
section
variable {M : Model} {prog : Program} {w : World} {A : Around} {E : Value → Shared → Prop} {R : Result → Shared → Prop} {h : Heap} {g : Array GenState} {d : Drawn} {t : Nat} {os : OsState}
variable {nm q : Str} {C N : Addr} {bs bm bmB : List Value} {hdct : Bool} {sn : List Str} {sub : List Value} {ab : Bool} {col : Option Bool} {dd : Option Addr} {k0 k1 k2 k3 k5 : Option Value} {B newId initId : String} {kw : List (Str × Value)} {xs : List Value}
theorem own_check (F : ExcBaseFacts B newId initId bmB) (hT : ∀ X : String, bm.contains (.type X) = bmB.contains (.type X)) {Q : Unit → Shared → Prop}
    (hC : h.get? C = some (excClassObj nm q C N bs bm hdct sn sub ab col dd k0 k1 k2 k3 k5 newId)) (z : Q () ⟨h, g, d, t, os⟩) : wpAny M A (checkBuiltinCall newId ⟨.ref C :: xs, kw⟩) Q E ⟨h, g, d, t, os⟩ := by
  have inB : (Value.ref C :: bm).contains (.type B) = true := by
    rw [List.contains_cons, hT, F.hasB, Bool.or_true]
  have st := F.noStar
  simp only [checkBuiltinCall, F.newKind, F.newSplit, F.newRow]
  repeat (first | refine wpAny_loadPart_at hC ?_ | (refine wpAny_isSubtype_exc hC ?_; rw [inB]) | refine wpAny_staticBase_exc hC ?_ | refine wpAny_madeBy_exc hC ?_ | simp only [bne_self_eq_false, Bool.false_eq_true, if_false] | wp_step)
  exact z
theorem own_new (F : ExcBaseFacts B newId initId bmB) (hT : ∀ X : String, bm.contains (.type X) = bmB.contains (.type X))
    (hC : h.get? C = some (excClassObj nm q C N bs bm hdct sn sub ab col dd k0 k1 k2 k3 k5 newId))
    (z : R (.ok (.ret (.ref (h.objs.size + 1)))) ⟨(h.push (W.kdv_tup xs)).push (excO C h.objs.size), g, d, t, os⟩) (hl : xs.length ≤ sizeLine) :
    codeAny (model prog w) A (.builtin newId ⟨.ref C :: xs, kw⟩) R ⟨h, g, d, t, os⟩ := by
  have en := F.ends
  have inB : (Value.ref C :: bm).contains (.type B) = true := by
    rw [List.contains_cons, hT, F.hasB, Bool.or_true]
  have noA : (Value.ref C :: bm).contains (.type "AttributeError") = false := by
    rw [List.contains_cons, hT, F.noAttr]
    rfl
  have noN : (Value.ref C :: bm).contains (.type "NameError") = false := by
    rw [List.contains_cons, hT, F.noName]
    rfl
  refine codeAny_builtinAt F.entry ?_
  unfold Builtin.«BaseException.__new__»
  refine wpAt_bind ?_
  show wpAt _ _ _ (stack >>= _) _ _ _
  refine wpAt_bind (wpAt_stack fun p below => wpAt_of_wpAny ?_)
  wp_walk
  refine wpAt_of_wpAny ?_
  rw [F.owner]
  repeat (first | with_reducible refine wpAny_madeHere_exc F.canon hC ?_ | with_reducible refine wpAny_loadPart_at hC ?_ | (with_reducible refine wpAny_isSubtype_exc hC ?_; first | rw [inB] | rw [noA] | rw [noN]) | wp_step)
  show R _ _
  rw [Heap.size_push]
  exact z
theorem own_type (F : ExcBaseFacts B newId initId bmB) (hT : ∀ X : String, bm.contains (.type X) = bmB.contains (.type X)) {fv : Value} {Q : Fin → Shared → Prop}
    (hC : h.get? C = some (excClassObj nm q C N bs bm hdct sn sub ab col dd k0 k1 k2 k3 k5 newId))
    (hi : W.Looks (model prog w) h (typeLookup (.ref C) "__init__") (some fv)) (hb : ∀ self, W.Looks (model prog w) h (bindSpecial fv self) (fv, [self])) (hl : xs.length ≤ sizeLine)
    (z : codeAny (model prog w) A (.call fv ⟨.ref (h.objs.size + 1) :: xs, kw⟩) (fun r s' => match r with | .ok (.ret v) => v = .none ∧ Q (.done (.ret (.ref (h.objs.size + 1)))) s' | .ok _ => False | .error e => E e s')
      ⟨(h.push (W.kdv_tup xs)).push (excO C h.objs.size), g, d, t, os⟩) :
    wpAny (model prog w) A (Builtin.«type.__call__» ⟨.ref C :: xs, kw⟩) Q E ⟨h, g, d, t, os⟩ := by
  repeat (first | with_reducible refine wpAny_loadPart_at hC ?_ | with_reducible refine wpAny_madeBy_exc hC ?_ | wp_step)
  refine codeAny_call_builtin_code (Code.quiet_builtin _ F.quiet) (own_check F hT hC ?_)
  refine own_new F hT hC ?_ hl
  show wpAny _ _ _ _ _ _
  have kp : ∀ b o, h.get? b = some o → ((h.push (W.kdv_tup xs)).push (excO C h.objs.size)).get? b = some o := fun b o y => Heap.get?_push_of_some _ (Heap.get?_push_of_some _ y)
  have hC2 := kp _ _ hC
  have he : ((h.push (W.kdv_tup xs)).push (excO C h.objs.size)).get? (h.objs.size + 1) = some (excO C h.objs.size) := by heap_get
  have inC : (Value.ref C :: bm).contains (.ref C) = true := by simp
  have hi2 := hi.keeps kp
  have hb2 := (hb (.ref (h.objs.size + 1))).keeps kp
  unfold isInstance
  repeat (first | with_reducible refine wpAny_loadPart_at he ?_ | (with_reducible refine wpAny_isSubtype_exc hC2 ?_; rw [inC]) | wp_step)
  show wpAny _ _ (typeLookup (.ref C) _) _ _ _
  refine hi2.at ?_
  refine wpAny_holding (wpAny_bind (hb2.at ?_))
  refine wpAny_bind (wpAny_call (codeAny_mono z fun r s' y => ?_))
  rcases r with e | (v | _ | _ | _) <;> first | exact y | exact y.elim | skip
  obtain ⟨rfl, y⟩ := y
  first
    | exact wpAny_pure (wpAny_pure y)
    | (wp_walk; exact y)
theorem own_chk {Q : Unit → Shared → Prop} (hC : h.get? C = some (excClassObj nm q C N bs bm hdct sn sub ab col dd k0 k1 k2 k3 k5 newId))
    (hq : Q () ⟨h, g, d, t, os⟩) : wpAny M A (checkBuiltinCall "type.__call__" ⟨.ref C :: xs, kw⟩) Q E ⟨h, g, d, t, os⟩ := by
  have sb := tc_sub
  have ty : (⟨h, g, d, t, os⟩ : Shared).TypeIs (.ref C) "type" := ⟨_, hC, rfl⟩
  simp only [checkBuiltinCall, tc_kind, tc_split]
  repeat (any_goals (first | assumption | with_reducible refine wpAny_loadPart_at hC ?_ | with_reducible refine wpAny_onRaise ?_ | with_reducible refine wpAny_map ?_ | wp_step))
theorem own_call (F : ExcBaseFacts B newId initId bmB) (hT : ∀ X : String, bm.contains (.type X) = bmB.contains (.type X)) {fv : Value}
    (hC : h.get? C = some (excClassObj nm q C N bs bm hdct sn sub ab col dd k0 k1 k2 k3 k5 newId))
    (hi : W.Looks (model prog w) h (typeLookup (.ref C) "__init__") (some fv)) (hb : ∀ self, W.Looks (model prog w) h (bindSpecial fv self) (fv, [self])) (hl : xs.length ≤ sizeLine)
    (z : codeAny (model prog w) (A.under (.builtin "type.__call__" ⟨.ref C :: xs, kw⟩)) (.call fv ⟨.ref (h.objs.size + 1) :: xs, kw⟩) (W.InitBack (h.objs.size + 1) R)
      ⟨(h.push (W.kdv_tup xs)).push (excO C h.objs.size), g, d, t, os⟩) : codeAny (model prog w) A (.call (.ref C) ⟨xs, kw⟩) R ⟨h, g, d, t, os⟩ := by
  have lk := tc_lookup
  have bd := tc_bind (.ref C)
  have ty : (⟨h, g, d, t, os⟩ : Shared).TypeIs (.ref C) "type" := ⟨_, hC, rfl⟩
  refine codeAny_of_tree ?_
  show wpAny _ _ (callAny (.ref C) _) _ _ _
  repeat (any_goals (first | assumption | with_reducible refine wpAny_loadPart_at hC ?_ | wp_step))
  refine ⟨rfl, ?_⟩
  refine codeAny_call_builtin_at (Code.quiet_builtin _ (by decide +kernel)) entry_typeCall (own_chk hC (own_type F hT hC hi hb hl ?_))
  refine codeAny_mono z fun r s' y => ?_
  rcases r with e | (v | _ | _ | _) <;> exact y
end
end ExV
end PySem
namespace EK
open PySem PySem.Spec PyProof.Rows L2
/-- C(..) kept as a value: __init__ keeps sp -/
def tMkV (C : Addr) (sp : Sp) (ta : TA) : TE := fun σ H Q => ta σ H fun vs H1 => vs.length ≤ 1000 ∧ ∀ a, H1 a = none → sp (.ref a :: vs) (upd H1 a (exo a C none)) (fun v H2 => v = .non ∧ Q (.ref a) H2) (fun _ _ _ => False)
/-- .. by names, put in their order by g -/
def tMkN (C : Addr) (sp : Sp) (n : Nat) (g : List V → List V → List V) (tk : TA) : TE := fun σ H Q => tk σ H fun zs H1 => zs.length = n ∧ ∀ a, H1 a = none → sp (g [.ref a] zs) (upd H1 a (exo a C none)) (fun v H2 => v = .non ∧ Q (.ref a) H2) (fun _ _ _ => False)
section
variable {X : Cx} {CX : CXT} {x : Str} {e : Expr} {es : List Expr} {ta tk : TA} {p pos : Pos} {C fI : Addr} {k : Nat} {fd : FuncData} {ps ks : List Str} {sp : Sp} {kws : List Keyword} {pins : List (Addr × Obj)} {σ : L2.St} {H : Hp} {s : Shared} {Q : VK}
theorem run_mkv (T : OexC X.K C) (iC : PySem.W.findIn X.K (.ref C) "__init__" = some (some (.ref fI))) (tI : PySem.W.typeIn X.K (.ref fI) = some (.type "function")) (F1 : FnOk X.prog X.w X.K X.mg X.base CX k fI fd ps sp) (hr : Room (k + 1) X.A)
    (hx : Passes CX X (fun _ _ _ => False)) (I : Inv X pins σ H s) {us : List Value} {kw : List (Str × Value)} (hl : us.length ≤ sizeLine) {G : Value → List Value} {gv : V → List V} (hb : ∀ (s' : Shared) (u : Value), X.K.In s'.heap → BindsTo s' fd ⟨u :: us, kw⟩ (ps.zip (G u)))
    (r2 : ∀ a : Addr, Vals (gv (.ref a)) (G (.ref a))) (h : ∀ a, H a = none → sp (gv (.ref a)) (upd H a (exo a C none)) (fun v H2 => v = .non ∧ Q (.ref a) H2) (fun _ _ _ => False)) : wpAny (model X.prog X.w) X.A (call (.ref C) us kw) (EP X pins σ Q) X.xe s := by
  obtain ⟨nm, q, N, bs, bm, sn, sub, ab, col, dd, k0, k1, k2, k3, k5, hC, hbm⟩ := T.cls
  obtain ⟨hp, g, dr, tk, os⟩ := s
  have up : hp.objs.size ≤ hp.objs.size + 1 := Nat.le_succ _
  have hq := h (hp.objs.size + 1) (I.hok.fresh up)
  have kk : ∀ b o, hp.get? b = some o → ((hp.push (PySem.W.kdv_tup us)).push (PySem.HandSPX.excO C hp.objs.size)).get? b = some o := fun b o y => Heap.get?_push_of_some _ (Heap.get?_push_of_some _ y)
  have he : ((hp.push (PySem.W.kdv_tup us)).push (PySem.HandSPX.excO C hp.objs.size)).get? (hp.objs.size + 1) = some (PySem.HandSPX.excO C hp.objs.size) := by heap_get
  have I2 : Inv X pins σ (upd H (hp.objs.size + 1) (exo (hp.objs.size + 1) C none)) ⟨(hp.push (PySem.W.kdv_tup us)).push (PySem.HandSPX.excO C hp.objs.size), g, dr, tk, os⟩ :=
    I.laid (t' := tk) (a := hp.objs.size + 1) (o := exo (hp.objs.size + 1) C none) (h' := (hp.push (PySem.W.kdv_tup us)).push (PySem.HandSPX.excO C hp.objs.size)) kk up (exo_ok he)
  refine wpAny_call (PySem.ExV.own_call F.excBase_ValueError (fun Y => PySem.HandSPX.refsVE_contains Y bm hbm) (I.kIn _ _ hC) (PySem.W.looks_findIn I.kIn iC) (fun self => PySem.W.bind_fn I.kIn self tI) hl
    (codeAny_mono (F1.run _ X.stack _ _ ⟨Value.ref (hp.objs.size + 1) :: us, kw⟩ (G (.ref (hp.objs.size + 1))) _ _ (fun _ _ _ => False) (hr.make C us kw) (I2.env0.make C us kw) (hb _ _ I2.kIn) (r2 _) hq) fun r s' hq' => ?_))
  cases r with
  | error er => exact hx pins σ _ _ er s' I2 hq'
  | ok fl =>
    cases fl with
    | ret u =>
      obtain ⟨v, H', I3, rv, ev, q3⟩ := I2.after hq'
      subst ev
      exact ⟨rv, ⟨V.ref (hp.objs.size + 1), H', I3, rfl, q3⟩⟩
    | next => exact False.elim hq'
    | brk => exact False.elim hq'
    | cont => exact False.elim hq'
theorem pe_mkv (T : OexC X.K C) (iC : PySem.W.findIn X.K (.ref C) "__init__" = some (some (.ref fI))) (tI : PySem.W.typeIn X.K (.ref fI) = some (.type "function")) (F1 : FnOk X.prog X.w X.K X.mg X.base CX k fI fd ps sp) (hr : Room (k + 1) X.A) (hb : Binds X.K fd ps [])
    (hx : Passes CX X (fun _ _ _ => False)) (hg : Gl X x) (hm : X.mg x = some (.ref C)) (ha : PA X (e :: es) ta) (hdb : (x == ("__debug__" : Str)) = false := by decide) (he : starEach (e :: es) X.env = (false, eval e X.env) :: starEach es X.env := by rfl)
    (hpl : (backTo pos (starEach es X.env)).any (·.1) = false := by rfl) : PE X (.Call (.Name x p) (e :: es) [] pos) (tMkV C sp ta) := by
  refine ⟨fun pins s σ H Q I h => ?_⟩
  refine wpAny_Call_Name_kw (ld_glob I hg hm ?_ hdb)
  refine PySem.W.callWith_K (h₀ := X.base) I.ok.mod.kin T.kC (thn (ha.run pos pins s σ H _ I h) fun us s1 ⟨vs, H1, I1, r1, hz, q1⟩ => ⟨I1.kIn, ?_⟩) he hpl
  have hus : us.length ≤ sizeLine := by
    rw [← Paired.length r1, sizeLine_eq]
    omega
  show wpAny _ _ (call (.ref C) us) _ _ _
  refine run_mkv (gv := fun v => v :: vs) (G := fun u => u :: us) T iC tI F1 hr hx I1 hus (fun s' u X' => ?_) (fun a => .cons rfl r1) q1
  have y := hb s' (u :: us) X' ?_
  · rw [List.append_nil] at y
    exact y
  have el : (Value.ref 0 :: us).length = ps.length := by
    have z := F1.len _ _ _ _ (q1 _ (I1.hok.fresh (Nat.le_refl _)))
    rw [← z]
    exact (Paired.length (F := RelV) (.cons (a := V.ref 0) (b := Value.ref 0) rfl r1)).symm
  simpa using el
theorem pe_mkn {g : List Value → List Value → List Value} {gV : List V → List V → List V} (T : OexC X.K C) (iC : PySem.W.findIn X.K (.ref C) "__init__" = some (some (.ref fI))) (tI : PySem.W.typeIn X.K (.ref fI) = some (.type "function")) (F1 : FnOk X.prog X.w X.K X.mg X.base CX k fI fd ps sp)
    (hr : Room (k + 1) X.A) (hb : KBn X.K fd ps 1 ks g gV) (hx : Passes CX X (fun _ _ _ => False)) (hg : Gl X x) (hm : X.mg x = some (.ref C)) (hkw : PK X kws tk) (hall : (backToKw pos (keywordEach kws X.env)).all (·.1.isSome) = true := by rfl)
    (hks : (backToKw pos (keywordEach kws X.env)).filterMap (·.1) = ks := by rfl) (hdb : (x == ("__debug__" : Str)) = false := by decide) (hpl : ((backTo pos (starEach [] X.env)).any (·.1) || (backToKw pos (keywordEach kws X.env)).any (·.1.isNone)) = false := by rfl) :
    PE X (.Call (.Name x p) [] kws pos) (tMkN C sp ks.length gV tk) := by
  refine ⟨fun pins s σ H Q I h => ?_⟩
  refine wpAny_Call_Name_kw (ld_glob I hg hm ?_ hdb)
  refine PySem.W.callWith_KW0 (h₀ := X.base) I.ok.mod.kin T.kC hall ?_ hpl
  refine thn (hkw.run pos pins s σ H _ I h) fun ws s2 ⟨zs, H2, I2, rz, l1, q2⟩ => ⟨I2.kIn, ?_⟩
  rw [hks]
  exact run_mkv (gv := fun v => gV [v] zs) (G := fun u => g [u] ws) T iC tI F1 hr hx I2 (Nat.zero_le _) (fun s' u X' => hb.to s' [u] ws X' rfl (rz.length.symm.trans l1)) (fun a => hb.rel (.cons rfl .nil) rz) q2
/-- C(), C without an __init__ of its own -/
def tMk0 (C : Addr) : TE := fun _ H Q => ∀ a, H a = none → Q (.ref a) (upd H a (exo a C none))
theorem pe_mk0 (T : OexC X.K C) (iC : PySem.W.findIn X.K (.ref C) "__init__" = some (some (.builtin "ValueError.__init__"))) (hg : Gl X x) (hm : X.mg x = some (.ref C)) (hdb : (x == ("__debug__" : Str)) = false := by decide) :
    PE X (.Call (.Name x p) [] [] pos) (tMk0 C) := by
  refine ⟨fun pins s σ H Q I h => ?_⟩
  refine wpAny_Call_Name_kw (ld_glob I hg hm ?_ hdb)
  refine PySem.W.callWith_K0 (first := []) I.kIn T.kC ?_
  show wpAny _ _ (call (.ref C) []) _ _ _
  obtain ⟨nm, q, N, bs, bm, sn, sub, ab, col, dd, k0, k1, k2, k3, k5, hC, hbm⟩ := T.cls
  obtain ⟨hp, g, dr, tk, os⟩ := s
  have up : hp.objs.size ≤ hp.objs.size + 1 := Nat.le_succ _
  have kk : ∀ b o, hp.get? b = some o → ((hp.push (PySem.W.kdv_tup [])).push (PySem.HandSPX.excO C hp.objs.size)).get? b = some o := fun b o y => Heap.get?_push_of_some _ (Heap.get?_push_of_some _ y)
  have he : ((hp.push (PySem.W.kdv_tup [])).push (PySem.HandSPX.excO C hp.objs.size)).get? (hp.objs.size + 1) = some (PySem.HandSPX.excO C hp.objs.size) := by heap_get
  have I2 : Inv X pins σ (upd H (hp.objs.size + 1) (exo (hp.objs.size + 1) C none)) ⟨(hp.push (PySem.W.kdv_tup [])).push (PySem.HandSPX.excO C hp.objs.size), g, dr, tk, os⟩ :=
    I.laid (t' := tk) (a := hp.objs.size + 1) (o := exo (hp.objs.size + 1) C none) (h' := (hp.push (PySem.W.kdv_tup [])).push (PySem.HandSPX.excO C hp.objs.size)) kk up (exo_ok he)
  refine wpAny_call (PySem.ExV.own_call (fv := .builtin "ValueError.__init__") F.excBase_ValueError (fun Y => PySem.HandSPX.refsVE_contains Y bm hbm) (I.kIn _ _ hC) (PySem.W.looks_findIn I.kIn iC) (fun self => .of_pure (F.excBase_ValueError.init.bind self)) (Nat.zero_le _)
    (PySem.HandSPX.init_base F.excBase_ValueError (fun Y => PySem.HandSPX.refsVE_contains Y bm hbm) (I2.kIn _ _ hC) he (Nat.zero_le _) fun h' t2 kh hx => ?_))
  have eu : upd (upd H (hp.objs.size + 1) (exo (hp.objs.size + 1) C none)) (hp.objs.size + 1) (exo (hp.objs.size + 1) C none) = upd H (hp.objs.size + 1) (exo (hp.objs.size + 1) C none) := upd_upd
  have J := I2.write (t' := tk) (x := hp.objs.size + 1) (e := hp.objs.size + 1) (o := exo (hp.objs.size + 1) C none) (by rw [upd_same]; exact True.intro) (.inl rfl) kh ⟨_, hx⟩ (exo_ok hx)
  rw [eu] at J
  exact ⟨rfl, V.ref (hp.objs.size + 1), _, J, rfl, h _ (I.hok.fresh up)⟩
/-- e.f, e an exception that stands in the heap -/
def tEf (K : PySem.W.Frag) (f : Str) (te : TE) : TE := fun σ H Q => te σ H fun x H1 => ∃ (a C d : Addr) (fs : List (Str × V)) (v : V), x = .ref a ∧ XfC K C ∧ PySem.W.findIn K (.ref C) f = some none ∧ H1 a = some (exo a C (some d)) ∧ H1 d = some (exd d fs) ∧ fs.lookup f = some v ∧ Q v H1
theorem pe_ef {te : TE} {n : Str} (he : PE X e te) (hb : attributeBase e n X.env (eval e X.env) = eval e X.env := by rfl) : PE X (.Attribute e n pos) (tEf X.K n te) := by
  refine ⟨fun pins s σ H Q I h => ?_⟩
  refine attr_of hb (thn (he.run pins s σ H _ I h) fun u s1 hh => ?_)
  obtain ⟨x, H1, I1, rx, a, C, d, fs, v, ex, T, hno, ha, hd, l, q⟩ := hh
  subst ex
  obtain rfl : u = Value.ref a := rx
  obtain ⟨t1, ho⟩ := exo_at I1.hok ha
  obtain ⟨mA, hns, hr⟩ := exd_at I1.hok hd
  obtain ⟨od, ho2, hl⟩ := lookIn_ns hns
  obtain ⟨u, hu, ru⟩ := RelO.some_of (v := v) (o := mA n) (by rw [← l]; exact hr n)
  have J : PySem.W.InstAt s1.heap a _ C (some od) := ⟨ho, rfl, rfl, ho2⟩
  exact HandSPX.exc_get I1.kIn J T.ga T.gg T.exC (PySem.W.findObj_own T.hdC hno rfl (by rw [hl, hu])) (handed_of ru) ⟨v, H1, I1.tok _, ru, q⟩
/-- isinstance(e, D), e an exception that stands in the heap -/
def rIsX (K : PySem.W.Frag) : List V → Hp → VK → Prop := fun xs H Q => ∃ (a C : Addr) (d : Option Addr) (c : V) (cv : Value) (b : Bool), xs = [.ref a, c] ∧ ExcC K C ∧ H a = some (exo a C d) ∧ (∀ dd, d = some dd → ∃ fs, H dd = some (exd dd fs)) ∧ ClsV c cv ∧ PySem.W.kitOne K (.ref C) cv = some b ∧ Q (.bl b) H
theorem call_isX : CallR X (.builtin "isinstance") (rIsX X.K) := by
  intro pins s σ H xs us Q I r h
  obtain ⟨a, C, d, c, cv, b, rfl, EC, ha, hd, kc, e, q⟩ := h
  obtain ⟨u1, u2, rfl, r1, r2⟩ := vals2 r
  cases r1
  have e2 := kc.eq r2
  subst e2
  obtain ⟨t1, ho⟩ := exo_at I.hok ha
  cases d with
  | none =>
    have J : PySem.W.InstAt s.heap a _ C none := ⟨ho, rfl, rfl, trivial⟩
    exact PySem.W.kia_one (PySem.W.ek_kitx EC.hg EC.hk EC.hs EC.hd EC.ha EC.hn EC.ht EC.hm) I.kIn J e (fun z => nomatch z) fun tk => ⟨.bl b, H, I.kept (t' := tk) fun _ _ z => z, rfl, q⟩
  | some dd =>
    obtain ⟨fs, hx⟩ := hd dd rfl
    obtain ⟨mA, hns, _⟩ := exd_at I.hok hx
    obtain ⟨od, ho2, _⟩ := lookIn_ns hns
    have J : PySem.W.InstAt s.heap a _ C (some od) := ⟨ho, rfl, rfl, ho2⟩
    exact PySem.W.kia_one (PySem.W.ek_kitx EC.hg EC.hk EC.hs EC.hd EC.ha EC.hn EC.ht EC.hm) I.kIn J e (fun z => nomatch z) fun tk => ⟨.bl b, H, I.kept (t' := tk) fun _ _ z => z, rfl, q⟩
end
end EK

namespace Law
open PySem PySem.Spec PyProof.Rows L2 Evl TR GX
/-- the builtin type of what stands there -/
def Tn (T : String) : Gt → Prop
  | .int _ => T = "int"
  | .str _ => T = "str"
  | .bl _ => T = "bool"
  | .oth => T = "NoneType" ∨ T = "dict"
  | .seq k _ => T = if k = true then "tuple" else "list"
theorem GA.ty {K : PySem.W.Frag} {H : Hp} {v : V} {g : Gt} (h : GA H v g) : ∃ T, TyX K H v (.type T) ∧ Tn T g := by
  cases h with
  | int i => exact ⟨_, .base (.int i), rfl⟩
  | str z => exact ⟨_, .base (.str z), rfl⟩
  | bl b => exact ⟨_, .base (.bl b), rfl⟩
  | non => exact ⟨_, .base .non, .inl rfl⟩
  | dct h => exact ⟨_, .base (.dK h), .inr rfl⟩
  | @seq a k vs gs h r =>
    cases k
    · exact ⟨_, .base (.lst h), rfl⟩
    · exact ⟨_, .base (.tup h), rfl⟩
def isSq : Gt → Bool
  | .seq _ _ => true
  | _ => false
def isI : Gt → Bool
  | .int _ => true
  | _ => false
def isS : Gt → Bool
  | .str _ => true
  | _ => false
def isIB : Gt → Bool
  | .int _ => true
  | .bl _ => true
  | _ => false
def isB : Gt → Bool
  | .bl _ => true
  | _ => false
theorem kit_l {K : PySem.W.Frag} {T : String} {g : Gt} (h : Tn T g) : PySem.W.kitAny K (.type T) [.type "list", .type "tuple"] = some (isSq g) := by
  have no : ∀ T : String, PySem.W.kitOne K (.type T) (.type "list") = some false → PySem.W.kitOne K (.type T) (.type "tuple") = some false → PySem.W.kitAny K (.type T) [.type "list", .type "tuple"] = some false := fun T h1 h2 =>
    kitAny_cons (b := false) h1 (fun _ => kitAny_cons (b := false) h2 (fun _ => rfl) fun h => by cases h) fun h => by cases h
  cases g with
  | int i => cases h; exact no _ (kit_ty (by decide +kernel)) (kit_ty (by decide +kernel))
  | str z => cases h; exact no _ (kit_ty (by decide +kernel)) (kit_ty (by decide +kernel))
  | bl b => cases h; exact no _ (kit_ty (by decide +kernel)) (kit_ty (by decide +kernel))
  | oth =>
    rcases h with rfl | rfl
    · exact no _ (kit_ty (by decide +kernel)) (kit_ty (by decide +kernel))
    · exact no _ (kit_ty (by decide +kernel)) (kit_ty (by decide +kernel))
  | seq k gs =>
    cases k
    · cases h; exact kit_lt
    · cases h; exact kit_tt
theorem kit_i {K : PySem.W.Frag} {T : String} {g : Gt} (h : Tn T g) : PySem.W.kitOne K (.type T) (.type "int") = some (isIB g) := by
  cases g with
  | int i => cases h; show PySem.W.kitOne K (.type "int") (.type "int") = some true; exact kit_ty (by decide +kernel)
  | str z => cases h; show PySem.W.kitOne K (.type "str") (.type "int") = some false; exact kit_ty (by decide +kernel)
  | bl b => cases h; show PySem.W.kitOne K (.type "bool") (.type "int") = some true; exact kit_ty (by decide +kernel)
  | oth =>
    rcases h with rfl | rfl
    · show PySem.W.kitOne K (.type "NoneType") (.type "int") = some false; exact kit_ty (by decide +kernel)
    · show PySem.W.kitOne K (.type "dict") (.type "int") = some false; exact kit_ty (by decide +kernel)
  | seq k gs =>
    cases k
    · cases h; show PySem.W.kitOne K (.type "list") (.type "int") = some false; exact kit_ty (by decide +kernel)
    · cases h; show PySem.W.kitOne K (.type "tuple") (.type "int") = some false; exact kit_ty (by decide +kernel)
theorem kit_b {K : PySem.W.Frag} {T : String} {g : Gt} (h : Tn T g) : PySem.W.kitOne K (.type T) (.type "bool") = some (isB g) := by
  cases g with
  | int i => cases h; show PySem.W.kitOne K (.type "int") (.type "bool") = some false; exact kit_ty (by decide +kernel)
  | str z => cases h; show PySem.W.kitOne K (.type "str") (.type "bool") = some false; exact kit_ty (by decide +kernel)
  | bl b => cases h; show PySem.W.kitOne K (.type "bool") (.type "bool") = some true; exact kit_ty (by decide +kernel)
  | oth =>
    rcases h with rfl | rfl
    · show PySem.W.kitOne K (.type "NoneType") (.type "bool") = some false; exact kit_ty (by decide +kernel)
    · show PySem.W.kitOne K (.type "dict") (.type "bool") = some false; exact kit_ty (by decide +kernel)
  | seq k gs =>
    cases k
    · cases h; show PySem.W.kitOne K (.type "list") (.type "bool") = some false; exact kit_ty (by decide +kernel)
    · cases h; show PySem.W.kitOne K (.type "tuple") (.type "bool") = some false; exact kit_ty (by decide +kernel)
theorem kit_s {K : PySem.W.Frag} {T : String} {g : Gt} (h : Tn T g) : PySem.W.kitOne K (.type T) (.type "str") = some (isS g) := by
  cases g with
  | int i => cases h; show PySem.W.kitOne K (.type "int") (.type "str") = some false; exact kit_ty (by decide +kernel)
  | str z => cases h; show PySem.W.kitOne K (.type "str") (.type "str") = some true; exact kit_ty (by decide +kernel)
  | bl b => cases h; show PySem.W.kitOne K (.type "bool") (.type "str") = some false; exact kit_ty (by decide +kernel)
  | oth =>
    rcases h with rfl | rfl
    · show PySem.W.kitOne K (.type "NoneType") (.type "str") = some false; exact kit_ty (by decide +kernel)
    · show PySem.W.kitOne K (.type "dict") (.type "str") = some false; exact kit_ty (by decide +kernel)
  | seq k gs =>
    cases k
    · cases h; show PySem.W.kitOne K (.type "list") (.type "str") = some false; exact kit_ty (by decide +kernel)
    · cases h; show PySem.W.kitOne K (.type "tuple") (.type "str") = some false; exact kit_ty (by decide +kernel)
theorem eqS_of {K : PySem.W.Frag} {H : Hp} {v : V} {g : Gt} {z : Str} {Q : VK} (h : GA H v g) (q : Q (.bl (hd z g)) H) : ES.rEqS K v (.str z) H Q := by
  cases h with
  | int i => exact .inl ⟨rfl, by rw [decide_eq_false (fun z => by cases z)]; exact q⟩
  | str y =>
    refine .inl ⟨rfl, ?_⟩
    have : decide (V.str y = V.str z) = hd z (.str y) := by
      show _ = decide (y = z)
      rw [decide_eq_decide]
      exact ⟨fun h => V.str.inj h, fun h => by rw [h]⟩
    rw [this]
    exact q
  | bl b => exact .inl ⟨rfl, by rw [decide_eq_false (fun z => by cases z)]; exact q⟩
  | non => exact .inl ⟨rfl, by rw [decide_eq_false (fun z => by cases z)]; exact q⟩
  | dct h => exact .inr ⟨_, _, rfl, rfl, .inr (.inr ⟨_, h⟩), q⟩
  | @seq a k vs gs h r =>
    cases k
    · exact .inr ⟨_, _, rfl, rfl, .inl ⟨_, sq_of h⟩, q⟩
    · exact .inr ⟨_, _, rfl, rfl, .inr (.inl ⟨_, st_of h⟩), q⟩
def spIsLG : Sp := fun vs H Q _ => ∃ (v : V) (g : Gt), vs = [v] ∧ GA H v g ∧ ∀ H', Ex H H' → Q (.bl (isSq g)) H'
def spIsIG : Sp := fun vs H Q _ => ∃ (v : V) (g : Gt), vs = [v] ∧ GA H v g ∧ Q (.bl (isI g)) H
def spWhG : Sp := fun vs H Q _ => ∃ (v : V) (g : Gt) (lo hi : Int), vs = [v, .int lo, .int hi] ∧ GA H v g ∧ ∀ H', Ex H H' → Q (.bl (whole lo hi g)) H'
def spPartG : Sp := fun vs H Q _ => ∃ (v : V) (g : Gt) (L : List Nat) (w n : Nat), vs = [v, .str (tx L), .int (w : Int), .int (n : Int)] ∧ GA H v g ∧ L.length ≤ 10 ∧ ∀ H', Ex H H' → Q (.bl (isP L.length w n g)) H'
def spWithG : Sp := fun vs H Q _ => ∃ (v : V) (g : Gt) (l w n : Nat) (H0 : Hp), vs = [v] ∧ GA H0 v g ∧ isP l w n g = true ∧ Ex H0 H ∧ ∀ r H' us, Ex H H' → H r = none → H' r = some (.lst us) → GAs H0 us (kids g) → Q (.ref r) H'
section
variable {P : Program} {w : World} {K : PySem.W.Frag} {mg : Str → Option Value} {base : Heap}
theorem ok_isLG {f : Addr} {fd : FuncData} (F : Fun K "is_list" "is_list" s_is_list f fd) (T : Tx mg) : FnOk P w K mg base CX0 1 f fd ["value"] spIsLG := by
  refine F.ok sc_is_list (fun vs H Q E h => ?_) (fun cdv A outer s H vs Q E hr h => ?_)
  · obtain ⟨v, g, rfl, _⟩ := h
    rfl
  · obtain ⟨v, g, rfl, hg, q⟩ := h
    refine ⟨_, (pss_one (ps_ret (pe_callB call_isiT (by rfl) T.isinstance PyProof.Rows.boot_isinstance (pa_cons (pv 0) (pa_cons (pe_tup (pa_cons (pe_bltn (v := .ty "list") (by rfl) T.list PyProof.Rows.boot_list rfl) (pa_cons (pe_bltn (v := .ty "tuple") (by rfl) T.tuple PyProof.Rows.boot_tuple rfl) pa_nil))) pa_nil))))), ?_⟩
    refine ⟨_, rfl, by show 2 ≤ sizeLine; decide, fun t ht => ?_⟩
    obtain ⟨TT, ty, tn⟩ := GA.ty (K := K) (GA.ex (Ex.new ht) hg)
    exact ⟨_, t, _, _, _, _, rfl, upd_same, .cons (.ty _) (.cons (.ty _) .nil), ty, kit_l tn, q _ (Ex.new ht)⟩
theorem ok_isIG {f : Addr} {fd : FuncData} (F : Fun K "is_integer" "is_integer" s_is_integer f fd) (T : Tx mg) : FnOk P w K mg base CX0 1 f fd ["value"] spIsIG := by
  refine F.ok sc_is_integer (fun vs H Q E h => ?_) (fun cdv A outer s H vs Q E hr h => ?_)
  · obtain ⟨v, g, rfl, _⟩ := h
    rfl
  · obtain ⟨v, g, rfl, hg, q⟩ := h
    obtain ⟨TT, ty, tn⟩ := GA.ty (K := K) hg
    refine ⟨_, (pss_one (ps_ret (pe_and (pe_callB call_isi (by rfl) T.isinstance PyProof.Rows.boot_isinstance (pa_cons (pv 0) (pa_cons (pe_bltn (v := .ty "int") (by rfl) T.int PyProof.Rows.boot_int rfl) pa_nil))) (pe_one (pe_not (pe_callB call_isi (by rfl) T.isinstance PyProof.Rows.boot_isinstance (pa_cons (pv 0) (pa_cons (pe_bltn (v := .ty "bool") (by rfl) T.bool PyProof.Rows.boot_bool rfl) pa_nil)))))))), ?_⟩
    refine ⟨_, rfl, _, _, _, _, _, rfl, .ty _, ty, kit_i tn, _, rfl, ?_⟩
    cases g with
    | int i => exact ⟨_, rfl, _, _, _, _, _, rfl, .ty _, ty, kit_b tn, _, rfl, q⟩
    | bl b => exact ⟨_, rfl, _, _, _, _, _, rfl, .ty _, ty, kit_b tn, _, rfl, q⟩
    | str z => exact q
    | oth => exact q
    | seq k gs => exact q
theorem ok_whG {f : Addr} {fd : FuncData} (F : Fun K "is_whole" "is_whole" s_is_whole f fd) (T : Tx mg) (c_is_integer : Kn P w K mg base "is_integer" ["value"] 1 spIsIG) : FnOk P w K mg base CX0 2 f fd ["value", "low", "high"] spWhG := by
  refine F.ok sc_is_whole (fun vs H Q E h => ?_) (fun cdv A outer s H vs Q E hr h => ?_)
  · obtain ⟨v, g, lo, hi, rfl, _⟩ := h
    rfl
  · obtain ⟨v, g, lo, hi, rfl, hg, q⟩ := h
    refine ⟨_, (pss_one (ps_ret (pe_and (pe_call c_is_integer.ok (hr.mono (by decide)) (by rfl) c_is_integer.g c_is_integer.kp c_is_integer.b .nil pass0 (pa_cons (pv 0) pa_nil)) (pe_one (pe_chain op_le op_le (pv 1) (pv 0) (pv 2)))))), ?_⟩
    have q0 := q H (Ex.refl _)
    refine ⟨_, rfl, v, g, rfl, hg, _, rfl, ?_⟩
    cases hg with
    | int i =>
      refine ⟨_, rfl, _, rfl, _, _, rfl, rfl, _, rfl, ?_⟩
      have e : whole lo hi (.int i) = (decide (lo ≤ i) && decide (i ≤ hi)) := rfl
      rw [e] at q0
      cases hl : decide (lo ≤ i) with
      | true =>
        rw [hl, Bool.true_and] at q0
        exact ⟨_, rfl, _, _, rfl, rfl, q0⟩
      | false =>
        rw [hl, Bool.false_and] at q0
        exact q0
    | str z => exact q0
    | bl b => exact q0
    | non => exact q0
    | dct h => exact q0
    | seq h r => exact q0
end
end Law

namespace Law
open PySem PySem.Spec PyProof.Rows L2 Evl TR GX
theorem gas3 {H : Hp} {vs : List V} {gs : List Gt} (h : GAs H vs gs) (hl : gs.length = 3) : ∃ x y z h1 h2 h3, vs = [x, y, z] ∧ gs = [h1, h2, h3] ∧ GA H x h1 ∧ GA H y h2 ∧ GA H z h3 := by
  cases h with
  | nil => cases hl
  | cons a h =>
    cases h with
    | nil => cases hl
    | cons b h =>
      cases h with
      | nil => cases hl
      | cons c h =>
        cases h with
        | nil => exact ⟨_, _, _, _, _, _, rfl, rfl, a, b, c⟩
        | cons d h => cases hl
section
variable {P : Program} {w : World} {K : PySem.W.Frag} {mg : Str → Option Value} {base : Heap}
theorem ok_partG {f : Addr} {fd : FuncData} (F : Fun K "_is_part" "_is_part" s_is_part f fd) (T : Tx mg) (c_is_list : Kn P w K mg base "is_list" ["value"] 1 spIsLG)
    (c_is_whole : Kn P w K mg base "is_whole" ["value", "low", "high"] 2 spWhG) : FnOk P w K mg base CX0 3 f fd ["part", "letters", "width", "states"] spPartG := by
  refine F.ok sc_is_part (fun vs H Q E h => ?_) (fun cdv A outer s H vs Q E hr h => ?_)
  · obtain ⟨v, g, L, wd, n, rfl, _⟩ := h
    rfl
  · obtain ⟨v, g, L, wd, n, rfl, hg, hL, q⟩ := h
    refine ⟨_, (pss_cons (ps_if (PW.pt (pw_or (pt_not (pt_val (pe_call c_is_list.ok (hr.mono (by decide)) (by rfl) c_is_list.g c_is_list.kp c_is_list.b .nil pass0 (pa_cons (pv 0) pa_nil)))) (pw_or1 (pt_cmpR op_ne (pe_callB call_len_seq (by rfl) T.len PySem.boot_len (pa_cons (pv 0) pa_nil)) pe_int (nomark _))))) (pss_one (ps_ret pe_bl)) pss_nil)
      (pss_cons (ps_asg (pv 0) (TR.pg_seq (by rfl) (pgs_cons (pg_name (i := 4) sc_is_part.nd rfl (Or.inl rfl)) (pgs_cons (pg_name (i := 5) sc_is_part.nd rfl (Or.inl rfl)) (pgs_cons (pg_name (i := 6) sc_is_part.nd rfl (Or.inl rfl)) pgs_nil)))))
      (pss_cons (ps_if (pt_cmpR (ES.op_eqS hr.units) (pv 4) pe_str (nomark _)) (pss_one (ps_ret (pe_and (pe_call c_is_whole.ok (hr.mono (by decide)) (by rfl) c_is_whole.g c_is_whole.kp c_is_whole.b .nil pass0 (pa_cons (pv 5) (pa_cons pe_int (pa_cons (pv 2) pa_nil)))) (pe_and (pe_call c_is_list.ok (hr.mono (by decide)) (by rfl) c_is_list.g c_is_list.kp c_is_list.b .nil pass0 (pa_cons (pv 6) pa_nil)) (pe_one (pe_cmpR op_eq (pe_callB call_len_seq (by rfl) T.len PySem.boot_len (pa_cons (pv 6) pa_nil)) (pe_callB call_len_str (by rfl) T.len PySem.boot_len (pa_cons (pv 1) pa_nil)) (nomark _))))))) pss_nil)
      (pss_cons (ps_if (pt_cmpR (ES.op_eqS hr.units) (pv 4) pe_str (nomark _)) (pss_one (ps_ret (pe_call c_is_whole.ok (hr.mono (by decide)) (by rfl) c_is_whole.g c_is_whole.kp c_is_whole.b .nil pass0 (pa_cons (pv 5) (pa_cons pe_int (pa_cons pe_int pa_nil)))))) pss_nil)
      (pss_cons (ps_if (pt_cmpR (ES.op_eqS hr.units) (pv 4) pe_str (nomark _)) (pss_one (ps_ret (pe_and (pe_call c_is_whole.ok (hr.mono (by decide)) (by rfl) c_is_whole.g c_is_whole.kp c_is_whole.b .nil pass0 (pa_cons (pv 5) (pa_cons pe_int (pa_cons (pe_op op_add (pv 2) pe_int) pa_nil)))) (pe_one (pe_call c_is_whole.ok (hr.mono (by decide)) (by rfl) c_is_whole.g c_is_whole.kp c_is_whole.b .nil pass0 (pa_cons (pv 6) (pa_cons pe_int (pa_cons (pe_op op_sub (pv 3) pe_int) pa_nil)))))))) pss_nil)
      (pss_one (ps_ret pe_bl))))))), ?_⟩
    refine ⟨_, rfl, v, g, rfl, hg, fun H1 e1 => ⟨_, rfl, ?_⟩⟩
    have q1 := q H1 e1
    cases hg with
    | int i => exact q1
    | str z => exact q1
    | bl b => exact q1
    | non => exact q1
    | dct h => exact q1
    | @seq a k vs gs h r =>
      have lk := r.len
      refine ⟨_, rfl, a, _, rfl, ob_seq (e1 _ _ h), rfl, _, rfl, ite2 (fun hb => ?_) (fun hb => ?_)⟩
      · have nl : gs.length ≠ 3 := fun z => by
          rw [lk, z] at hb
          cases hb
        have ef : isP L.length wd n (.seq k gs) = false := by
          unfold isP
          split
          · rename_i h1 h2 h3 he
            cases he
            exact absurd rfl nl
          · rfl
        rw [ef] at q1
        exact q1
      · have l3 : gs.length = 3 := by
          rw [lk] at hb
          refine Decidable.byContradiction fun z => hb ?_
          rw [decide_eq_false (fun e => z (by have := V.int.inj e; omega))]
          rfl
        obtain ⟨x, y, z, g1, g2, g3, rfl, rfl, hx, hy, hz⟩ := gas3 r l3
        refine ⟨_, rfl, gSeq_of (e1 _ _ h) rfl ⟨_, _, rfl, _, _, rfl, _, _, rfl, rfl, ?_⟩⟩
        have eP : isP L.length wd n (.seq k [g1, g2, g3]) = (if hd "read" g1 = true then whole 0 wd g2 && seqN L.length g3 else if hd "tell" g1 = true then whole 0 2 g2 else if hd "go" g1 = true then whole 1 ((wd : Int) + 1) g2 && whole 0 ((n : Int) - 1) g3 else false) := rfl
        rw [eP] at q
        refine ⟨_, rfl, eqS_of (GA.ex e1 hx) ⟨_, rfl, ?_⟩⟩
        cases h1 : hd "read" g1 with
        | true =>
          simp only [h1, if_true] at q
          refine ⟨_, rfl, _, rfl, y, g2, 0, _, rfl, GA.ex e1 hy, fun H2 e2 => ?_⟩
          cases hw : whole 0 wd g2 with
          | false =>
            rw [hw, Bool.false_and] at q
            exact ⟨_, rfl, q _ (e1.trans e2)⟩
          | true =>
            rw [hw, Bool.true_and] at q
            refine ⟨_, rfl, ?_⟩
            refine ⟨_, rfl, z, g3, rfl, GA.ex (e1.trans e2) hz, fun H3 e3 => ?_⟩
            have e13 := (e1.trans e2).trans e3
            have q3 := q _ e13
            cases hz with
            | @seq b k' us gs' hbb r' =>
              refine ⟨_, rfl, ?_⟩
              refine ⟨_, rfl, b, _, rfl, ob_seq (e13 _ _ hbb), _, rfl, _, rfl, tx_le (by omega), rfl, ?_⟩
              have ee : decide (V.int ((us.length : Nat) : Int) = V.int (((tx L).length : Nat) : Int)) = seqN L.length (.seq k' gs') := by
                show _ = decide (gs'.length = L.length)
                rw [decide_eq_decide, tx_len, r'.len]
                constructor
                · intro z; have := V.int.inj z; omega
                · intro z; rw [z]
              show Q (V.bl (decide (V.int ((us.length : Nat) : Int) = V.int (((tx L).length : Nat) : Int)))) _
              rw [ee]
              exact q3
            | int i => exact ⟨_, rfl, q3⟩
            | str z => exact ⟨_, rfl, q3⟩
            | bl b => exact ⟨_, rfl, q3⟩
            | non => exact ⟨_, rfl, q3⟩
            | dct h => exact ⟨_, rfl, q3⟩
        | false =>
          simp only [h1] at q
          refine ⟨_, rfl, eqS_of (GA.ex e1 hx) ⟨_, rfl, ?_⟩⟩
          cases h2 : hd "tell" g1 with
          | true =>
            simp only [h2, if_true] at q
            exact ⟨_, rfl, y, g2, 0, 2, rfl, GA.ex e1 hy, fun H2 e2 => q _ (e1.trans e2)⟩
          | false =>
            simp only [h2] at q
            refine ⟨_, rfl, eqS_of (GA.ex e1 hx) ⟨_, rfl, ?_⟩⟩
            cases h3 : hd "go" g1 with
            | false =>
              simp only [h3] at q
              exact q _ e1
            | true =>
              simp only [h3, if_true] at q
              refine ⟨_, rfl, _, rfl, _, _, rfl, rfl, y, g2, 1, _, rfl, GA.ex e1 hy, fun H2 e2 => ?_⟩
              cases hw : whole 1 ((wd : Int) + 1) g2 with
              | false =>
                rw [hw, Bool.false_and] at q
                exact ⟨_, rfl, q _ (e1.trans e2)⟩
              | true =>
                rw [hw, Bool.true_and] at q
                refine ⟨_, rfl, ?_⟩
                exact ⟨_, rfl, _, rfl, _, _, rfl, rfl, z, g3, 0, _, rfl, GA.ex (e1.trans e2) hz, fun H3 e3 => q _ ((e1.trans e2).trans e3)⟩
end
end Law

namespace Law
open PySem PySem.Spec PyProof.Rows L2 Evl TR GX
theorem hd_str {z : Str} {g : Gt} (h : hd z g = true) : g = .str z := by
  cases g with
  | str y =>
    have : y = z := of_decide_eq_true h
    rw [this]
  | int _ => cases h
  | bl _ => cases h
  | oth => cases h
  | seq _ _ => cases h
theorem seqN_inv {n : Nat} {g : Gt} (h : seqN n g = true) : ∃ k gs, g = .seq k gs ∧ gs.length = n := by
  cases g with
  | seq k gs => exact ⟨k, gs, rfl, of_decide_eq_true h⟩
  | int _ => cases h
  | bl _ => cases h
  | oth => cases h
  | str _ => cases h
theorem whole_inv {lo hi : Int} {g : Gt} (h : whole lo hi g = true) : ∃ i, g = .int i ∧ lo ≤ i ∧ i ≤ hi := by
  cases g with
  | int i =>
    have h2 : (decide (lo ≤ i) && decide (i ≤ hi)) = true := h
    rw [Bool.and_eq_true, decide_eq_true_eq, decide_eq_true_eq] at h2
    exact ⟨i, rfl, h2.1, h2.2⟩
  | seq _ _ => cases h
  | bl _ => cases h
  | oth => cases h
  | str _ => cases h
theorem isP_inv {l w n : Nat} {g : Gt} (h : isP l w n g = true) : ∃ k g1 g2 g3, g = .seq k [g1, g2, g3] ∧
    ((g1 = .str "read" ∧ (∃ i, g2 = .int i) ∧ ∃ k' gs, g3 = .seq k' gs ∧ gs.length = l) ∨ (g1 = .str "tell" ∧ ∃ i, g2 = .int i) ∨ (g1 = .str "go" ∧ (∃ i, g2 = .int i) ∧ ∃ j, g3 = .int j ∧ 0 ≤ j ∧ j ≤ (n : Int) - 1)) := by
  unfold isP at h
  split at h
  · rename_i k g1 g2 g3
    refine ⟨k, g1, g2, g3, rfl, ?_⟩
    split at h
    · rename_i h1
      rw [Bool.and_eq_true] at h
      obtain ⟨i, e, _, _⟩ := whole_inv h.1
      exact .inl ⟨hd_str h1, ⟨i, e⟩, seqN_inv h.2⟩
    · split at h
      · rename_i h1
        obtain ⟨i, e, _, _⟩ := whole_inv h
        exact .inr (.inl ⟨hd_str h1, i, e⟩)
      · split at h
        · rename_i h1
          rw [Bool.and_eq_true] at h
          obtain ⟨i, e, _, _⟩ := whole_inv h.1
          exact .inr (.inr ⟨hd_str h1, ⟨i, e⟩, whole_inv h.2⟩)
        · cases h
  · cases h
theorem hd_rr : hd "read" (.str "read") = true := by decide +kernel
theorem hd_rt : hd "read" (.str "tell") = false := by decide +kernel
theorem hd_rg : hd "read" (.str "go") = false := by decide +kernel
theorem hd_tt : hd "tell" (.str "tell") = true := by decide +kernel
theorem hd_tg : hd "tell" (.str "go") = false := by decide +kernel
theorem kids_eq {k : Bool} {g1 g2 g3 : Gt} : kids (.seq k [g1, g2, g3]) = if hd "read" g1 = true then (match g3 with
      | .seq _ gs => gs
      | _ => []) else if hd "tell" g1 = true then [g3] else [] := rfl
theorem kids_read {k k' : Bool} {g2 : Gt} {gs : List Gt} : kids (.seq k [.str "read", g2, .seq k' gs]) = gs := by
  rw [kids_eq, if_pos hd_rr]
theorem kids_tell {k : Bool} {g2 g3 : Gt} : kids (.seq k [.str "tell", g2, g3]) = [g3] := by
  rw [kids_eq, if_neg (by rw [hd_rt]; simp), if_pos hd_tt]
theorem kids_go {k : Bool} {g2 g3 : Gt} : kids (.seq k [.str "go", g2, g3]) = [] := by
  rw [kids_eq, if_neg (by rw [hd_rg]; simp), if_neg (by rw [hd_tg]; simp)]
theorem ga3 {H : Hp} {v : V} {k : Bool} {g1 g2 g3 : Gt} (h : GA H v (.seq k [g1, g2, g3])) : ∃ a x y z, v = .ref a ∧ H a = some (ob k [x, y, z]) ∧ GA H x g1 ∧ GA H y g2 ∧ GA H z g3 := by
  cases h with
  | seq h r =>
    obtain ⟨x, y, z, h1, h2, h3, rfl, e, a, b, c⟩ := gas3 r rfl
    cases e
    exact ⟨_, x, y, z, rfl, h, a, b, c⟩
theorem ga_str {H : Hp} {v : V} {z : Str} (h : GA H v (.str z)) : v = .str z := by
  cases h
  rfl
theorem ga_int {H : Hp} {v : V} {i : Int} (h : GA H v (.int i)) : v = .int i := by
  cases h
  rfl
theorem ga_seq {H : Hp} {v : V} {k : Bool} {gs : List Gt} (h : GA H v (.seq k gs)) : ∃ a vs, v = .ref a ∧ H a = some (ob k vs) ∧ GAs H vs gs := by
  cases h with
  | seq h r => exact ⟨_, _, rfl, h, r⟩
section
variable {P : Program} {w : World} {K : PySem.W.Frag} {mg : Str → Option Value} {base : Heap}
theorem ok_withG {f : Addr} {fd : FuncData} (F : Fun K "_within" "_within" s_within f fd) (T : Tx mg) : FnOk P w K mg base CX0 1 f fd ["part"] spWithG := by
  refine F.ok sc_within (fun vs H Q E h => ?_) (fun cdv A outer s H vs Q E hr h => ?_)
  · obtain ⟨v, g, l, w, n, H0, rfl, _⟩ := h
    rfl
  · obtain ⟨v, g, l, w, n, H0, rfl, hg, hp, e0, q⟩ := h
    refine ⟨_, (pss_cons (ps_if (pt_cmpR op_eq (pe_ix ix_seq (pv 0) pe_int (fun _ _ => rfl)) pe_str (nomark _)) (pss_one (ps_ret (pe_callTy call_list_of (by rfl) T.list PyProof.Rows.boot_list (pa_cons (pe_ix ix_seq (pv 0) pe_int (fun _ _ => rfl)) pa_nil)))) pss_nil)
      (pss_cons (ps_if (pt_cmpR op_eq (pe_ix ix_seq (pv 0) pe_int (fun _ _ => rfl)) pe_str (nomark _)) (pss_one (ps_ret (pe_lst (pa_cons (pe_ix ix_seq (pv 0) pe_int (fun _ _ => rfl)) pa_nil)))) pss_nil)
      (pss_one (ps_ret (pe_lst pa_nil))))), ?_⟩
    obtain ⟨k, g1, g2, g3, rfl, h⟩ := isP_inv hp
    obtain ⟨a, x, y, z, rfl, ha, hx, hy, hz⟩ := ga3 hg
    rcases h with ⟨rfl, ⟨i, rfl⟩, k', gs, rfl, hl⟩ | ⟨rfl, i, rfl⟩ | ⟨rfl, ⟨i, rfl⟩, _⟩
    · cases ga_str hx
      obtain ⟨b, us, rfl, hb, r⟩ := ga_seq hz
      refine ⟨_, rfl, ix_at (e0 _ _ ha) (atI_nat (j := 0) rfl) ⟨rfl, _, rfl, iteD rfl ?_⟩⟩
      refine ⟨_, rfl, ix_at (e0 _ _ ha) (atI_nat (j := 2) rfl) ⟨b, _, rfl, ob_seq (e0 _ _ hb), fun r0 hr0 => q r0 _ _ (Ex.new hr0) hr0 upd_same ?_⟩⟩
      rw [kids_read]
      exact r
    · cases ga_str hx
      refine ⟨_, rfl, ix_at (e0 _ _ ha) (atI_nat (j := 0) rfl) ⟨rfl, _, rfl, iteDn tell_ne_read ?_⟩⟩
      refine ⟨_, rfl, ix_at (e0 _ _ ha) (atI_nat (j := 0) rfl) ⟨rfl, _, rfl, iteD rfl ?_⟩⟩
      refine ⟨_, rfl, ix_at (e0 _ _ ha) (atI_nat (j := 2) rfl) ⟨by show 1 ≤ sizeLine; decide, fun r0 hr0 => q r0 _ _ (Ex.new hr0) hr0 upd_same ?_⟩⟩
      rw [kids_tell]
      exact .cons hz .nil
    · cases ga_str hx
      refine ⟨_, rfl, ix_at (e0 _ _ ha) (atI_nat (j := 0) rfl) ⟨rfl, _, rfl, iteDn go_ne_read ?_⟩⟩
      refine ⟨_, rfl, ix_at (e0 _ _ ha) (atI_nat (j := 0) rfl) ⟨rfl, _, rfl, iteDn go_ne_tell ?_⟩⟩
      refine ⟨Nat.zero_le _, fun r0 hr0 => q r0 _ _ (Ex.new hr0) hr0 upd_same ?_⟩
      rw [kids_go]
      exact .nil
end
end Law

namespace Law
open PySem PySem.Spec PyProof.Rows L2 Evl TR GX
def fwG (l w n : Nat) (g : Gt) : Bool × Nat := fwF l w n g.size [(g, 1)] 0
def fwV (r : Bool × Nat) : V := if r.1 = true then .int (r.2 : Nat) else .non
def spFWG : Sp := fun vs H Q _ => ∃ (v : V) (g : Gt) (L : List Nat) (w n : Nat), vs = [v, .str (tx L), .int (w : Int), .int (n : Int)] ∧ GA H v g ∧ L.length ≤ 10 ∧ g.size ≤ 90000 ∧ ∀ H', Ex H H' → Q (fwV (fwG L.length w n g)) H'
theorem pop_lastG {α : Type} (us : List α) (x : α) : (us ++ [x])[(us ++ [x]).length - 1]? = some x := by
  rw [List.length_append]
  simp
theorem take_nextG {α : Type} {l : List α} {i : Nat} {x : α} (h : l[i]? = some x) : l.take (i + 1) = l.take i ++ [x] := by
  rw [List.take_add_one, h]
  rfl
theorem rev_getG {α : Type} {l : List α} {i : Nat} {x : α} (h : l[l.length - 1 - i]? = some x) (hi : i < l.length) : l.reverse[i]? = some x := by
  rw [List.getElem?_reverse hi]
  exact h
theorem tot_pos {p : Gt × Nat} : 1 ≤ GX.tot [p] := by
  have := size_pos p.1
  unfold GX.tot
  simp only [List.map_cons, List.map_nil, Gt.sizes]
  omega
theorem tot_rev (gs : List Gt) (d : Nat) : GX.tot (gs.reverse.map fun x => (x, d)) = Gt.sizes gs := by
  rw [GX.tot_map, sizes_rev]
theorem tot_one (g : Gt) (d : Nat) : GX.tot [(g, d)] = g.size := by
  unfold GX.tot
  simp only [List.map_cons, List.map_nil, Gt.sizes]
  omega
section
variable {P : Program} {w : World} {K : PySem.W.Frag} {mg : Str → Option Value} {base : Heap}
theorem ok_fwG {f : Addr} {fd : FuncData} (F : Fun K "first_wrong" "first_wrong" s_first_wrong f fd) (T : Tx mg) (c_is_part : Kn P w K mg base "_is_part" ["part", "letters", "width", "states"] 3 spPartG)
    (c_within : Kn P w K mg base "_within" ["part"] 1 spWithG) : FnOk P w K mg base CX0 4 f fd ["tree", "letters", "width", "states"] spFWG := by
  refine F.ok sc_first_wrong (fun vs H Q E h => ?_) (fun cdv A outer s H vs Q E hr h => ?_)
  · obtain ⟨v, g, L, wd, n, rfl, _⟩ := h
    rfl
  · obtain ⟨v, g, L, wd, n, rfl, hT, hL, hsz, q⟩ := h
    obtain ⟨R, hR⟩ : ∃ R, fwG L.length wd n g = R := ⟨_, rfl⟩
    rw [hR] at q
    refine ⟨_, (pss_cons (ps_set (i := 4) sc_first_wrong.nd rfl (Or.inl rfl) (pe_lst (pa_cons (pe_tup (pa_cons (pv 0) (pa_cons pe_int pa_nil))) pa_nil)))
      (pss_cons (ps_set (i := 5) sc_first_wrong.nd rfl (Or.inl rfl) pe_int)
      (pss_cons (ps_while PassesOwn.never (pt_truth (pv 4) (by intro _; rfl)) (pss_cons (ps_asg (pe_bm0 PySem.F.plainAttrs_list PySem.F.slot_list_pop PySem.F.type_list_pop mt_pop (pv 4)) (pg_tup (by rfl) (pgs_cons (pg_name (i := 6) sc_first_wrong.nd rfl (Or.inl rfl)) (pgs_cons (pg_name (i := 7) sc_first_wrong.nd rfl (Or.inr rfl)) pgs_nil))))
      (pss_cons (ps_if (PW.pt (pw_or (pt_cmpR op_gt (pv 7) (pe_glob (v := .int 40) rfl T.m_DEEPEST ⟨_, rfl⟩) (nomark _)) (pw_or1 (pt_not (pt_val (pe_call c_is_part.ok (hr.mono (by decide)) (by rfl) c_is_part.g c_is_part.kp c_is_part.b .nil pass0 (pa_cons (pv 6) (pa_cons (pv 1) (pa_cons (pv 2) (pa_cons (pv 3) pa_nil)))))))))) (pss_one (ps_ret (pv 5))) pss_nil)
      (pss_cons (ps_expr (pe_bm PySem.F.plainAttrs_list PySem.F.slot_list_extend PySem.F.type_list_extend mt_extend (pv 4) (pa_cons (pe_lc (own := [("inner", 8)]) (g := gName 8) (tt := tYes) rfl sc_first_wrong.nd (pi_reversed (by rfl) T.reversed (pa_cons (pe_call c_within.ok (hr.mono (by decide)) (by rfl) c_within.g c_within.kp c_within.b .nil pass0 (pa_cons (pv 6) pa_nil)) pa_nil)) (blkOk_by (N := N_first_wrong) (sc := defScope s_first_wrong) (by decide +kernel)) (fun _ _ _ _ _ => (pg_name (i := 8) sc_first_wrong.nd rfl (Or.inl rfl))) (fun _ _ _ _ _ => pts_nil) (fun _ _ _ _ _ => (pe_tup (pa_cons (pv 8) (pa_cons (pe_op op_add (pv 7) pe_int) pa_nil))))) pa_nil)))
      (pss_one (ps_aug (i := 5) sc_first_wrong.nd rfl (Or.inl rfl) pe_int ip_add))))))
      (pss_one (ps_ret pe_non))))), ?_⟩
    refine ⟨_, rfl, by show 2 ≤ sizeLine; decide, fun t1 ht1 => ⟨by show 1 ≤ sizeLine; decide, fun l hl => ?_⟩⟩
    have hl0 : H l = none := fresh_back (Ex.new ht1) hl
    have e1 := (Ex.new (o := .tup [v, .int 1]) ht1).trans (Ex.new (o := .lst [V.ref t1]) hl)
    refine ⟨fun m σ H' => ∃ (st : List V) (ps : List (Gt × Nat)) (nm : Nat) (y6 y7 y8 : Option V), σ = [some v, some (.str (tx L)), some (.int (wd : Int)), some (.int (n : Int)), some (.ref l), some (.int (nm : Nat)), y6, y7, y8] ∧
        Ex H H' ∧ H' l = some (.lst st) ∧ GX.Stk H H' st ps ∧ GX.tot ps ≤ m ∧ m ≤ 90000 ∧ fwF L.length wd n m ps.reverse nm = R,
      ⟨g.size, [.ref t1], [(g, 1)], 0, none, none, none, rfl, e1, upd_same, .cons (Ex.new hl _ _ upd_same) hT .nil, by rw [tot_one]; omega, hsz, hR⟩, fun m σ H' hw => ?_⟩
    obtain ⟨st, ps, nm, y6, y7, y8, rfl, e2, hst, S, hm, hm2, hf⟩ := hw
    refine ⟨_, rfl, !st.isEmpty, .inl ⟨st, sq_of hst, rfl⟩, ?_⟩
    cases st with
    | nil =>
      refine iteF ?_
      cases S
      rw [List.reverse_nil, fw_nil] at hf
      rw [← hf] at q
      exact q _ e2
    | cons s0 srest =>
      refine iteT ?_
      obtain ⟨us, r, pv_, pt, d, qs, eS, eP, S', hr, hTA⟩ := S.last (by intro z; cases z)
      rw [eS] at hst
      rw [eP, GX.tot_app, tot_one] at hm
      rw [eP, List.reverse_append, List.reverse_cons, List.reverse_nil, List.nil_append, List.singleton_append] at hf
      have hsp := size_pos pt
      obtain ⟨m', rfl⟩ : ∃ m', m = m' + 1 := ⟨m - 1, by omega⟩
      have nrl : r ≠ l := fun z => by
        rw [z, hst] at hr
        cases hr
      refine ⟨fun σ2 H2 => ∃ m2, m2 < m' + 1 ∧ ∃ (st : List V) (ps : List (Gt × Nat)) (nm : Nat) (y6 y7 y8 : Option V), σ2 = [some v, some (.str (tx L)), some (.int (wd : Int)), some (.int (n : Int)), some (.ref l), some (.int (nm : Nat)), y6, y7, y8] ∧
        Ex H H2 ∧ H2 l = some (.lst st) ∧ GX.Stk H H2 st ps ∧ GX.tot ps ≤ m2 ∧ m2 ≤ 90000 ∧ fwF L.length wd n m2 ps.reverse nm = R, fun σ2 H2 h => h, ?_⟩
      refine ⟨_, rfl, .inl ⟨rfl, _, sq_of hst⟩, l, _, _, rfl, rfl, hst, pop_lastG _ _, ?_⟩
      rw [List.dropLast_concat]
      have e3 : Ex H (L2.upd H' l (.lst us)) := e2.mut hl0
      have hl3 : (L2.upd H' l (.lst us)) l = some (.lst us) := upd_same
      have hr3 : (L2.upd H' l (.lst us)) r = some (.tup [pv_, .int (d : Nat)]) := by
        rw [upd_ne nrl]
        exact hr
      have S3 := S'.upd (a := l) (o := .lst us) fun xs hh => by
        rw [hst] at hh
        cases hh
      generalize (L2.upd H' l (.lst us)) = H3 at e3 hl3 hr3 S3 ⊢
      refine ⟨r, _, rfl, st_of hr3, rfl, _, _, rfl, _, _, rfl, rfl, ?_⟩
      unfold fwF at hf
      by_cases hd : d > 40
      · rw [if_pos (.inl hd)] at hf
        rw [← hf] at q
        refine ⟨_, rfl, _, _, rfl, rfl, _, rfl, iteD (by omega) ?_⟩
        exact ⟨_, rfl, q _ e3⟩
      refine ⟨_, rfl, _, _, rfl, rfl, _, rfl, iteDn (by omega) ?_⟩
      refine ⟨_, rfl, _, rfl, _, rfl, _, rfl, pv_, pt, L, wd, n, rfl, GA.ex e3 hTA, hL, fun H4 e4 => ?_⟩
      have e34 := e3.trans e4
      cases hp : isP L.length wd n pt with
      | false =>
        rw [if_pos (.inr hp)] at hf
        rw [← hf] at q
        refine ⟨_, rfl, ?_⟩
        exact ⟨_, rfl, q _ e34⟩
      | true =>
      rw [if_neg (by rw [hp]; simp; omega)] at hf
      refine ⟨_, rfl, ?_⟩
      refine ⟨_, rfl, .inl ⟨rfl, _, sq_of (e4 _ _ hl3)⟩, ?_⟩
      refine ⟨_, rfl, pv_, pt, L.length, wd, n, H, rfl, hTA, hp, e34, fun r2 H5 ks e5 hr2 hks KK => ?_⟩
      have e35 := e34.trans e5
      have lks := KK.len
      have ksz := kids_size pt
      have lkz := len_sizes (kids pt)
      refine ⟨r2, ks, rfl, sq_of hks, fun D hD => ?_⟩
      refine lc_it (walk_rev (K := K) (a := r2) (xs := ks)) (fun i H6 => Ex H5 H6 ∧ ∃ zs, H6 D = some (.lst zs) ∧ GX.Stk H H6 zs (((kids pt).reverse.take i).map fun x => (x, d + 1))) ⟨Ex.new hD, [], upd_same, .nil⟩ (fun i H6 _ hw => sq_of (hw.1 _ _ hks)) (fun i x H6 H7 hi hw hy => ?_) (fun H6 hw => ?_)
      · obtain ⟨e6, zs, hzs, Z⟩ := hw
        obtain ⟨rfl, hx⟩ := hy
        obtain ⟨kt, hkt, hka⟩ := KK.get hx
        have hi2 : i < (kids pt).length := by omega
        have hkt2 : (kids pt).reverse[i]? = some kt := rev_getG (by rw [← lks]; exact hkt) hi2
        have lz := Z.len
        refine ⟨rfl, _, rfl, _, rfl, _, _, rfl, rfl, by show 2 ≤ sizeLine; decide, fun q2 hq2 => ?_⟩
        have nDq : D ≠ q2 := fun z => by
          rw [z, hq2] at hzs
          cases hzs
        refine ⟨zs, Ex.new hq2 _ _ hzs, ?_, (e6.trans (Ex.new hq2)).mut hD, zs ++ [.ref q2], upd_same, ?_⟩
        · have : zs.length ≤ i := by
            rw [lz, List.length_map, List.length_take]
            exact Nat.min_le_left _ _
          exact sz_lt (by omega)
        · rw [take_nextG hkt2, List.map_append]
          refine GX.Stk.upd ((Z.ex (Ex.new hq2)).app (.cons upd_same hka .nil)) fun xs hh => ?_
          rw [upd_ne nDq, hzs] at hh
          cases hh
      · obtain ⟨e6, zs, hzs, Z⟩ := hw
        rw [lks, ← List.length_reverse, List.take_length] at Z
        have e46 := e5.trans e6
        have lz := Z.len
        have lu := S3.len
        rw [List.length_map, List.length_reverse] at lz
        have l5 := GX.len_tot qs
        have hl6 : H6 l = some (.lst us) := e46 _ _ (e4 _ _ hl3)
        refine ⟨l, D, us, zs, rfl, rfl, hl6, hzs, sz_of (by omega), ?_⟩
        refine ⟨_, rfl, _, _, rfl, rfl, m', Nat.lt_succ_self _, us ++ zs, qs ++ (kids pt).reverse.map fun x => (x, d + 1), nm + 1, _, _, _, rfl, (e35.trans e6).mut hl0, upd_same, ?_, ?_, by omega, ?_⟩
        · refine GX.Stk.upd ((S3.ex (e4.trans e46)).app Z) fun xs hh => ?_
          rw [hl6] at hh
          cases hh
        · rw [GX.tot_app, tot_rev]
          omega
        · rw [List.reverse_append, ← List.map_reverse, List.reverse_reverse]
          exact hf
end
end Law

namespace Law
open PySem PySem.Spec PyProof.Rows L2 Evl EK
/-- a value without parts, as data -/
inductive Fl : V → PyData → Prop
  | non : Fl .non .none
  | bl (b : Bool) : Fl (.bl b) (.bool b)
  | int (i : Int) : Fl (.int i) (.int i)
  | str (z : Str) : Fl (.str z) (.str z)
inductive Fls : List V → List PyData → Prop
  | nil : Fls [] []
  | cons {v : V} {d : PyData} {vs : List V} {ds : List PyData} : Fl v d → Fls vs ds → Fls (v :: vs) (d :: ds)
theorem Fls.get {vs : List V} {ds : List PyData} (h : Fls vs ds) : ∀ {i : Nat} {v : V}, vs[i]? = some v → ∃ d, Fl v d := by
  induction h with
  | nil => intro i v h; cases h
  | @cons v d vs ds h1 _ ih =>
    intro i u hu
    cases i with
    | zero => cases hu; exact ⟨d, h1⟩
    | succ i => exact ih hu
/-- the values that errors keep -/
inductive AV (H : Hp) : V → PyData → Prop
  | flat {v : V} {d : PyData} : Fl v d → AV H v d
  | tup {a : Addr} {vs : List V} {ds : List PyData} : H a = some (.tup vs) → Fls vs ds → vs.length ≤ 50 → AV H (.ref a) (.tuple ds)
  | lst {a : Addr} {vs : List V} {ds : List PyData} : H a = some (.lst vs) → Fls vs ds → vs.length ≤ 50 → AV H (.ref a) (.list ds)
  | emp {a : Addr} : H a = some (.dK []) → AV H (.ref a) (.dict [])
  | one {a : Addr} {k : Str} {i : Int} : H a = some (.dK [(.inr k, .int i)]) → AV H (.ref a) (.dict [(.str k, .int i)])
theorem AV.ex {H H' : Hp} {v : V} {d : PyData} (h : AV H v d) (e : Ex H H') : AV H' v d := by
  cases h with
  | flat f => exact .flat f
  | tup h f l => exact .tup (e _ _ h) f l
  | lst h f l => exact .lst (e _ _ h) f l
  | emp h => exact .emp (e _ _ h)
  | one h => exact .one (e _ _ h)
theorem Fl.de {K : PySem.W.Frag} {H : Hp} {v : V} {d : PyData} (h : Fl v d) : DY.DE K H v d := by
  cases h with
  | non => exact .non
  | bl b => exact .bl b
  | int i => exact .int i
  | str z => exact .str z
theorem Fls.de {K : PySem.W.Frag} {H : Hp} {vs : List V} {ds : List PyData} (h : Fls vs ds) : DY.DEs K H vs ds := by
  induction h with
  | nil => exact .nil
  | cons h1 _ ih => exact .cons h1.de ih
theorem AV.de {K : PySem.W.Frag} {H : Hp} {v : V} {d : PyData} (h : AV H v d) : DY.DE K H v d := by
  cases h with
  | flat f => exact f.de
  | tup h f l => exact .tup (st_of h) f.de
  | lst h f l => exact .lst (sq_of h) f.de
  | emp h => exact .emp h
  | one h => exact .one h
theorem Fl.kinds {K : PySem.W.Frag} {v : V} {d : PyData} (h : Fl v d) (H : Hp) : ∃ t, TyX K H v t ∧ PySem.W.kitOne K t (.type "list") = some false ∧ PySem.W.kitOne K t (.type "tuple") = some false ∧ PySem.W.kitOne K t (.type "dict") = some false := by
  cases h with
  | non => exact ⟨_, .base .non, kit_ty (by decide +kernel), kit_ty (by decide +kernel), kit_ty (by decide +kernel)⟩
  | bl b => exact ⟨_, .base (.bl b), kit_ty (by decide +kernel), kit_ty (by decide +kernel), kit_ty (by decide +kernel)⟩
  | int n => exact ⟨_, .base (.int n), kit_ty (by decide +kernel), kit_ty (by decide +kernel), kit_ty (by decide +kernel)⟩
  | str z => exact ⟨_, .base (.str z), kit_ty (by decide +kernel), kit_ty (by decide +kernel), kit_ty (by decide +kernel)⟩
theorem kl_l {K : PySem.W.Frag} : PySem.W.kitOne K (.type "list") (.type "list") = some true := kit_ty (by decide +kernel)
theorem kt_l {K : PySem.W.Frag} : PySem.W.kitOne K (.type "tuple") (.type "list") = some false := kit_ty (by decide +kernel)
theorem kt_t {K : PySem.W.Frag} : PySem.W.kitOne K (.type "tuple") (.type "tuple") = some true := kit_ty (by decide +kernel)
theorem kd_l {K : PySem.W.Frag} : PySem.W.kitOne K (.type "dict") (.type "list") = some false := kit_ty (by decide +kernel)
theorem kd_t {K : PySem.W.Frag} : PySem.W.kitOne K (.type "dict") (.type "tuple") = some false := kit_ty (by decide +kernel)
theorem kd_d {K : PySem.W.Frag} : PySem.W.kitOne K (.type "dict") (.type "dict") = some true := kit_ty (by decide +kernel)
def spKf : Sp := fun vs H Q _ => ∃ v d, vs = [v] ∧ Fl v d ∧ Q v H
def spKept : Sp := fun vs H Q _ => ∃ v d, vs = [v] ∧ AV H v d ∧ ∀ v' H', Ex H H' → AV H' v' d → Q v' H'
section
variable {P : Program} {w : World} {K : PySem.W.Frag} {mg : Str → Option Value} {base : Heap}
theorem ok_kf {f : Addr} {fd : FuncData} (F : Fun K "_kept" "_kept" s_kept f fd) (T : Tx mg) : FnOk P w K mg base CX0 1 f fd ["value"] spKf := by
  refine F.ok sc_kept (fun vs H Q E h => ?_) (fun cdv A outer s H vs Q E hr h => ?_)
  · obtain ⟨v, d, rfl, _⟩ := h
    rfl
  · obtain ⟨v, d, rfl, hv, q⟩ := h
    refine ⟨_, (pss_cons (ps_if (pt_val (pe_callB call_isi (by rfl) T.isinstance PyProof.Rows.boot_isinstance (pa_cons (pv 0) (pa_cons (pe_bltn (v := .ty "list") (by rfl) T.list PyProof.Rows.boot_list rfl) pa_nil)))) (pss_one ps_never) pss_nil)
      (pss_cons (ps_if (pt_val (pe_callB call_isi (by rfl) T.isinstance PyProof.Rows.boot_isinstance (pa_cons (pv 0) (pa_cons (pe_bltn (v := .ty "tuple") (by rfl) T.tuple PyProof.Rows.boot_tuple rfl) pa_nil)))) (pss_one ps_never) pss_nil)
      (pss_cons (ps_if (pt_val (pe_callB call_isi (by rfl) T.isinstance PyProof.Rows.boot_isinstance (pa_cons (pv 0) (pa_cons (pe_bltn (v := .ty "dict") (by rfl) T.dict PyProof.Rows.boot_dict rfl) pa_nil)))) (pss_one ps_never) pss_nil)
      (pss_one (ps_ret (pv 0)))))), ?_⟩
    obtain ⟨t, ty, k1, k2, k3⟩ := hv.kinds (K := K) H
    refine ⟨_, rfl, _, _, _, _, false, rfl, .ty _, ty, k1, false, rfl, iteF ?_⟩
    refine ⟨_, rfl, _, _, _, _, false, rfl, .ty _, ty, k2, false, rfl, iteF ?_⟩
    refine ⟨_, rfl, _, _, _, _, false, rfl, .ty _, ty, k3, false, rfl, iteF ?_⟩
    exact ⟨_, rfl, q⟩
theorem ok_kept {f : Addr} {fd : FuncData} (F : Fun K "_kept" "_kept" s_kept f fd) (T : Tx mg) (c_kept : Kn P w K mg base "_kept" ["value"] 1 spKf) : FnOk P w K mg base CX0 2 f fd ["value"] spKept := by
  refine F.ok sc_kept (fun vs H Q E h => ?_) (fun cdv A outer s H vs Q E hr h => ?_)
  · obtain ⟨v, d, rfl, _⟩ := h
    rfl
  · obtain ⟨v, d, rfl, hv, q⟩ := h
    refine ⟨_, (pss_cons (ps_if (pt_val (pe_callB call_isi (by rfl) T.isinstance PyProof.Rows.boot_isinstance (pa_cons (pv 0) (pa_cons (pe_bltn (v := .ty "list") (by rfl) T.list PyProof.Rows.boot_list rfl) pa_nil)))) (pss_one (ps_ret (pe_lc (own := [("part", 1)]) (g := gName 1) (tt := tYes) rfl sc_kept.nd (pi_list (pv 0)) (blkOk_by (N := N_kept) (sc := defScope s_kept) (by decide +kernel)) (fun _ _ _ _ _ => (pg_name (i := 1) sc_kept.nd rfl (Or.inl rfl))) (fun _ _ _ _ _ => pts_nil) (fun _ _ _ _ _ => (pe_call c_kept.ok (hr.mono (by decide)) (by rfl) c_kept.g c_kept.kp c_kept.b .nil pass0 (pa_cons (pv 1) pa_nil)))))) pss_nil)
      (pss_cons (ps_if (pt_val (pe_callB call_isi (by rfl) T.isinstance PyProof.Rows.boot_isinstance (pa_cons (pv 0) (pa_cons (pe_bltn (v := .ty "tuple") (by rfl) T.tuple PyProof.Rows.boot_tuple rfl) pa_nil)))) (pss_one (ps_ret (pe_callTy call_tuple_of (by rfl) T.tuple PyProof.Rows.boot_tuple (pa_cons (pe_lc (own := [("part", 1)]) (g := gName 1) (tt := tYes) rfl sc_kept.nd (pi_tup (pv 0)) (blkOk_by (N := N_kept) (sc := defScope s_kept) (by decide +kernel)) (fun _ _ _ _ _ => (pg_name (i := 1) sc_kept.nd rfl (Or.inl rfl))) (fun _ _ _ _ _ => pts_nil) (fun _ _ _ _ _ => (pe_call c_kept.ok (hr.mono (by decide)) (by rfl) c_kept.g c_kept.kp c_kept.b .nil pass0 (pa_cons (pv 1) pa_nil)))) pa_nil)))) pss_nil)
      (pss_cons (ps_if (pt_val (pe_callB call_isi (by rfl) T.isinstance PyProof.Rows.boot_isinstance (pa_cons (pv 0) (pa_cons (pe_bltn (v := .ty "dict") (by rfl) T.dict PyProof.Rows.boot_dict rfl) pa_nil)))) (pss_one (ps_ret (pe_lock (pe_dc (own := [("key", 2)]) (g := gName 2) (tt := tYes) rfl sc_kept.nd (pi_keys (pv 0)) (blkOk_by (N := N_kept) (sc := defScope s_kept) (by decide +kernel)) (fun _ _ _ _ _ => (pg_name (i := 2) sc_kept.nd rfl (Or.inl rfl))) (fun _ _ _ _ _ => pts_nil) (fun _ _ _ _ _ => (pv 2)) (fun _ _ _ _ _ => (pe_call c_kept.ok (hr.mono (by decide)) (by rfl) c_kept.g c_kept.kp c_kept.b .nil pass0 (pa_cons (pe_dget (hu_of hr) (pv 0) (pv 2) (fun _ _ => rfl)) pa_nil))))))) pss_nil)
      (pss_one (ps_ret (pv 0)))))), ?_⟩
    cases hv with
    | flat hv =>
      obtain ⟨t, ty, k1, k2, k3⟩ := hv.kinds (K := K) H
      refine ⟨_, rfl, _, _, _, _, false, rfl, .ty _, ty, k1, false, rfl, iteF ?_⟩
      refine ⟨_, rfl, _, _, _, _, false, rfl, .ty _, ty, k2, false, rfl, iteF ?_⟩
      refine ⟨_, rfl, _, _, _, _, false, rfl, .ty _, ty, k3, false, rfl, iteF ?_⟩
      exact ⟨_, rfl, q _ _ (Ex.refl _) (.flat hv)⟩
    | @lst a xs ds ha fx hl =>
      refine ⟨_, rfl, _, _, _, _, true, rfl, .ty _, .base (.lst ha), kl_l, true, rfl, iteT ?_⟩
      refine ⟨_, rfl, a, rfl, ⟨_, sq_of ha⟩, fun D hD => ?_⟩
      refine lc_list (fun i H' => Ex H H' ∧ H D = none ∧ H' D = some (.lst (xs.take i))) ⟨Ex.new hD, hD, upd_same⟩ (fun i H' _ p => sq_of (p.1 _ _ ha)) (fun i x H' hx p => ?_) (fun H' p => ?_)
      · obtain ⟨e, h0, hz⟩ := p
        obtain ⟨d, fd⟩ := fx.get hx
        refine ⟨rfl, ?_⟩
        refine ⟨_, rfl, _, _, rfl, fd, _, hz, ?_, e.mut h0, h0, ?_⟩
        · rw [List.length_take]
          exact Nat.lt_of_le_of_lt (Nat.min_le_right _ _) (Nat.lt_of_le_of_lt hl (by decide))
        · rw [upd_same, List.take_add_one, hx]
          rfl
      · obtain ⟨e, h0, hz⟩ := p
        rw [List.take_length] at hz
        exact q _ _ e (.lst hz fx hl)
    | @tup a xs ds ha fx hl =>
      refine ⟨_, rfl, _, _, _, _, false, rfl, .ty _, .base (.tup ha), kt_l, false, rfl, iteF ?_⟩
      refine ⟨_, rfl, _, _, _, _, true, rfl, .ty _, .base (.tup ha), kt_t, true, rfl, iteT ?_⟩
      refine ⟨_, rfl, a, rfl, ⟨_, st_of ha⟩, fun D hD => ?_⟩
      refine lc_tup (fun i H' => Ex H H' ∧ H D = none ∧ H' D = some (.lst (xs.take i))) ⟨Ex.new hD, hD, upd_same⟩ (fun i H' _ p => st_of (p.1 _ _ ha)) (fun i x H' hx p => ?_) (fun H' p => ?_)
      · obtain ⟨e, h0, hz⟩ := p
        obtain ⟨d, fd⟩ := fx.get hx
        refine ⟨rfl, ?_⟩
        refine ⟨_, rfl, _, _, rfl, fd, _, hz, ?_, e.mut h0, h0, ?_⟩
        · rw [List.length_take]
          exact Nat.lt_of_le_of_lt (Nat.min_le_right _ _) (Nat.lt_of_le_of_lt hl (by decide))
        · rw [upd_same, List.take_add_one, hx]
          rfl
      · obtain ⟨e, h0, hz⟩ := p
        rw [List.take_length] at hz
        refine ⟨D, _, rfl, .inl ⟨sq_of hz, fun p hp => ?_⟩⟩
        exact q _ _ (e.trans (Ex.new hp)) (.tup upd_same fx hl)
    | @emp a ha =>
      refine ⟨_, rfl, _, _, _, _, false, rfl, .ty _, .base (.dK ha), kd_l, false, rfl, iteF ?_⟩
      refine ⟨_, rfl, _, _, _, _, false, rfl, .ty _, .base (.dK ha), kd_t, false, rfl, iteF ?_⟩
      refine ⟨_, rfl, _, _, _, _, true, rfl, .ty _, .base (.dK ha), kd_d, true, rfl, iteT ?_⟩
      refine ⟨a, _, ha, True.intro, fun od => ?_⟩
      refine ⟨_, rfl, a, od, rfl, .inl ⟨[], upd_same, fun D hD => ⟨fun i m H' => i = 0 ∧ H' = upd (upd H a (.frz od (.dK []))) D (.dK []), ⟨0, rfl, rfl⟩, ?_⟩⟩⟩
      rintro i m H' ⟨rfl, rfl⟩
      have ne : D ≠ a := fun z => by
        rw [z, upd_same] at hD
        cases hD
      have hD2 : H D = none := by
        rw [upd_ne ne] at hD
        exact hD
      have hfz : (upd (upd H a (.frz od (.dK []))) D (.dK [])) a = some (.frz od (.dK [])) := by
        rw [upd_ne ne.symm, upd_same]
      refine .inl ⟨⟨hfz, Nat.le_refl _⟩, hfz, ?_⟩
      refine q _ _ (fun b o e => ?_) (.emp (by rw [upd_ne ne, upd_same]))
      by_cases hb : b = a
      · subst hb
        rw [upd_same, ← ha, e]
      · rw [upd_ne hb, upd_ne (fun z => by rw [z, hD2] at e; cases e), upd_ne hb]
        exact e
    | @one a k n ha =>
      refine ⟨_, rfl, _, _, _, _, false, rfl, .ty _, .base (.dK ha), kd_l, false, rfl, iteF ?_⟩
      refine ⟨_, rfl, _, _, _, _, false, rfl, .ty _, .base (.dK ha), kd_t, false, rfl, iteF ?_⟩
      refine ⟨_, rfl, _, _, _, _, true, rfl, .ty _, .base (.dK ha), kd_d, true, rfl, iteT ?_⟩
      refine ⟨a, _, ha, True.intro, fun od => ?_⟩
      refine ⟨_, rfl, a, od, rfl, .inl ⟨[(.inr k, .int n)], upd_same, fun D hD => ⟨fun i m H' => (i = 0 ∧ m = 1 ∧ H' = upd (upd H a (.frz od (.dK [(.inr k, .int n)]))) D (.dK [])) ∨ (i = 1 ∧ m = 0 ∧ H' = upd (upd H a (.frz od (.dK [(.inr k, .int n)]))) D (.dK [(.inr k, .int n)])), ⟨1, .inl ⟨rfl, rfl, rfl⟩⟩, ?_⟩⟩⟩
      have ne : D ≠ a := fun z => by
        rw [z, upd_same] at hD
        cases hD
      have hD2 : H D = none := by
        rw [upd_ne ne] at hD
        exact hD
      have hfz : ∀ o, (upd (upd H a (.frz od (.dK [(.inr k, .int n)]))) D o) a = some (.frz od (.dK [(.inr k, .int n)])) := fun o => by
        rw [upd_ne ne.symm, upd_same]
      rintro i m H' (⟨rfl, rfl, rfl⟩ | ⟨rfl, rfl, rfl⟩)
      · refine .inr ⟨⟨hfz _, by show 0 < 1; decide⟩, fun H' => H' = upd (upd H a (.frz od (.dK [(.inr k, .int n)]))) D (.dK [(.inr k, .int n)]), fun H' h => ⟨0, by omega, .inr ⟨rfl, rfl, h⟩⟩, ?_⟩
        rintro x H' ⟨rfl, kk, vv, hkv, rfl⟩
        cases hkv
        refine ⟨rfl, ?_⟩
        refine ⟨_, rfl, _, rfl, _, rfl, a, .int n, rfl, .inl ⟨_, .inr k, .inr ⟨od, hfz _⟩, rfl, ?_⟩, _, _, rfl, .int n, [], .inr k, rfl, upd_same, by show 0 < sizeLine; decide, ?_⟩
        · simp [valV]
        · rw [upd_upd]
          rfl
      · refine .inl ⟨⟨hfz _, Nat.le_refl _⟩, hfz _, ?_⟩
        refine q _ _ (fun b o e => ?_) (.one (by rw [upd_ne ne, upd_same]))
        by_cases hb : b = a
        · subst hb
          rw [upd_same, ← ha, e]
        · rw [upd_ne hb, upd_ne (fun z => by rw [z, hD2] at e; cases e), upd_ne hb]
          exact e
end
/-- what the __init__ of an error leaves -/
def ErE (H : Hp) (a C : Addr) (fs : List (Str × V)) (H' : Hp) : Prop := ∃ dx, H' a = some (exo a C (some dx)) ∧ H' dx = some (exd dx fs) ∧ H dx = none ∧ dx ≠ a ∧ ∀ b o, H b = some o → b ≠ a → H' b = some o
/-- the error stands -/
structure Ers (H : Hp) (a C dx : Addr) (fs : List (Str × V)) (H' : Hp) : Prop where
  o : H' a = some (exo a C (some dx))
  x : H' dx = some (exd dx fs)
  n : H dx = none
  ne : dx ≠ a
  k : ∀ b o, H b = some o → b ≠ a → H' b = some o
theorem AV.keep {H H' : Hp} {a C : Addr} {d : Option Addr} {v : V} {x : PyData} (h : AV H v x) (ha : H a = some (exo a C d)) (k : ∀ b o, H b = some o → b ≠ a → H' b = some o) : AV H' v x := by
  cases h with
  | flat f => exact .flat f
  | tup h f l => exact .tup (k _ _ h (fun z => by rw [z, ha] at h; cases h)) f l
  | lst h f l => exact .lst (k _ _ h (fun z => by rw [z, ha] at h; cases h)) f l
  | emp h => exact .emp (k _ _ h (fun z => by rw [z, ha] at h; cases h))
  | one h => exact .one (k _ _ h (fun z => by rw [z, ha] at h; cases h))
theorem ers_new {H H1 : Hp} {a C dx : Addr} {f : Str} {v : V} (ha : H a = some (exo a C none)) (e : Ex H H1) (hd : H1 dx = none) (hne : dx ≠ a) : Ers H a C dx [(f, v)] (upd (upd H1 dx (exd dx [(f, v)])) a (exo a C (some dx))) where
  o := upd_same
  x := by rw [upd_ne hne, upd_same]
  n := by
    cases q : H dx with
    | none => rfl
    | some o =>
      have := e _ _ q
      rw [hd] at this
      cases this
  ne := hne
  k := fun b o z nb => by
    have z1 := e _ _ z
    rw [upd_ne nb, upd_ne (fun y => by rw [y, hd] at z1; cases z1)]
    exact z1
theorem ers_put {H H1 H2 : Hp} {a C dx : Addr} {f : Str} {v : V} {fs : List (Str × V)} (E : Ers H a C dx fs H1) (e : Ex H1 H2) : Ers H a C dx ((f, v) :: fs) (upd H2 dx (exd dx ((f, v) :: fs))) where
  o := by rw [upd_ne E.ne.symm]; exact e _ _ E.o
  x := upd_same
  n := E.n
  ne := E.ne
  k := fun b o z nb => by
    rw [upd_ne (fun y => by rw [y, E.n] at z; cases z)]
    exact e _ _ (E.k b o z nb)
/-- a value that stood when the first field was stored -/
theorem AV.over {H : Hp} {dx : Addr} {x : PyData} {fs gs : List (Str × V)} {v : V} (h : AV H v x) (hd : H dx = some (exd dx gs)) : AV (upd H dx (exd dx fs)) v x := by
  have ne : ∀ {b : Addr} {o : HO}, H b = some o → (∀ z : exd dx gs = o, False) → b ≠ dx := fun hb hn z => by
    rw [z, hd] at hb
    exact hn (Option.some.inj hb)
  cases h with
  | flat f => exact .flat f
  | tup h f l => exact .tup (by rw [upd_ne (ne h (fun z => by cases z))]; exact h) f l
  | lst h f l => exact .lst (by rw [upd_ne (ne h (fun z => by cases z))]; exact h) f l
  | emp h => exact .emp (by rw [upd_ne (ne h (fun z => by cases z))]; exact h)
  | one h => exact .one (by rw [upd_ne (ne h (fun z => by cases z))]; exact h)
theorem AV.newx {H : Hp} {a C dx : Addr} {fs : List (Str × V)} {v : V} {x : PyData} (h : AV H v x) (ha : H a = some (exo a C none)) (hd : H dx = none) : AV (upd (upd H dx (exd dx fs)) a (exo a C (some dx))) v x :=
  h.keep ha fun b o z nb => by
    rw [upd_ne nb, upd_ne (fun y => by rw [y, hd] at z; cases z)]
    exact z
def spE1 (C : Addr) (f : Str) : Sp := fun vs H Q _ => ∃ a v d, vs = [.ref a, v] ∧ H a = some (exo a C none) ∧ AV H v d ∧ ∀ dx v' H', Ers H a C dx [(f, v')] H' → AV H' v' d → Q .non H'
def spE2 (C : Addr) (f g : Str) : Sp := fun vs H Q _ => ∃ a v d u e, vs = [.ref a, v, u] ∧ H a = some (exo a C none) ∧ AV H v d ∧ AV H u e ∧ ∀ dx v' u' H', Ers H a C dx [(g, u'), (f, v')] H' → AV H' v' d → AV H' u' e → Q .non H'
def spE3 (C : Addr) (f g h : Str) : Sp := fun vs H Q _ => ∃ a v d u e w b, vs = [.ref a, v, u, w] ∧ H a = some (exo a C none) ∧ AV H v d ∧ AV H u e ∧ AV H w b ∧ ∀ dx v' u' w' H', Ers H a C dx [(h, w'), (g, u'), (f, v')] H' → AV H' v' d → AV H' u' e → AV H' w' b → Q .non H'
/-- the base -/
structure BaseC (K : PySem.W.Frag) (mg : Str → Option Value) (C0 : Addr) : Prop where
  g : mg "SkipsError" = some (.ref C0)
  r : ClX.CRead K C0 (.type "type")
  v : PySem.W.findCls K (.ref C0) (.type "type") "__init__" = some (.val (.builtin "ValueError.__init__"))
section
variable {P : Program} {w : World} {K : PySem.W.Frag} {mg : Str → Option Value} {base : Heap}
theorem ok_BadLine {f C C0 : Addr} {fd : FuncData} (F : Fun K "__init__" "BadLine.__init__" s_BadLine_init f fd) (T : Tx mg) (B0 : BaseC K mg C0) (O : OexC K C) (N : PySem.W.findIn K (.ref C) "line" = some none) (c_kept : Kn P w K mg base "_kept" ["value"] 2 spKept) :
    FnOk P w K mg base CX0 3 f fd ["self", "line"] (spE1 C "line") := by
  refine F.ok sc_BadLine_init (fun vs H Q E h => ?_) (fun cdv A outer s H vs Q E hr h => ?_)
  · obtain ⟨a, v, d, rfl, _⟩ := h
    rfl
  · obtain ⟨a, v, d, rfl, ha, hv, q⟩ := h
    obtain ⟨g_SkipsError, R_SkipsError, V_SkipsError⟩ := B0
    refine ⟨_, (pss_cons (ps_expr (EK.pe_skinit (by rfl) g_SkipsError R_SkipsError V_SkipsError (pa_cons (pv 0) (pa_cons pe_str pa_nil))))
      (pss_one (ps_ost (pv 0) (pe_call c_kept.ok (hr.mono (by decide)) (by rfl) c_kept.g c_kept.kp c_kept.b .nil pass0 (pa_cons (pv 1) pa_nil))))), ?_⟩
    refine ⟨_, rfl, a, C, _, rfl, by show 1 ≤ 1000; decide, O, ha, ?_⟩
    refine ⟨_, rfl, v, d, rfl, hv, fun v' H1 e1 hv1 => ⟨_, rfl, a, C, rfl, O, N, .inl ⟨e1 _ _ ha, fun dx hd hne => ?_⟩⟩⟩
    exact q dx v' _ (ers_new ha e1 hd hne) (hv1.newx (e1 _ _ ha) hd)
theorem ok_TooMany {f C C0 : Addr} {fd : FuncData} (F : Fun K "__init__" "TooMany.__init__" s_TooMany_init f fd) (T : Tx mg) (B0 : BaseC K mg C0) (O : OexC K C) (N1 : PySem.W.findIn K (.ref C) "what" = some none) (N2 : PySem.W.findIn K (.ref C) "many" = some none) (N3 : PySem.W.findIn K (.ref C) "most" = some none)
    (c_kept : Kn P w K mg base "_kept" ["value"] 2 spKept) : FnOk P w K mg base CX0 3 f fd ["self", "what", "many", "most"] (spE3 C "what" "many" "most") := by
  refine F.ok sc_TooMany_init (fun vs H Q E h => ?_) (fun cdv A outer s H vs Q E hr h => ?_)
  · obtain ⟨a, v, d, u, e, z, b, rfl, _⟩ := h
    rfl
  · obtain ⟨a, v, d, u, e, z, b, rfl, ha, hv, hu, hz, q⟩ := h
    obtain ⟨g_SkipsError, R_SkipsError, V_SkipsError⟩ := B0
    refine ⟨_, (pss_cons (ps_expr (EK.pe_skinit (by rfl) g_SkipsError R_SkipsError V_SkipsError (pa_cons (pv 0) (pa_cons pe_str pa_nil))))
      (pss_cons (ps_ost (pv 0) (pe_call c_kept.ok (hr.mono (by decide)) (by rfl) c_kept.g c_kept.kp c_kept.b .nil pass0 (pa_cons (pv 1) pa_nil)))
      (pss_cons (ps_ost (pv 0) (pe_call c_kept.ok (hr.mono (by decide)) (by rfl) c_kept.g c_kept.kp c_kept.b .nil pass0 (pa_cons (pv 2) pa_nil)))
      (pss_one (ps_ost (pv 0) (pe_call c_kept.ok (hr.mono (by decide)) (by rfl) c_kept.g c_kept.kp c_kept.b .nil pass0 (pa_cons (pv 3) pa_nil))))))), ?_⟩
    refine ⟨_, rfl, a, C, _, rfl, by show 1 ≤ 1000; decide, O, ha, ?_⟩
    refine ⟨_, rfl, v, d, rfl, hv, fun v' H1 e1 hv1 => ⟨_, rfl, a, C, rfl, O, N1, .inl ⟨e1 _ _ ha, fun dx hd hne => ?_⟩⟩⟩
    have E1 := ers_new (f := "what") (v := v') ha e1 hd hne
    have hv2 := hv1.newx (fs := [("what", v')]) (e1 _ _ ha) hd
    refine ⟨_, rfl, u, e, rfl, hu.keep ha E1.k, fun u' H3 e3 hu3 => ⟨_, rfl, a, C, rfl, O, N2, .inr ⟨dx, _, e3 _ _ E1.o, e3 _ _ E1.x, by show 1 ≤ 900; decide, ?_⟩⟩⟩
    have E2 := ers_put (f := "many") (v := u') E1 e3
    have hv4 := (hv2.ex e3).over (fs := [("many", u'), ("what", v')]) (e3 _ _ E1.x)
    have hu4 := hu3.over (fs := [("many", u'), ("what", v')]) (e3 _ _ E1.x)
    refine ⟨_, rfl, z, b, rfl, hz.keep ha E2.k, fun z' H5 e5 hz5 => ⟨_, rfl, a, C, rfl, O, N3, .inr ⟨dx, _, e5 _ _ E2.o, e5 _ _ E2.x, by show 2 ≤ 900; decide, ?_⟩⟩⟩
    exact q dx v' u' z' _ (ers_put E2 e5) ((hv4.ex e5).over (e5 _ _ E2.x)) ((hu4.ex e5).over (e5 _ _ E2.x)) (hz5.over (e5 _ _ E2.x))
end
end Law

/-! texts of trees, their words -/
namespace TT
open PySem PySem.Spec PyProof.Rows L2 TR
def S (l : List Nat) : Str := ⟨l.toArray⟩
theorem tl_S (l : List Nat) : TL.tl (S l) = l := by simp [S, TL.tl]
theorem S_app (a b : List Nat) : S a ++ S b = S (a ++ b) := TL.ext_tl (by rw [TL.tl_append, tl_S, tl_S, tl_S])
theorem S_len (a : List Nat) : (S a).length = a.length := by rw [TL.len_tl, tl_S]
/-! ### words: cut at blanks, then without the signs at both ends -/
theorem tw_le (p : Nat → Bool) (l : List Nat) : (l.takeWhile p).length ≤ l.length := (List.takeWhile_sublist p).length_le
def cut : List Nat → List (List Nat)
  | [] => [[]]
  | c :: r => if c = 32 then [] :: cut r else match cut r with
    | [] => [[c]]
    | w :: ws => (c :: w) :: ws
theorem cut_ne : ∀ l, cut l ≠ []
  | [], h => by cases h
  | c :: r, h => by
    unfold cut at h
    split at h
    · cases h
    · split at h <;> cases h
theorem cut_miss {c : Nat} {r : List Nat} (h : c ≠ 32) : ∃ w ws, cut r = w :: ws ∧ cut (c :: r) = (c :: w) :: ws := by
  cases e : cut r with
  | nil => exact absurd e (cut_ne r)
  | cons w ws =>
    refine ⟨w, ws, rfl, ?_⟩
    show (if c = 32 then [] :: cut r else match cut r with | [] => [[c]] | w :: ws => (c :: w) :: ws) = _
    rw [if_neg h, e]
theorem cut_hit (r : List Nat) : cut (32 :: r) = [] :: cut r := rfl
theorem spl_cut : ∀ (l acc : List Nat), TL.spl [32] 0 acc l = match cut l with | [] => [] | w :: ws => (acc ++ w) :: ws
  | [], acc => by
    show [acc] = [acc ++ []]
    rw [List.append_nil]
  | c :: r, acc => by
    by_cases h : c = 32
    · subst h
      rw [TL.spl_hit (show TL.pre [32] (32 :: r) = true from TL.pre_self [32] r), cut_hit]
      show acc :: TL.spl [32] 0 [] r = _
      rw [spl_cut r []]
      show _ = (acc ++ []) :: cut r
      rw [List.append_nil]
      cases e : cut r with
      | nil => exact absurd e (cut_ne r)
      | cons w ws => rfl
    · rw [TL.spl_miss (TL.pre_of_head [] r h), spl_cut r (acc ++ [c])]
      obtain ⟨w, ws, e1, e2⟩ := cut_miss (r := r) h
      rw [e1, e2]
      show (acc ++ [c] ++ w) :: ws = (acc ++ c :: w) :: ws
      rw [List.append_assoc]
      rfl
theorem split_cut (l : List Nat) : Txt.split (S l) (S [32]) = (cut l).map S := by
  refine TL.map_tl_inj ?_
  rw [TL.split_spl _ _ (by rw [tl_S]; simp) (TL.kind_ok (by decide +kernel)), tl_S, tl_S, spl_cut, List.map_map]
  cases e : cut l with
  | nil => exact absurd e (cut_ne l)
  | cons w ws =>
    have e2 : (TL.tl ∘ S) = id := funext fun x => tl_S x
    rw [e2, List.map_id]
    rfl
theorem cut_app : ∀ a b : List Nat, cut (a ++ 32 :: b) = cut a ++ cut b
  | [], b => rfl
  | c :: r, b => by
    rw [List.cons_append]
    by_cases h : c = 32
    · subst h
      rw [cut_hit, cut_hit, cut_app r b]
      rfl
    · obtain ⟨w, ws, e1, e2⟩ := cut_miss (r := r) h
      obtain ⟨w', ws', e3, e4⟩ := cut_miss (r := r ++ 32 :: b) h
      rw [cut_app r b, e1] at e3
      rw [List.cons_append] at e3
      injection e3 with q1 q2
      rw [e4, e2, ← q1, ← q2]
      rfl
/-- the signs at both ends left out -/
def goes (c : Nat) : Bool := [91, 93, 44, 58].contains c
def strip (l : List Nat) : List Nat := ((l.dropWhile goes).reverse.dropWhile goes).reverse
theorem drop_tw (p : Nat → Bool) : ∀ l : List Nat, l.drop (l.takeWhile p).length = l.dropWhile p
  | [] => rfl
  | c :: r => by
    rw [List.takeWhile_cons, List.dropWhile_cons]
    by_cases h : p c = true
    · rw [if_pos h, if_pos h, List.length_cons, List.drop_succ_cons, drop_tw p r]
    · rw [if_neg h, if_neg h]
      rfl
theorem strip_S (l : List Nat) : Txt.stripChars (S l) (S [91, 93, 44, 58]) = S (strip l) := by
  unfold Txt.stripChars
  have eg : (S [91, 93, 44, 58]).cps.contains = goes := by
    funext c
    show (#[91, 93, 44, 58] : Array Nat).contains c = [91, 93, 44, 58].contains c
    simp
  rw [eg, stripBy_eq]
  have e1 : stripLo goes true (S l) = (l.takeWhile goes).length := by
    unfold stripLo
    rw [if_pos rfl]
    show ((TL.tl (S l)).takeWhile goes).length = _
    rw [tl_S]
  have e2 : stripHi goes true (S l) (l.takeWhile goes).length = l.length - ((l.dropWhile goes).reverse.takeWhile goes).length := by
    unfold stripHi
    rw [if_pos rfl, S_len]
    show l.length - (((TL.tl (S l)).drop _).reverse.takeWhile goes).length = _
    rw [tl_S, drop_tw]
  rw [e1, e2]
  refine TL.ext_tl ?_
  rw [TL.tl_strSub, tl_S, tl_S, drop_tw]
  unfold strip
  have h1 := congrArg List.length (drop_tw goes l)
  rw [List.length_drop] at h1
  have h2 := drop_tw goes (l.dropWhile goes).reverse
  rw [← h2]
  have h3 : ((l.dropWhile goes).reverse.takeWhile goes).length ≤ (l.dropWhile goes).length := by
    have := tw_le goes (l.dropWhile goes).reverse
    rw [List.length_reverse] at this
    exact this
  have h4 : (l.takeWhile goes).length ≤ l.length := tw_le goes l
  have e3 : l.length - ((l.dropWhile goes).reverse.takeWhile goes).length - (l.takeWhile goes).length = (l.dropWhile goes).length - ((l.dropWhile goes).reverse.takeWhile goes).length := by omega
  rw [e3]
  generalize l.dropWhile goes = m
  generalize (m.reverse.takeWhile goes).length = k
  rw [List.drop_reverse, List.reverse_reverse]
theorem strip_cons {c : Nat} (h : goes c = true) (l : List Nat) : strip (c :: l) = strip l := by
  unfold strip
  rw [List.dropWhile_cons, if_pos h]
theorem dw_snoc {p : Nat → Bool} {c : Nat} (h : p c = true) : ∀ l : List Nat, (l ++ [c]).dropWhile p = if l.all p = true then [] else l.dropWhile p ++ [c]
  | [] => by
    rw [List.nil_append, List.dropWhile_cons, if_pos h]
    rfl
  | d :: r => by
    rw [List.cons_append, List.dropWhile_cons, List.dropWhile_cons, List.all_cons]
    by_cases hd : p d = true
    · rw [if_pos hd, if_pos hd, hd, Bool.true_and, dw_snoc h r]
    · have hd' : p d = false := by simpa using hd
      rw [if_neg hd, if_neg hd, hd', Bool.false_and, if_neg (by simp)]
      rfl
theorem dw_all {p : Nat → Bool} : ∀ {l : List Nat}, l.all p = true → l.dropWhile p = []
  | [], _ => rfl
  | d :: r, h => by
    rw [List.all_cons, Bool.and_eq_true] at h
    rw [List.dropWhile_cons, if_pos h.1]
    exact dw_all h.2
theorem strip_snoc {c : Nat} (h : goes c = true) (l : List Nat) : strip (l ++ [c]) = strip l := by
  unfold strip
  rw [dw_snoc h]
  by_cases ha : l.all goes = true
  · rw [if_pos ha, dw_all ha]
  · rw [if_neg ha, List.reverse_append, List.reverse_singleton, List.singleton_append, List.dropWhile_cons, if_pos h]
def tok (l : List Nat) : List (List Nat) := (cut l).map strip
theorem tok_app (a b : List Nat) : tok (a ++ 32 :: b) = tok a ++ tok b := by
  unfold tok
  rw [cut_app, List.map_append]
theorem goes_ne {c : Nat} (h : goes c = true) : c ≠ 32 := by
  intro e
  subst e
  revert h
  decide
theorem tok_cons {c : Nat} (h : goes c = true) (l : List Nat) : tok (c :: l) = tok l := by
  unfold tok
  obtain ⟨w, ws, e1, e2⟩ := cut_miss (r := l) (goes_ne h)
  rw [e1, e2, List.map_cons, List.map_cons, strip_cons h]
theorem tok_snoc {c : Nat} (h : goes c = true) : ∀ l : List Nat, tok (l ++ [c]) = tok l := by
  have hc := goes_ne h
  have key : ∀ l : List Nat, ∃ ws w, cut l = ws ++ [w] ∧ cut (l ++ [c]) = ws ++ [w ++ [c]] := by
    intro l
    induction l with
    | nil =>
      refine ⟨[], [], rfl, ?_⟩
      obtain ⟨w, ws, e1, e2⟩ := cut_miss (r := []) hc
      have e3 : w = [] ∧ ws = [] := by
        have : [[]] = w :: ws := e1
        injection this with q1 q2
        exact ⟨q1.symm, q2.symm⟩
      rw [List.nil_append, e2, e3.1, e3.2]
      rfl
    | cons d r ih =>
      obtain ⟨ws, w, e1, e2⟩ := ih
      by_cases hd : d = 32
      · subst hd
        refine ⟨[] :: ws, w, ?_, ?_⟩
        · rw [cut_hit, e1]
          rfl
        · rw [List.cons_append, cut_hit, e2]
          rfl
      · obtain ⟨u, us, f1, f2⟩ := cut_miss (r := r) hd
        obtain ⟨u', us', g1, g2⟩ := cut_miss (r := r ++ [c]) hd
        rw [List.cons_append, f2, g2]
        rw [e1] at f1
        rw [e2] at g1
        cases ws with
        | nil =>
          injection f1 with p1 p2
          injection g1 with q1 q2
          subst p1 p2 q1 q2
          exact ⟨[], d :: w, rfl, rfl⟩
        | cons x xs =>
          injection f1 with p1 p2
          injection g1 with q1 q2
          rw [← p1, ← p2, ← q1, ← q2]
          exact ⟨(d :: x) :: xs, w, rfl, rfl⟩
  intro l
  obtain ⟨ws, w, e1, e2⟩ := key l
  unfold tok
  rw [e1, e2, List.map_append, List.map_append, List.map_singleton, List.map_singleton, strip_snoc h]
theorem cut_one : ∀ {l : List Nat}, 32 ∉ l → cut l = [l]
  | [], _ => rfl
  | c :: r, h => by
    obtain ⟨w, ws, e1, e2⟩ := cut_miss (c := c) (r := r) (fun z => h (by rw [z]; exact List.mem_cons_self))
    rw [cut_one (fun z => h (List.mem_cons_of_mem _ z))] at e1
    injection e1 with q1 q2
    rw [e2, ← q1, ← q2]
theorem dw_none {p : Nat → Bool} {l : List Nat} (h : ∀ c ∈ l, p c = false) : l.dropWhile p = l := by
  cases l with
  | nil => rfl
  | cons c r => rw [List.dropWhile_cons, if_neg (by rw [h c List.mem_cons_self]; simp)]
theorem strip_none {l : List Nat} (h : ∀ c ∈ l, goes c = false) : strip l = l := by
  unfold strip
  rw [dw_none h, dw_none fun c hc => h c (List.mem_reverse.mp hc), List.reverse_reverse]
/-- a word alone -/
def plain (l : List Nat) : Bool := l.all fun c => c != 32 && !goes c
theorem tok_one {l : List Nat} (h : plain l = true) : tok l = [l] := by
  have h2 := List.all_eq_true.mp h
  unfold tok
  rw [cut_one (fun z => by have := h2 _ z; simp at this), List.map_singleton, strip_none fun c hc => ?_]
  have := h2 c hc
  rw [Bool.and_eq_true] at this
  simpa using this.2
/-! ### the texts of trees -/
def wGo : List Nat := [103, 111]
def wTell : List Nat := [116, 101, 108, 108]
def wRead : List Nat := [114, 101, 97, 100]
def num (n : Nat) : List Nat := TL.numL n
mutual
def txt (L : List Nat) : Tr → List Nat
  | .go s q => wGo ++ 32 :: (num s ++ 32 :: num q)
  | .tell n t => wTell ++ 32 :: (num n ++ 32 :: txt L t)
  | .read p ts => wRead ++ 32 :: (num p ++ 32 :: (91 :: (TL.joinL [44, 32] (txts L L ts) ++ [93])))
def txts (L : List Nat) : List Nat → Trs → List (List Nat)
  | c :: l, .cons t r => (c :: 58 :: 32 :: txt L t) :: txts L l r
  | _, _ => []
end
mutual
def toks : List Nat → Tr → List (List Nat)
  | _, .go s q => [wGo, num s, num q]
  | L, .tell n t => wTell :: num n :: toks L t
  | L, .read p ts => wRead :: num p :: tokss L L ts
def tokss : List Nat → List Nat → Trs → List (List Nat)
  | L, c :: l, .cons t r => [c] :: (toks L t ++ tokss L l r)
  | _, _, _ => []
end
theorem num_plain {n : Nat} (h : n < 100) : plain (num n) = true := by
  have : ∀ n < 100, plain (num n) = true := by decide +kernel
  exact this n h
theorem sign_plain {c : Nat} (h : 97 ≤ c) (h2 : c ≤ 122) : plain [c] = true := by
  have : ∀ c < 123, 97 ≤ c → plain [c] = true := by decide +kernel
  exact this c (by omega) h
mutual
/-- numbers of two digits at most -/
def small : Tr → Prop
  | .go s q => s < 100 ∧ q < 100
  | .tell n t => n < 100 ∧ small t
  | .read p ts => p < 100 ∧ smalls ts
def smalls : Trs → Prop
  | .nil => True
  | .cons t r => small t ∧ smalls r
end
mutual
theorem small_of {l w n : Nat} (hw : w ≤ 8) (hn : n ≤ 64) : ∀ {t : Tr}, t.ok l w n → small t
  | .go s q, h => ⟨by have := h.2.1; omega, by have := h.2.2; omega⟩
  | .tell k t, h => ⟨by have := h.1; omega, small_of hw hn h.2⟩
  | .read p ts, h => ⟨by have := h.1; omega, smalls_of hw hn h.2.2⟩
theorem smalls_of {l w n : Nat} (hw : w ≤ 8) (hn : n ≤ 64) : ∀ {ts : Trs}, ts.ok l w n → smalls ts
  | .nil, _ => True.intro
  | .cons t r, h => ⟨small_of hw hn h.1, smalls_of hw hn h.2⟩
end
theorem tok_join : ∀ {ps : List (List Nat)}, ps ≠ [] → tok (TL.joinL [44, 32] ps) = (ps.map tok).flatten
  | [], h => absurd rfl h
  | [p], _ => by
    show tok p = tok p ++ []
    rw [List.append_nil]
  | p :: q :: r, _ => by
    show tok (p ++ ([44, 32] ++ TL.joinL [44, 32] (q :: r))) = tok p ++ ((q :: r).map tok).flatten
    rw [← tok_join (ps := q :: r) (by simp), show p ++ ([44, 32] ++ TL.joinL [44, 32] (q :: r)) = (p ++ [44]) ++ 32 :: TL.joinL [44, 32] (q :: r) by simp, tok_app, tok_snoc (by decide)]
def Low (L : List Nat) : Prop := ∀ c ∈ L, 97 ≤ c ∧ c ≤ 122
theorem txts_ne {L l : List Nat} {ts : Trs} (h1 : l ≠ []) (h2 : ts.list.length = l.length) : txts L l ts ≠ [] := by
  cases l with
  | nil => exact absurd rfl h1
  | cons c l =>
    cases ts with
    | nil => simp [Trs.list] at h2
    | cons t r =>
      intro z
      unfold txts at z
      cases z
mutual
theorem tok_txt {L : List Nat} (hL : Low L) (hne : L ≠ []) {w n : Nat} : ∀ {t : Tr}, t.ok L.length w n → small t → tok (txt L t) = toks L t
  | .go s q, _, h => by
    unfold txt toks
    rw [tok_app, tok_app, tok_one (num_plain h.1), tok_one (num_plain h.2), tok_one (by decide)]
    rfl
  | .tell k t, ho, h => by
    unfold txt toks
    rw [tok_app, tok_app, tok_one (num_plain h.1), tok_txt hL hne ho.2 h.2, tok_one (by decide)]
    rfl
  | .read p ts, ho, h => by
    unfold txt toks
    rw [tok_app, tok_app, tok_one (num_plain h.1), tok_one (by decide), tok_cons (by decide), tok_snoc (by decide), tok_join (txts_ne hne ho.2.1), tok_txts hL hne hL ho.2.1 ho.2.2 h.2]
    rfl
theorem tok_txts {L : List Nat} (hL : Low L) (hne : L ≠ []) {w n : Nat} : ∀ {l : List Nat} {ts : Trs}, Low l → ts.list.length = l.length → ts.ok L.length w n → smalls ts → ((txts L l ts).map tok).flatten = tokss L l ts
  | [], .nil, _, _, _, _ => by
    unfold txts tokss
    rfl
  | [], .cons _ _, _, h, _, _ => by simp [Trs.list] at h
  | _ :: _, .nil, _, h, _, _ => by simp [Trs.list] at h
  | c :: l, .cons t r, hl, hn, ho, hs => by
    have hc := hl c List.mem_cons_self
    have ih := tok_txts hL hne (l := l) (ts := r) (fun d hd => hl d (List.mem_cons_of_mem _ hd)) (by simpa [Trs.list] using hn) ho.2 hs.2
    unfold txts tokss
    rw [List.map_cons, List.flatten_cons, ih, show c :: 58 :: 32 :: txt L t = ([c] ++ [58]) ++ 32 :: txt L t from rfl, tok_app, tok_snoc (by decide), tok_one (sign_plain hc.1 hc.2), tok_txt hL hne ho.1 hs.1]
    simp
end
/-! ### lengths -/
theorem num_len {n : Nat} (h : n < 100) : (num n).length ≤ 2 := by
  have : ∀ n < 100, (num n).length ≤ 2 := by decide +kernel
  exact this n h
theorem num_log {n : Nat} (h : n < 100) : ((n : Nat) : Int).natAbs.log2 < 1920 := by
  have : ∀ n < 100, ((n : Nat) : Int).natAbs.log2 < 1920 := by decide +kernel
  exact this n h
theorem num_S (n : Nat) : Str.ofString (toString ((n : Nat) : Int)) = S (num n) := TL.ext_tl (by rw [tl_S]; exact TL.tl_num n)
theorem numS_len {n : Nat} (h : n < 100) : (Str.ofString (toString ((n : Nat) : Int))).length ≤ 2 := by
  rw [num_S, S_len]
  exact num_len h
theorem app_len (a b : Str) : (a ++ b).length = a.length + b.length := by
  rw [TL.len_tl, TL.len_tl a, TL.len_tl b, TL.tl_append, List.length_append]
def sum2 (ps : List (List Nat)) : Nat := (ps.map fun p => p.length + 2).sum
theorem join_len : ∀ ps : List (List Nat), (TL.joinL [44, 32] ps).length ≤ sum2 ps
  | [] => Nat.le_refl _
  | [p] => by
    show p.length ≤ p.length + 2 + 0
    omega
  | p :: q :: r => by
    have := join_len (q :: r)
    show (p ++ ([44, 32] ++ TL.joinL [44, 32] (q :: r))).length ≤ p.length + 2 + sum2 (q :: r)
    rw [List.length_append, List.length_append]
    show p.length + (2 + _) ≤ _
    omega
mutual
theorem txt_len (L : List Nat) : ∀ {t : Tr}, small t → (txt L t).length + 20 ≤ 40 * t.size
  | .go s q, h => by
    have h1 := num_len h.1
    have h2 := num_len h.2
    unfold txt
    rw [List.length_append, List.length_cons, List.length_append, List.length_cons]
    show 2 + ((num s).length + ((num q).length + 1) + 1) + 20 ≤ 40 * 1
    omega
  | .tell n t, h => by
    have h1 := num_len h.1
    have h2 := txt_len L h.2
    unfold txt
    rw [List.length_append, List.length_cons, List.length_append, List.length_cons]
    show 4 + ((num n).length + ((txt L t).length + 1) + 1) + 20 ≤ 40 * (t.size + 1)
    omega
  | .read p ts, h => by
    have h1 := num_len h.1
    have h2 := txts_len L L h.2
    have h3 := join_len (txts L L ts)
    unfold txt
    rw [List.length_append, List.length_cons, List.length_append, List.length_cons, List.length_cons, List.length_append]
    show 4 + ((num p).length + ((TL.joinL [44, 32] (txts L L ts)).length + 1 + 1 + 1) + 1) + 20 ≤ 40 * (ts.size + 1)
    omega
theorem txts_len (L l : List Nat) : ∀ {ts : Trs}, smalls ts → sum2 (txts L l ts) ≤ 40 * ts.size
  | .nil, _ => by
    unfold txts
    cases l <;> exact Nat.zero_le _
  | .cons t r, h => by
    cases l with
    | nil =>
      unfold txts
      exact Nat.zero_le _
    | cons c l =>
      have h1 := txt_len L h.1
      have h2 := txts_len L l h.2
      unfold txts
      show (c :: 58 :: 32 :: txt L t).length + 2 + sum2 (txts L l r) ≤ 40 * (t.size + r.size)
      rw [List.length_cons, List.length_cons, List.length_cons]
      omega
end
theorem txts_get {L : List Nat} : ∀ {l : List Nat} {ts : Trs} {i c : Nat} {t : Tr}, l[i]? = some c → ts.list[i]? = some t → (txts L l ts)[i]? = some (c :: 58 :: 32 :: txt L t)
  | [], _, _, _, _, h, _ => by simp at h
  | _ :: _, .nil, _, _, _, _, h => by simp [Trs.list] at h
  | d :: l, .cons u r, 0, c, t, h1, h2 => by
    have e1 : d = c := Option.some.inj h1
    have e2 : u = t := Option.some.inj h2
    subst e1 e2
    unfold txts
    rfl
  | d :: l, .cons u r, i + 1, c, t, h1, h2 => by
    unfold txts
    exact txts_get (l := l) (ts := r) (i := i) h1 h2
theorem txts_count {L : List Nat} : ∀ {l : List Nat} {ts : Trs}, ts.list.length = l.length → (txts L l ts).length = l.length
  | [], _, _ => by
    unfold txts
    rfl
  | _ :: _, .nil, h => by simp [Trs.list] at h
  | d :: l, .cons u r, h => by
    unfold txts
    rw [List.length_cons, List.length_cons, txts_count (l := l) (ts := r) (by simpa [Trs.list] using h)]
theorem smalls_mem : ∀ {ts : Trs}, smalls ts → ∀ t ∈ ts.list, small t
  | .nil, _, _, h => nomatch h
  | .cons t r, h, x, hx => by
    rcases List.mem_cons.mp hx with q | q
    · rw [q]
      exact h.1
    · exact smalls_mem h.2 x q
theorem join_S (ps : List (List Nat)) : Txt.join (Str.ofString ", ") (ps.map S) = S (TL.joinL [44, 32] ps) := by
  refine TL.ext_tl ?_
  rw [TL.join_eq, TL.tl_join, tl_S, List.map_map, show TL.tl (Str.ofString ", ") = [44, 32] by decide +kernel, show (TL.tl ∘ S) = id from funext fun x => tl_S x, List.map_id]
theorem sum_len (ps : List (List Nat)) : ((ps.map S).map (·.length)).sum + (ps.map S).length * 2 = sum2 ps := by
  induction ps with
  | nil => rfl
  | cons p r ih =>
    show (S p).length + ((r.map S).map (·.length)).sum + ((r.map S).length + 1) * 2 = p.length + 2 + sum2 r
    rw [S_len]
    omega
theorem go_out (L : List Nat) (s q : Nat) : Str.empty ++ Str.ofString "go " ++ Str.ofString (toString ((s : Nat) : Int)) ++ Str.ofString " " ++ Str.ofString (toString ((q : Nat) : Int)) = S (txt L (.go s q)) := by
  refine TL.ext_tl ?_
  simp only [TL.tl_append, TL.tl_num, tl_S]
  rw [show TL.tl Str.empty = [] from rfl, show TL.tl (Str.ofString "go ") = [103, 111, 32] by decide +kernel, show TL.tl (Str.ofString " ") = [32] by decide +kernel]
  unfold txt num wGo
  simp
theorem tell_out (L : List Nat) (n : Nat) (t : Tr) : Str.empty ++ Str.ofString "tell " ++ Str.ofString (toString ((n : Nat) : Int)) ++ Str.ofString " " ++ S (txt L t) = S (txt L (.tell n t)) := by
  refine TL.ext_tl ?_
  simp only [TL.tl_append, TL.tl_num, tl_S]
  rw [show TL.tl Str.empty = [] from rfl, show TL.tl (Str.ofString "tell ") = [116, 101, 108, 108, 32] by decide +kernel, show TL.tl (Str.ofString " ") = [32] by decide +kernel]
  show _ = txt L (.tell n t)
  conv => rhs; unfold txt
  unfold num wTell
  simp
theorem read_out (L : List Nat) (p : Nat) (ts : Trs) : Str.empty ++ Str.ofString "read " ++ Str.ofString (toString ((p : Nat) : Int)) ++ Str.ofString " [" ++ S (TL.joinL [44, 32] (txts L L ts)) ++ Str.ofString "]" = S (txt L (.read p ts)) := by
  refine TL.ext_tl ?_
  simp only [TL.tl_append, TL.tl_num, tl_S]
  rw [show TL.tl Str.empty = [] from rfl, show TL.tl (Str.ofString "read ") = [114, 101, 97, 100, 32] by decide +kernel, show TL.tl (Str.ofString " [") = [32, 91] by decide +kernel, show TL.tl (Str.ofString "]") = [93] by decide +kernel]
  show _ = txt L (.read p ts)
  conv => rhs; unfold txt
  unfold num wRead
  simp
theorem part_out (c : Nat) (x : List Nat) : Str.empty ++ ⟨#[c]⟩ ++ Str.ofString ": " ++ S x = S (c :: 58 :: 32 :: x) := by
  refine TL.ext_tl ?_
  simp only [TL.tl_append, tl_S]
  rw [show TL.tl Str.empty = [] from rfl, show TL.tl (Str.ofString ": ") = [58, 32] by decide +kernel]
  rfl
theorem emp_l (x : Str) : Str.empty ++ x = x := TL.ext_tl (by rw [TL.tl_append]; rfl)
end TT

namespace Law
open PySem PySem.Spec PyProof.Rows L2 Evl TR
/-! ### a tree written -/
def spTxt (d : Nat) : Sp := fun vs H Q _ => ∃ (t : Tr) (v : V) (L : List Nat) (w n : Nat), vs = [.str (tx L), v] ∧ TR.TA true H v t ∧ t.ok L.length w n ∧ TT.small t ∧ L.length ≤ 4 ∧ t.depth ≤ d ∧ t.size ≤ 2000 ∧ ∀ H', Ex H H' → Q (.str (tx (TT.txt L t))) H'
theorem lit_go : (Str.ofString "go ").length = 3 := by decide +kernel
theorem lit_tell : (Str.ofString "tell ").length = 5 := by decide +kernel
theorem lit_read : (Str.ofString "read ").length = 5 := by decide +kernel
theorem lit_sp : (Str.ofString " ").length = 1 := by decide +kernel
theorem lit_br : (Str.ofString " [").length = 2 := by decide +kernel
theorem lit_rb : (Str.ofString "]").length = 1 := by decide +kernel
theorem lit_co : (Str.ofString ": ").length = 2 := by decide +kernel
theorem emp_len : Str.empty.length = 0 := rfl
section
variable {P : Program} {w : World} {K : PySem.W.Frag} {mg : Str → Option Value} {base : Heap}
theorem ok_txt {f : Addr} {fd : FuncData} (F : Fun K "tree_text" "tree_text" s_tree_text f fd) (T : Tx mg) (g : mg "tree_text" = some (.ref f)) (b : Binds K fd ["letters", "tree"] []) : ∀ d : Nat, FnOk P w K mg base CX0 (d + 1) f fd ["letters", "tree"] (spTxt d)
  | 0 => by
    refine F.ok sc_tree_text (fun vs H Q E h => ?_) (fun cdv A outer s H vs Q E hr h => ?_)
    · obtain ⟨t, v, L, wd, n, rfl, _⟩ := h
      rfl
    · obtain ⟨t, v, L, wd, n, rfl, hT, hok, hsm, hL, hd, hsz, q⟩ := h
      exfalso
      cases t
      · exact absurd hd (by show ¬ (1 ≤ 0); omega)
      · exact absurd hd (by show ¬ (_ + 1 ≤ 0); omega)
      · exact absurd hd (by show ¬ (_ + 1 ≤ 0); omega)
  | d + 1 => by
    have c_tree_text : Kn P w K mg base "tree_text" ["letters", "tree"] (d + 1) (spTxt d) := ⟨f, fd, ok_txt F T g b d, g, F.kp, b⟩
    refine F.ok sc_tree_text (fun vs H Q E h => ?_) (fun cdv A outer s H vs Q E hr h => ?_)
    · obtain ⟨t, v, L, wd, n, rfl, _⟩ := h
      rfl
    · obtain ⟨t, v, L, wd, n, rfl, hT, hok, hsm, hL, hd, hsz, q⟩ := h
      have hlen := TT.txt_len L hsm
      refine ⟨_, (pss_cons (ps_asg (pv 1) (TR.pg_seq (by rfl) (pgs_cons (pg_name (i := 2) sc_tree_text.nd rfl (Or.inl rfl)) (pgs_cons (pg_name (i := 3) sc_tree_text.nd rfl (Or.inl rfl)) (pgs_cons (pg_name (i := 4) sc_tree_text.nd rfl (Or.inl rfl)) pgs_nil)))))
      (pss_cons (ps_if (pt_cmpR op_eq (pv 2) pe_str (nomark _)) (pss_one (ps_ret (pe_joined (PJ.cons pe_str (PJ.cons (pe_fmt (pv 3)) (PJ.cons pe_str (PJ.cons (pe_fmt (pv 4)) PJ.nil))))))) pss_nil)
      (pss_cons (ps_if (pt_cmpR op_eq (pv 2) pe_str (nomark _)) (pss_one (ps_ret (pe_joined (PJ.cons pe_str (PJ.cons (pe_fmt (pv 3)) (PJ.cons pe_str (PJ.cons (pe_fmt (pe_call c_tree_text.ok (hr.mono (by omega)) (by rfl) c_tree_text.g c_tree_text.kp c_tree_text.b .nil pass0 (pa_cons (pv 0) (pa_cons (pv 4) pa_nil)))) PJ.nil))))))) pss_nil)
      (pss_cons (ps_setLc (i := 5) (own := [("letter", 6), ("inner", 7)]) (g := gTup K 2 (gCons (gName 6) (gCons (gName 7) gNil))) (tt := tYes) rfl sc_tree_text.nd rfl rfl (sw_true rfl rfl rfl (by decide +kernel)) (ZT.pi_zipX (by rfl) T.zip (pa_cons (pv 0) (pa_cons (pv 4) pa_nil))) (blkOk_by (N := N_tree_text) (sc := defScope s_tree_text) (by decide +kernel)) (fun _ _ _ _ _ => (pg_tup (by rfl) (pgs_cons (pg_name (i := 6) sc_tree_text.nd rfl (Or.inl rfl)) (pgs_cons (pg_name (i := 7) sc_tree_text.nd rfl (Or.inl rfl)) pgs_nil)))) (fun _ _ _ _ _ => pts_nil) (fun _ _ _ _ _ => (pe_joined (PJ.cons (pe_fmt (pv 6)) (PJ.cons pe_str (PJ.cons (pe_fmt (pe_call c_tree_text.ok (hr.mono (by omega)) (by rfl) c_tree_text.g c_tree_text.kp c_tree_text.b .nil pass0 (pa_cons (pv 0) (pa_cons (pv 7) pa_nil)))) PJ.nil))))))
      (pss_cons (ps_set (i := 8) sc_tree_text.nd rfl (Or.inl rfl) (pe_join pe_str (pv 5)))
      (pss_one (ps_ret (pe_joined (PJ.cons pe_str (PJ.cons (pe_fmt (pv 3)) (PJ.cons pe_str (PJ.cons (pe_fmt (pv 8)) (PJ.cons pe_str PJ.nil))))))))))))), ?_⟩
      cases hT with
      | @go a s' q' h =>
        have l1 := TT.numS_len hsm.1
        have l2 := TT.numS_len hsm.2
        refine ⟨_, rfl, gSeq_of h rfl ⟨_, _, rfl, _, _, rfl, _, _, rfl, rfl, ?_⟩⟩
        refine ⟨_, rfl, rfl, _, rfl, iteD rfl ?_⟩
        refine ⟨_, rfl, by refine sz_of ?_; simp only [TT.app_len, lit_go, lit_tell, lit_read, lit_sp, lit_br, lit_rb, lit_co, emp_len]; omega, _, rfl, .inr ⟨_, rfl, TT.num_log hsm.1, _, rfl, by refine sz_of ?_; simp only [TT.app_len, lit_go, lit_tell, lit_read, lit_sp, lit_br, lit_rb, lit_co, emp_len]; omega, _, rfl, by refine sz_of ?_; simp only [TT.app_len, lit_go, lit_tell, lit_read, lit_sp, lit_br, lit_rb, lit_co, emp_len]; omega, _, rfl, .inr ⟨_, rfl, TT.num_log hsm.2, _, rfl, by refine sz_of ?_; simp only [TT.app_len, lit_go, lit_tell, lit_read, lit_sp, lit_br, lit_rb, lit_co, emp_len]; omega, ?_⟩⟩⟩
        have q2 := q H (Ex.refl _)
        rw [show tx (TT.txt L (.go s' q')) = _ from (TT.go_out L s' q').symm] at q2
        exact q2
      | @tell a n' v' t' h r0 =>
        have hd' : t'.depth ≤ d := by
          have : t'.depth + 1 ≤ d + 1 := hd
          omega
        have hs' : t'.size ≤ 1999 := by
          have : t'.size + 1 ≤ 2000 := hsz
          omega
        have l1 := TT.numS_len hsm.1
        have l2 := TT.txt_len L hsm.2
        refine ⟨_, rfl, gSeq_of h rfl ⟨_, _, rfl, _, _, rfl, _, _, rfl, rfl, ?_⟩⟩
        refine ⟨_, rfl, rfl, _, rfl, iteDn tell_ne_go ?_⟩
        refine ⟨_, rfl, rfl, _, rfl, iteD rfl ?_⟩
        refine ⟨_, rfl, by refine sz_of ?_; simp only [TT.app_len, lit_go, lit_tell, lit_read, lit_sp, lit_br, lit_rb, lit_co, emp_len]; omega, _, rfl, .inr ⟨_, rfl, TT.num_log hsm.1, _, rfl, by refine sz_of ?_; simp only [TT.app_len, lit_go, lit_tell, lit_read, lit_sp, lit_br, lit_rb, lit_co, emp_len]; omega, _, rfl, by refine sz_of ?_; simp only [TT.app_len, lit_go, lit_tell, lit_read, lit_sp, lit_br, lit_rb, lit_co, emp_len]; omega, _, rfl, _, rfl, t', v', L, wd, n, rfl, r0, hok.2, hsm.2, hL, hd', by omega, fun H1 e1 => ?_⟩⟩
        have l3 : (tx (TT.txt L t')).length ≤ 80000 := by
          rw [tx_len]
          omega
        refine .inl ⟨_, rfl, sz_of (by omega), _, rfl, by refine sz_of ?_; simp only [TT.app_len, lit_go, lit_tell, lit_read, lit_sp, lit_br, lit_rb, lit_co, emp_len]; omega, ?_⟩
        have q2 := q H1 e1
        rw [show tx (TT.txt L (.tell n' t')) = _ from (TT.tell_out L n' t').symm] at q2
        exact q2
      | @read a b' p' us ts h hb r0 =>
        have hd' : ts.depth ≤ d := by
          have : ts.depth + 1 ≤ d + 1 := hd
          omega
        have hs' : ts.size ≤ 1999 := by
          have : ts.size + 1 ≤ 2000 := hsz
          omega
        have KK := r0.kids
        have lks := KK.len
        have l1 := TT.numS_len hsm.1
        have l2 := TT.txts_len L L hsm.2
        have lcount := TT.txts_count (L := L) (l := L) hok.2.1
        refine ⟨_, rfl, gSeq_of h rfl ⟨_, _, rfl, _, _, rfl, _, _, rfl, rfl, ?_⟩⟩
        refine ⟨_, rfl, rfl, _, rfl, iteDn read_ne_go ?_⟩
        refine ⟨_, rfl, rfl, _, rfl, iteDn read_ne_tell ?_⟩
        refine ⟨_, rfl, _, rfl, _, _, _, rfl, st_of hb, fun D hD => ?_⟩
        refine ZT.lc_zipX (g := gTup K 2 (gCons (gName 6) (gCons (gName 7) gNil))) (tt := tYes) (te := fun σ H Q => tJs [tFmt (tVar 6), tC (V.str (Str.ofString ": ")), tFmt (tCall (spTxt d) [] E0 (tCons (tVar 0) (tCons (tVar 7) tNil)))] Str.empty σ H fun out H1 => Q (V.str out) H1) (vs := [6, 7]) (x := tx L) (b := b') (ys := us) (by rw [tx_size, lks, hok.2.1]) (fun i H' => Ex H H' ∧ H' D = some (.lst (((((TT.txts L L ts).take i).map TT.S).map V.str)))) ⟨Ex.new hD, upd_same⟩ (fun i H' p => p.1 _ _ hb) (fun i c y T' H' hc hy p hT => ?_) (fun H' p => ?_)
        · obtain ⟨e6, hz⟩ := p
          have e7 := e6.trans (Ex.new (o := .tup [.str ⟨#[c]⟩, y]) hT)
          obtain ⟨kt, hkt, hka⟩ := KK.get hy
          have mem := List.mem_of_getElem? hkt
          have dk := Trs.depth_mem kt mem
          have sk : kt.size ≤ ts.size := by
            have h1 := size_mem mem
            rw [Trs.total] at h1
            exact h1
          have l4 := TT.txt_len L (TT.smalls_mem hsm.2 kt mem)
          have hg := TT.txts_get (L := L) (tx_at hc) hkt
          refine ⟨T', _, rfl, st_of upd_same, rfl, _, _, rfl, _, _, rfl, rfl, rfl, ?_⟩
          refine ⟨_, rfl, .inl ⟨_, rfl, by show 1 ≤ sizeLine; decide, _, rfl, ?_⟩⟩
          refine ⟨by show 1 ≤ sizeLine; decide, _, rfl, by show 3 ≤ sizeLine; decide, _, rfl, _, rfl, kt, y, L, wd, n, rfl, hka.ex e7, Trs.ok_mem hok.2.2 kt mem, TT.smalls_mem hsm.2 kt mem, hL, by omega, by omega, fun H8 e8 => ?_⟩
          have l5 : (tx (TT.txt L kt)).length ≤ 80000 := by
            rw [tx_len]
            omega
          refine .inl ⟨_, rfl, sz_of (by omega), _, rfl, ?_, ?_⟩
          · refine sz_of ?_
            rw [TT.app_len, TT.app_len, TT.app_len, lit_co, emp_len, show (⟨#[c]⟩ : Str).length = 1 from rfl]
            omega
          refine ⟨_, e8 _ _ ((Ex.new (o := .tup [.str ⟨#[c]⟩, y]) hT) _ _ hz), ?_, (e7.trans e8).mut hD, ?_⟩
          · rw [List.length_map, List.length_map, List.length_take]
            exact sz_lt (by omega)
          · rw [upd_same, take_next' hg, List.map_append, List.map_append]
            exact congrArg (fun z => some (HO.lst (_ ++ [V.str z]))) (TT.part_out c (TT.txt L kt))
        · obtain ⟨e6, hz⟩ := p
          rw [show us.length = (TT.txts L L ts).length by rw [lks, hok.2.1, lcount], List.take_length] at hz
          have l6 := TT.sum_len (TT.txts L L ts)
          have l7 := TT.join_len (TT.txts L L ts)
          have l8 : (TT.S (TL.joinL [44, 32] (TT.txts L L ts))).length ≤ 79960 := by
            rw [TT.S_len]
            omega
          refine ⟨⟨_, rfl⟩, _, rfl, _, D, (TT.txts L L ts).map TT.S, rfl, rfl, .inl (sq_of hz), ?_, ?_⟩
          · rw [show (Str.ofString ", ").length = 2 by decide +kernel, l6]
            omega
          rw [TT.join_S]
          refine ⟨_, rfl, by refine sz_of ?_; simp only [TT.app_len, lit_go, lit_tell, lit_read, lit_sp, lit_br, lit_rb, lit_co, emp_len]; omega, _, rfl, .inr ⟨_, rfl, TT.num_log hsm.1, _, rfl, by refine sz_of ?_; simp only [TT.app_len, lit_go, lit_tell, lit_read, lit_sp, lit_br, lit_rb, lit_co, emp_len]; omega, _, rfl, by refine sz_of ?_; simp only [TT.app_len, lit_go, lit_tell, lit_read, lit_sp, lit_br, lit_rb, lit_co, emp_len]; omega, _, rfl, .inl ⟨_, rfl, sz_of (by omega), _, rfl, by refine sz_of ?_; simp only [TT.app_len, lit_go, lit_tell, lit_read, lit_sp, lit_br, lit_rb, lit_co, emp_len]; omega, _, rfl, by refine sz_of ?_; simp only [TT.app_len, lit_go, lit_tell, lit_read, lit_sp, lit_br, lit_rb, lit_co, emp_len]; omega, ?_⟩⟩⟩
          have q2 := q H' e6
          rw [show tx (TT.txt L (.read p' ts)) = _ from (TT.read_out L p' ts).symm] at q2
          exact q2
end
end Law

namespace Law
open PySem PySem.Spec PyProof.Rows L2 Evl TR
/-! ### the law's own text of a tree -/
def spLine (d : Nat) : Sp := fun vs H Q _ => ∃ (t : Tr) (v : V) (L : List Nat) (w n : Nat), vs = [v, .str (tx L)] ∧ TR.TA true H v t ∧ t.ok L.length w n ∧ TT.small t ∧ L.length ≤ 4 ∧ t.depth ≤ d ∧ t.size ≤ 2000 ∧ ∀ H', Ex H H' → Q (.str (tx (TT.txt L t))) H'
theorem out_emp {a b c d e : Str} (h : Str.empty ++ a ++ b ++ c ++ d = e) : a ++ b ++ c ++ d = e := by
  rw [TT.emp_l] at h
  exact h
section
variable {P : Program} {w : World} {K : PySem.W.Frag} {mg : Str → Option Value} {base : Heap}
theorem ok_lline {f : Addr} {fd : FuncData} (F : Fun K "_law_line" "_law_line" s_lline f fd) (T : Tx mg) (g : mg "_law_line" = some (.ref f)) (b : Binds K fd ["_law_tree_here", "_law_letters_here"] []) : ∀ d : Nat, FnOk P w K mg base CX0 (d + 1) f fd ["_law_tree_here", "_law_letters_here"] (spLine d)
  | 0 => by
    refine F.ok sc_lline (fun vs H Q E h => ?_) (fun cdv A outer s H vs Q E hr h => ?_)
    · obtain ⟨t, v, L, wd, n, rfl, _⟩ := h
      rfl
    · obtain ⟨t, v, L, wd, n, rfl, hT, hok, hsm, hL, hd, hsz, q⟩ := h
      exfalso
      cases t
      · exact absurd hd (by show ¬ (1 ≤ 0); omega)
      · exact absurd hd (by show ¬ (_ + 1 ≤ 0); omega)
      · exact absurd hd (by show ¬ (_ + 1 ≤ 0); omega)
  | d + 1 => by
    have c_lline : Kn P w K mg base "_law_line" ["_law_tree_here", "_law_letters_here"] (d + 1) (spLine d) := ⟨f, fd, ok_lline F T g b d, g, F.kp, b⟩
    refine F.ok sc_lline (fun vs H Q E h => ?_) (fun cdv A outer s H vs Q E hr h => ?_)
    · obtain ⟨t, v, L, wd, n, rfl, _⟩ := h
      rfl
    · obtain ⟨t, v, L, wd, n, rfl, hT, hok, hsm, hL, hd, hsz, q⟩ := h
      have hlen := TT.txt_len L hsm
      refine ⟨_, (pss_cons (ps_if (pt_cmpR op_eq (pe_ix ix_seq (pv 0) pe_int (fun _ _ => rfl)) pe_str (nomark _)) (pss_one (ps_ret (pe_op op_add_str (pe_op op_add_str (pe_op op_add_str pe_str (pe_callTy call_str_int (by rfl) T.str PyProof.Rows.boot_str (pa_cons (pe_ix ix_seq (pv 0) pe_int (fun _ _ => rfl)) pa_nil))) pe_str) (pe_callTy call_str_int (by rfl) T.str PyProof.Rows.boot_str (pa_cons (pe_ix ix_seq (pv 0) pe_int (fun _ _ => rfl)) pa_nil))))) pss_nil)
      (pss_cons (ps_if (pt_cmpR op_eq (pe_ix ix_seq (pv 0) pe_int (fun _ _ => rfl)) pe_str (nomark _)) (pss_one (ps_ret (pe_op op_add_str (pe_op op_add_str (pe_op op_add_str pe_str (pe_callTy call_str_int (by rfl) T.str PyProof.Rows.boot_str (pa_cons (pe_ix ix_seq (pv 0) pe_int (fun _ _ => rfl)) pa_nil))) pe_str) (pe_call c_lline.ok (hr.mono (by omega)) (by rfl) c_lline.g c_lline.kp c_lline.b .nil pass0 (pa_cons (pe_ix ix_seq (pv 0) pe_int (fun _ _ => rfl)) (pa_cons (pv 1) pa_nil)))))) pss_nil)
      (pss_cons (ps_setLc (i := 2) (own := [("_law_k", 3)]) (g := gName 3) (tt := tYes) rfl sc_lline.nd rfl rfl (sw_true rfl rfl rfl (by decide +kernel)) (pi_range1 (by rfl) T.range (pa_cons (pe_callB call_len_str (by rfl) T.len PySem.boot_len (pa_cons (pv 1) pa_nil)) pa_nil)) (blkOk_by (N := N_lline) (sc := defScope s_lline) (by decide +kernel)) (fun _ _ _ _ _ => (pg_name (i := 3) sc_lline.nd rfl (Or.inl rfl))) (fun _ _ _ _ _ => pts_nil) (fun _ _ _ _ _ => (pe_op op_add_str (pe_op op_add_str (pe_ix ix_str (pv 1) (pv 3) (fun _ _ => rfl)) pe_str) (pe_call c_lline.ok (hr.mono (by omega)) (by rfl) c_lline.g c_lline.kp c_lline.b .nil pass0 (pa_cons (pe_ix (show IxR _ (rIx K) from ix_seq) (pe_ix (show IxR _ (rIx K) from ix_seq) (pv 0) pe_int (fun _ _ => rfl)) (pv 3) (fun _ _ => rfl)) (pa_cons (pv 1) pa_nil))))))
      (pss_one (ps_ret (pe_op op_add_str (pe_op op_add_str (pe_op op_add_str (pe_op op_add_str pe_str (pe_callTy call_str_int (by rfl) T.str PyProof.Rows.boot_str (pa_cons (pe_ix ix_seq (pv 0) pe_int (fun _ _ => rfl)) pa_nil))) pe_str) (pe_join pe_str (pv 2))) pe_str)))))), ?_⟩
      cases hT with
      | @go a s' q' h =>
        have l1 := TT.numS_len hsm.1
        have l2 := TT.numS_len hsm.2
        refine ⟨_, rfl, ix_at (i := 0) h rfl ⟨rfl, _, rfl, iteD rfl ?_⟩⟩
        refine ⟨_, rfl, ix_at (i := 1) h rfl ⟨_, rfl, TT.num_log hsm.1, _, _, rfl, rfl, by refine sz_of ?_; simp only [TT.app_len, lit_go, lit_tell, lit_read, lit_sp, lit_br, lit_rb, lit_co, emp_len]; omega, _, _, rfl, rfl, by refine sz_of ?_; simp only [TT.app_len, lit_go, lit_tell, lit_read, lit_sp, lit_br, lit_rb, lit_co, emp_len]; omega, _, rfl, ix_at (i := 2) h rfl ⟨_, rfl, TT.num_log hsm.2, _, _, rfl, rfl, by refine sz_of ?_; simp only [TT.app_len, lit_go, lit_tell, lit_read, lit_sp, lit_br, lit_rb, lit_co, emp_len]; omega, ?_⟩⟩⟩
        have q2 := q H (Ex.refl _)
        rw [show tx (TT.txt L (.go s' q')) = _ from (out_emp (TT.go_out L s' q')).symm] at q2
        exact q2
      | @tell a n' v' t' h r0 =>
        have hd' : t'.depth ≤ d := by
          have : t'.depth + 1 ≤ d + 1 := hd
          omega
        have hs' : t'.size ≤ 1999 := by
          have : t'.size + 1 ≤ 2000 := hsz
          omega
        have l1 := TT.numS_len hsm.1
        have l2 := TT.txt_len L hsm.2
        refine ⟨_, rfl, ix_at (i := 0) h rfl ⟨rfl, _, rfl, iteDn tell_ne_go ?_⟩⟩
        refine ⟨_, rfl, ix_at (i := 0) h rfl ⟨rfl, _, rfl, iteD rfl ?_⟩⟩
        refine ⟨_, rfl, ix_at (i := 1) h rfl ⟨_, rfl, TT.num_log hsm.1, _, _, rfl, rfl, by refine sz_of ?_; simp only [TT.app_len, lit_go, lit_tell, lit_read, lit_sp, lit_br, lit_rb, lit_co, emp_len]; omega, _, _, rfl, rfl, by refine sz_of ?_; simp only [TT.app_len, lit_go, lit_tell, lit_read, lit_sp, lit_br, lit_rb, lit_co, emp_len]; omega, _, rfl, ix_at (i := 2) h rfl ⟨_, rfl, t', v', L, wd, n, rfl, r0, hok.2, hsm.2, hL, hd', by omega, fun H1 e1 => ?_⟩⟩⟩
        have l3 : (tx (TT.txt L t')).length ≤ 80000 := by
          rw [tx_len]
          omega
        refine ⟨_, _, rfl, rfl, by refine sz_of ?_; simp only [TT.app_len, lit_go, lit_tell, lit_read, lit_sp, lit_br, lit_rb, lit_co, emp_len]; omega, ?_⟩
        have q2 := q H1 e1
        rw [show tx (TT.txt L (.tell n' t')) = _ from (out_emp (TT.tell_out L n' t')).symm] at q2
        exact q2
      | @read a b' p' us ts h hb r0 =>
        have hd' : ts.depth ≤ d := by
          have : ts.depth + 1 ≤ d + 1 := hd
          omega
        have hs' : ts.size ≤ 1999 := by
          have : ts.size + 1 ≤ 2000 := hsz
          omega
        have KK := r0.kids
        have lks := KK.len
        have l1 := TT.numS_len hsm.1
        have l2 := TT.txts_len L L hsm.2
        have lcount := TT.txts_count (L := L) (l := L) hok.2.1
        refine ⟨_, rfl, ix_at (i := 0) h rfl ⟨rfl, _, rfl, iteDn read_ne_go ?_⟩⟩
        refine ⟨_, rfl, ix_at (i := 0) h rfl ⟨rfl, _, rfl, iteDn read_ne_tell ?_⟩⟩
        refine ⟨_, rfl, _, rfl, tx_le (by omega), _, rfl, by rw [tx_len]; omega, by rw [tx_len]; omega, fun D hD => ?_⟩
        refine lc_range (lo := 0) (g := gName 3) (tt := tYes) (vs := [3]) (fun i H' => Ex H H' ∧ H' D = some (.lst (((((TT.txts L L ts).take i).map TT.S).map V.str)))) ⟨Ex.new hD, upd_same⟩ (fun i H' hi p => ?_) (fun H' p => ?_)
        · obtain ⟨e6, hz⟩ := p
          have hiL : i < L.length := by
            have h1 : ((tx L).length : Int).toNat = L.length := by rw [tx_len]; omega
            have h2 : i < (((tx L).length : Nat) : Int).toNat := by simpa using hi
            omega
          obtain ⟨c, hc⟩ : ∃ c, L[i]? = some c := ⟨_, List.getElem?_eq_getElem hiL⟩
          obtain ⟨y, hy⟩ : ∃ y, us[i]? = some y := ⟨_, List.getElem?_eq_getElem (by rw [lks, hok.2.1]; exact hiL)⟩
          obtain ⟨kt, hkt, hka⟩ := KK.get hy
          have mem := List.mem_of_getElem? hkt
          have dk := Trs.depth_mem kt mem
          have sk : kt.size ≤ ts.size := by
            have h1 := size_mem mem
            rw [Trs.total] at h1
            exact h1
          have l4 := TT.txt_len L (TT.smalls_mem hsm.2 kt mem)
          have hg := TT.txts_get (L := L) hc hkt
          refine ⟨rfl, _, rfl, _, rfl, _, _, c, rfl, rfl, sz_of (by rw [tx_len]; omega), by rw [Int.zero_add]; exact atI_nat hc, _, _, rfl, rfl, by show 3 ≤ sizeLine; decide, ?_⟩
          refine ⟨_, rfl, ix_at (i := 2) (e6 _ _ h) rfl ⟨_, rfl, ix_at (e6 _ _ hb) (by rw [Int.zero_add]; exact atI_nat hy) ⟨_, rfl, kt, y, L, wd, n, rfl, hka.ex e6, Trs.ok_mem hok.2.2 kt mem, TT.smalls_mem hsm.2 kt mem, hL, by omega, by omega, fun H8 e8 => ?_⟩⟩⟩
          have l5 : (tx (TT.txt L kt)).length ≤ 80000 := by
            rw [tx_len]
            omega
          refine ⟨_, _, rfl, rfl, ?_, ?_⟩
          · refine sz_of ?_
            rw [TT.app_len, lit_co, show (⟨#[c]⟩ : Str).length = 1 from rfl]
            omega
          refine ⟨_, e8 _ _ hz, ?_, (e6.trans e8).mut hD, ?_⟩
          · rw [List.length_map, List.length_map, List.length_take]
            exact sz_lt (by omega)
          · have po := TT.part_out c (TT.txt L kt)
            rw [TT.emp_l] at po
            rw [upd_same, take_next' hg, List.map_append, List.map_append]
            exact congrArg (fun z => some (HO.lst (_ ++ [V.str z]))) po
        · obtain ⟨e6, hz⟩ := p
          rw [List.take_of_length_le (by rw [lcount]; simp [tx_len])] at hz
          have l6 := TT.sum_len (TT.txts L L ts)
          have l7 := TT.join_len (TT.txts L L ts)
          have l8 : (TT.S (TL.joinL [44, 32] (TT.txts L L ts))).length ≤ 79960 := by
            rw [TT.S_len]
            omega
          refine ⟨_, rfl, ix_at (i := 1) (e6 _ _ h) rfl ⟨_, rfl, TT.num_log hsm.1, _, _, rfl, rfl, by refine sz_of ?_; simp only [TT.app_len, lit_go, lit_tell, lit_read, lit_sp, lit_br, lit_rb, lit_co, emp_len]; omega, _, _, rfl, rfl, by refine sz_of ?_; simp only [TT.app_len, lit_go, lit_tell, lit_read, lit_sp, lit_br, lit_rb, lit_co, emp_len]; omega, ⟨_, rfl⟩, _, rfl, _, D, (TT.txts L L ts).map TT.S, rfl, rfl, .inl (sq_of hz), ?_, ?_⟩⟩
          · rw [show (Str.ofString ", ").length = 2 by decide +kernel, l6]
            omega
          rw [TT.join_S]
          refine ⟨_, _, rfl, rfl, by refine sz_of ?_; simp only [TT.app_len, lit_go, lit_tell, lit_read, lit_sp, lit_br, lit_rb, lit_co, emp_len]; omega, _, _, rfl, rfl, by refine sz_of ?_; simp only [TT.app_len, lit_go, lit_tell, lit_read, lit_sp, lit_br, lit_rb, lit_co, emp_len]; omega, ?_⟩
          have q2 := q H' e6
          have ro := TT.read_out L p' ts
          rw [TT.emp_l] at ro
          rw [show tx (TT.txt L (.read p' ts)) = _ from ro.symm] at q2
          exact q2
end
end Law

namespace TT
open PySem PySem.Spec PyProof.Rows L2 TR
def tokl (L : List Nat) : List Nat → List Tr → List (List Nat)
  | c :: l, t :: r => [c] :: (toks L t ++ tokl L l r)
  | _, _ => []
theorem tokss_eq (L : List Nat) : ∀ (l : List Nat) (ts : Trs), tokss L l ts = tokl L l ts.list
  | [], ts => by
    unfold tokss tokl
    cases ts <;> rfl
  | _ :: _, .nil => by
    unfold tokss
    rfl
  | c :: l, .cons t r => by
    unfold tokss
    show _ = [c] :: (toks L t ++ tokl L l r.list)
    rw [tokss_eq L l r]
theorem tokl_at {L l : List Nat} {rs : List Tr} {i c : Nat} {t : Tr} (h1 : l[i]? = some c) (h2 : rs[i]? = some t) : tokl L (l.drop i) (rs.drop i) = [c] :: (toks L t ++ tokl L (l.drop (i + 1)) (rs.drop (i + 1))) := by
  obtain ⟨g1, e1⟩ := List.getElem?_eq_some_iff.mp h1
  obtain ⟨g2, e2⟩ := List.getElem?_eq_some_iff.mp h2
  rw [List.drop_eq_getElem_cons g1, List.drop_eq_getElem_cons g2, e1, e2]
  rfl
theorem num_dec {n : Nat} (h : n < 100) : Txt.isdecimal (S (num n)) = true := by
  have : ∀ n < 100, Txt.isdecimal (S (num n)) = true := by decide +kernel
  exact this n h
theorem num_int {n : Nat} (h : n < 100) : PySem.intText? (S (num n)) = some (n : Int) := by
  rw [← num_S]
  exact TL.int_num (by have := num_len h; show (num n).length ≤ _; omega)
/-- the words that are left, the next one at the end -/
def wl (ws : List (List Nat)) : List V := (ws.reverse.map S).map V.str
theorem wl_cons (w : List Nat) (ws : List (List Nat)) : wl (w :: ws) = wl ws ++ [.str (S w)] := by
  unfold wl
  rw [List.reverse_cons, List.map_append, List.map_append]
  rfl
end TT
namespace Law
open PySem PySem.Spec PyProof.Rows L2 Evl TR
def WAt (a : Addr) (H0 H : Hp) (ws : List (List Nat)) : Prop := Ex H0 H ∧ H0 a = none ∧ H a = some (.lst (TT.wl ws))
theorem WAt.ex {a : Addr} {H0 H H1 : Hp} {ws : List (List Nat)} (W : WAt a H0 H ws) (e : Ex H H1) : WAt a H0 H1 ws := ⟨W.1.trans e, W.2.1, e _ _ W.2.2⟩
theorem WAt.ne {a b : Addr} {H0 H : Hp} {ws : List (List Nat)} (W : WAt a H0 H ws) (h : H b = none) : b ≠ a := fun e => by
  rw [e, W.2.2] at h
  cases h
theorem WAt.fresh {a b : Addr} {H0 H : Hp} {ws : List (List Nat)} (W : WAt a H0 H ws) (h : H b = none) : H0 b = none := by
  cases e : H0 b with
  | none => rfl
  | some o =>
    rw [W.1 _ _ e] at h
    cases h
theorem WAt.both {a b : Addr} {H0 H : Hp} {ws : List (List Nat)} {o : HO} (W : WAt a H0 H ws) (h : b ≠ a) : WAt a (L2.upd H0 b o) (L2.upd H b o) ws := by
  refine ⟨fun c u e => ?_, by rw [upd_ne h.symm]; exact W.2.1, by rw [upd_ne h.symm]; exact W.2.2⟩
  by_cases q : c = b
  · subst q
    rw [upd_same] at e ⊢
    exact e
  · rw [upd_ne q] at e ⊢
    exact W.1 _ _ e
theorem WAt.made {a b : Addr} {H0 H : Hp} {ws : List (List Nat)} {o : HO} (W : WAt a H0 H ws) (h : H b = none) : WAt a (L2.upd H0 b o) (L2.upd H b o) ws ∧ Ex H0 (L2.upd H0 b o) := ⟨W.both (W.ne h), Ex.new (W.fresh h)⟩
theorem WAt.pop {a : Addr} {H0 H : Hp} {w : List Nat} {ws : List (List Nat)} (W : WAt a H0 H (w :: ws)) : WAt a H0 (L2.upd H a (.lst (TT.wl ws))) ws := ⟨W.1.mut W.2.1, W.2.1, upd_same⟩
theorem for_strX {x : Str} {g : TG} {tb : TS} {D : Ends} {σ : L2.St} {H : Hp} (Pv : Nat → L2.St → Hp → Prop) (h0 : Pv 0 σ H)
    (hs : ∀ i c σ H, x.cps[i]? = some c → Pv i σ H → g (.str ⟨#[c]⟩) σ H fun σ2 H2 => tb { D with nx := Pv (i + 1), ct := Pv (i + 1), bk := D.nx } σ2 H2) (hd : ∀ σ H, Pv x.cps.size σ H → D.nx σ H) :
    ∃ W : Nat → Nat → L2.St → Hp → Prop, (∃ m, W 0 m σ H) ∧ ∀ i m σ H, W i m σ H →
      ((Its x).stop i H ∧ D.nx σ H) ∨ ((Its x).go i H ∧ ∃ N : L2.St → Hp → Prop, (∀ σ' H', N σ' H' → ∃ m', m' < m ∧ W (i + 1) m' σ' H') ∧ ∀ v H', (Its x).yld i H v H' → g v σ H' fun σ2 H2 => tb { D with nx := N, ct := N, bk := D.nx } σ2 H2) := by
  refine ⟨fun i m σ H => i + m = x.cps.size ∧ Pv i σ H, ⟨_, Nat.zero_add _, h0⟩, ?_⟩
  rintro i m σ H ⟨e, p⟩
  by_cases hm : m = 0
  · have e2 : i = x.cps.size := by omega
    refine .inl ⟨by show x.cps.size ≤ i; omega, hd σ H ?_⟩
    rw [← e2]
    exact p
  · refine .inr ⟨by show i < x.cps.size; omega, Pv (i + 1), fun σ' H' p' => ⟨m - 1, by omega, by omega, p'⟩, ?_⟩
    rintro v H' ⟨rfl, c, hc, rfl⟩
    exact hs i c σ _ hc p
def spTaken : Sp := fun vs H Q _ => ∃ (a : Addr) (w : List Nat) (ws : List (List Nat)) (H0 : Hp), vs = [.ref a] ∧ WAt a H0 H (w :: ws) ∧ ∀ H', WAt a H0 H' ws → Q (.str (tx w)) H'
def spTakNum : Sp := fun vs H Q _ => ∃ (a : Addr) (n : Nat) (ws : List (List Nat)) (H0 : Hp), vs = [.ref a] ∧ n < 100 ∧ WAt a H0 H (TT.num n :: ws) ∧ ∀ H', WAt a H0 H' ws → Q (.int (n : Nat)) H'
def spTake (k : Nat) : Sp := fun vs H Q _ => ∃ (a : Addr) (t : Tr) (L : List Nat) (w n d : Nat) (ws : List (List Nat)) (H0 : Hp), vs = [.str (tx L), .ref a, .int (d : Int)] ∧ t.depth ≤ k ∧ d + t.depth ≤ 41 ∧ t.ok L.length w n ∧ TT.small t ∧ L.length ≤ 4 ∧ WAt a H0 H (TT.toks L t ++ ws) ∧
  ∀ H1 H' v, Ex H0 H1 → WAt a H1 H' ws → TR.TA true H1 v t → Q v H'
def spTakeB (k : Nat) : Sp := fun vs H Q _ => ∃ (a : Addr) (ts : Trs) (L : List Nat) (w n d : Nat) (ws : List (List Nat)) (H0 : Hp), vs = [.str (tx L), .ref a, .int (d : Int)] ∧ ts.depth ≤ k ∧ d + ts.depth ≤ 41 ∧ ts.list.length = L.length ∧ ts.ok L.length w n ∧ TT.smalls ts ∧ L.length ≤ 4 ∧ WAt a H0 H (TT.tokss L L ts ++ ws) ∧
  ∀ H1 H' b vs', Ex H0 H1 → WAt a H1 H' ws → H1 b = some (.tup vs') → TAs true H1 vs' ts → Q (.ref b) H'
theorem w_go : tx TT.wGo = Str.ofString "go" := by decide +kernel
theorem w_tell : tx TT.wTell = Str.ofString "tell" := by decide +kernel
theorem w_read : tx TT.wRead = Str.ofString "read" := by decide +kernel
section
variable {P : Program} {w : World} {K : PySem.W.Frag} {mg : Str → Option Value} {base : Heap}
theorem ok_taken {f : Addr} {fd : FuncData} (F : Fun K "_taken" "_taken" s_taken f fd) (T : Tx mg) : FnOk P w K mg base CX0 1 f fd ["words"] spTaken := by
  refine F.ok sc_taken (fun vs H Q E h => ?_) (fun cdv A outer s H vs Q E hr h => ?_)
  · obtain ⟨a, wd, ws, H0, rfl, _⟩ := h
    rfl
  · obtain ⟨a, wd, ws, H0, rfl, W, q⟩ := h
    refine ⟨_, (pss_one (ps_ret (pe_ifExp (pt_truth (pv 0) (by intro _; rfl)) (pe_bm0 PySem.F.plainAttrs_list PySem.F.slot_list_pop PySem.F.type_list_pop mt_pop (pv 0)) pe_str))), ?_⟩
    have hl := W.2.2
    rw [TT.wl_cons] at hl
    refine ⟨_, rfl, true, .inl ⟨_, sq_of hl, ?_⟩, iteT ?_⟩
    · simp
    refine ⟨_, rfl, .inl ⟨rfl, _, sq_of hl⟩, a, _, _, rfl, rfl, hl, pop_last _ _, ?_⟩
    rw [List.dropLast_concat]
    exact q _ W.pop
theorem ok_taknum {f : Addr} {fd : FuncData} (F : Fun K "_taken_number" "_taken_number" s_taken_number f fd) (T : Tx mg) (c_taken : Kn P w K mg base "_taken" ["words"] 1 spTaken) : FnOk P w K mg base CX0 2 f fd ["words"] spTakNum := by
  refine F.ok sc_taken_number (fun vs H Q E h => ?_) (fun cdv A outer s H vs Q E hr h => ?_)
  · obtain ⟨a, n, ws, H0, rfl, _⟩ := h
    rfl
  · obtain ⟨a, n, ws, H0, rfl, hn, W, q⟩ := h
    refine ⟨_, (pss_cons (ps_set (i := 1) sc_taken_number.nd rfl (Or.inl rfl) (pe_call c_taken.ok (hr.mono (by decide)) (by rfl) c_taken.g c_taken.kp c_taken.b .nil pass0 (pa_cons (pv 0) pa_nil)))
      (pss_one (ps_ret (pe_ifExp (PW.pt (pw_and (pt_val (pe_bm0 PySem.F.plainAttrs_str PySem.F.slot_str_isdecimal PySem.F.type_str_isdecimal mt_isdecimal (pv 1))) (pw_and1 (pt_cmpR op_le (pe_callB call_len_str (by rfl) T.len PySem.boot_len (pa_cons (pv 1) pa_nil)) pe_int (nomark _))))) (pe_callTy call_int_str (by rfl) T.int PyProof.Rows.boot_int (pa_cons (pv 1) pa_nil)) (pe_un un_neg pe_int))))), ?_⟩
    have hl := TT.num_len hn
    refine ⟨_, rfl, a, _, ws, H0, rfl, W, fun H1 W1 => ?_⟩
    refine ⟨_, rfl, rfl, _, rfl, rfl, trivial, true, congrArg V.bl (TT.num_dec hn), iteT ?_⟩
    refine ⟨_, rfl, _, rfl, tx_le (by omega), _, _, rfl, rfl, _, rfl, ite2 (fun _ => ?_) (fun hb => absurd (decide_eq_true (by rw [tx_len]; omega)) hb)⟩
    exact ⟨_, rfl, _, _, rfl, TT.num_int hn, by rw [tx_len]; omega, q _ W1⟩
theorem ok_take {f fb : Addr} {fd fdb : FuncData} (F : Fun K "_taken_tree" "_taken_tree" s_taken_tree f fd) (FB : Fun K "_taken_branches" "_taken_branches" s_taken_branches fb fdb) (T : Tx mg) (g : mg "_taken_tree" = some (.ref f)) (b : Binds K fd ["letters", "words", "depth"] [])
    (gb : mg "_taken_branches" = some (.ref fb)) (bb : Binds K fdb ["letters", "words", "depth"] []) (c_taken : Kn P w K mg base "_taken" ["words"] 1 spTaken) (c_taken_number : Kn P w K mg base "_taken_number" ["words"] 2 spTakNum) :
    ∀ k : Nat, FnOk P w K mg base CX0 (2 * k + 3) f fd ["letters", "words", "depth"] (spTake k)
  | 0 => by
    refine F.ok sc_taken_tree (fun vs H Q E h => ?_) (fun cdv A outer s H vs Q E hr h => ?_)
    · obtain ⟨a, t, L, wd, n, d, ws, H0, rfl, _⟩ := h
      rfl
    · obtain ⟨a, t, L, wd, n, d, ws, H0, rfl, hd, _⟩ := h
      exfalso
      cases t
      · exact absurd hd (by show ¬ (1 ≤ 0); omega)
      · exact absurd hd (by show ¬ (_ + 1 ≤ 0); omega)
      · exact absurd hd (by show ¬ (_ + 1 ≤ 0); omega)
  | k + 1 => by
    have c_taken_tree : Kn P w K mg base "_taken_tree" ["letters", "words", "depth"] (2 * k + 3) (spTake k) := ⟨f, fd, ok_take F FB T g b gb bb c_taken c_taken_number k, g, F.kp, b⟩
    have okB : FnOk P w K mg base CX0 (2 * k + 4) fb fdb ["letters", "words", "depth"] (spTakeB k) := by
      refine FB.ok sc_taken_branches (fun vs H Q E h => ?_) (fun cdv A outer s H vs Q E hr h => ?_)
      · obtain ⟨a, ts, L, wd, n, d, ws, H0, rfl, _⟩ := h
        rfl
      · obtain ⟨a, ts, L, wd, n, d, ws, H0, rfl, hd, hd2, hlen, hok, hsm, hL, W, q⟩ := h
        refine ⟨_, (pss_cons (ps_set (i := 3) sc_taken_branches.nd rfl (Or.inl rfl) (pe_lst pa_nil))
      (pss_cons (ps_for PassesOwn.never rfl (pi_str (pv 0)) (pg_name (i := 4) sc_taken_branches.nd rfl (Or.inl rfl)) (pss_cons (ps_expr (pe_call c_taken.ok (hr.mono (by omega)) (by rfl) c_taken.g c_taken.kp c_taken.b .nil pass0 (pa_cons (pv 1) pa_nil)))
      (pss_one (ps_expr (pe_bm PySem.F.plainAttrs_list PySem.F.slot_list_append PySem.F.type_list_append mt_append (pv 3) (pa_cons (pe_call c_taken_tree.ok (hr.mono (by omega)) (by rfl) c_taken_tree.g c_taken_tree.kp c_taken_tree.b .nil pass0 (pa_cons (pv 0) (pa_cons (pv 1) (pa_cons (pv 2) pa_nil)))) pa_nil))))))
      (pss_one (ps_ret (pe_callTy call_tuple_of (by rfl) T.tuple PyProof.Rows.boot_tuple (pa_cons (pv 3) pa_nil)))))), ?_⟩
        rw [TT.tokss_eq] at W
        refine ⟨Nat.zero_le _, fun D hD => ?_⟩
        have d0 := W.fresh hD
        have d1 := W.ne hD
        refine ⟨_, rfl, _, rfl, for_strX (x := tx L) (fun i σ H' => ∃ (Hb : Hp) (zs : List V) (y4 : Option V), σ = [some (.str (tx L)), some (.ref a), some (.int (d : Int)), some (.ref D), y4] ∧ Ex H0 Hb ∧ WAt a Hb H' (TT.tokl L (L.drop i) (ts.list.drop i) ++ ws) ∧ Hb D = some (.lst zs) ∧ Kids true Hb zs (ts.list.take i))
          ⟨_, [], none, rfl, Ex.new d0, W.both d1, upd_same, .nil⟩ (fun i c σ H' hc hw => ?_) (fun σ H' hw => ?_)⟩
        · obtain ⟨Hb, zs, y4, rfl, eb, Wb, hz, Z⟩ := hw
          have hcL := tx_at hc
          have hi := (List.getElem?_eq_some_iff.mp hcL).1
          obtain ⟨t, ht⟩ : ∃ t, ts.list[i]? = some t := ⟨_, List.getElem?_eq_getElem (by omega)⟩
          have mem := List.mem_of_getElem? ht
          have dk := Trs.depth_mem t mem
          have lz := Z.len
          rw [List.length_take] at lz
          rw [TT.tokl_at hcL ht, List.cons_append, List.append_assoc] at Wb
          refine ⟨_, rfl, a, _, _, Hb, rfl, Wb, fun H2 W2 => ?_⟩
          refine ⟨_, rfl, .inl ⟨rfl, _, sq_of (W2.1 _ _ hz)⟩, _, rfl, _, rfl, _, rfl, a, t, L, wd, n, d, _, Hb, rfl, by omega, by omega, Trs.ok_mem hok t mem, TT.smalls_mem hsm t mem, hL, W2, fun H3 H4 v e3 W3 hv => ?_⟩
          refine ⟨D, _, _, rfl, rfl, W3.1 _ _ (e3 _ _ hz), sz_lt (by omega), ?_⟩
          refine ⟨L2.upd H3 D (.lst (zs ++ [v])), zs ++ [v], _, rfl, (eb.trans e3).mut d0, W3.both d1, upd_same, ?_⟩
          rw [take_next' ht]
          refine Kids.upd (fun ys hh => ?_) ((Z.ex e3).snoc hv)
          rw [e3 _ _ hz] at hh
          cases hh
        · obtain ⟨Hb, zs, y4, rfl, eb, Wb, hz, Z⟩ := hw
          rw [tx_size, List.drop_length, ← hlen, List.drop_length] at Wb
          rw [tx_size, ← hlen, List.take_length] at Z
          refine ⟨_, rfl, D, zs, rfl, .inl ⟨sq_of (Wb.1 _ _ hz), fun t2 ht2 => ?_⟩⟩
          obtain ⟨W5, e5⟩ := Wb.made (o := .tup zs) ht2
          exact q _ _ _ _ (eb.trans e5) W5 upd_same (Z.ex e5).tas
    have c_taken_branches : Kn P w K mg base "_taken_branches" ["letters", "words", "depth"] (2 * k + 4) (spTakeB k) := ⟨fb, fdb, okB, gb, FB.kp, bb⟩
    refine F.ok sc_taken_tree (fun vs H Q E h => ?_) (fun cdv A outer s H vs Q E hr h => ?_)
    · obtain ⟨a, t, L, wd, n, d, ws, H0, rfl, _⟩ := h
      rfl
    · obtain ⟨a, t, L, wd, n, d, ws, H0, rfl, hd, hd2, hok, hsm, hL, W, q⟩ := h
      refine ⟨_, (pss_cons (ps_set (i := 3) sc_taken_tree.nd rfl (Or.inl rfl) (pe_call c_taken.ok (hr.mono (by omega)) (by rfl) c_taken.g c_taken.kp c_taken.b .nil pass0 (pa_cons (pv 1) pa_nil)))
      (pss_cons (ps_if (pt_cmpR op_gt (pv 2) (pe_glob (v := .int 40) rfl T.m_DEEPEST ⟨_, rfl⟩) (nomark _)) (pss_one (ps_ret pe_non)) pss_nil)
      (pss_cons (ps_if (pt_cmpR op_eq (pv 3) pe_str (nomark _)) (pss_cons (ps_set (i := 4) sc_taken_tree.nd rfl (Or.inl rfl) (pe_call c_taken_number.ok (hr.mono (by omega)) (by rfl) c_taken_number.g c_taken_number.kp c_taken_number.b .nil pass0 (pa_cons (pv 1) pa_nil)))
      (pss_one (ps_ret (pe_tup (pa_cons pe_str (pa_cons (pv 4) (pa_cons (pe_call c_taken_number.ok (hr.mono (by omega)) (by rfl) c_taken_number.g c_taken_number.kp c_taken_number.b .nil pass0 (pa_cons (pv 1) pa_nil)) pa_nil))))))) pss_nil)
      (pss_cons (ps_if (pt_cmpR op_eq (pv 3) pe_str (nomark _)) (pss_cons (ps_set (i := 5) sc_taken_tree.nd rfl (Or.inl rfl) (pe_call c_taken_number.ok (hr.mono (by omega)) (by rfl) c_taken_number.g c_taken_number.kp c_taken_number.b .nil pass0 (pa_cons (pv 1) pa_nil)))
      (pss_one (ps_ret (pe_tup (pa_cons pe_str (pa_cons (pv 5) (pa_cons (pe_call c_taken_tree.ok (hr.mono (by omega)) (by rfl) c_taken_tree.g c_taken_tree.kp c_taken_tree.b .nil pass0 (pa_cons (pv 0) (pa_cons (pv 1) (pa_cons (pe_op op_add (pv 2) pe_int) pa_nil)))) pa_nil))))))) pss_nil)
      (pss_cons (ps_if (pt_cmpR op_eq (pv 3) pe_str (nomark _)) (pss_cons (ps_set (i := 6) sc_taken_tree.nd rfl (Or.inl rfl) (pe_call c_taken_number.ok (hr.mono (by omega)) (by rfl) c_taken_number.g c_taken_number.kp c_taken_number.b .nil pass0 (pa_cons (pv 1) pa_nil)))
      (pss_one (ps_ret (pe_tup (pa_cons pe_str (pa_cons (pv 6) (pa_cons (pe_call c_taken_branches.ok (hr.mono (by omega)) (by rfl) c_taken_branches.g c_taken_branches.kp c_taken_branches.b .nil pass0 (pa_cons (pv 0) (pa_cons (pv 1) (pa_cons (pe_op op_add (pv 2) pe_int) pa_nil)))) pa_nil))))))) pss_nil)
      (pss_one (ps_ret pe_non))))))), ?_⟩
      cases t with
      | go s' q' =>
        unfold TT.toks at W
        have hdd : d ≤ 40 := by
          have : d + 1 ≤ 41 := hd2
          omega
        refine ⟨_, rfl, a, _, _, H0, rfl, W, fun H1 W1 => ?_⟩
        refine ⟨_, rfl, _, _, rfl, rfl, _, rfl, ite2 (fun hb => absurd (of_decide_eq_true hb) (by omega)) (fun _ => ?_)⟩
        refine ⟨_, rfl, rfl, _, rfl, iteD (congrArg V.str w_go) ?_⟩
        refine ⟨_, rfl, a, s', _, H0, rfl, hsm.1, W1, fun H2 W2 => ?_⟩
        refine ⟨_, rfl, _, rfl, a, q', ws, H0, rfl, hsm.2, W2, fun H3 W3 => ⟨by show 3 ≤ sizeLine; decide, fun r hr => ?_⟩⟩
        obtain ⟨W5, e5⟩ := W3.made (o := .tup [.str "go", .int (s' : Nat), .int (q' : Nat)]) hr
        exact q _ _ _ e5 W5 (.go upd_same)
      | tell n' t' =>
        unfold TT.toks at W
        have hdd : d + t'.depth + 1 ≤ 41 := by
          have : d + (t'.depth + 1) ≤ 41 := hd2
          omega
        have hk : t'.depth ≤ k := by
          have : t'.depth + 1 ≤ k + 1 := hd
          omega
        refine ⟨_, rfl, a, _, _, H0, rfl, W, fun H1 W1 => ?_⟩
        refine ⟨_, rfl, _, _, rfl, rfl, _, rfl, ite2 (fun hb => absurd (of_decide_eq_true hb) (by omega)) (fun _ => ?_)⟩
        refine ⟨_, rfl, rfl, _, rfl, iteDn (by rw [w_tell]; exact tell_ne_go) ?_⟩
        refine ⟨_, rfl, rfl, _, rfl, iteD (congrArg V.str w_tell) ?_⟩
        refine ⟨_, rfl, a, n', _, H0, rfl, hsm.1, W1, fun H2 W2 => ?_⟩
        refine ⟨_, rfl, _, rfl, _, rfl, _, rfl, _, _, rfl, rfl, a, t', L, wd, n, d + 1, ws, H0, rfl, hk, by omega, hok.2, hsm.2, hL, W2, fun H3 H4 v e3 W3 hv => ⟨by show 3 ≤ sizeLine; decide, fun r hr => ?_⟩⟩
        obtain ⟨W5, e5⟩ := W3.made (o := .tup [.str "tell", .int (n' : Nat), v]) hr
        exact q _ _ _ (e3.trans e5) W5 (.tell upd_same (hv.ex e5))
      | read p' ts =>
        unfold TT.toks at W
        have hdd : d + ts.depth + 1 ≤ 41 := by
          have : d + (ts.depth + 1) ≤ 41 := hd2
          omega
        have hk : ts.depth ≤ k := by
          have : ts.depth + 1 ≤ k + 1 := hd
          omega
        refine ⟨_, rfl, a, _, _, H0, rfl, W, fun H1 W1 => ?_⟩
        refine ⟨_, rfl, _, _, rfl, rfl, _, rfl, ite2 (fun hb => absurd (of_decide_eq_true hb) (by omega)) (fun _ => ?_)⟩
        refine ⟨_, rfl, rfl, _, rfl, iteDn (by rw [w_read]; exact read_ne_go) ?_⟩
        refine ⟨_, rfl, rfl, _, rfl, iteDn (by rw [w_read]; exact read_ne_tell) ?_⟩
        refine ⟨_, rfl, rfl, _, rfl, iteD (congrArg V.str w_read) ?_⟩
        refine ⟨_, rfl, a, p', _, H0, rfl, hsm.1, W1, fun H2 W2 => ?_⟩
        refine ⟨_, rfl, _, rfl, _, rfl, _, rfl, _, _, rfl, rfl, a, ts, L, wd, n, d + 1, ws, H0, rfl, hk, by omega, hok.2.1, hok.2.2, hsm.2, hL, W2, fun H3 H4 b' vs' e3 W3 hb' hvs => ⟨by show 3 ≤ sizeLine; decide, fun r hr => ?_⟩⟩
        obtain ⟨W5, e5⟩ := W3.made (o := .tup [.str "read", .int (p' : Nat), .ref b']) hr
        exact q _ _ _ (e3.trans e5) W5 (.read upd_same (e5 _ _ hb') (hvs.ex e5))
end
end Law

namespace EK
open PySem PySem.Spec L2
theorem pe_fldK {X : Cx} {K : PySem.W.Frag} {e : Expr} {f : Str} {ta : TE} {pos : Pos} (hK : X.K = K) (he : PE X e ta) (hb : attributeBase e f X.env (eval e X.env) = eval e X.env) : PE X (.Attribute e f pos) (tFld K ta f) := by
  subst hK
  exact pe_fld he hb
end EK
namespace TT
open PySem PySem.Spec PyProof.Rows L2 TR
theorem low_ne {L : List Nat} (h : 2 ≤ L.length) : L ≠ [] := fun e => by
  rw [e] at h
  simp at h
def headL (L : List Nat) (w : Nat) : List Nat := L ++ 32 :: num w
/-- a searcher's lines -/
def lines (L : List Nat) (w : Nat) (ts : List Tr) : List Str := S (headL L w) :: ts.map fun t => S (txt L t)
def whole (L : List Nat) (w : Nat) (ts : List Tr) : Str := Txt.join (Str.ofString "\n") (lines L w ts)
theorem head_out (L : List Nat) (w : Nat) : Str.empty ++ S L ++ Str.ofString " " ++ Str.ofString (toString ((w : Nat) : Int)) = S (headL L w) := by
  refine TL.ext_tl ?_
  simp only [TL.tl_append, TL.tl_num, tl_S]
  rw [show TL.tl Str.empty = [] from rfl, show TL.tl (Str.ofString " ") = [32] by decide +kernel]
  unfold headL num
  simp
theorem cut_len : ∀ l : List Nat, (cut l).length ≤ l.length + 1
  | [] => Nat.le_refl _
  | c :: r => by
    have h := cut_len r
    by_cases hc : c = 32
    · subst hc
      rw [cut_hit, List.length_cons, List.length_cons]
      omega
    · obtain ⟨w, ws, e1, e2⟩ := cut_miss (r := r) hc
      rw [e2, List.length_cons]
      rw [e1, List.length_cons] at h
      show ws.length + 1 ≤ r.length + 1 + 1
      omega
theorem cut_part : ∀ {l w : List Nat}, w ∈ cut l → w.length ≤ l.length
  | [], w, h => by
    rw [List.mem_singleton.mp h]
    exact Nat.le_refl _
  | c :: r, w, h => by
    by_cases hc : c = 32
    · subst hc
      rw [cut_hit] at h
      rcases List.mem_cons.mp h with q | q
      · rw [q]
        exact Nat.zero_le _
      · have := cut_part q
        show w.length ≤ r.length + 1
        omega
    · obtain ⟨u, us, e1, e2⟩ := cut_miss (r := r) hc
      rw [e2] at h
      rcases List.mem_cons.mp h with q | q
      · have := cut_part (l := r) (w := u) (by rw [e1]; exact List.mem_cons_self)
        rw [q]
        show u.length + 1 ≤ r.length + 1
        omega
      · have := cut_part (l := r) (w := w) (by rw [e1]; exact List.mem_cons_of_mem _ q)
        show w.length ≤ r.length + 1
        omega
end TT
namespace Law
open PySem PySem.Spec PyProof.Rows L2 Evl TR
def rStripC : V → List V → Hp → VK → Prop := fun x xs H Q => ∃ a b, x = .str a ∧ xs = [.str b] ∧ a.length ≤ sizeLine ∧ Q (.str (Txt.stripChars a b)) H
theorem lit_blank : Str.ofString " " = TT.S [32] := by decide +kernel
theorem lit_marks : Str.ofString "[],:" = TT.S [91, 93, 44, 58] := by decide +kernel
def spRough : Sp := fun vs H Q _ => ∃ (t : Tr) (L : List Nat) (w n : Nat), vs = [.str (tx L), .str (tx (TT.txt L t))] ∧ LG L ∧ t.ok L.length w n ∧ TT.small t ∧ t.depth ≤ 40 ∧ t.size ≤ 2000 ∧ ∀ H' v, Ex H H' → TR.TA true H' v t → Q v H'
def spWid : Sp := fun vs H Q _ => ∃ w : Nat, vs = [.str (tx (TT.num w))] ∧ 1 ≤ w ∧ w ≤ 8 ∧ ∀ H', Ex H H' → Q (.bl true) H'
def Good (L : List Nat) (w : Nat) (ts : List Tr) : Prop := LG L ∧ 1 ≤ w ∧ w ≤ 8 ∧ 1 ≤ ts.length ∧ ts.length ≤ 64 ∧ (∀ t ∈ ts, t.ok L.length w ts.length ∧ t.depth ≤ 40 ∧ t.size ≤ 2000) ∧ total ts ≤ 3000
theorem sumL {n : Nat} : ∀ {ys : List Str}, (∀ y ∈ ys, y.length ≤ n) → (ys.map (·.length)).sum ≤ ys.length * n
  | [], _ => Nat.zero_le _
  | y :: r, h => by
    have h1 := h y List.mem_cons_self
    have h2 := sumL (ys := r) fun z hz => h z (List.mem_cons_of_mem _ hz)
    show y.length + (r.map (·.length)).sum ≤ (r.length + 1) * n
    rw [Nat.succ_mul]
    omega
section
variable {P : Program} {w : World} {K : PySem.W.Frag} {mg : Str → Option Value} {base : Heap}
theorem ok_rough {f : Addr} {fd : FuncData} (F : Fun K "rough_tree" "rough_tree" s_rough_tree f fd) (T : Tx mg) (c_taken_tree : Kn P w K mg base "_taken_tree" ["letters", "words", "depth"] 83 (spTake 40)) : FnOk P w K mg base CX0 84 f fd ["letters", "line"] spRough := by
  refine F.ok sc_rough_tree (fun vs H Q E h => ?_) (fun cdv A outer s H vs Q E hr h => ?_)
  · obtain ⟨t, L, wd, n, rfl, _⟩ := h
    rfl
  · obtain ⟨t, L, wd, n, rfl, hLG, hok, hsm, hd, hsz, q⟩ := h
    refine ⟨_, (pss_cons (ps_setLc (i := 2) (own := [("word", 3)]) (g := gName 3) (tt := tYes) rfl sc_rough_tree.nd rfl rfl (sw_true rfl rfl rfl (by decide +kernel)) (pi_list (pe_split (pv 1) pe_str)) (blkOk_by (N := N_rough_tree) (sc := defScope s_rough_tree) (by decide +kernel)) (fun _ _ _ _ _ => (pg_name (i := 3) sc_rough_tree.nd rfl (Or.inl rfl))) (fun _ _ _ _ _ => pts_nil) (fun _ _ _ _ _ => (pe_m1 PySem.F.slot_str_strip PySem.F.type_str_strip mt_stripChars (pv 3) pe_str)))
      (pss_cons (ps_expr (pe_bm0 PySem.F.plainAttrs_list PySem.F.slot_list_reverse PySem.F.type_list_reverse mt_reverse (pv 2)))
      (pss_one (ps_ret (pe_call c_taken_tree.ok (hr.mono (by decide)) (by rfl) c_taken_tree.g c_taken_tree.kp c_taken_tree.b .nil pass0 (pa_cons (pv 0) (pa_cons (pv 2) (pa_cons pe_int pa_nil)))))))), ?_⟩
    have hlen := TT.txt_len L hsm
    have hL4 := hLG.hi
    have hcl := TT.cut_len (TT.txt L t)
    rw [lit_blank, lit_marks]
    refine ⟨_, rfl, ⟨_, rfl⟩, _, _, rfl, rfl, by decide, sz_of (by rw [tx_len]; omega), fun p hp => ?_⟩
    rw [show Txt.split (tx (TT.txt L t)) (TT.S [32]) = (TT.cut (TT.txt L t)).map TT.S from TT.split_cut _]
    refine ⟨p, rfl, ⟨_, sq_of upd_same⟩, fun D hD => ?_⟩
    have e0 : Ex H (L2.upd H p (.lst (((TT.cut (TT.txt L t)).map TT.S).map V.str))) := Ex.new hp
    have g0 : (L2.upd H p (.lst (((TT.cut (TT.txt L t)).map TT.S).map V.str))) p = some (.lst (((TT.cut (TT.txt L t)).map TT.S).map V.str)) := upd_same
    generalize (L2.upd H p (.lst (((TT.cut (TT.txt L t)).map TT.S).map V.str))) = H1 at e0 g0 hD ⊢
    refine lc_list (g := gName 3) (tt := tYes) (vs := [3]) (fun i H' => Ex H1 H' ∧ H' D = some (.lst ((((TT.tok (TT.txt L t)).take i).map TT.S).map V.str))) ⟨Ex.new hD, upd_same⟩ (fun i H' _ pp => sq_of (pp.1 _ _ g0)) (fun i x H' hx pp => ?_) (fun H' pp => ?_)
    · obtain ⟨e6, hz⟩ := pp
      obtain ⟨u, hu, rfl⟩ : ∃ u, (TT.cut (TT.txt L t))[i]? = some u ∧ x = .str (TT.S u) := by
        rw [List.getElem?_map, List.getElem?_map] at hx
        cases hc : (TT.cut (TT.txt L t))[i]? with
        | none => rw [hc] at hx; cases hx
        | some u =>
          rw [hc] at hx
          exact ⟨u, rfl, (Option.some.inj hx).symm⟩
      have lu := TT.cut_part (List.mem_of_getElem? hu)
      have hi := (List.getElem?_eq_some_iff.mp hu).1
      have hk : (TT.tok (TT.txt L t))[i]? = some (TT.strip u) := by
        unfold TT.tok
        rw [List.getElem?_map, hu]
        rfl
      refine ⟨rfl, _, rfl, ⟨_, rfl⟩, _, _, rfl, rfl, sz_of (by rw [TT.S_len]; omega), ?_⟩
      rw [TT.strip_S]
      refine ⟨_, hz, ?_, e6.mut hD, ?_⟩
      · rw [List.length_map, List.length_map, List.length_take]
        exact sz_lt (by omega)
      · rw [upd_same, take_next' hk, List.map_append, List.map_append]
        rfl
    · obtain ⟨e6, hz⟩ := pp
      rw [show (((TT.cut (TT.txt L t)).map TT.S).map V.str).length = (TT.tok (TT.txt L t)).length by unfold TT.tok; simp, List.take_length] at hz
      refine ⟨_, rfl, .inl ⟨rfl, _, sq_of hz⟩, D, _, rfl, rfl, hz, ?_⟩
      refine ⟨_, rfl, _, rfl, D, t, L, wd, n, 1, [], H1, rfl, hd, by omega, hok, hsm, hL4, ⟨e6.mut hD, hD, ?_⟩, fun H2 H3 v e2 W3 hv => ?_⟩
      · rw [upd_same, TT.tok_txt hLG.az (TT.low_ne hLG.lo) hok hsm, List.append_nil]
        unfold TT.wl
        rw [List.map_reverse, List.map_reverse]
      · exact q _ _ ((e0.trans e2).trans W3.1) (hv.ex W3.1)
theorem ok_wid {f : Addr} {fd : FuncData} (F : Fun K "_is_width" "_is_width" s_is_width f fd) (T : Tx mg) : FnOk P w K mg base CX0 1 f fd ["text"] spWid := by
  refine F.ok sc_is_width (fun vs H Q E h => ?_) (fun cdv A outer s H vs Q E hr h => ?_)
  · obtain ⟨n, rfl, _⟩ := h
    rfl
  · obtain ⟨n, rfl, w1, w8, q⟩ := h
    refine ⟨_, (pss_one (ps_ret (pe_and (pe_cmpR op_eq (pe_callB call_len_str (by rfl) T.len PySem.boot_len (pa_cons (pv 0) pa_nil)) pe_int (nomark _)) (pe_one (pe_chain op_le_str op_le_str pe_str (pv 0) (pe_callTy call_str_int (by rfl) T.str PyProof.Rows.boot_str (pa_cons (pe_glob (v := .int 8) rfl T.m_MOST_WIDTH ⟨_, rfl⟩) pa_nil))))))), ?_⟩
    have k1 : ∀ n : Nat, n ≤ 8 → 1 ≤ n → (tx (TT.num n)).length = 1 ∧ (!decide ((tx (TT.num n)).cps.toList < (Str.ofString "1").cps.toList)) = true ∧ (!decide ((Str.ofString (toString (8 : Int))).cps.toList < (tx (TT.num n)).cps.toList)) = true := by decide +kernel
    obtain ⟨a1, a2, a3⟩ := k1 n w8 w1
    have hnl := TT.num_len (show n < 100 by omega)
    refine ⟨_, rfl, _, rfl, tx_le (by omega), rfl, true, ?_, ?_⟩
    · rw [a1]
      rfl
    refine ⟨_, rfl, _, _, rfl, rfl, _, rfl, ite2 (fun _ => ?_) (fun hn => absurd a2 hn)⟩
    refine ⟨_, rfl, by decide, _, _, rfl, rfl, ?_⟩
    rw [a3]
    exact q H (Ex.refl _)
end
end Law

namespace TR
open PySem PySem.Spec L2 Evl
theorem room70 {k : Nat} {A : Around} (r : Room k A) : A.units + 70 < cLine := by
  have := r.un
  omega
/-- what can't change of a heap, beside a base -/
def fz (B H : Hp) : Hp := fun a => match H a with
  | some (.tup xs) => some (.tup xs)
  | some (.ins C d fs) => some (.ins C d fs)
  | _ => B a
theorem fz_tup {B H : Hp} {a : Addr} {xs : List V} (h : H a = some (.tup xs)) : fz B H a = some (.tup xs) := by
  unfold fz
  rw [h]
theorem fz_ins {B H : Hp} {a C d : Addr} {fs : List (Str × V)} (h : H a = some (.ins C d fs)) : fz B H a = some (.ins C d fs) := by
  unfold fz
  rw [h]
theorem fz_lst {B H : Hp} {a : Addr} {xs : List V} (h : H a = some (.lst xs)) : fz B H a = B a := by
  unfold fz
  rw [h]
theorem fz_dk {B H : Hp} {a : Addr} {xs : List (Key × V)} (h : H a = some (.dK xs)) : fz B H a = B a := by
  unfold fz
  rw [h]
theorem fz_sub {B H : Hp} (e : Ex B H) : Ex B (fz B H) := fun a o h => by
  have h2 := e _ _ h
  unfold fz
  rw [h2]
  cases o <;> first | rfl | exact h
theorem fz_sup {B H : Hp} (e : Ex B H) : Ex (fz B H) H := fun a o h => by
  unfold fz at h
  split at h
  · next q => rw [q, ← h]
  · next q => rw [q, ← h]
  · exact e _ _ h
mutual
theorem TA.fz {B H : Hp} : ∀ {t : Tr} {v : V}, TA true H v t → TA true (TR.fz B H) v t
  | _, _, .go h => .go (fz_tup h)
  | _, _, .tell h r => .tell (fz_tup h) (TA.fz r)
  | _, _, .read h hb r => .read (fz_tup h) (fz_tup hb) (TAs.fz r)
theorem TAs.fz {B H : Hp} : ∀ {ts : Trs} {vs : List V}, TAs true H vs ts → TAs true (TR.fz B H) vs ts
  | _, _, .nil => .nil
  | _, _, .cons h r => .cons (TA.fz h) (TAs.fz r)
end
theorem Kids.fz {B H : Hp} : ∀ {ts : List Tr} {vs : List V}, Kids true H vs ts → Kids true (TR.fz B H) vs ts
  | _, _, .nil => .nil
  | _, _, .cons h r => .cons h.fz (Kids.fz r)
mutual
theorem Tr.wide {l w w' n n' : Nat} (hw : w ≤ w') (hn : n ≤ n') : ∀ {t : Tr}, t.ok l w n → t.ok l w' n'
  | .go _ _, h => ⟨h.1, Nat.le_trans h.2.1 (Nat.succ_le_succ hw), Nat.lt_of_lt_of_le h.2.2 hn⟩
  | .tell _ t, h => ⟨h.1, Tr.wide hw hn h.2⟩
  | .read _ ts, h => ⟨Nat.le_trans h.1 hw, h.2.1, Trs.wide hw hn h.2.2⟩
theorem Trs.wide {l w w' n n' : Nat} (hw : w ≤ w') (hn : n ≤ n') : ∀ {ts : Trs}, ts.ok l w n → ts.ok l w' n'
  | .nil, _ => True.intro
  | .cons t r, h => ⟨Tr.wide hw hn h.1, Trs.wide hw hn h.2⟩
end
end TR
namespace Law
open PySem PySem.Spec PyProof.Rows L2 Evl TR
theorem SObj.up {C o : Addr} {H H' : Hp} {L : List Nat} {w : Nat} {ts : List Tr} (S : SObj C H o L w ts) (e : Ex H H') : SObj C H' o L w ts := by
  obtain ⟨dx, st, us, h1, h2, h3⟩ := S.ex
  exact ⟨dx, st, us, e _ _ h1, e _ _ h2, h3.ex e⟩
theorem SObj.fz {C o : Addr} {B H : Hp} {L : List Nat} {w : Nat} {ts : List Tr} (S : SObj C H o L w ts) : SObj C (TR.fz B H) o L w ts := by
  obtain ⟨dx, st, us, h1, h2, h3⟩ := S.ex
  exact ⟨dx, st, us, fz_ins h1, fz_tup h2, h3.fz⟩
theorem PenAt.fz {p : PenI} {B H : Hp} {n : Nat} (P : PenAt p B H n) : PenAt p (TR.fz B H) H n := by
  obtain ⟨e, h0, hc, hl, op, lf, ho, hd⟩ := P
  exact ⟨fz_sup e, by rw [fz_dk hd]; exact h0, fz_sub e _ _ hc, hl, op, lf, ho, hd⟩
theorem PenAt.base {p : PenI} {H0 H1 B H : Hp} {n m : Nat} (P : PenAt p B H n) (P0 : PenAt p H0 H1 m) (e : Ex H0 B) : PenAt p H0 H n :=
  ⟨e.trans P.1, P0.2.1, P0.2.2.1, P.2.2.2⟩
theorem LG.rev {L : List Nat} (h : LG L) : LG L.reverse := ⟨by rw [List.length_reverse]; exact h.lo, by rw [List.length_reverse]; exact h.hi, fun c hc => h.az c (List.mem_reverse.mp hc), List.pairwise_reverse.mpr (List.Pairwise.imp (fun q => Ne.symm q) h.nd)⟩
theorem LG.ne_rev {L : List Nat} (h : LG L) : L ≠ L.reverse := by
  have lo := h.lo
  have hi := h.hi
  have nd := h.nd
  match L, lo, hi with
  | [a, b], _, _ =>
    intro e
    simp at e nd
    exact nd e.1
  | [a, b, c], _, _ =>
    intro e
    simp at e nd
    omega
  | [a, b, c, d], _, _ =>
    intro e
    simp at e nd
    omega
theorem mk_sp {C x dx sa : Addr} {H1 : Hp} {L : List Nat} {w : Nat} {kt k : Bool} {xs : List V} {ts : List Tr} {Q : VK} {E : XK} (hx : H1 x = none) (hd : H1 dx = none) (ne : dx ≠ x) (hsa : H1 sa = some (ob kt xs)) (KK : Kids k H1 xs ts) (hL : LG L) (w1 : 1 ≤ w) (w8 : w ≤ 8)
    (n1 : 1 ≤ ts.length) (n64 : ts.length ≤ 64) (hall : ∀ t ∈ ts, t.ok L.length w ts.length ∧ t.depth ≤ 40) (tot : TR.total ts ≤ 3000) (q : ∀ H2, Ex H1 H2 → SObj C H2 x L w ts → Q .non H2) :
    spInit C [.ref x, .str (tx L), .int (w : Int), .ref sa] (L2.upd (L2.upd H1 dx (.own x)) x (.ins C dx [])) Q E :=
  ⟨x, dx, sa, L, w, kt, k, xs, ts, H1, rfl, (Ex.new hd).trans (Ex.new (by rw [upd_ne ne.symm]; exact hx)), hx, upd_same, hsa, KK, hL, w1, w8, n1, n64, hall, tot, q⟩
end Law

namespace Law
open PySem PySem.Spec PyProof.Rows L2 Evl TR GX EK
/-- a value that is no text -/
def NoS (K : PySem.W.Frag) (H : Hp) (v : V) : Prop := ∃ t, TyX K H v t ∧ PySem.W.kitOne K t (.type "str") = some false
def azB (c : Nat) : Bool := decide (97 ≤ c) && decide (c ≤ 122)
def areB (x : List Nat) : Bool := decide (2 ≤ x.length ∧ x.length ≤ 4) && (x.all azB && decide (ST.dct (x.map sg) x.length = x.length))
theorem areB_good {L : List Nat} (h : LG L) : areB L = true := by
  unfold areB
  rw [decide_eq_true (show 2 ≤ L.length ∧ L.length ≤ 4 from ⟨h.lo, h.hi⟩), decide_eq_true (dct_nodup h.nd _ (Nat.le_refl _)), Bool.and_true, Bool.true_and, List.all_eq_true]
  intro c hc
  have := h.az c hc
  unfold azB
  rw [decide_eq_true this.1, decide_eq_true this.2]
  rfl
theorem a_dec (c : Nat) : (!decide ((sg c).cps.toList < (Str.ofString "a").cps.toList)) = decide (97 ≤ c) := by
  by_cases h : 97 ≤ c
  · rw [le_a h, decide_eq_true h]
  · rw [decide_eq_false h, show (Str.ofString "a").cps.toList = [97] by decide +kernel, show (sg c).cps.toList = [c] from rfl, decide_eq_true]
    · rfl
    · rw [List.cons_lt_cons_iff]
      exact .inl (by omega)
theorem z_dec (c : Nat) : (!decide ((Str.ofString "z").cps.toList < (sg c).cps.toList)) = decide (c ≤ 122) := by
  by_cases h : c ≤ 122
  · rw [le_z h, decide_eq_true h]
  · rw [decide_eq_false h, show (Str.ofString "z").cps.toList = [122] by decide +kernel, show (sg c).cps.toList = [c] from rfl, decide_eq_true]
    · rfl
    · rw [List.cons_lt_cons_iff]
      exact .inl (by omega)
def spAreG (K : PySem.W.Frag) : Sp := fun vs H Q _ => ∃ v, vs = [v] ∧ ((∃ x, v = .str (tx x) ∧ x.length < 9500 ∧ ∀ H', Ex H H' → Q (.bl (areB x)) H') ∨ (NoS K H v ∧ Q (.bl false) H))
theorem tx_all (z : Str) : z = tx z.cps.toList := by
  cases z
  simp [tx]
theorem AV.via {H H' : Hp} {v : V} {x : PyData} (h : AV H v x) (k : ∀ b o, H b = some o → (∀ xs, o = .tup xs → H' b = some o) ∧ (∀ xs, o = .lst xs → H' b = some o) ∧ (∀ xs, o = .dK xs → H' b = some o)) : AV H' v x := by
  cases h with
  | flat f => exact .flat f
  | tup h f l => exact .tup ((k _ _ h).1 _ rfl) f l
  | lst h f l => exact .lst ((k _ _ h).2.1 _ rfl) f l
  | emp h => exact .emp ((k _ _ h).2.2 _ rfl)
  | one h => exact .one ((k _ _ h).2.2 _ rfl)
theorem raise_endN {H1 H2 : Hp} {a C dx : Addr} {fs : List (Str × V)} {E : XK} (ha : H1 a = none) (e : Ers (upd H1 a (exo a C none)) a C dx fs H2)
    (q : ∀ d H', Ex H1 H' → H1 d = none → H' d = some (.xd fs) → (∀ v x, AV H2 v x → AV H' v x) → E (.ref C) (some d) H') :
    V.non = .non ∧ ∃ (d : Addr) (fs' : List (Str × V)), H2 a = some (exo a C (some d)) ∧ H2 d = some (exd d fs') ∧ H1 d = none ∧ E (.ref C) (some d) (upd (del H2 a) d (.xd fs')) := by
  have hd : H1 dx = none := by
    have := e.n
    rw [upd_ne e.ne] at this
    exact this
  have keep : ∀ b o, H2 b = some o → b ≠ a → b ≠ dx → (upd (del H2 a) dx (.xd fs)) b = some o := fun b o h n1 n2 => by
    rw [upd_ne n2, del_ne n1]
    exact h
  refine ⟨rfl, dx, _, e.o, e.x, hd, q dx _ (fun b o h => ?_) hd upd_same fun v x hv => ?_⟩
  · have nb : b ≠ a := fun z => by rw [z, ha] at h; cases h
    have nx : b ≠ dx := fun z => by rw [z, hd] at h; cases h
    exact keep b o (e.k b o (by rw [upd_ne nb]; exact h) nb) nb nx
  · refine hv.via fun b o h => ?_
    have go : (∀ z : exo a C (some dx) = o, False) → (∀ z : exd dx fs = o, False) → (upd (del H2 a) dx (.xd fs)) b = some o := fun h1 h2 => by
      refine keep b o h (fun z => ?_) (fun z => ?_)
      · rw [z, e.o] at h
        exact h1 (Option.some.inj h)
      · rw [z, e.x] at h
        exact h2 (Option.some.inj h)
    refine ⟨fun xs z => ?_, fun xs z => ?_, fun xs z => ?_⟩ <;> subst z <;> exact go (fun z => by cases z) (fun z => by cases z)
structure ErrC (K : PySem.W.Frag) (C f C0 : Addr) : Prop where
  o : OexC K C
  i : PySem.W.findIn K (.ref C) "__init__" = some (some (.ref f))
  t : PySem.W.typeIn K (.ref f) = some (.type "function")
  x : XfC K C
  e : ExcC K C
  s : PySem.W.kitOne K (.ref C) (.ref C0) = some true
structure Kn' (P : Program) (w : World) (K : PySem.W.Frag) (mg : Str → Option Value) (base : Heap) (CX : CXT) (x : Str) (ps : List Str) (k : Nat) (sp : Sp) where
  f : Addr
  fd : FuncData
  ok : FnOk P w K mg base CX k f fd ps sp
  g : mg x = some (.ref f)
  kp : PySem.W.keepIn K (.ref f) = true
  b : Binds K fd ps []
/-- letters that are none -/
def OddL (K : PySem.W.Frag) (H : Hp) (v : V) : Prop := (∃ x, v = .str (tx x) ∧ x.length < 9500 ∧ areB x = false) ∨ NoS K H v
theorem av_int {H : Hp} {v : V} {i : Int} (h : AV H v (.int i)) : v = .int i := by
  cases h with
  | flat f => cases f; rfl
theorem av_str {H : Hp} {v : V} {z : Str} (h : AV H v (.str z)) : v = .str z := by
  cases h with
  | flat f => cases f; rfl
section
variable {P : Program} {w : World} {K : PySem.W.Frag} {mg : Str → Option Value} {base : Heap}
theorem ok_areG {f : Addr} {fd : FuncData} (F : Fun K "are_letters" "are_letters" s_are_letters f fd) (T : Tx mg) : FnOk P w K mg base CX0 1 f fd ["value"] (spAreG K) := by
  refine F.ok sc_are_letters (fun vs H Q E h => ?_) (fun cdv A outer s H vs Q E hr h => ?_)
  · obtain ⟨v, rfl, _⟩ := h
    rfl
  · obtain ⟨v, rfl, h⟩ := h
    refine ⟨_, (pss_cons (ps_if (PW.pt (pw_or (pt_not (pt_val (pe_callB call_isi (by rfl) T.isinstance PyProof.Rows.boot_isinstance (pa_cons (pv 0) (pa_cons (pe_bltn (v := .ty "str") (by rfl) T.str PyProof.Rows.boot_str rfl) pa_nil))))) (pw_or1 (pt_not (pt_chain op_le op_le pe_int (pe_callB call_len_str (by rfl) T.len PySem.boot_len (pa_cons (pv 0) pa_nil)) pe_int))))) (pss_one (ps_ret pe_bl)) pss_nil)
      (pss_one (ps_ret (pe_and (pe_callB (cr_all rfl) (by rfl) T.all PyProof.Rows.boot_all (pa_cons (pe_lc (own := [("sign", 1)]) (g := gName 1) (tt := tYes) rfl sc_are_letters.nd (pi_str (pv 0)) (blkOk_by (N := N_are_letters) (sc := defScope s_are_letters) (by decide +kernel)) (fun _ _ _ _ _ => (pg_name (i := 1) sc_are_letters.nd rfl (Or.inl rfl))) (fun _ _ _ _ _ => pts_nil) (fun _ _ _ _ _ => (pe_chain op_le_str op_le_str pe_str (pv 1) pe_str))) pa_nil)) (pe_one (pe_cmpR op_eq (EN.pe_lenSetS rfl (by rfl) T.len (by rfl) T.set (pv 0)) (pe_callB call_len_str (by rfl) T.len PySem.boot_len (pa_cons (pv 0) pa_nil)) (nomark _))))))), ?_⟩
    rcases h with ⟨x, rfl, hx, q⟩ | ⟨⟨t, ty, kk⟩, q⟩
    · refine ⟨_, rfl, _, _, _, _, true, rfl, .ty _, .base (.str _), kit_ss, true, rfl, ?_⟩
      have q0 := q H (Ex.refl _)
      by_cases h2 : 2 ≤ x.length
      · by_cases h4 : x.length ≤ 4
        · refine ⟨_, rfl, _, rfl, tx_le (by omega), _, _, rfl, rfl, _, rfl, ite2 (fun _ => ?_) (fun hn => absurd (decide_eq_true (by rw [tx_len]; omega)) hn)⟩
          refine ⟨_, _, rfl, rfl, _, rfl, ite2 (fun hb => ?_) (fun _ => ?_)⟩
          · rw [tx_len, decide_eq_true (by omega)] at hb
            cases hb
          refine ⟨_, rfl, _, rfl, fun D hD => ?_⟩
          refine lc_str (x := tx x) (fun i H' => Ex H H' ∧ H' D = some (.lst (((x.take i).map azB).map V.bl))) ⟨Ex.new hD, upd_same⟩ (fun i c H' hic hw => ?_) (fun H' hw => ?_)
          · obtain ⟨e, hl⟩ := hw
            have hc := tx_at hic
            have hi := (List.getElem?_eq_some_iff.mp hc).1
            have fin : ∀ b : Bool, azB c = b → ∃ acc, H' D = some (.lst acc) ∧ acc.length < sizeLine ∧ Ex H (L2.upd H' D (.lst (acc ++ [V.bl b]))) ∧ (L2.upd H' D (.lst (acc ++ [V.bl b]))) D = some (.lst (((x.take (i + 1)).map azB).map V.bl)) := fun b hb => by
              refine ⟨_, hl, ?_, e.mut hD, ?_⟩
              · rw [List.length_map, List.length_map, List.length_take]
                exact sz_lt (by omega)
              · rw [upd_same, List.take_add_one, hc, List.map_append, List.map_append]
                show _ = some (HO.lst (_ ++ [V.bl (azB c)]))
                rw [hb]
            refine ⟨rfl, _, rfl, _, _, rfl, rfl, _, rfl, ite2 (fun hb => ?_) (fun hn => ?_)⟩
            · refine ⟨_, _, rfl, rfl, ?_⟩
              refine fin _ ?_
              have hb2 : (!decide ((sg c).cps.toList < (Str.ofString "a").cps.toList)) = true := hb
              rw [a_dec] at hb2
              unfold azB
              rw [hb2, Bool.true_and]
              exact (z_dec c).symm
            · refine fin _ ?_
              have hb2 : ¬ (!decide ((sg c).cps.toList < (Str.ofString "a").cps.toList)) = true := hn
              rw [a_dec, Bool.not_eq_true] at hb2
              unfold azB
              rw [hb2, Bool.false_and]
          · obtain ⟨e, hl⟩ := hw
            rw [tx_size, List.take_length] at hl
            refine ⟨D, _, rfl, sq_of hl, _, rfl, ?_⟩
            have q1 := q H' e
            have ea : areB x = ((x.map azB).all id && decide (ST.dct (x.map sg) x.length = x.length)) := by
              unfold areB
              rw [decide_eq_true (show 2 ≤ x.length ∧ x.length ≤ 4 from ⟨h2, h4⟩), Bool.true_and, List.all_map]
              rfl
            rw [ea] at q1
            cases hall : (x.map azB).all id with
            | false =>
              rw [hall, Bool.false_and] at q1
              exact q1
            | true =>
              rw [hall, Bool.true_and] at q1
              refine ⟨_, rfl, _, rfl, by rw [tx_size]; omega, _, rfl, _, rfl, tx_le (by omega), rfl, ?_⟩
              have e2 : decide (V.int ((ST.dct (ST.signsOf (tx x)) (tx x).cps.size : Nat) : Int) = V.int (((tx x).length : Nat) : Int)) = decide (ST.dct (x.map sg) x.length = x.length) := by
                rw [decide_eq_decide, sgs_of, tx_size, tx_len]
                constructor
                · intro z
                  have := V.int.inj z
                  omega
                · intro z
                  rw [z]
              show Q (V.bl (decide (V.int ((ST.dct (ST.signsOf (tx x)) (tx x).cps.size : Nat) : Int) = V.int (((tx x).length : Nat) : Int)))) H'
              rw [e2]
              exact q1
        · have ea : areB x = false := by
            unfold areB
            rw [decide_eq_false (fun z => h4 z.2), Bool.false_and]
          rw [ea] at q0
          refine ⟨_, rfl, _, rfl, sz_of (by rw [tx_len]; omega), _, _, rfl, rfl, _, rfl, ite2 (fun _ => ?_) (fun _ => ?_)⟩
          · refine ⟨_, _, rfl, rfl, _, rfl, ite2 (fun _ => q0) (fun hb => absurd (by rw [tx_len, decide_eq_false (by omega)]; rfl) hb)⟩
          · exact ⟨_, rfl, q0⟩
      · have ea : areB x = false := by
          unfold areB
          rw [decide_eq_false (fun z => h2 z.1), Bool.false_and]
        rw [ea] at q0
        refine ⟨_, rfl, _, rfl, tx_le (by omega), _, _, rfl, rfl, _, rfl, ite2 (fun hb => absurd (of_decide_eq_true hb) (by rw [tx_len]; omega)) (fun _ => ?_)⟩
        exact ⟨_, rfl, q0⟩
    · exact ⟨_, rfl, _, _, _, _, false, rfl, .ty _, ty, kk, false, rfl, q⟩
end
end Law

/-! the lines of a text read back, sign by sign -/
namespace TT
open PySem PySem.Spec PyProof.Rows L2 TR
def dig (c : Nat) : Bool := decide (48 ≤ c) && decide (c ≤ 57)
def val (ds : List Nat) : Nat := ds.foldl (fun a c => 10 * a + (c - 48)) 0
/-- the digits that stand at a place -/
def dsAt (l : List Nat) (k : Nat) : List Nat := (l.drop k).takeWhile dig
def bad (ds : List Nat) : Prop := ds = [] ∨ 2 < ds.length ∨ (1 < ds.length ∧ ds.head? = some 48)
instance (ds : List Nat) : Decidable (bad ds) := by unfold bad; infer_instance
def numF (l : List Nat) (p : Option Nat) (lo hi : Nat) : Option (Nat × Nat) :=
  match p with
  | none => none
  | some k => if bad (dsAt l k) then none else if lo ≤ val (dsAt l k) ∧ val (dsAt l k) ≤ hi then some (val (dsAt l k), k + (dsAt l k).length) else none
def takF (l : List Nat) (p : Option Nat) (part : List Nat) : Option Nat :=
  match p with
  | none => none
  | some k => if (l.drop k).take part.length = part then some (k + part.length) else none
def pGo : List Nat := [103, 111, 32]
def pTell : List Nat := [116, 101, 108, 108, 32]
def pRead : List Nat := [114, 101, 97, 100, 32]
def goF (l : List Nat) (p : Option Nat) (w n : Nat) : Option (Tr × Nat) :=
  match numF l (takF l p pGo) 1 (w + 1) with
  | none => none
  | some (s, k1) => match numF l (takF l (some k1) [32]) 0 (n - 1) with
    | none => none
    | some (q, k2) => some (.go s q, k2)
def sep (i c : Nat) : List Nat := (if i = 0 then [32, 91] else [44, 32]) ++ [c, 58, 32]
def stF (f : Option Nat → Option (Tr × Nat)) (l : List Nat) (i c : Nat) : Option (List Tr × Nat) → Option (List Tr × Nat)
  | none => none
  | some (ts, k) => match f (takF l (some k) (sep i c)) with
    | none => none
    | some (t, k2) => some (ts ++ [t], k2)
def brF (f : Option Nat → Option (Tr × Nat)) (l L : List Nat) (k : Nat) : Nat → Option (List Tr × Nat)
  | 0 => some ([], k)
  | i + 1 => stF f l i (L.getD i 0) (brF f l L k i)
def Trs.ofL : List Tr → Trs
  | [] => .nil
  | t :: r => .cons t (Trs.ofL r)
theorem ofL_list : ∀ ts : List Tr, (Trs.ofL ts).list = ts
  | [] => rfl
  | t :: r => congrArg (t :: ·) (ofL_list r)
theorem list_ofL : ∀ ts : Trs, Trs.ofL ts.list = ts
  | .nil => rfl
  | .cons t r => congrArg (Trs.cons t) (list_ofL r)
def treeF (L : List Nat) (w n : Nat) (l : List Nat) : Nat → Option Nat → Option (Tr × Nat)
  | 0, _ => none
  | _ + 1, none => none
  | d + 1, some k =>
    if takF l (some k) pGo ≠ none then goF l (some k) w n
    else if takF l (some k) pTell ≠ none then
      match numF l (some (k + 5)) 0 2 with
      | none => none
      | some (m, k1) => match treeF L w n l d (takF l (some k1) [32]) with
        | none => none
        | some (t, k2) => some (.tell m t, k2)
    else match numF l (takF l (some k) pRead) 0 w with
      | none => none
      | some (m, k1) => match brF (treeF L w n l d) l L k1 L.length with
        | none => none
        | some (ts, k2) => match takF l (some k2) [93] with
          | none => none
          | some k3 => some (.read m (Trs.ofL ts), k3)
/-! ### what is taken stands there -/
theorem tak_some {l part : List Nat} {p : Option Nat} {k' : Nat} (h : takF l p part = some k') : ∃ k, p = some k ∧ l.drop k = part ++ l.drop k' ∧ k' = k + part.length := by
  cases p with
  | none => cases h
  | some k =>
    unfold takF at h
    dsimp only at h
    by_cases q : (l.drop k).take part.length = part
    · rw [if_pos q] at h
      cases h
      refine ⟨k, rfl, ?_, rfl⟩
      have := (List.take_append_drop part.length (l.drop k)).symm
      rw [q, List.drop_drop] at this
      exact this
    · rw [if_neg q] at h
      cases h
theorem tak_of {l part r : List Nat} {k : Nat} (h : l.drop k = part ++ r) : takF l (some k) part = some (k + part.length) := by
  unfold takF
  dsimp only
  rw [if_pos (by rw [h]; exact List.take_left ..)]
theorem tak_no {l part : List Nat} {k : Nat} (h : ∀ r, l.drop k ≠ part ++ r) : takF l (some k) part = none := by
  unfold takF
  refine if_neg fun q => h ((l.drop k).drop part.length) ?_
  have := (List.take_append_drop part.length (l.drop k)).symm
  rw [q] at this
  exact this
theorem drop_of {l a r : List Nat} {k : Nat} (h : l.drop k = a ++ r) : l.drop (k + a.length) = r := by
  rw [← List.drop_drop, h]
  exact List.drop_left ..
/-! ### numbers -/
theorem num_val {n : Nat} (h : n < 100) : (num n).all dig = true ∧ ¬ bad (num n) ∧ val (num n) = n := by
  have : ∀ n < 100, (num n).all dig = true ∧ ¬ bad (num n) ∧ val (num n) = n := by decide +kernel
  exact this n h
theorem ds_num {ds : List Nat} (h : ∀ c ∈ ds, dig c = true) (hb : ¬ bad ds) : num (val ds) = ds ∧ val ds < 100 := by
  have k1 : ∀ c < 58, 48 ≤ c → num (val [c]) = [c] ∧ val [c] < 100 := by decide +kernel
  have k2 : ∀ c < 58, 49 ≤ c → ∀ d < 58, 48 ≤ d → num (val [c, d]) = [c, d] ∧ val [c, d] < 100 := by decide +kernel
  have hd : ∀ c ∈ ds, 48 ≤ c ∧ c < 58 := fun c hc => by
    have := h c hc
    unfold dig at this
    rw [Bool.and_eq_true] at this
    have a := of_decide_eq_true this.1
    have b := of_decide_eq_true this.2
    omega
  match ds, hb, hd with
  | [], hb, _ => exact absurd (.inl rfl) hb
  | [c], _, hd =>
    have := hd c List.mem_cons_self
    exact k1 c this.2 this.1
  | [c, d], hb, hd =>
    have h1 := hd c List.mem_cons_self
    have h2 := hd d (List.mem_cons_of_mem _ List.mem_cons_self)
    have h3 : c ≠ 48 := fun z => hb (.inr (.inr ⟨by show 1 < 2; decide, by rw [z]; rfl⟩))
    exact k2 c h1.2 (by omega) d h2.2 h2.1
  | _ :: _ :: _ :: _, hb, _ => exact absurd (.inr (.inl (by show 2 < _ + 1 + 1 + 1; omega))) hb
theorem ds_dig (l : List Nat) (k : Nat) : ∀ c ∈ dsAt l k, dig c = true := fun c hc => (List.all_eq_true.mp (List.all_takeWhile (l := l.drop k) (p := dig))) c hc
theorem ds_app (l : List Nat) (k : Nat) : l.drop k = dsAt l k ++ l.drop (k + (dsAt l k).length) := by
  have h := (List.takeWhile_append_dropWhile (p := dig) (l := l.drop k)).symm
  have e := drop_of h
  rw [show (l.drop k).takeWhile dig = dsAt l k from rfl] at h e
  rw [e]
  exact h
theorem num_some {l : List Nat} {p : Option Nat} {lo hi v k' : Nat} (h : numF l p lo hi = some (v, k')) : ∃ k, p = some k ∧ l.drop k = num v ++ l.drop k' ∧ k' = k + (num v).length ∧ lo ≤ v ∧ v ≤ hi ∧ v < 100 := by
  cases p with
  | none => cases h
  | some k =>
    unfold numF at h
    dsimp only at h
    by_cases hb : bad (dsAt l k)
    · rw [if_pos hb] at h
      cases h
    rw [if_neg hb] at h
    by_cases hc : lo ≤ val (dsAt l k) ∧ val (dsAt l k) ≤ hi
    · rw [if_pos hc] at h
      obtain ⟨e1, e2⟩ := ds_num (ds_dig l k) hb
      cases h
      refine ⟨k, rfl, ?_, ?_, hc.1, hc.2, e2⟩
      · rw [e1]
        exact ds_app l k
      · rw [e1]
    · rw [if_neg hc] at h
      cases h
/-- no digit stands first -/
def Nd (r : List Nat) : Prop := ∀ c, r.head? = some c → dig c = false
theorem tw_app {a r : List Nat} (h : a.all dig = true) (hr : Nd r) : (a ++ r).takeWhile dig = a := by
  induction a with
  | nil =>
    cases r with
    | nil => rfl
    | cons c r =>
      show (c :: r).takeWhile dig = []
      rw [List.takeWhile_cons, hr c rfl]
      rfl
  | cons c a ih =>
    rw [List.all_cons, Bool.and_eq_true] at h
    rw [List.cons_append, List.takeWhile_cons, h.1]
    exact congrArg (c :: ·) (ih h.2)
theorem num_of {l r : List Nat} {k v lo hi : Nat} (h : l.drop k = num v ++ r) (hr : Nd r) (hv : v < 100) (h1 : lo ≤ v) (h2 : v ≤ hi) : numF l (some k) lo hi = some (v, k + (num v).length) := by
  obtain ⟨a, b, c⟩ := num_val hv
  have e : dsAt l k = num v := by
    unfold dsAt
    rw [h]
    exact tw_app a hr
  unfold numF
  dsimp only
  rw [e, if_neg b, c, if_pos ⟨h1, h2⟩]
theorem nd_cons {c : Nat} {r : List Nat} (h : dig c = false) : Nd (c :: r) := fun d hd => by
  cases hd
  exact h
/-! ### branches -/
def pc (L : List Nat) (c : Nat) (t : Tr) : List Nat := c :: 58 :: 32 :: txt L t
def pcs (L : List Nat) : List Nat → List Tr → List (List Nat)
  | c :: l, t :: r => pc L c t :: pcs L l r
  | _, _ => []
theorem txts_pcs (L : List Nat) : ∀ (l : List Nat) (ts : Trs), txts L l ts = pcs L l ts.list
  | [], ts => by
    unfold txts pcs
    cases ts <;> rfl
  | _ :: _, .nil => by
    unfold txts
    rfl
  | c :: l, .cons t r => by
    unfold txts
    show _ = pc L c t :: pcs L l r.list
    rw [txts_pcs L l r]
    rfl
theorem pcs_len (L : List Nat) : ∀ (l : List Nat) (ts : List Tr), l.length = ts.length → (pcs L l ts).length = l.length
  | [], [], _ => rfl
  | [], _ :: _, h => by cases h
  | _ :: _, [], h => by cases h
  | c :: l, t :: r, h => by
    show (pcs L l r).length + 1 = l.length + 1
    rw [pcs_len L l r (by simpa using h)]
theorem pcs_at (L : List Nat) : ∀ (l : List Nat) (ts : List Tr) (i c : Nat) (t : Tr), l[i]? = some c → ts[i]? = some t → (pcs L l ts)[i]? = some (pc L c t)
  | _ :: _, _ :: _, 0, _, _, h1, h2 => by
    cases h1
    cases h2
    rfl
  | _ :: l, _ :: r, i + 1, c, t, h1, h2 => pcs_at L l r i c t h1 h2
  | [], _, i, _, _, h1, _ => by cases i <;> cases h1
  | _ :: _, [], i, _, _, _, h2 => by cases i <;> cases h2
def sp0 (i : Nat) : List Nat := if i = 0 then [32, 91] else [44, 32]
/-- the first i pieces with what stands ahead of each -/
def cat (ps : List (List Nat)) : Nat → List Nat
  | 0 => []
  | i + 1 => cat ps i ++ (sp0 i ++ ps.getD i [])
theorem join_snoc (X : List Nat) (p : List Nat) : ∀ ps : List (List Nat), ps ≠ [] → TL.joinL X (ps ++ [p]) = TL.joinL X ps ++ (X ++ p)
  | [], h => absurd rfl h
  | [q], _ => by
    show q ++ (X ++ p) = q ++ (X ++ p)
    rfl
  | q :: q2 :: r, _ => by
    show q ++ (X ++ TL.joinL X (q2 :: r ++ [p])) = q ++ (X ++ TL.joinL X (q2 :: r)) ++ (X ++ p)
    rw [join_snoc X p (q2 :: r) (by simp)]
    simp
theorem cat_take (ps : List (List Nat)) (p : List Nat) : ∀ i, i ≤ ps.length → cat (ps ++ [p]) i = cat ps i
  | 0, _ => rfl
  | i + 1, h => by
    show cat (ps ++ [p]) i ++ (sp0 i ++ (ps ++ [p]).getD i []) = cat ps i ++ (sp0 i ++ ps.getD i [])
    rw [cat_take ps p i (by omega), List.getD_eq_getElem?_getD, List.getD_eq_getElem?_getD, List.getElem?_append_left (by omega)]
theorem cat_join (ps : List (List Nat)) (h : ps ≠ []) : cat ps ps.length = [32, 91] ++ TL.joinL [44, 32] ps := by
  induction hn : ps.length generalizing ps with
  | zero => exact absurd (List.length_eq_zero_iff.mp hn) h
  | succ n ih =>
    obtain ⟨qs, p, rfl⟩ : ∃ qs p, ps = qs ++ [p] := ⟨ps.dropLast, ps.getLast h, (List.dropLast_concat_getLast h).symm⟩
    rw [List.length_append, List.length_singleton] at hn
    have hq : qs.length = n := by omega
    show cat (qs ++ [p]) n ++ (sp0 n ++ (qs ++ [p]).getD n []) = _
    rw [cat_take qs p n (by omega), List.getD_eq_getElem?_getD, List.getElem?_append_right (by omega), hq, Nat.sub_self]
    show cat qs n ++ (sp0 n ++ p) = _
    cases qs with
    | nil =>
      have : n = 0 := by rw [← hq]; rfl
      subst this
      rfl
    | cons a as =>
      rw [ih (a :: as) (by simp) hq, join_snoc _ _ _ (by simp), show sp0 n = [44, 32] from if_neg (by rw [← hq]; simp)]
      simp
theorem cat_more (ps : List (List Nat)) (i : Nat) : ∀ m, ∃ r, cat ps (i + m) = cat ps i ++ r ∧ (1 ≤ i → r = [] ∨ ∃ r', r = 44 :: r')
  | 0 => ⟨[], (List.append_nil _).symm, fun _ => .inl rfl⟩
  | m + 1 => by
    obtain ⟨r, e, h⟩ := cat_more ps i m
    refine ⟨r ++ (sp0 (i + m) ++ ps.getD (i + m) []), ?_, fun h1 => .inr ?_⟩
    · show cat ps (i + m) ++ (sp0 (i + m) ++ ps.getD (i + m) []) = _
      rw [e, List.append_assoc]
    · rcases h h1 with q | ⟨r', q⟩
      · rw [q, show sp0 (i + m) = [44, 32] from if_neg (by omega)]
        exact ⟨_, rfl⟩
      · rw [q]
        exact ⟨_, rfl⟩
theorem sep_sp (i c : Nat) (L : List Nat) (t : Tr) : sp0 i ++ pc L c t = sep i c ++ txt L t := by
  unfold sep sp0 pc
  simp
end TT

namespace TT
open PySem PySem.Spec PyProof.Rows L2 TR
theorem go_some {l : List Nat} {p : Option Nat} {w n : Nat} {t : Tr} {k' : Nat} (h : goF l p w n = some (t, k')) (hn : 1 ≤ n) : ∃ k s q, p = some k ∧ t = .go s q ∧ l.drop k = (wGo ++ 32 :: (num s ++ 32 :: num q)) ++ l.drop k' ∧ k' = k + (wGo ++ 32 :: (num s ++ 32 :: num q)).length ∧ 1 ≤ s ∧ s ≤ w + 1 ∧ q < n := by
  unfold goF at h
  cases h1 : numF l (takF l p pGo) 1 (w + 1) with
  | none => rw [h1] at h; cases h
  | some a =>
    obtain ⟨s, k1⟩ := a
    rw [h1] at h
    dsimp only at h
    cases h2 : numF l (takF l (some k1) [32]) 0 (n - 1) with
    | none => rw [h2] at h; cases h
    | some b =>
      obtain ⟨q, k2⟩ := b
      rw [h2] at h
      cases h
      obtain ⟨k3, e3, d3, f3, lo, hi, _⟩ := num_some h1
      obtain ⟨k, e4, d4, f4⟩ := tak_some e3
      obtain ⟨k5, e5, d5, f5, _, hi5, _⟩ := num_some h2
      obtain ⟨k6, e6, d6, f6⟩ := tak_some e5
      cases e6
      refine ⟨k, s, q, e4, rfl, ?_, ?_, lo, hi, by omega⟩
      · rw [d4, d3, d6, d5]
        simp [pGo, wGo]
      · rw [f5, f6, f3, f4]
        simp [pGo, wGo]
        omega
mutual
theorem tr_depth_pos : ∀ t : Tr, 1 ≤ t.depth
  | .go _ _ => Nat.le_refl 1
  | .tell _ t => by show 1 ≤ t.depth + 1; omega
  | .read _ ts => by show 1 ≤ ts.depth + 1; omega
end
theorem trs_ok {l w n : Nat} : ∀ {ts : List Tr}, (∀ t ∈ ts, t.ok l w n) → (Trs.ofL ts).ok l w n
  | [], _ => True.intro
  | t :: r, h => ⟨h t List.mem_cons_self, trs_ok fun x hx => h x (List.mem_cons_of_mem _ hx)⟩
theorem trs_depth {d : Nat} : ∀ {ts : List Tr}, (∀ t ∈ ts, t.depth ≤ d) → (Trs.ofL ts).depth ≤ d
  | [], _ => Nat.zero_le _
  | t :: r, h => by
    show max t.depth (Trs.ofL r).depth ≤ d
    have h1 := h t List.mem_cons_self
    have h2 := trs_depth (ts := r) fun x hx => h x (List.mem_cons_of_mem _ hx)
    omega
/-- what a reader tells is right -/
def Snd (L : List Nat) (w n d : Nat) (l : List Nat) (f : Option Nat → Option (Tr × Nat)) : Prop := ∀ p t k', f p = some (t, k') → ∃ k, p = some k ∧ t.ok L.length w n ∧ t.depth ≤ d ∧ l.drop k = txt L t ++ l.drop k' ∧ k' = k + (txt L t).length
theorem br_snd {L : List Nat} {w n d : Nat} {l : List Nat} {f : Option Nat → Option (Tr × Nat)} (hf : Snd L w n d l f) {k : Nat} : ∀ {i : Nat} {ts : List Tr} {k' : Nat}, brF f l L k i = some (ts, k') → i ≤ L.length →
    ts.length = i ∧ (∀ t ∈ ts, t.ok L.length w n ∧ t.depth ≤ d) ∧ l.drop k = cat (pcs L L ts) i ++ l.drop k' ∧ k' = k + (cat (pcs L L ts) i).length
  | 0, ts, k', h, _ => by
    cases h
    exact ⟨rfl, fun t ht => (List.not_mem_nil ht).elim, rfl, rfl⟩
  | i + 1, ts, k', h, hi => by
    have h1 : stF f l i (L.getD i 0) (brF f l L k i) = some (ts, k') := h
    cases hb : brF f l L k i with
    | none => rw [hb] at h1; cases h1
    | some a =>
      obtain ⟨ts0, k0⟩ := a
      rw [hb] at h1
      unfold stF at h1
      dsimp only at h1
      cases hg : f (takF l (some k0) (sep i (L.getD i 0))) with
      | none => rw [hg] at h1; cases h1
      | some b =>
        obtain ⟨t, k2⟩ := b
        rw [hg] at h1
        cases h1
        obtain ⟨len, all, e1, e2⟩ := br_snd hf hb (by omega)
        obtain ⟨k3, e3, ok, dp, e4, e5⟩ := hf _ _ _ hg
        obtain ⟨k4, e6, e7, e8⟩ := tak_some e3
        cases e6
        have hc : L[i]? = some (L.getD i 0) := by
          rw [List.getD_eq_getElem?_getD, List.getElem?_eq_getElem (by omega)]
          rfl
        have key : ∀ (l2 : List Nat) (us : List Tr) (j : Nat), us.length < l2.length → j ≤ us.length → cat (pcs L l2 (us ++ [t])) j = cat (pcs L l2 us) j := by
          intro l2 us j hl
          have aux : ∀ (l2 : List Nat) (us : List Tr) (j : Nat), us.length < l2.length → j < us.length → (pcs L l2 (us ++ [t])).getD j [] = (pcs L l2 us).getD j [] := by
            intro l2
            induction l2 with
            | nil => intro us j h; exact absurd h (Nat.not_lt_zero _)
            | cons c l2 ih =>
              intro us j hl hj
              cases us with
              | nil => exact absurd hj (Nat.not_lt_zero _)
              | cons u us =>
                cases j with
                | zero => rfl
                | succ j =>
                  show (pcs L l2 (us ++ [t])).getD j [] = (pcs L l2 us).getD j []
                  exact ih us j (by simpa using hl) (by simpa using hj)
          induction j with
          | zero => intro _; rfl
          | succ j ih =>
            intro hj
            show cat _ j ++ (sp0 j ++ _) = cat _ j ++ (sp0 j ++ _)
            rw [ih (by omega), aux l2 us j hl (by omega)]
        have hp : (pcs L L (ts0 ++ [t])).getD i [] = pc L (L.getD i 0) t := by
          have : (pcs L L (ts0 ++ [t]))[i]? = some (pc L (L.getD i 0) t) := pcs_at L L (ts0 ++ [t]) i _ t hc (by rw [List.getElem?_append_right (by omega), len, Nat.sub_self]; rfl)
          rw [List.getD_eq_getElem?_getD, this]
          rfl
        have hcat : cat (pcs L L (ts0 ++ [t])) (i + 1) = cat (pcs L L ts0) i ++ (sep i (L.getD i 0) ++ txt L t) := by
          show cat _ i ++ (sp0 i ++ _) = _
          rw [key L ts0 i (by omega) (by omega), hp, sep_sp]
        refine ⟨by rw [List.length_append, len]; rfl, fun x hx => ?_, ?_, ?_⟩
        · rcases List.mem_append.mp hx with q | q
          · exact all x q
          · rw [List.mem_singleton.mp q]
            exact ⟨ok, dp⟩
        · rw [hcat, e1, e7, e4]
          simp
        · rw [hcat, e5, e8, e2]
          simp
          omega
theorem tree_snd {L : List Nat} {w n : Nat} {l : List Nat} (hn : 1 ≤ n) (hL : L ≠ []) : ∀ d : Nat, Snd L w n d l (treeF L w n l d)
  | 0 => fun p t k' h => by
    unfold treeF at h
    cases h
  | d + 1 => by
    have ih := tree_snd (w := w) (l := l) hn hL d
    intro p t k' h
    cases p with
    | none =>
      unfold treeF at h
      cases h
    | some k =>
      unfold treeF at h
      by_cases hg : takF l (some k) pGo ≠ none
      · rw [if_pos hg] at h
        obtain ⟨k0, s, q, e, rfl, d1, d2, b1, b2, b3⟩ := go_some h hn
        cases e
        refine ⟨k, rfl, ⟨b1, b2, b3⟩, by show 1 ≤ d + 1; omega, ?_, ?_⟩
        · unfold txt
          exact d1
        · unfold txt
          exact d2
      rw [if_neg hg] at h
      by_cases ht : takF l (some k) pTell ≠ none
      · rw [if_pos ht] at h
        cases h1 : numF l (some (k + 5)) 0 2 with
        | none => rw [h1] at h; cases h
        | some a =>
          obtain ⟨m, k1⟩ := a
          rw [h1] at h
          dsimp only at h
          cases h2 : treeF L w n l d (takF l (some k1) [32]) with
          | none => rw [h2] at h; cases h
          | some b =>
            obtain ⟨t1, k2⟩ := b
            rw [h2] at h
            cases h
            obtain ⟨k3, e3, d3, f3, _, hi3, _⟩ := num_some h1
            cases e3
            obtain ⟨k4, e4, ok, dp, d4, f4⟩ := ih _ _ _ h2
            obtain ⟨k5, e5, d5, f5⟩ := tak_some e4
            cases e5
            obtain ⟨k6, hk6⟩ : ∃ k6, takF l (some k) pTell = some k6 := Option.ne_none_iff_exists'.mp ht
            obtain ⟨k7, e7, d7, f7⟩ := tak_some hk6
            cases e7
            have f7' : k6 = k + 5 := f7
            subst f7'
            refine ⟨k, rfl, ⟨hi3, ok⟩, by show t1.depth + 1 ≤ d + 1; omega, ?_, ?_⟩
            · unfold txt
              rw [d7, d3, d5, d4]
              simp [pTell, wTell]
            · unfold txt
              rw [f4, f5, f3]
              simp [wTell]
              omega
      rw [if_neg ht] at h
      cases h1 : numF l (takF l (some k) pRead) 0 w with
      | none => rw [h1] at h; cases h
      | some a =>
        obtain ⟨m, k1⟩ := a
        rw [h1] at h
        dsimp only at h
        cases h2 : brF (treeF L w n l d) l L k1 L.length with
        | none => rw [h2] at h; cases h
        | some b =>
          obtain ⟨ts, k2⟩ := b
          rw [h2] at h
          dsimp only at h
          cases h3 : takF l (some k2) [93] with
          | none => rw [h3] at h; cases h
          | some k3 =>
            rw [h3] at h
            cases h
            obtain ⟨k4, e4, d4, f4, _, hi4, _⟩ := num_some h1
            obtain ⟨k5, e5, d5, f5⟩ := tak_some e4
            cases e5
            obtain ⟨len, all, d6, f6⟩ := br_snd ih h2 (Nat.le_refl _)
            obtain ⟨k7, e7, d7, f7⟩ := tak_some h3
            cases e7
            have hpl := pcs_len L L ts len.symm
            have hj : cat (pcs L L ts) L.length = [32, 91] ++ TL.joinL [44, 32] (txts L L (Trs.ofL ts)) := by
              rw [txts_pcs, ofL_list, ← hpl]
              refine cat_join _ fun z => ?_
              rw [z] at hpl
              exact hL (List.length_eq_zero_iff.mp hpl.symm)
            refine ⟨k, rfl, ⟨hi4, by rw [ofL_list]; exact len, trs_ok fun x hx => (all x hx).1⟩, ?_, ?_, ?_⟩
            · show (Trs.ofL ts).depth + 1 ≤ d + 1
              have := trs_depth fun x hx => (all x hx).2
              omega
            · unfold txt
              rw [d5, d4, d6, d7, hj]
              simp [pRead, wRead]
            · unfold txt
              have e8 := congrArg List.length hj
              rw [f7, f6, f4, f5, e8]
              simp [pRead, wRead]
              omega
/-- all that is right is told -/
def Cmp (L : List Nat) (w n d : Nat) (l : List Nat) (f : Option Nat → Option (Tr × Nat)) : Prop := ∀ t k r, l.drop k = txt L t ++ r → Nd r → t.ok L.length w n → t.depth ≤ d → f (some k) = some (t, k + (txt L t).length)
theorem br_cmp {L : List Nat} {w n d : Nat} {l : List Nat} {f : Option Nat → Option (Tr × Nat)} (hf : Cmp L w n d l f) {k : Nat} {ts : List Tr} {r : List Nat} (hl : ts.length = L.length) (h : l.drop k = cat (pcs L L ts) L.length ++ (93 :: r))
    (ho : ∀ t ∈ ts, t.ok L.length w n ∧ t.depth ≤ d) : ∀ i, i ≤ L.length → brF f l L k i = some (ts.take i, k + (cat (pcs L L ts) i).length)
  | 0, _ => rfl
  | i + 1, hi => by
    have ih := br_cmp hf hl h ho i (by omega)
    show stF f l i (L.getD i 0) (brF f l L k i) = _
    rw [ih]
    unfold stF
    dsimp only
    obtain ⟨t, ht⟩ : ∃ t, ts[i]? = some t := ⟨_, List.getElem?_eq_getElem (by omega)⟩
    have hc : L[i]? = some (L.getD i 0) := by
      rw [List.getD_eq_getElem?_getD, List.getElem?_eq_getElem (by omega)]
      rfl
    have mem := List.mem_of_getElem? ht
    have hp : (pcs L L ts).getD i [] = pc L (L.getD i 0) t := by
      rw [List.getD_eq_getElem?_getD, pcs_at L L ts i _ t hc ht]
      rfl
    have hcat : cat (pcs L L ts) (i + 1) = cat (pcs L L ts) i ++ (sep i (L.getD i 0) ++ txt L t) := by
      show cat _ i ++ (sp0 i ++ _) = _
      rw [hp, sep_sp]
    obtain ⟨r1, e1, e2⟩ := cat_more (pcs L L ts) (i + 1) (L.length - (i + 1))
    rw [show i + 1 + (L.length - (i + 1)) = L.length by omega] at e1
    rw [e1, hcat] at h
    have h1 : l.drop k = cat (pcs L L ts) i ++ (sep i (L.getD i 0) ++ (txt L t ++ (r1 ++ 93 :: r))) := by
      rw [h]
      simp
    have h2 := drop_of h1
    rw [tak_of h2]
    have h3 := drop_of h2
    have nd : Nd (r1 ++ 93 :: r) := by
      rcases e2 (by omega) with q | ⟨r', q⟩
      · rw [q]
        exact nd_cons (by decide)
      · rw [q]
        exact nd_cons (by decide)
    rw [hf t _ _ h3 nd (ho t mem).1 (ho t mem).2]
    dsimp only
    rw [hcat]
    refine congrArg some (Prod.ext ?_ ?_)
    · show ts.take i ++ [t] = ts.take (i + 1)
      rw [List.take_add_one, ht]
      rfl
    · simp
      omega
theorem ne_pre {a b r s : List Nat} {i : Nat} (h : a.take i ≠ b.take i) (ha : i ≤ a.length) (hb : i ≤ b.length) : a ++ r ≠ b ++ s := fun z => h (by
  have := congrArg (List.take i) z
  rw [List.take_append_of_le_length ha, List.take_append_of_le_length hb] at this
  exact this)
theorem tree_cmp {L : List Nat} {w n : Nat} {l : List Nat} (hw : w ≤ 8) (hn : n ≤ 64) (hL : L ≠ []) : ∀ d : Nat, Cmp L w n d l (treeF L w n l d)
  | 0 => fun t k r _ _ _ hd => absurd (tr_depth_pos t) (by omega)
  | d + 1 => by
    have ih := tree_cmp (l := l) hw hn hL d
    intro t k r h hr ho hd
    unfold treeF
    cases t with
    | go s q =>
      unfold txt at h ⊢
      have h1 : l.drop k = pGo ++ (num s ++ (32 :: (num q ++ r))) := by
        rw [h]
        simp [pGo, wGo]
      have ho1 : 1 ≤ s ∧ s ≤ w + 1 ∧ q < n := ho
      rw [if_pos (by rw [tak_of h1]; simp)]
      unfold goF
      have h2 := drop_of h1
      rw [tak_of h1, num_of h2 (nd_cons (by decide)) (by omega) ho1.1 ho1.2.1]
      dsimp only
      have h3 := drop_of h2
      rw [tak_of (part := [32]) (r := num q ++ r) (by rw [h3]; rfl)]
      have h4 : l.drop (k + pGo.length + (num s).length + [32].length) = num q ++ r := drop_of (a := [32]) (by rw [h3]; rfl)
      rw [num_of h4 hr (by omega) (by omega) (by omega)]
      dsimp only
      refine congrArg some (Prod.ext rfl ?_)
      simp [pGo, wGo]
      omega
    | tell m t =>
      unfold txt at h ⊢
      have ho1 : m ≤ 2 ∧ t.ok L.length w n := ho
      have hd1 : t.depth ≤ d := by
        have : t.depth + 1 ≤ d + 1 := hd
        omega
      have h1 : l.drop k = pTell ++ (num m ++ (32 :: (txt L t ++ r))) := by
        rw [h]
        simp [pTell, wTell]
      rw [if_neg (by
        rw [tak_no fun z e => ne_pre (a := pTell) (b := pGo) (i := 1) (by decide) (by decide) (by decide) (h1.symm.trans e)]
        simp), if_pos (by rw [tak_of h1]; simp)]
      have h2 : l.drop (k + 5) = num m ++ (32 :: (txt L t ++ r)) := drop_of (a := pTell) h1
      rw [num_of h2 (nd_cons (by decide)) (by omega) (by omega) ho1.1]
      dsimp only
      have h3 := drop_of h2
      rw [tak_of (part := [32]) (r := txt L t ++ r) (by rw [h3]; rfl)]
      have h4 : l.drop (k + 5 + (num m).length + [32].length) = txt L t ++ r := drop_of (a := [32]) (by rw [h3]; rfl)
      rw [ih t _ _ h4 hr ho1.2 hd1]
      dsimp only
      refine congrArg some (Prod.ext rfl ?_)
      simp [wTell]
      omega
    | read p ts =>
      unfold txt at h ⊢
      have ho1 : p ≤ w ∧ ts.list.length = L.length ∧ ts.ok L.length w n := ho
      have hd1 : ts.depth ≤ d := by
        have : ts.depth + 1 ≤ d + 1 := hd
        omega
      have hpl := pcs_len L L ts.list ho1.2.1.symm
      have hj : cat (pcs L L ts.list) L.length = [32, 91] ++ TL.joinL [44, 32] (txts L L ts) := by
        rw [txts_pcs, ← hpl]
        refine cat_join _ fun z => ?_
        rw [z] at hpl
        exact hL (List.length_eq_zero_iff.mp hpl.symm)
      have h1 : l.drop k = pRead ++ (num p ++ (cat (pcs L L ts.list) L.length ++ (93 :: r))) := by
        rw [h, hj]
        simp [pRead, wRead]
      rw [if_neg (by
        rw [tak_no fun z e => ne_pre (a := pRead) (b := pGo) (i := 1) (by decide) (by decide) (by decide) (h1.symm.trans e)]
        simp), if_neg (by
        rw [tak_no fun z e => ne_pre (a := pRead) (b := pTell) (i := 1) (by decide) (by decide) (by decide) (h1.symm.trans e)]
        simp)]
      have h2 := drop_of h1
      rw [tak_of h1, num_of h2 (by rw [hj]; exact nd_cons (by decide)) (by omega) (by omega) ho1.1]
      dsimp only
      have h3 := drop_of h2
      rw [br_cmp ih ho1.2.1 h3 (fun t ht => ⟨Trs.ok_mem ho1.2.2 t ht, Nat.le_trans (Trs.depth_mem t ht) hd1⟩) L.length (Nat.le_refl _)]
      dsimp only
      have h4 := drop_of h3
      rw [tak_of (part := [93]) (r := r) (by rw [h4]; rfl)]
      dsimp only
      have e8 := congrArg List.length hj
      refine congrArg some (Prod.ext ?_ ?_)
      · show Tr.read p (Trs.ofL (ts.list.take L.length)) = Tr.read p ts
        rw [← ho1.2.1, List.take_length, list_ofL]
      · rw [e8]
        simp [pRead, wRead]
        omega
/-- a line that is the text of a right tree -/
def Rl (L : List Nat) (w n : Nat) (l : List Nat) (t : Tr) : Prop := t.ok L.length w n ∧ t.depth ≤ 40 ∧ l = txt L t
theorem rl_of {L : List Nat} {w n : Nat} {l : List Nat} {t : Tr} {k : Nat} (hn : 1 ≤ n) (hL : L ≠ []) (h : treeF L w n l 40 (some 0) = some (t, k)) (hk : ¬ k < l.length) : Rl L w n l t := by
  obtain ⟨k0, e0, ok, dp, d1, d2⟩ := tree_snd hn hL 40 _ _ _ h
  cases e0
  rw [List.drop_zero, List.drop_of_length_le (by omega), List.append_nil] at d1
  exact ⟨ok, dp, d1⟩
theorem rl_to {L : List Nat} {w n : Nat} {l : List Nat} {t : Tr} (hw : w ≤ 8) (hn : n ≤ 64) (hL : L ≠ []) (h : Rl L w n l t) : treeF L w n l 40 (some 0) = some (t, l.length) := by
  have := tree_cmp (l := l) hw hn hL 40 t 0 [] (by rw [List.drop_zero, List.append_nil]; exact h.2.2) (fun c hc => by cases hc) h.1 h.2.1
  rw [Nat.zero_add, ← h.2.2] at this
  exact this
end TT

namespace GX
open PySem PySem.Spec PyProof.Rows L2 Evl TR
mutual
def allT : Gt → Bool
  | .seq k gs => k && allTs gs
  | _ => true
def allTs : List Gt → Bool
  | [] => true
  | g :: r => allT g && allTs r
end
mutual
def nst : Gt → Nat
  | .str _ => 1
  | .seq _ gs => nsts gs
  | _ => 0
def nsts : List Gt → Nat
  | [] => 0
  | g :: r => nst g + nsts r
end
theorem nsts_snoc (g : Gt) : ∀ gs : List Gt, nsts (gs ++ [g]) = nsts gs + nst g
  | [] => by
    show nst g + 0 = 0 + nst g
    omega
  | x :: r => by
    show nst x + nsts (r ++ [g]) = nst x + nsts r + nst g
    rw [nsts_snoc g r]
    omega
theorem allTs_mem : ∀ {gs : List Gt} {g : Gt}, allTs gs = true → g ∈ gs → allT g = true
  | x :: r, g, h, hg => by
    unfold allTs at h
    rw [Bool.and_eq_true] at h
    rcases List.mem_cons.mp hg with q | q
    · rw [q]
      exact h.1
    · exact allTs_mem h.2 q
theorem allTs_snoc {gs : List Gt} {g : Gt} (h : allTs gs = true) (h1 : allT g = true) : allTs (gs ++ [g]) = true := by
  induction gs with
  | nil =>
    show (allT g && true) = true
    rw [h1]
    rfl
  | cons x r ih =>
    unfold allTs at h
    rw [Bool.and_eq_true] at h
    show (allT x && allTs (r ++ [g])) = true
    rw [h.1, ih h.2]
    rfl
mutual
theorem GA.updT {H : Hp} {a : Addr} {xs : List V} {o : HO} (ha : H a = some (.lst xs)) : ∀ {v : V} {g : Gt}, GA H v g → allT g = true → GA (L2.upd H a o) v g
  | _, _, .int i, _ => .int i
  | _, _, .str z, _ => .str z
  | _, _, .bl b, _ => .bl b
  | _, _, .non, _ => .non
  | _, _, .dct (a := c) h, _ => .dct (by
      rw [upd_ne (fun z : c = a => by rw [z, ha] at h; cases h)]
      exact h)
  | _, _, .seq (a := c) (k := k) h r, ht => by
    unfold allT at ht
    rw [Bool.and_eq_true] at ht
    obtain ⟨rfl, h2⟩ := ht
    refine .seq (k := true) ?_ (GAs.updT ha r h2)
    rw [upd_ne (fun z : c = a => by rw [z, ha] at h; cases h)]
    exact h
theorem GAs.updT {H : Hp} {a : Addr} {xs : List V} {o : HO} (ha : H a = some (.lst xs)) : ∀ {vs : List V} {gs : List Gt}, GAs H vs gs → allTs gs = true → GAs (L2.upd H a o) vs gs
  | _, _, .nil, _ => .nil
  | _, _, .cons h r, ht => by
    unfold allTs at ht
    rw [Bool.and_eq_true] at ht
    exact .cons (GA.updT ha h ht.1) (GAs.updT ha r ht.2)
end
end GX
namespace TT
open PySem PySem.Spec PyProof.Rows L2 TR
/-- signs of a plain text -/
def Asc (l : List Nat) : Prop := ∀ c ∈ l, c < 128
theorem dec_asc {l : List Nat} (h : Asc l) (hd : Txt.isdecimal (S l) = true) : ∀ c ∈ l, dig c = true := by
  have k : ∀ c < 128, Unicode.isDecimal c = true → dig c = true := by decide +kernel
  unfold Txt.isdecimal at hd
  rw [Bool.and_eq_true] at hd
  intro c hc
  refine k c (h c hc) ?_
  have := hd.2
  rw [Array.all_eq_true'] at this
  exact this c (by show c ∈ l.toArray; simpa using hc)
theorem dec_ne {l : List Nat} (hd : Txt.isdecimal (S l) = true) : l ≠ [] := fun e => by
  rw [e] at hd
  revert hd
  decide
theorem int_asc {l : List Nat} (h : Asc l) (hd : Txt.isdecimal (S l) = true) (h2 : l.length ≤ 2) : ∃ i, PySem.intText? (S l) = some i := by
  have k1 : ∀ c < 58, 48 ≤ c → (PySem.intText? (S [c])).isSome = true := by decide +kernel
  have k2 : ∀ c < 58, 48 ≤ c → ∀ d < 58, 48 ≤ d → (PySem.intText? (S [c, d])).isSome = true := by decide +kernel
  have hx : ∀ c ∈ l, 48 ≤ c ∧ c < 58 := fun c hc => by
    have := dec_asc h hd c hc
    unfold dig at this
    rw [Bool.and_eq_true] at this
    have a := of_decide_eq_true this.1
    have b := of_decide_eq_true this.2
    omega
  have hn := dec_ne hd
  refine Option.isSome_iff_exists.mp ?_
  match l, hn, h2, hx with
  | [], hn, _, _ => exact absurd rfl hn
  | [c], _, _, hx =>
    have := hx c List.mem_cons_self
    exact k1 c this.2 this.1
  | [c, d], _, _, hx =>
    have h1 := hx c List.mem_cons_self
    have h2 := hx d (List.mem_cons_of_mem _ List.mem_cons_self)
    exact k2 c h1.2 h1.1 d h2.2 h2.1
  | _ :: _ :: _ :: _, _, h2, _ => exact absurd h2 (by show ¬ _ + 1 + 1 + 1 ≤ 2; omega)
end TT
namespace Law
open PySem PySem.Spec PyProof.Rows L2 Evl TR GX
def WsOk (ws : List (List Nat)) : Prop := ∀ u ∈ ws, TT.Asc u ∧ u.length ≤ 1900
theorem WsOk.tail {ws : List (List Nat)} (h : WsOk ws) : WsOk ws.tail := fun u hu => h u (List.mem_of_mem_tail hu)
theorem WsOk.head {ws : List (List Nat)} (h : WsOk ws) : TT.Asc (ws.headD []) ∧ (ws.headD []).length ≤ 1900 := by
  cases ws with
  | nil => exact ⟨fun c hc => (List.not_mem_nil hc).elim, Nat.zero_le _⟩
  | cons u r => exact h u List.mem_cons_self
def spTakW : Sp := fun vs H Q _ => ∃ (a : Addr) (ws : List (List Nat)) (H0 : Hp), vs = [.ref a] ∧ WAt a H0 H ws ∧ ∀ H', WAt a H0 H' ws.tail → Q (.str (tx (ws.headD []))) H'
def spNumW : Sp := fun vs H Q _ => ∃ (a : Addr) (ws : List (List Nat)) (H0 : Hp), vs = [.ref a] ∧ WAt a H0 H ws ∧ WsOk ws ∧ ∀ H' i, WAt a H0 H' ws.tail → Q (.int i) H'
def spTreW (k : Nat) : Sp := fun vs H Q _ => ∃ (a : Addr) (L : List Nat) (d : Nat) (ws : List (List Nat)) (H0 : Hp), vs = [.str (tx L), .ref a, .int (d : Int)] ∧ 41 ≤ d + k ∧ d ≤ 41 ∧ L.length ≤ 4 ∧ WAt a H0 H ws ∧ WsOk ws ∧
  ∀ H1 H' v g ws', Ex H0 H1 → WAt a H1 H' ws' → WsOk ws' → GA H1 v g → allT g = true → g.size + 8 * ws'.length ≤ 8 * ws.length + 1 → nst g + ws'.length ≤ ws.length → Q v H'
def spBraW (k : Nat) : Sp := fun vs H Q _ => ∃ (a : Addr) (L : List Nat) (d : Nat) (ws : List (List Nat)) (H0 : Hp), vs = [.str (tx L), .ref a, .int (d : Int)] ∧ 41 ≤ d + k ∧ d ≤ 41 ∧ L.length ≤ 4 ∧ WAt a H0 H ws ∧ WsOk ws ∧
  ∀ H1 H' b vs' gs ws', Ex H0 H1 → WAt a H1 H' ws' → WsOk ws' → H1 b = some (.tup vs') → GAs H1 vs' gs → allTs gs = true → Gt.sizes gs + 8 * ws'.length ≤ 8 * ws.length + 4 → nsts gs + ws'.length ≤ ws.length → Q (.ref b) H'
theorem tl_len {α : Type} (ws : List α) : ws.tail.length ≤ ws.length := by
  rw [List.length_tail]
  omega
theorem tl_lt {ws : List (List Nat)} (h : ws.headD [] ≠ []) : ws.tail.length + 1 = ws.length := by
  cases ws with
  | nil => exact absurd rfl h
  | cons u r => rfl
section
variable {P : Program} {w : World} {K : PySem.W.Frag} {mg : Str → Option Value} {base : Heap}
theorem ok_takW {f : Addr} {fd : FuncData} (F : Fun K "_taken" "_taken" s_taken f fd) (T : Tx mg) : FnOk P w K mg base CX0 1 f fd ["words"] spTakW := by
  refine F.ok sc_taken (fun vs H Q E h => ?_) (fun cdv A outer s H vs Q E hr h => ?_)
  · obtain ⟨a, ws, H0, rfl, _⟩ := h
    rfl
  · obtain ⟨a, ws, H0, rfl, W, q⟩ := h
    refine ⟨_, (pss_one (ps_ret (pe_ifExp (pt_truth (pv 0) (by intro _; rfl)) (pe_bm0 PySem.F.plainAttrs_list PySem.F.slot_list_pop PySem.F.type_list_pop mt_pop (pv 0)) pe_str))), ?_⟩
    have hl := W.2.2
    cases ws with
    | nil =>
      refine ⟨_, rfl, false, .inl ⟨_, sq_of hl, rfl⟩, iteF ?_⟩
      exact q _ W
    | cons wd ws =>
      rw [TT.wl_cons] at hl
      refine ⟨_, rfl, true, .inl ⟨_, sq_of hl, ?_⟩, iteT ?_⟩
      · simp
      refine ⟨_, rfl, .inl ⟨rfl, _, sq_of hl⟩, a, _, _, rfl, rfl, hl, pop_last _ _, ?_⟩
      rw [List.dropLast_concat]
      exact q _ W.pop
theorem ok_numW {f : Addr} {fd : FuncData} (F : Fun K "_taken_number" "_taken_number" s_taken_number f fd) (T : Tx mg) (c_taken : Kn P w K mg base "_taken" ["words"] 1 spTakW) : FnOk P w K mg base CX0 2 f fd ["words"] spNumW := by
  refine F.ok sc_taken_number (fun vs H Q E h => ?_) (fun cdv A outer s H vs Q E hr h => ?_)
  · obtain ⟨a, ws, H0, rfl, _⟩ := h
    rfl
  · obtain ⟨a, ws, H0, rfl, W, hW, q⟩ := h
    refine ⟨_, (pss_cons (ps_set (i := 1) sc_taken_number.nd rfl (Or.inl rfl) (pe_call c_taken.ok (hr.mono (by decide)) (by rfl) c_taken.g c_taken.kp c_taken.b .nil pass0 (pa_cons (pv 0) pa_nil)))
      (pss_one (ps_ret (pe_ifExp (PW.pt (pw_and (pt_val (pe_bm0 PySem.F.plainAttrs_str PySem.F.slot_str_isdecimal PySem.F.type_str_isdecimal mt_isdecimal (pv 1))) (pw_and1 (pt_cmpR op_le (pe_callB call_len_str (by rfl) T.len PySem.boot_len (pa_cons (pv 1) pa_nil)) pe_int (nomark _))))) (pe_callTy call_int_str (by rfl) T.int PyProof.Rows.boot_int (pa_cons (pv 1) pa_nil)) (pe_un un_neg pe_int))))), ?_⟩
    obtain ⟨asc, hle⟩ := hW.head
    refine ⟨_, rfl, a, ws, H0, rfl, W, fun H1 W1 => ?_⟩
    refine ⟨_, rfl, rfl, _, rfl, rfl, trivial, _, rfl, ite2 (fun hb => ?_) (fun hb => ?_)⟩
    · refine ⟨_, rfl, _, rfl, sz_of (by rw [tx_len]; omega), _, _, rfl, rfl, _, rfl, ite2 (fun hc => ?_) (fun hc => ?_)⟩
      · have h2 : (ws.headD []).length ≤ 2 := by
          have := of_decide_eq_true hc
          rw [tx_len] at this
          omega
        obtain ⟨i, hi⟩ := TT.int_asc asc hb h2
        exact ⟨_, rfl, _, _, rfl, hi, by rw [tx_len]; omega, q _ _ W1⟩
      · exact ⟨_, rfl, q _ _ W1⟩
    · exact ⟨_, rfl, q _ _ W1⟩
theorem ok_treW {f fb : Addr} {fd fdb : FuncData} (F : Fun K "_taken_tree" "_taken_tree" s_taken_tree f fd) (FB : Fun K "_taken_branches" "_taken_branches" s_taken_branches fb fdb) (T : Tx mg) (g : mg "_taken_tree" = some (.ref f)) (b : Binds K fd ["letters", "words", "depth"] [])
    (gb : mg "_taken_branches" = some (.ref fb)) (bb : Binds K fdb ["letters", "words", "depth"] []) (c_taken : Kn P w K mg base "_taken" ["words"] 1 spTakW) (c_taken_number : Kn P w K mg base "_taken_number" ["words"] 2 spNumW) :
    ∀ k : Nat, FnOk P w K mg base CX0 (2 * k + 3) f fd ["letters", "words", "depth"] (spTreW k)
  | 0 => by
    have c_taken_tree : Kn P w K mg base "_taken_tree" ["letters", "words", "depth"] 0 (fun _ _ _ _ => False) := ⟨f, fd, ⟨fun _ _ _ _ h => h.elim, fun _ _ _ _ _ _ _ _ _ _ _ _ _ h => h.elim⟩, g, F.kp, b⟩
    have c_taken_branches : Kn P w K mg base "_taken_branches" ["letters", "words", "depth"] 0 (fun _ _ _ _ => False) := ⟨fb, fdb, ⟨fun _ _ _ _ h => h.elim, fun _ _ _ _ _ _ _ _ _ _ _ _ _ h => h.elim⟩, gb, FB.kp, bb⟩
    refine F.ok sc_taken_tree (fun vs H Q E h => ?_) (fun cdv A outer s H vs Q E hr h => ?_)
    · obtain ⟨a, L, d, ws, H0, rfl, _⟩ := h
      rfl
    · obtain ⟨a, L, d, ws, H0, rfl, hd, hd2, hL, W, hW, q⟩ := h
      refine ⟨_, (pss_cons (ps_set (i := 3) sc_taken_tree.nd rfl (Or.inl rfl) (pe_call c_taken.ok (hr.mono (by omega)) (by rfl) c_taken.g c_taken.kp c_taken.b .nil pass0 (pa_cons (pv 1) pa_nil)))
      (pss_cons (ps_if (pt_cmpR op_gt (pv 2) (pe_glob (v := .int 40) rfl T.m_DEEPEST ⟨_, rfl⟩) (nomark _)) (pss_one (ps_ret pe_non)) pss_nil)
      (pss_cons (ps_if (pt_cmpR op_eq (pv 3) pe_str (nomark _)) (pss_cons (ps_set (i := 4) sc_taken_tree.nd rfl (Or.inl rfl) (pe_call c_taken_number.ok (hr.mono (by omega)) (by rfl) c_taken_number.g c_taken_number.kp c_taken_number.b .nil pass0 (pa_cons (pv 1) pa_nil)))
      (pss_one (ps_ret (pe_tup (pa_cons pe_str (pa_cons (pv 4) (pa_cons (pe_call c_taken_number.ok (hr.mono (by omega)) (by rfl) c_taken_number.g c_taken_number.kp c_taken_number.b .nil pass0 (pa_cons (pv 1) pa_nil)) pa_nil))))))) pss_nil)
      (pss_cons (ps_if (pt_cmpR op_eq (pv 3) pe_str (nomark _)) (pss_cons (ps_set (i := 5) sc_taken_tree.nd rfl (Or.inl rfl) (pe_call c_taken_number.ok (hr.mono (by omega)) (by rfl) c_taken_number.g c_taken_number.kp c_taken_number.b .nil pass0 (pa_cons (pv 1) pa_nil)))
      (pss_one (ps_ret (pe_tup (pa_cons pe_str (pa_cons (pv 5) (pa_cons (pe_call c_taken_tree.ok (hr.mono (by omega)) (by rfl) c_taken_tree.g c_taken_tree.kp c_taken_tree.b .nil pass0 (pa_cons (pv 0) (pa_cons (pv 1) (pa_cons (pe_op op_add (pv 2) pe_int) pa_nil)))) pa_nil))))))) pss_nil)
      (pss_cons (ps_if (pt_cmpR op_eq (pv 3) pe_str (nomark _)) (pss_cons (ps_set (i := 6) sc_taken_tree.nd rfl (Or.inl rfl) (pe_call c_taken_number.ok (hr.mono (by omega)) (by rfl) c_taken_number.g c_taken_number.kp c_taken_number.b .nil pass0 (pa_cons (pv 1) pa_nil)))
      (pss_one (ps_ret (pe_tup (pa_cons pe_str (pa_cons (pv 6) (pa_cons (pe_call c_taken_branches.ok (hr.mono (by omega)) (by rfl) c_taken_branches.g c_taken_branches.kp c_taken_branches.b .nil pass0 (pa_cons (pv 0) (pa_cons (pv 1) (pa_cons (pe_op op_add (pv 2) pe_int) pa_nil)))) pa_nil))))))) pss_nil)
      (pss_one (ps_ret pe_non))))))), ?_⟩
      refine ⟨_, rfl, a, ws, H0, rfl, W, fun H1 W1 => ?_⟩
      refine ⟨_, rfl, _, _, rfl, rfl, _, rfl, ite2 (fun hb => ?_) (fun hb => absurd (decide_eq_true (by omega)) hb)⟩
      have := tl_len ws
      exact q _ _ _ _ _ (Ex.refl _) W1 hW.tail .non rfl (by show 1 + _ ≤ _; omega) (by show 0 + _ ≤ _; omega)
  | k + 1 => by
    have c_taken_tree : Kn P w K mg base "_taken_tree" ["letters", "words", "depth"] (2 * k + 3) (spTreW k) := ⟨f, fd, ok_treW F FB T g b gb bb c_taken c_taken_number k, g, F.kp, b⟩
    have okB : FnOk P w K mg base CX0 (2 * k + 4) fb fdb ["letters", "words", "depth"] (spBraW k) := by
      refine FB.ok sc_taken_branches (fun vs H Q E h => ?_) (fun cdv A outer s H vs Q E hr h => ?_)
      · obtain ⟨a, L, d, ws, H0, rfl, _⟩ := h
        rfl
      · obtain ⟨a, L, d, ws, H0, rfl, hd, hd2, hL, W, hW, q⟩ := h
        refine ⟨_, (pss_cons (ps_set (i := 3) sc_taken_branches.nd rfl (Or.inl rfl) (pe_lst pa_nil))
      (pss_cons (ps_for PassesOwn.never rfl (pi_str (pv 0)) (pg_name (i := 4) sc_taken_branches.nd rfl (Or.inl rfl)) (pss_cons (ps_expr (pe_call c_taken.ok (hr.mono (by omega)) (by rfl) c_taken.g c_taken.kp c_taken.b .nil pass0 (pa_cons (pv 1) pa_nil)))
      (pss_one (ps_expr (pe_bm PySem.F.plainAttrs_list PySem.F.slot_list_append PySem.F.type_list_append mt_append (pv 3) (pa_cons (pe_call c_taken_tree.ok (hr.mono (by omega)) (by rfl) c_taken_tree.g c_taken_tree.kp c_taken_tree.b .nil pass0 (pa_cons (pv 0) (pa_cons (pv 1) (pa_cons (pv 2) pa_nil)))) pa_nil))))))
      (pss_one (ps_ret (pe_callTy call_tuple_of (by rfl) T.tuple PyProof.Rows.boot_tuple (pa_cons (pv 3) pa_nil)))))), ?_⟩
        refine ⟨Nat.zero_le _, fun D hD => ?_⟩
        have d0 := W.fresh hD
        have d1 := W.ne hD
        refine ⟨_, rfl, _, rfl, for_strX (x := tx L) (fun i σ H' => ∃ (Hb : Hp) (zs : List V) (gs : List Gt) (us : List (List Nat)) (y4 : Option V), σ = [some (.str (tx L)), some (.ref a), some (.int (d : Int)), some (.ref D), y4] ∧ Ex H0 Hb ∧ WAt a Hb H' us ∧ WsOk us ∧ Hb D = some (.lst zs) ∧ GAs Hb zs gs ∧ allTs gs = true ∧ gs.length = i ∧ Gt.sizes gs + 8 * us.length ≤ 8 * ws.length + i ∧ nsts gs + us.length ≤ ws.length)
          ⟨_, [], [], ws, none, rfl, Ex.new d0, W.both d1, hW, upd_same, .nil, rfl, rfl, by show 0 + _ ≤ _; omega, by show 0 + _ ≤ _; omega⟩ (fun i c σ H' hc hw => ?_) (fun σ H' hw => ?_)⟩
        · obtain ⟨Hb, zs, gs, us, y4, rfl, eb, Wb, hU, hz, Z, ta, lg, hs, hs2⟩ := hw
          have hi := (List.getElem?_eq_some_iff.mp (tx_at hc)).1
          have lz := Z.len
          refine ⟨_, rfl, a, _, Hb, rfl, Wb, fun H2 W2 => ?_⟩
          refine ⟨_, rfl, .inl ⟨rfl, _, sq_of (W2.1 _ _ hz)⟩, _, rfl, _, rfl, _, rfl, a, L, d, _, Hb, rfl, by omega, by omega, hL, W2, hU.tail, fun H3 H4 v gg ws' e3 W3 hU3 hv tv sv sv2 => ?_⟩
          refine ⟨D, _, _, rfl, rfl, W3.1 _ _ (e3 _ _ hz), sz_lt (by omega), ?_⟩
          have lt := tl_len us
          refine ⟨L2.upd H3 D (.lst (zs ++ [v])), zs ++ [v], gs ++ [gg], ws', _, rfl, (eb.trans e3).mut d0, W3.both d1, hU3, upd_same, ?_, allTs_snoc ta tv, by rw [List.length_append, lg]; rfl, ?_, by rw [nsts_snoc]; omega⟩
          · exact GAs.updT (e3 _ _ hz) ((Z.ex e3).snoc hv) (allTs_snoc ta tv)
          · rw [sizes_app]
            show Gt.sizes gs + (gg.size + 0) + _ ≤ _
            omega
        · obtain ⟨Hb, zs, gs, us, y4, rfl, eb, Wb, hU, hz, Z, ta, lg, hs, hs2⟩ := hw
          rw [tx_size] at lg hs
          refine ⟨_, rfl, D, zs, rfl, .inl ⟨sq_of (Wb.1 _ _ hz), fun t2 ht2 => ?_⟩⟩
          obtain ⟨W5, e5⟩ := Wb.made (o := .tup zs) ht2
          exact q _ _ _ _ _ _ (eb.trans e5) W5 hU upd_same (Z.ex e5) ta (by omega) (by omega)
    have c_taken_branches : Kn P w K mg base "_taken_branches" ["letters", "words", "depth"] (2 * k + 4) (spBraW k) := ⟨fb, fdb, okB, gb, FB.kp, bb⟩
    refine F.ok sc_taken_tree (fun vs H Q E h => ?_) (fun cdv A outer s H vs Q E hr h => ?_)
    · obtain ⟨a, L, d, ws, H0, rfl, _⟩ := h
      rfl
    · obtain ⟨a, L, d, ws, H0, rfl, hd, hd2, hL, W, hW, q⟩ := h
      refine ⟨_, (pss_cons (ps_set (i := 3) sc_taken_tree.nd rfl (Or.inl rfl) (pe_call c_taken.ok (hr.mono (by omega)) (by rfl) c_taken.g c_taken.kp c_taken.b .nil pass0 (pa_cons (pv 1) pa_nil)))
      (pss_cons (ps_if (pt_cmpR op_gt (pv 2) (pe_glob (v := .int 40) rfl T.m_DEEPEST ⟨_, rfl⟩) (nomark _)) (pss_one (ps_ret pe_non)) pss_nil)
      (pss_cons (ps_if (pt_cmpR op_eq (pv 3) pe_str (nomark _)) (pss_cons (ps_set (i := 4) sc_taken_tree.nd rfl (Or.inl rfl) (pe_call c_taken_number.ok (hr.mono (by omega)) (by rfl) c_taken_number.g c_taken_number.kp c_taken_number.b .nil pass0 (pa_cons (pv 1) pa_nil)))
      (pss_one (ps_ret (pe_tup (pa_cons pe_str (pa_cons (pv 4) (pa_cons (pe_call c_taken_number.ok (hr.mono (by omega)) (by rfl) c_taken_number.g c_taken_number.kp c_taken_number.b .nil pass0 (pa_cons (pv 1) pa_nil)) pa_nil))))))) pss_nil)
      (pss_cons (ps_if (pt_cmpR op_eq (pv 3) pe_str (nomark _)) (pss_cons (ps_set (i := 5) sc_taken_tree.nd rfl (Or.inl rfl) (pe_call c_taken_number.ok (hr.mono (by omega)) (by rfl) c_taken_number.g c_taken_number.kp c_taken_number.b .nil pass0 (pa_cons (pv 1) pa_nil)))
      (pss_one (ps_ret (pe_tup (pa_cons pe_str (pa_cons (pv 5) (pa_cons (pe_call c_taken_tree.ok (hr.mono (by omega)) (by rfl) c_taken_tree.g c_taken_tree.kp c_taken_tree.b .nil pass0 (pa_cons (pv 0) (pa_cons (pv 1) (pa_cons (pe_op op_add (pv 2) pe_int) pa_nil)))) pa_nil))))))) pss_nil)
      (pss_cons (ps_if (pt_cmpR op_eq (pv 3) pe_str (nomark _)) (pss_cons (ps_set (i := 6) sc_taken_tree.nd rfl (Or.inl rfl) (pe_call c_taken_number.ok (hr.mono (by omega)) (by rfl) c_taken_number.g c_taken_number.kp c_taken_number.b .nil pass0 (pa_cons (pv 1) pa_nil)))
      (pss_one (ps_ret (pe_tup (pa_cons pe_str (pa_cons (pv 6) (pa_cons (pe_call c_taken_branches.ok (hr.mono (by omega)) (by rfl) c_taken_branches.g c_taken_branches.kp c_taken_branches.b .nil pass0 (pa_cons (pv 0) (pa_cons (pv 1) (pa_cons (pe_op op_add (pv 2) pe_int) pa_nil)))) pa_nil))))))) pss_nil)
      (pss_one (ps_ret pe_non))))))), ?_⟩
      have lt := tl_len ws
      refine ⟨_, rfl, a, ws, H0, rfl, W, fun H1 W1 => ?_⟩
      refine ⟨_, rfl, _, _, rfl, rfl, _, rfl, ite2 (fun hb => ?_) (fun hb => ?_)⟩
      · exact q _ _ _ _ _ (Ex.refl _) W1 hW.tail .non rfl (by show 1 + _ ≤ _; omega) (by show 0 + _ ≤ _; omega)
      have hdd : d ≤ 40 := Nat.le_of_not_lt fun z => hb (decide_eq_true (by omega))
      have hne : ∀ {z : Str}, V.str (tx (ws.headD [])) = V.str z → z.length ≠ 0 → ws.tail.length + 1 = ws.length := fun {z} e hz => tl_lt fun q => by
        rw [q] at e
        cases e
        exact hz rfl
      refine ⟨_, rfl, rfl, _, rfl, ite2 (fun hb => ?_) (fun _ => ?_)⟩
      · have l1 := hne (of_decide_eq_true hb) (by decide)
        have l2 := tl_len ws.tail
        have l3 := tl_len ws.tail.tail
        refine ⟨_, rfl, a, _, H0, rfl, W1, hW.tail, fun H2 i W2 => ?_⟩
        refine ⟨_, rfl, _, rfl, a, _, H0, rfl, W2, hW.tail.tail, fun H3 j W3 => ⟨by show 3 ≤ sizeLine; decide, fun r hr => ?_⟩⟩
        obtain ⟨W5, e5⟩ := W3.made (o := .tup [.str "go", .int i, .int j]) hr
        exact q _ _ _ (.seq true [.str "go", .int i, .int j]) _ e5 W5 hW.tail.tail.tail (.seq upd_same (.cons (.str _) (.cons (.int _) (.cons (.int _) .nil)))) rfl (by show 0 + 1 + 1 + 1 + 1 + _ ≤ _; omega) (by show 1 + (0 + (0 + 0)) + _ ≤ _; omega)
      refine ⟨_, rfl, rfl, _, rfl, ite2 (fun hb => ?_) (fun _ => ?_)⟩
      · have l1 := hne (of_decide_eq_true hb) (by decide)
        have l2 := tl_len ws.tail
        refine ⟨_, rfl, a, _, H0, rfl, W1, hW.tail, fun H2 i W2 => ?_⟩
        refine ⟨_, rfl, _, rfl, _, rfl, _, rfl, _, _, rfl, rfl, a, L, d + 1, _, H0, rfl, by omega, by omega, hL, W2, hW.tail.tail, fun H3 H4 v gg ws' e3 W3 hU3 hv tv sv sv2 => ⟨by show 3 ≤ sizeLine; decide, fun r hr => ?_⟩⟩
        obtain ⟨W5, e5⟩ := W3.made (o := .tup [.str "tell", .int i, v]) hr
        refine q _ _ _ (.seq true [.str "tell", .int i, gg]) _ (e3.trans e5) W5 hU3 (.seq upd_same (.cons (.str _) (.cons (.int _) (.cons (hv.ex e5) .nil)))) ?_ ?_ (by show 1 + (0 + (nst gg + 0)) + _ ≤ _; omega)
        · show (true && (true && (true && (allT gg && true)))) = true
          rw [tv]
          rfl
        · show 1 + (1 + (gg.size + 0)) + 1 + _ ≤ _
          omega
      refine ⟨_, rfl, rfl, _, rfl, ite2 (fun hb => ?_) (fun _ => ?_)⟩
      · have l1 := hne (of_decide_eq_true hb) (by decide)
        have l2 := tl_len ws.tail
        refine ⟨_, rfl, a, _, H0, rfl, W1, hW.tail, fun H2 i W2 => ?_⟩
        refine ⟨_, rfl, _, rfl, _, rfl, _, rfl, _, _, rfl, rfl, a, L, d + 1, _, H0, rfl, by omega, by omega, hL, W2, hW.tail.tail, fun H3 H4 b' vs' gs ws' e3 W3 hU3 hb' hv tv sv sv2 => ⟨by show 3 ≤ sizeLine; decide, fun r hr => ?_⟩⟩
        obtain ⟨W5, e5⟩ := W3.made (o := .tup [.str "read", .int i, .ref b']) hr
        refine q _ _ _ (.seq true [.str "read", .int i, .seq true gs]) _ (e3.trans e5) W5 hU3 (.seq upd_same (.cons (.str _) (.cons (.int _) (.cons (.seq (e5 _ _ hb') (hv.ex e5)) .nil)))) ?_ ?_ (by show 1 + (0 + (nsts gs + 0)) + _ ≤ _; omega)
        · show (true && (true && (true && ((true && allTs gs) && true)))) = true
          rw [tv]
          rfl
        · show 1 + (1 + (Gt.sizes gs + 1 + 0)) + 1 + _ ≤ _
          omega
      exact q _ _ _ _ _ (Ex.refl _) W1 hW.tail .non rfl (by show 1 + _ ≤ _; omega) (by show 0 + _ ≤ _; omega)
end
end Law

namespace TT
open PySem PySem.Spec PyProof.Rows L2 TR
theorem dw_sub (p : Nat → Bool) (l : List Nat) : (l.dropWhile p).Sublist l := List.dropWhile_sublist p
theorem strip_sub (l : List Nat) : (strip l).Sublist l := by
  unfold strip
  have h1 := dw_sub goes l
  have h2 := (dw_sub goes (l.dropWhile goes).reverse).reverse
  rw [List.reverse_reverse] at h2
  exact h2.trans h1
theorem cut_asc : ∀ {l w : List Nat}, Asc l → w ∈ cut l → Asc w
  | [], w, _, h => by
    rw [List.mem_singleton.mp h]
    exact fun c hc => (List.not_mem_nil hc).elim
  | c :: r, w, ha, h => by
    have hr : Asc r := fun d hd => ha d (List.mem_cons_of_mem _ hd)
    by_cases hc : c = 32
    · subst hc
      rw [cut_hit] at h
      rcases List.mem_cons.mp h with q | q
      · rw [q]
        exact fun c hc => (List.not_mem_nil hc).elim
      · exact cut_asc hr q
    · obtain ⟨u, us, e1, e2⟩ := cut_miss (r := r) hc
      rw [e2] at h
      rcases List.mem_cons.mp h with q | q
      · have := cut_asc (l := r) (w := u) hr (by rw [e1]; exact List.mem_cons_self)
        rw [q]
        exact fun d hd => by
          rcases List.mem_cons.mp hd with z | z
          · rw [z]
            exact ha c List.mem_cons_self
          · exact this d z
      · exact cut_asc (l := r) hr (by rw [e1]; exact List.mem_cons_of_mem _ q)
theorem tok_len (l : List Nat) : (tok l).length ≤ l.length + 1 := by
  unfold tok
  rw [List.length_map]
  exact cut_len l
theorem tok_mem {l w : List Nat} (ha : Asc l) (h : w ∈ tok l) : Asc w ∧ w.length ≤ l.length := by
  unfold tok at h
  obtain ⟨u, hu, rfl⟩ := List.mem_map.mp h
  have s := strip_sub u
  exact ⟨fun c hc => cut_asc ha hu c (s.subset hc), Nat.le_trans s.length_le (cut_part hu)⟩
end TT
namespace GX
open PySem PySem.Spec PyProof.Rows L2 Evl TR Law
/-- a right tree of tuples is a tree -/
theorem ga_tr {H : Hp} {l w n : Nat} : ∀ {d : Nat} {g : Gt} {v : V}, Rt l w n d g → allT g = true → GA H v g → ∃ t, TA true H v t ∧ t.ok l w n ∧ t.depth ≤ d ∧ t.size = nst g := by
  intro d g v hR
  induction hR generalizing v with
  | @mk d g hp hk ih =>
    intro ha hv
    unfold isP at hp
    split at hp
    · rename_i k h a r
      unfold allT at ha
      rw [Bool.and_eq_true] at ha
      obtain ⟨rfl, ha⟩ := ha
      have har : allT r = true := allTs_mem ha (by simp)
      obtain ⟨b, x, y, z, rfl, hb, hx, hy, hz⟩ := ga3 hv
      by_cases h1 : hd "read" h = true
      · rw [if_pos h1, Bool.and_eq_true] at hp
        obtain ⟨h, rfl⟩ : ∃ y, h = .str y := by
          cases h <;> first | exact ⟨_, rfl⟩ | cases h1
        obtain rfl : h = "read" := of_decide_eq_true h1
        obtain ⟨i, rfl⟩ : ∃ i, a = .int i := by
          cases a <;> first | exact ⟨_, rfl⟩ | cases hp.1
        have hi : (decide ((0 : Int) ≤ i) && decide (i ≤ (w : Int))) = true := hp.1
        rw [Bool.and_eq_true, decide_eq_true_eq, decide_eq_true_eq] at hi
        obtain ⟨j, rfl⟩ : ∃ j : Nat, i = (j : Int) := ⟨i.toNat, (Int.toNat_of_nonneg hi.1).symm⟩
        obtain ⟨k', gs, rfl⟩ : ∃ k' gs, r = .seq k' gs := by
          cases r <;> first | exact ⟨_, _, rfl⟩ | cases hp.2
        have hl : gs.length = l := of_decide_eq_true hp.2
        unfold allT at har
        rw [Bool.and_eq_true] at har
        obtain ⟨rfl, har⟩ := har
        have hkid : kids (.seq true [.str "read", .int (j : Int), .seq true gs]) = gs := by
          unfold kids
          exact if_pos h1
        rw [hkid] at ih hk
        obtain ⟨c, us, rfl, hc, hus⟩ := ga_seq hz
        cases ga_str hx
        cases ga_int hy
        have key : ∀ {gs : List Gt} {us : List V}, (∀ g ∈ gs, ∀ {v : V}, allT g = true → GA H v g → ∃ t, TA true H v t ∧ t.ok l w n ∧ t.depth ≤ d ∧ t.size = nst g) → allTs gs = true → GAs H us gs → ∃ ts : Trs, TAs true H us ts ∧ ts.ok l w n ∧ ts.depth ≤ d ∧ ts.list.length = gs.length ∧ ts.size = nsts gs := by
          intro gs
          induction gs with
          | nil =>
            intro us _ _ hu
            cases hu
            exact ⟨.nil, .nil, True.intro, Nat.zero_le _, rfl, rfl⟩
          | cons g gs ihg =>
            intro us hh hat hu
            cases hu with
            | cons h1 h2 =>
              unfold allTs at hat
              rw [Bool.and_eq_true] at hat
              obtain ⟨t, a1, a2, a3, a4⟩ := hh g List.mem_cons_self hat.1 h1
              obtain ⟨ts, b1, b2, b3, b4, b5⟩ := ihg (fun x hx => hh x (List.mem_cons_of_mem _ hx)) hat.2 h2
              refine ⟨.cons t ts, .cons a1 b1, ⟨a2, b2⟩, ?_, ?_, ?_⟩
              · show max t.depth ts.depth ≤ d
                omega
              · show ts.list.length + 1 = gs.length + 1
                omega
              · show t.size + ts.size = nst g + nsts gs
                omega
        obtain ⟨ts, b1, b2, b3, b4, b5⟩ := key ih har hus
        refine ⟨.read j ts, .read hb hc b1, ⟨by omega, by omega, b2⟩, ?_, ?_⟩
        · show ts.depth + 1 ≤ d + 1
          omega
        · show ts.size + 1 = 1 + (0 + (nsts gs + 0))
          omega
      rw [if_neg h1] at hp
      by_cases h2 : hd "tell" h = true
      · rw [if_pos h2] at hp
        obtain ⟨h, rfl⟩ : ∃ y, h = .str y := by
          cases h <;> first | exact ⟨_, rfl⟩ | cases h2
        obtain rfl : h = "tell" := of_decide_eq_true h2
        obtain ⟨i, rfl⟩ : ∃ i, a = .int i := by
          cases a <;> first | exact ⟨_, rfl⟩ | cases hp
        have hi : (decide ((0 : Int) ≤ i) && decide (i ≤ (2 : Int))) = true := hp
        rw [Bool.and_eq_true, decide_eq_true_eq, decide_eq_true_eq] at hi
        obtain ⟨j, rfl⟩ : ∃ j : Nat, i = (j : Int) := ⟨i.toNat, (Int.toNat_of_nonneg hi.1).symm⟩
        have hkid : kids (.seq true [.str "tell", .int (j : Int), r]) = [r] := by
          unfold kids
          exact (if_neg h1).trans (if_pos h2)
        rw [hkid] at ih
        cases ga_str hx
        cases ga_int hy
        obtain ⟨t, a1, a2, a3, a4⟩ := ih r List.mem_cons_self har hz
        refine ⟨.tell j t, .tell hb a1, ⟨by omega, a2⟩, ?_, ?_⟩
        · show t.depth + 1 ≤ d + 1
          omega
        · show t.size + 1 = 1 + (0 + (nst r + 0))
          omega
      rw [if_neg h2] at hp
      by_cases h3 : hd "go" h = true
      · rw [if_pos h3, Bool.and_eq_true] at hp
        obtain ⟨h, rfl⟩ : ∃ y, h = .str y := by
          cases h <;> first | exact ⟨_, rfl⟩ | cases h3
        obtain rfl : h = "go" := of_decide_eq_true h3
        obtain ⟨i, rfl⟩ : ∃ i, a = .int i := by
          cases a <;> first | exact ⟨_, rfl⟩ | cases hp.1
        obtain ⟨i2, rfl⟩ : ∃ i, r = .int i := by
          cases r <;> first | exact ⟨_, rfl⟩ | cases hp.2
        have hi : (decide ((1 : Int) ≤ i) && decide (i ≤ (w : Int) + 1)) = true := hp.1
        have hi2 : (decide ((0 : Int) ≤ i2) && decide (i2 ≤ (n : Int) - 1)) = true := hp.2
        rw [Bool.and_eq_true, decide_eq_true_eq, decide_eq_true_eq] at hi hi2
        obtain ⟨j, rfl⟩ : ∃ j : Nat, i = (j : Int) := ⟨i.toNat, (Int.toNat_of_nonneg (by omega)).symm⟩
        obtain ⟨j2, rfl⟩ : ∃ j : Nat, i2 = (j : Int) := ⟨i2.toNat, (Int.toNat_of_nonneg (by omega)).symm⟩
        cases ga_str hx
        cases ga_int hy
        cases ga_int hz
        refine ⟨.go j j2, .go hb, ⟨by omega, by omega, by omega⟩, ?_, rfl⟩
        show 1 ≤ d + 1
        omega
      rw [if_neg h3] at hp
      cases hp
    · cases hp
theorem fwG_rt {l w n : Nat} {g : Gt} (h : (Law.fwG l w n g).1 = false) : Rt l w n 40 g := by
  have : fwF l w n g.size [(g, 1)] 0 = (false, (Law.fwG l w n g).2) := by
    rw [← h]
    rfl
  exact fw_rt this (by rw [Law.tot_one]; exact Nat.le_refl _) (g, 1) (List.mem_singleton.mpr rfl)
end GX
namespace Law
open PySem PySem.Spec PyProof.Rows L2 Evl TR GX EK
theorem FnOk_or {P : Program} {w : World} {K : PySem.W.Frag} {mg : Str → Option Value} {base : Heap} {CX : CXT} {k : Nat} {f : Addr} {fd : FuncData} {ps : List Str} {s1 s2 : Sp} (a : FnOk P w K mg base CX k f fd ps s1) (b : FnOk P w K mg base CX k f fd ps s2) :
    FnOk P w K mg base CX k f fd ps (fun vs H Q E => s1 vs H Q E ∨ s2 vs H Q E) :=
  ⟨fun vs H Q E h => h.elim (a.len _ _ _ _) (b.len _ _ _ _), fun A outer s H args us vs Q E hr e0 hb hv h => h.elim (a.run A outer s H args us vs Q E hr e0 hb hv) (b.run A outer s H args us vs Q E hr e0 hb hv)⟩
theorem dct_step {x : List Nat} {i : Nat} (h : ST.dct (x.map sg) (i + 1) = i + 1) : ST.dct (x.map sg) i = i ∧ ((x.map sg).take i).any (· == (x.map sg).getD i Str.empty) = false := by
  have h1 := ST.dct_le (x.map sg) i
  unfold ST.dct at h
  by_cases q : ((x.map sg).take i).any (· == (x.map sg).getD i Str.empty) = true
  · rw [if_pos q] at h
    omega
  · rw [if_neg q] at h
    exact ⟨by omega, (Bool.not_eq_true _).mp q⟩
theorem dct_nd {x : List Nat} : ∀ i, i ≤ x.length → ST.dct (x.map sg) i = i → (x.take i).Nodup
  | 0, _, _ => by simp
  | i + 1, hi, h => by
    obtain ⟨h1, h2⟩ := dct_step h
    have ih := dct_nd i (by omega) h1
    have hx : x[i]? = some x[i] := List.getElem?_eq_getElem (by omega)
    rw [List.take_add_one, hx]
    refine List.nodup_append.mpr ⟨ih, by simp, fun c hc d hd e => ?_⟩
    have hd2 : d = x[i] := by simpa using hd
    have hn : ∀ y ∈ (x.map sg).take i, ¬ (y == (x.map sg).getD i Str.empty) = true := List.any_eq_false.mp h2
    refine hn (sg c) ?_ ?_
    · rw [← List.map_take]
      exact List.mem_map.mpr ⟨c, hc, rfl⟩
    · rw [List.getD_eq_getElem?_getD, List.getElem?_map, hx, e, hd2]
      exact beq_self_eq_true _
theorem areB_lg {x : List Nat} (h : areB x = true) : LG x := by
  unfold areB at h
  rw [Bool.and_eq_true, Bool.and_eq_true, decide_eq_true_eq, decide_eq_true_eq, List.all_eq_true] at h
  obtain ⟨h1, h2, h3⟩ := h
  refine ⟨h1.1, h1.2, fun c hc => ?_, ?_⟩
  · have := h2 c hc
    unfold azB at this
    rw [Bool.and_eq_true, decide_eq_true_eq, decide_eq_true_eq] at this
    exact this
  · have := dct_nd x.length (Nat.le_refl _) h3
    rw [List.take_length] at this
    exact this
def widB (l : List Nat) : Bool := match l with
  | [c] => decide (49 ≤ c) && decide (c ≤ 56)
  | _ => false
def spRouW : Sp := fun vs H Q _ => ∃ (L l : List Nat), vs = [.str (tx L), .str (tx l)] ∧ L.length ≤ 4 ∧ TT.Asc l ∧ l.length ≤ 1900 ∧ ∀ H' v g, Ex H H' → GA H' v g → allT g = true → g.size ≤ 90000 → nst g ≤ 1950 → Q v H'
def spWidG : Sp := fun vs H Q _ => ∃ l, vs = [.str (tx l)] ∧ l.length ≤ 9000 ∧ ∀ H', Ex H H' → Q (.bl (widB l)) H'
section
variable {P : Program} {w : World} {K : PySem.W.Frag} {mg : Str → Option Value} {base : Heap}
theorem ok_rouW {f : Addr} {fd : FuncData} (F : Fun K "rough_tree" "rough_tree" s_rough_tree f fd) (T : Tx mg) (c_taken_tree : Kn P w K mg base "_taken_tree" ["letters", "words", "depth"] 83 (spTreW 40)) : FnOk P w K mg base CX0 84 f fd ["letters", "line"] spRouW := by
  refine F.ok sc_rough_tree (fun vs H Q E h => ?_) (fun cdv A outer s H vs Q E hr h => ?_)
  · obtain ⟨L, l, rfl, _⟩ := h
    rfl
  · obtain ⟨L, l, rfl, hL, ha, hl, q⟩ := h
    refine ⟨_, (pss_cons (ps_setLc (i := 2) (own := [("word", 3)]) (g := gName 3) (tt := tYes) rfl sc_rough_tree.nd rfl rfl (sw_true rfl rfl rfl (by decide +kernel)) (pi_list (pe_split (pv 1) pe_str)) (blkOk_by (N := N_rough_tree) (sc := defScope s_rough_tree) (by decide +kernel)) (fun _ _ _ _ _ => (pg_name (i := 3) sc_rough_tree.nd rfl (Or.inl rfl))) (fun _ _ _ _ _ => pts_nil) (fun _ _ _ _ _ => (pe_m1 PySem.F.slot_str_strip PySem.F.type_str_strip mt_stripChars (pv 3) pe_str)))
      (pss_cons (ps_expr (pe_bm0 PySem.F.plainAttrs_list PySem.F.slot_list_reverse PySem.F.type_list_reverse mt_reverse (pv 2)))
      (pss_one (ps_ret (pe_call c_taken_tree.ok (hr.mono (by decide)) (by rfl) c_taken_tree.g c_taken_tree.kp c_taken_tree.b .nil pass0 (pa_cons (pv 0) (pa_cons (pv 2) (pa_cons pe_int pa_nil)))))))), ?_⟩
    have hcl := TT.cut_len l
    have htl := TT.tok_len l
    rw [lit_blank, lit_marks]
    refine ⟨_, rfl, ⟨_, rfl⟩, _, _, rfl, rfl, by decide, sz_of (by rw [tx_len]; omega), fun p hp => ?_⟩
    rw [show Txt.split (tx l) (TT.S [32]) = (TT.cut l).map TT.S from TT.split_cut _]
    refine ⟨p, rfl, ⟨_, sq_of upd_same⟩, fun D hD => ?_⟩
    have e0 : Ex H (L2.upd H p (.lst (((TT.cut l).map TT.S).map V.str))) := Ex.new hp
    have g0 : (L2.upd H p (.lst (((TT.cut l).map TT.S).map V.str))) p = some (.lst (((TT.cut l).map TT.S).map V.str)) := upd_same
    generalize (L2.upd H p (.lst (((TT.cut l).map TT.S).map V.str))) = H1 at e0 g0 hD ⊢
    refine lc_list (g := gName 3) (tt := tYes) (vs := [3]) (fun i H' => Ex H1 H' ∧ H' D = some (.lst ((((TT.tok l).take i).map TT.S).map V.str))) ⟨Ex.new hD, upd_same⟩ (fun i H' _ pp => sq_of (pp.1 _ _ g0)) (fun i x H' hx pp => ?_) (fun H' pp => ?_)
    · obtain ⟨e6, hz⟩ := pp
      obtain ⟨u, hu, rfl⟩ : ∃ u, (TT.cut l)[i]? = some u ∧ x = .str (TT.S u) := by
        rw [List.getElem?_map, List.getElem?_map] at hx
        cases hc : (TT.cut l)[i]? with
        | none => rw [hc] at hx; cases hx
        | some u =>
          rw [hc] at hx
          exact ⟨u, rfl, (Option.some.inj hx).symm⟩
      have lu := TT.cut_part (List.mem_of_getElem? hu)
      have hi := (List.getElem?_eq_some_iff.mp hu).1
      have hk : (TT.tok l)[i]? = some (TT.strip u) := by
        unfold TT.tok
        rw [List.getElem?_map, hu]
        rfl
      refine ⟨rfl, _, rfl, ⟨_, rfl⟩, _, _, rfl, rfl, sz_of (by rw [TT.S_len]; omega), ?_⟩
      rw [TT.strip_S]
      refine ⟨_, hz, ?_, e6.mut hD, ?_⟩
      · rw [List.length_map, List.length_map, List.length_take]
        exact sz_lt (by omega)
      · rw [upd_same, take_next' hk, List.map_append, List.map_append]
        rfl
    · obtain ⟨e6, hz⟩ := pp
      rw [show (((TT.cut l).map TT.S).map V.str).length = (TT.tok l).length by unfold TT.tok; simp, List.take_length] at hz
      refine ⟨_, rfl, .inl ⟨rfl, _, sq_of hz⟩, D, _, rfl, rfl, hz, ?_⟩
      refine ⟨_, rfl, _, rfl, D, L, 1, TT.tok l, H1, rfl, by decide, by decide, hL, ⟨e6.mut hD, hD, ?_⟩, fun u hu => ?_, fun H2 H3 v g ws' e2 W3 _ hv tv sv sv2 => ?_⟩
      · rw [upd_same]
        unfold TT.wl
        rw [List.map_reverse, List.map_reverse]
      · obtain ⟨a1, a2⟩ := TT.tok_mem ha hu
        exact ⟨a1, by omega⟩
      · exact q _ _ _ ((e0.trans e2).trans W3.1) (GA.ex W3.1 hv) tv (by omega) (by omega)
theorem ok_widG {f : Addr} {fd : FuncData} (F : Fun K "_is_width" "_is_width" s_is_width f fd) (T : Tx mg) : FnOk P w K mg base CX0 1 f fd ["text"] spWidG := by
  refine F.ok sc_is_width (fun vs H Q E h => ?_) (fun cdv A outer s H vs Q E hr h => ?_)
  · obtain ⟨l, rfl, _⟩ := h
    rfl
  · obtain ⟨l, rfl, hl, q⟩ := h
    refine ⟨_, (pss_one (ps_ret (pe_and (pe_cmpR op_eq (pe_callB call_len_str (by rfl) T.len PySem.boot_len (pa_cons (pv 0) pa_nil)) pe_int (nomark _)) (pe_one (pe_chain op_le_str op_le_str pe_str (pv 0) (pe_callTy call_str_int (by rfl) T.str PyProof.Rows.boot_str (pa_cons (pe_glob (v := .int 8) rfl T.m_MOST_WIDTH ⟨_, rfl⟩) pa_nil))))))), ?_⟩
    by_cases h1 : l.length = 1
    · obtain ⟨c, rfl⟩ : ∃ c, l = [c] := List.length_eq_one_iff.mp h1
      have hw : widB [c] = (decide (49 ≤ c) && decide (c ≤ 56)) := rfl
      refine ⟨_, rfl, _, rfl, tx_le (by omega), rfl, true, rfl, ?_⟩
      have k1 : (!decide ((tx [c]).cps.toList < (Str.ofString "1").cps.toList)) = decide (49 ≤ c) := by
        by_cases h : 49 ≤ c
        · rw [decide_eq_true h, show (Str.ofString "1").cps.toList = [49] by decide +kernel, show (tx [c]).cps.toList = [c] from rfl, decide_eq_false]
          · rfl
          · rw [List.cons_lt_cons_iff]
            intro z
            rcases z with z | z
            · omega
            · exact absurd z.2 (by simp)
        · rw [decide_eq_false h, show (Str.ofString "1").cps.toList = [49] by decide +kernel, show (tx [c]).cps.toList = [c] from rfl, decide_eq_true]
          · rfl
          · rw [List.cons_lt_cons_iff]
            exact .inl (by omega)
      have k2 : (!decide ((Str.ofString (toString (8 : Int))).cps.toList < (tx [c]).cps.toList)) = decide (c ≤ 56) := by
        by_cases h : c ≤ 56
        · rw [decide_eq_true h, show (Str.ofString (toString (8 : Int))).cps.toList = [56] by decide +kernel, show (tx [c]).cps.toList = [c] from rfl, decide_eq_false]
          · rfl
          · rw [List.cons_lt_cons_iff]
            intro z
            rcases z with z | z
            · omega
            · exact absurd z.2 (by simp)
        · rw [decide_eq_false h, show (Str.ofString (toString (8 : Int))).cps.toList = [56] by decide +kernel, show (tx [c]).cps.toList = [c] from rfl, decide_eq_true]
          · rfl
          · rw [List.cons_lt_cons_iff]
            exact .inl (by omega)
      refine ⟨_, rfl, _, _, rfl, rfl, _, rfl, ite2 (fun hb => ?_) (fun hb => ?_)⟩
      · refine ⟨_, rfl, by decide, _, _, rfl, rfl, ?_⟩
        rw [k1] at hb
        rw [k2]
        have := q H (Ex.refl _)
        rw [hw, hb, Bool.true_and] at this
        exact this
      · rw [k1] at hb
        have := q H (Ex.refl _)
        rw [hw, show decide (49 ≤ c) = false by simpa using hb, Bool.false_and] at this
        exact this
    · refine ⟨_, rfl, _, rfl, sz_of (by rw [tx_len]; omega), rfl, false, ?_, ?_⟩
      · refine congrArg V.bl (decide_eq_false fun z => h1 ?_)
        have := V.int.inj z
        rw [tx_len] at this
        omega
      · have := q H (Ex.refl _)
        rw [show widB l = false by
          unfold widB
          split
          · exact absurd rfl h1
          · rfl] at this
        exact this
end
end Law

/-! texts cut at line feeds, and put together again -/
namespace TT
open PySem PySem.Spec PyProof.Rows L2 TR
def ln : List Nat → List (List Nat)
  | [] => [[]]
  | c :: r => if c = 10 then [] :: ln r else match ln r with
    | [] => [[c]]
    | w :: ws => (c :: w) :: ws
theorem ln_ne : ∀ l, ln l ≠ []
  | [], h => by cases h
  | c :: r, h => by
    unfold ln at h
    split at h
    · cases h
    · split at h <;> cases h
theorem ln_miss {c : Nat} {r : List Nat} (h : c ≠ 10) : ∃ w ws, ln r = w :: ws ∧ ln (c :: r) = (c :: w) :: ws := by
  cases e : ln r with
  | nil => exact absurd e (ln_ne r)
  | cons w ws =>
    refine ⟨w, ws, rfl, ?_⟩
    show (if c = 10 then [] :: ln r else match ln r with | [] => [[c]] | w :: ws => (c :: w) :: ws) = _
    rw [if_neg h, e]
theorem ln_hit (r : List Nat) : ln (10 :: r) = [] :: ln r := rfl
theorem spl_ln : ∀ (l acc : List Nat), TL.spl [10] 0 acc l = match ln l with | [] => [] | w :: ws => (acc ++ w) :: ws
  | [], acc => by
    show [acc] = [acc ++ []]
    rw [List.append_nil]
  | c :: r, acc => by
    by_cases h : c = 10
    · subst h
      rw [TL.spl_hit (show TL.pre [10] (10 :: r) = true from TL.pre_self [10] r), ln_hit]
      show acc :: TL.spl [10] 0 [] r = _
      rw [spl_ln r []]
      show _ = (acc ++ []) :: ln r
      rw [List.append_nil]
      cases e : ln r with
      | nil => exact absurd e (ln_ne r)
      | cons w ws => rfl
    · rw [TL.spl_miss (TL.pre_of_head [] r h), spl_ln r (acc ++ [c])]
      obtain ⟨w, ws, e1, e2⟩ := ln_miss (r := r) h
      rw [e1, e2]
      show (acc ++ [c] ++ w) :: ws = (acc ++ c :: w) :: ws
      rw [List.append_assoc]
      rfl
theorem nl_S : Str.ofString "\n" = S [10] := by decide +kernel
theorem split_ln (l : List Nat) : Txt.split (S l) (Str.ofString "\n") = (ln l).map S := by
  rw [nl_S]
  refine TL.map_tl_inj ?_
  rw [TL.split_spl _ _ (by rw [tl_S]; simp) (TL.kind_ok (by decide +kernel)), tl_S, tl_S, spl_ln, List.map_map]
  cases e : ln l with
  | nil => exact absurd e (ln_ne l)
  | cons w ws =>
    have e2 : (TL.tl ∘ S) = id := funext fun x => tl_S x
    rw [e2, List.map_id]
    rfl
theorem ln_app : ∀ a b : List Nat, ln (a ++ 10 :: b) = ln a ++ ln b
  | [], b => rfl
  | c :: r, b => by
    rw [List.cons_append]
    by_cases h : c = 10
    · subst h
      rw [ln_hit, ln_hit, ln_app r b]
      rfl
    · obtain ⟨w, ws, e1, e2⟩ := ln_miss (r := r) h
      obtain ⟨w', ws', e3, e4⟩ := ln_miss (r := r ++ 10 :: b) h
      rw [ln_app r b, e1] at e3
      rw [List.cons_append] at e3
      injection e3 with q1 q2
      rw [e4, e2, ← q1, ← q2]
      rfl
theorem ln_sum : ∀ l : List Nat, ((ln l).map List.length).sum + (ln l).length = l.length + 1
  | [] => rfl
  | c :: r => by
    have ih := ln_sum r
    by_cases h : c = 10
    · subst h
      rw [ln_hit, List.map_cons, List.sum_cons, List.length_cons, List.length_cons]
      show 0 + _ + (_ + 1) = _
      omega
    · obtain ⟨w, ws, e1, e2⟩ := ln_miss (r := r) h
      rw [e1] at ih
      rw [e2]
      simp only [List.map_cons, List.sum_cons, List.length_cons] at ih ⊢
      omega
theorem ln_mem : ∀ {l w : List Nat}, w ∈ ln l → ∀ c ∈ w, c ∈ l
  | [], w, h, c, hc => by
    rw [List.mem_singleton.mp h] at hc
    cases hc
  | d :: r, w, h, c, hc => by
    by_cases hd : d = 10
    · subst hd
      rw [ln_hit] at h
      rcases List.mem_cons.mp h with q | q
      · rw [q] at hc
        cases hc
      · exact List.mem_cons_of_mem _ (ln_mem q c hc)
    · obtain ⟨u, us, e1, e2⟩ := ln_miss (r := r) hd
      rw [e2] at h
      rcases List.mem_cons.mp h with q | q
      · rw [q] at hc
        rcases List.mem_cons.mp hc with z | z
        · rw [z]
          exact List.mem_cons_self
        · exact List.mem_cons_of_mem _ (ln_mem (l := r) (w := u) (by rw [e1]; exact List.mem_cons_self) c z)
      · exact List.mem_cons_of_mem _ (ln_mem (l := r) (by rw [e1]; exact List.mem_cons_of_mem _ q) c hc)
theorem ln_part {l w : List Nat} (h : w ∈ ln l) : w.length ≤ l.length := by
  have h1 := ln_sum l
  have h2 : ∀ {ps : List (List Nat)}, w ∈ ps → w.length + ps.length ≤ (ps.map List.length).sum + ps.length := by
    intro ps
    induction ps with
    | nil => intro z; cases z
    | cons p r ih =>
      intro z
      rw [List.map_cons, List.sum_cons, List.length_cons]
      rcases List.mem_cons.mp z with q | q
      · rw [q]
        omega
      · have := ih q
        omega
  have h3 := h2 h
  have h4 : 1 ≤ (ln l).length := List.length_pos_iff.mpr (ln_ne l)
  omega
theorem ln_join : ∀ {ps : List (List Nat)}, ps ≠ [] → ln (TL.joinL [10] ps) = (ps.map ln).flatten
  | [], h => absurd rfl h
  | [p], _ => by
    show ln p = ln p ++ []
    rw [List.append_nil]
  | p :: q :: r, _ => by
    show ln (p ++ ([10] ++ TL.joinL [10] (q :: r))) = ln p ++ ((q :: r).map ln).flatten
    rw [← ln_join (ps := q :: r) (by simp), ← ln_app]
    rfl
theorem join_parts {ps : List (List Nat)} {w : List Nat} (h : w ∈ ln (TL.joinL [10] ps)) : w = [] ∨ ∃ p ∈ ps, w ∈ ln p := by
  by_cases hp : ps = []
  · rw [hp] at h
    exact .inl (List.mem_singleton.mp h)
  · rw [ln_join hp] at h
    obtain ⟨l, hl, hw⟩ := List.mem_flatten.mp h
    obtain ⟨p, hp, rfl⟩ := List.mem_map.mp hl
    exact .inr ⟨p, hp, hw⟩
theorem join_mem {c : Nat} : ∀ {ps : List (List Nat)}, c ∈ TL.joinL [10] ps → c = 10 ∨ ∃ p ∈ ps, c ∈ p
  | [], h => by cases h
  | [p], h => .inr ⟨p, List.mem_cons_self, h⟩
  | p :: q :: r, h => by
    have h1 : c ∈ p ++ ([10] ++ TL.joinL [10] (q :: r)) := h
    rcases List.mem_append.mp h1 with z | z
    · exact .inr ⟨p, List.mem_cons_self, z⟩
    · rcases List.mem_append.mp z with z | z
      · exact .inl (List.mem_singleton.mp z)
      · rcases join_mem (ps := q :: r) z with y | ⟨u, hu, y⟩
        · exact .inl y
        · exact .inr ⟨u, List.mem_cons_of_mem _ hu, y⟩
theorem ln_joinS (ps : List (List Nat)) : Txt.join (Str.ofString "\n") (ps.map S) = S (TL.joinL [10] ps) := by
  refine TL.ext_tl ?_
  rw [TL.join_eq, TL.tl_join, List.map_map, show TL.tl (Str.ofString "\n") = [10] by decide +kernel, tl_S]
  have e2 : (TL.tl ∘ S) = id := funext fun x => tl_S x
  rw [e2, List.map_id]
theorem join_le (X : List Nat) : ∀ ps : List (List Nat), (TL.joinL X ps).length ≤ (ps.map List.length).sum + ps.length * X.length
  | [] => Nat.zero_le _
  | [p] => by
    show p.length ≤ p.length + 0 + 1 * X.length
    omega
  | p :: q :: r => by
    have := join_le X (q :: r)
    show (p ++ (X ++ TL.joinL X (q :: r))).length ≤ (p.length + ((q :: r).map List.length).sum) + ((q :: r).length + 1) * X.length
    rw [List.length_append, List.length_append, Nat.succ_mul]
    omega
/-! ### what a bend leaves of the bounds -/
/-- a text of plain signs, its lines of so many at most -/
structure Bd (b m : Nat) (x : List Nat) : Prop where
  asc : Asc x
  lin : ∀ w ∈ ln x, w.length ≤ b
  len : x.length ≤ m
theorem Bd.more {b m b' m' : Nat} {x : List Nat} (h : Bd b m x) (h1 : b ≤ b') (h2 : m ≤ m') : Bd b' m' x := ⟨h.asc, fun w hw => Nat.le_trans (h.lin w hw) h1, Nat.le_trans h.len h2⟩
theorem bd_join {b m : Nat} {ps : List (List Nat)} (ha : ∀ p ∈ ps, Asc p ∧ p.length ≤ b) (hm : (ps.map List.length).sum + ps.length ≤ m + 1) (hm0 : ps = [] → True) : Bd b (m + 1) (TL.joinL [10] ps) := by
  refine ⟨fun c hc => ?_, fun w hw => ?_, ?_⟩
  · rcases join_mem hc with z | ⟨p, hp, z⟩
    · rw [z]
      decide
    · exact (ha p hp).1 c z
  · rcases join_parts hw with z | ⟨p, hp, z⟩
    · rw [z]
      exact Nat.zero_le _
    · exact Nat.le_trans (ln_part z) (ha p hp).2
  · have := join_le [10] ps
    rw [List.length_singleton, Nat.mul_one] at this
    omega
theorem sum_set {ls : List (List Nat)} {i : Nat} {y : List Nat} (hy : ls[i]? = some y) : (ls.map List.length).sum = ((ls.take i).map List.length).sum + y.length + ((ls.drop (i + 1)).map List.length).sum := by
  obtain ⟨hi, e⟩ := List.getElem?_eq_some_iff.mp hy
  have h := (List.take_append_drop i ls).symm
  rw [List.drop_eq_getElem_cons hi, e] at h
  have h2 := congrArg (fun l => (l.map List.length).sum) h
  simp only [List.map_append, List.sum_append, List.map_cons, List.sum_cons] at h2
  omega
/-! ### replaced -/
open PySem.StrLaws in
theorem repl_len {y z : List Nat} (hy : y ≠ []) (h : z.length ≤ 2 * y.length) : ∀ (n : Nat) (l : List Nat), l.length ≤ n → (replL y z l).length ≤ 2 * l.length ∧ ∀ c ∈ replL y z l, c ∈ l ∨ c ∈ z
  | n, [], _ => by
    rw [replL_nil]
    exact ⟨Nat.zero_le _, fun c hc => by cases hc⟩
  | 0, c :: r, hn => absurd hn (by show ¬ r.length + 1 ≤ 0; omega)
  | n + 1, c :: r, hn => by
    rw [List.length_cons] at hn
    by_cases hh : (c :: r).take y.length = y
    · rw [replL_hit hy hh]
      have hyl : 1 ≤ y.length := List.length_pos_iff.mpr hy
      have hl2 : ((c :: r).drop y.length).length ≤ n := by
        rw [List.length_drop, List.length_cons]
        omega
      obtain ⟨i1, i2⟩ := repl_len hy h n _ hl2
      have e := congrArg List.length hh
      rw [List.length_take, List.length_cons] at e
      constructor
      · rw [List.length_append]
        rw [List.length_drop, List.length_cons] at i1
        rw [List.length_cons]
        omega
      · intro d hd
        rcases List.mem_append.mp hd with q | q
        · exact .inr q
        · rcases i2 d q with q | q
          · exact .inl (List.mem_of_mem_drop q)
          · exact .inr q
    · rw [replL_miss hh]
      obtain ⟨i1, i2⟩ := repl_len hy h n r (by omega)
      constructor
      · rw [List.length_cons, List.length_cons]
        omega
      · intro d hd
        rcases List.mem_cons.mp hd with q | q
        · rw [q]
          exact .inl List.mem_cons_self
        · rcases i2 d q with q | q
          · exact .inl (List.mem_cons_of_mem _ q)
          · exact .inr q
theorem repl_S {x : List Nat} {y z : Str} (hy : 1 ≤ y.length) (h : z.length ≤ 2 * y.length) (hz : Asc (TL.tl z)) (hx : Asc x) : ∃ x', Txt.replace (S x) y z = S x' ∧ Asc x' ∧ x'.length ≤ 2 * x.length := by
  refine ⟨TL.tl (Txt.replace (S x) y z), TL.ext_tl (tl_S _).symm, ?_⟩
  have e : TL.tl (Txt.replace (S x) y z) = PySem.StrLaws.replL (TL.tl y) (TL.tl z) (TL.tl (S x)) := PySem.StrLaws.replace_list hy
  rw [e, tl_S]
  have hyl : TL.tl y ≠ [] := fun q => by
    have := congrArg List.length q
    rw [← TL.len_tl] at this
    have h0 : y.length = 0 := this
    omega
  obtain ⟨a, b⟩ := repl_len (y := TL.tl y) (z := TL.tl z) hyl (by rw [← TL.len_tl, ← TL.len_tl]; exact h) x.length x (Nat.le_refl _)
  refine ⟨fun c hc => ?_, a⟩
  rcases b c hc with q | q
  · exact hx c q
  · exact hz c q
end TT

namespace TT
open PySem PySem.Spec PyProof.Rows L2 TR
theorem nl_tl : TL.tl (Str.ofString "\n") = [10] := by decide +kernel
theorem bl_tl : TL.tl (Str.ofString " ") = [32] := by decide +kernel
/-- the head cut at the first blank -/
def hdA (h : List Nat) : List Nat := h.takeWhile (· != 32)
def hdB (h : List Nat) : List Nat := (h.dropWhile (· != 32)).drop 1
theorem tw_no (h : List Nat) : 32 ∉ hdA h := fun z => by
  have := (List.all_eq_true.mp (List.all_takeWhile (l := h) (p := (· != 32)))) 32 z
  simp at this
theorem part_hd (h : List Nat) : ∃ m, Txt.partition (S h) (Str.ofString " ") = (S (hdA h), m, S (hdB h)) := by
  have e := List.takeWhile_append_dropWhile (p := (· != 32)) (l := h)
  cases hd : h.dropWhile (· != 32) with
  | nil =>
    rw [hd, List.append_nil] at e
    refine ⟨Str.empty, ?_⟩
    have hA : hdA h = h := e
    have hB : hdB h = [] := by
      unfold hdB
      rw [hd]
      rfl
    rw [hA, hB]
    exact TL.partition_none bl_tl (by rw [tl_S, ← hA]; exact tw_no h)
  | cons c r =>
    have hc : c = 32 := by
      have : (h.dropWhile (· != 32)).head? = some c := by rw [hd]; rfl
      have h2 := List.head?_dropWhile_not (p := (· != 32)) (l := h)
      rw [this] at h2
      simpa using h2
    subst hc
    rw [hd] at e
    refine ⟨Str.ofString " ", ?_⟩
    have hB : hdB h = r := by
      unfold hdB
      rw [hd]
      rfl
    have e2 : S h = S (hdA h) ++ Str.ofString " " ++ S r := by
      refine TL.ext_tl ?_
      simp only [TL.tl_append, tl_S]
      rw [bl_tl]
      show h = hdA h ++ [32] ++ r
      rw [List.append_assoc]
      exact e.symm
    rw [hB, e2]
    exact TL.partition_app bl_tl (by rw [tl_S]; exact tw_no h)
theorem hd_app {L r : List Nat} (h : 32 ∉ L) : hdA (L ++ 32 :: r) = L ∧ hdB (L ++ 32 :: r) = r := by
  have h2 : ∀ c ∈ L, (c != 32) = true := fun c hc => by
    have : c ≠ 32 := fun z => h (z ▸ hc)
    simpa using this
  constructor
  · unfold hdA
    rw [List.takeWhile_append_of_pos h2]
    simp
  · unfold hdB
    rw [List.dropWhile_append_of_pos h2]
    simp
theorem hd_len (h : List Nat) : (hdA h).length ≤ h.length ∧ (hdB h).length ≤ h.length := by
  constructor
  · exact (List.takeWhile_sublist _).length_le
  · unfold hdB
    rw [List.length_drop]
    have := (List.dropWhile_sublist (l := h) (· != 32)).length_le
    omega
theorem hd_eq {h : List Nat} (hb : hdB h ≠ []) : h = hdA h ++ 32 :: hdB h := by
  have e := List.takeWhile_append_dropWhile (p := (· != 32)) (l := h)
  unfold hdB at hb ⊢
  cases hd : h.dropWhile (· != 32) with
  | nil =>
    rw [hd] at hb
    exact absurd rfl hb
  | cons c r =>
    have hc : c = 32 := by
      have : (h.dropWhile (· != 32)).head? = some c := by rw [hd]; rfl
      have h2 := List.head?_dropWhile_not (p := (· != 32)) (l := h)
      rw [this] at h2
      simpa using h2
    subst hc
    rw [hd] at e
    exact e.symm
end TT
namespace Law
open PySem PySem.Spec PyProof.Rows L2 Evl TR GX EK
/-- an error with its fields -/
def RzF (E : XK) (H : Hp) (C : Addr) (fs : List (Str × V)) : Prop := ∀ d H', Ex H H' → H d = none → H' d = some (.xd fs) → E (.ref C) (some d) H'
theorem RzF.ex {E : XK} {H H' : Hp} {C : Addr} {fs : List (Str × V)} (h : RzF E H C fs) (e : Ex H H') : RzF E H' C fs := fun d H2 e2 hd hx => h d H2 (e.trans e2) (fresh_back e hd) hx
/-- the first line of a right text -/
def HdOk (h L : List Nat) (w : Nat) : Prop := LG L ∧ 1 ≤ w ∧ w ≤ 8 ∧ h = L ++ [32, 48 + w]
inductive Ans where
  | line (i : Nat)
  | many (m : Nat)
  | sts (L : List Nat) (w : Nat) (ts : List Tr)
/-- what is due of these lines -/
inductive Is : List (List Nat) → Ans → Prop
  | head {h : List Nat} {r : List (List Nat)} : (∀ L w, ¬ HdOk h L w) → Is (h :: r) (.line 0)
  | many {h L : List Nat} {r : List (List Nat)} {w : Nat} : HdOk h L w → 64 < r.length → Is (h :: r) (.many r.length)
  | none {h L : List Nat} {w : Nat} : HdOk h L w → Is [h] (.line 1)
  | bad {h L l : List Nat} {r : List (List Nat)} {w i : Nat} : HdOk h L w → r.length ≤ 64 → (∀ (j : Nat) y, j < i → r[j]? = some y → ∃ t, TT.Rl L w r.length y t) → r[i]? = some l → (∀ t, ¬ TT.Rl L w r.length l t) → Is (h :: r) (.line (i + 1))
  | good {h L : List Nat} {r : List (List Nat)} {w : Nat} {ts : List Tr} : HdOk h L w → 1 ≤ r.length → r.length ≤ 64 → ts.length = r.length → (∀ (i : Nat) y t, r[i]? = some y → ts[i]? = some t → TT.Rl L w r.length y t) → Is (h :: r) (.sts L w ts)
structure TxOk (z : Str) (ls : List (List Nat)) : Prop where
  len : z.length ≤ 9000
  spl : Txt.split z (Str.ofString "\n") = ls.map TT.S
  ne : ls ≠ []
  ok : ∀ l ∈ ls, TT.Asc l ∧ l.length ≤ 1900
  sum : (ls.map List.length).sum ≤ 9000
  cnt : ls.length ≤ 9001
/-- what is met -/
def MetR (E : XK) (Q : VK) (H : Hp) (C CL CM : Addr) : Ans → Prop
  | .line i => RzF E H CL [("line", .int (i : Nat))]
  | .many m => RzF E H CM [("most", .int 64), ("many", .int (m : Nat)), ("what", .str "states")]
  | .sts L w ts => ∀ o H', Ex H H' → SObj C H' o L w ts → Q (.ref o) H'
def spReadG (K : PySem.W.Frag) (C CL CM : Addr) : Sp := fun vs H Q E => ∃ v, vs = [.ref C, v] ∧ ((∃ z ls a, v = .str z ∧ TxOk z ls ∧ Is ls a ∧ MetR E Q H C CL CM a) ∨ (NoS K H v ∧ RzF E H CL [("line", .int (0 : Nat))]))
theorem hd_of {h : List Nat} (h1 : areB (TT.hdA h) = true) (h2 : widB (TT.hdB h) = true) : ∃ w, HdOk h (TT.hdA h) w ∧ TT.hdB h = TT.num w := by
  have k : ∀ c < 57, 49 ≤ c → [c] = TT.num (c - 48) := by decide +kernel
  obtain ⟨c, hc⟩ : ∃ c, TT.hdB h = [c] := by
    unfold widB at h2
    split at h2
    · exact ⟨_, by assumption⟩
    · cases h2
  rw [hc] at h2
  have h3 : (decide (49 ≤ c) && decide (c ≤ 56)) = true := h2
  rw [Bool.and_eq_true, decide_eq_true_eq, decide_eq_true_eq] at h3
  have e := TT.hd_eq (h := h) (by rw [hc]; simp)
  refine ⟨c - 48, ⟨areB_lg h1, by omega, by omega, ?_⟩, ?_⟩
  · rw [hc] at e
    rw [show 48 + (c - 48) = c by omega]
    exact e
  · rw [hc]
    exact k c (by omega) h3.1
theorem hd_to {h L : List Nat} {w : Nat} (hh : HdOk h L w) : TT.hdA h = L ∧ TT.hdB h = TT.num w ∧ areB (TT.hdA h) = true ∧ widB (TT.hdB h) = true := by
  obtain ⟨hL, w1, w8, rfl⟩ := hh
  have h32 : 32 ∉ L := fun z => by
    have := (hL.az _ z).1
    omega
  obtain ⟨a, b⟩ := TT.hd_app (L := L) (r := [48 + w]) h32
  have k : ∀ w < 9, 1 ≤ w → [48 + w] = TT.num w ∧ widB [48 + w] = true := by decide +kernel
  obtain ⟨k1, k2⟩ := k w (by omega) w1
  exact ⟨a, by rw [← k1]; exact b, by rw [show TT.hdA (L ++ [32, 48 + w]) = L from a]; exact areB_good hL, by rw [show TT.hdB (L ++ [32, 48 + w]) = [48 + w] from b]; exact k2⟩
theorem hd_uni {h L L' : List Nat} {w w' : Nat} (a : HdOk h L w) (b : HdOk h L' w') : L = L' ∧ w = w' := by
  obtain ⟨a1, a2, _⟩ := hd_to a
  obtain ⟨b1, b2, _⟩ := hd_to b
  refine ⟨a1.symm.trans b1, ?_⟩
  have h1 := a.2.2.1
  have h2 := b.2.2.1
  have e := a2.symm.trans b2
  have := (TT.num_val (show w < 100 by omega)).2.2
  rw [e, (TT.num_val (show w' < 100 by omega)).2.2] at this
  exact this.symm
end Law
namespace TT
open PySem PySem.Spec PyProof.Rows L2 TR
theorem join_ge (X : List Nat) : ∀ ps : List (List Nat), (ps.map List.length).sum ≤ (TL.joinL X ps).length
  | [] => Nat.zero_le _
  | [p] => by
    show p.length + 0 ≤ p.length
    omega
  | p :: q :: r => by
    have := join_ge X (q :: r)
    show p.length + ((q :: r).map List.length).sum ≤ (p ++ (X ++ TL.joinL X (q :: r))).length
    rw [List.length_append, List.length_append]
    omega
mutual
theorem txt_six {L : List Nat} {w n : Nat} : ∀ {t : Tr}, t.ok L.length w n → 6 * t.size ≤ (txt L t).length
  | .go s q, _ => by
    have h1 : 1 ≤ (num s).length := List.length_pos_iff.mpr (TL.numL_ne s)
    have h2 : 1 ≤ (num q).length := List.length_pos_iff.mpr (TL.numL_ne q)
    unfold txt
    show 6 * 1 ≤ _
    simp [wGo]
    omega
  | .tell n t, h => by
    have := txt_six (t := t) h.2
    have h1 : 1 ≤ (num n).length := List.length_pos_iff.mpr (TL.numL_ne n)
    unfold txt
    show 6 * (t.size + 1) ≤ _
    simp [wTell]
    omega
  | .read p ts, h => by
    have := txts_six (L := L) (l := L) h.2.2 h.2.1
    have h1 := join_ge [44, 32] (txts L L ts)
    have h2 : 1 ≤ (num p).length := List.length_pos_iff.mpr (TL.numL_ne p)
    unfold txt
    show 6 * (ts.size + 1) ≤ _
    simp [wRead]
    omega
theorem txts_six {L l : List Nat} {w n : Nat} : ∀ {ts : Trs}, ts.ok L.length w n → ts.list.length = l.length → 6 * ts.size ≤ ((txts L l ts).map List.length).sum
  | .nil, _, _ => by
    show 6 * 0 ≤ _
    omega
  | .cons t r, h, hl => by
    cases l with
    | nil => cases hl
    | cons c l =>
      have h1 := txt_six (t := t) h.1
      have h2 := txts_six (L := L) (l := l) (ts := r) h.2 (by simpa [Trs.list] using hl)
      unfold txts
      rw [List.map_cons, List.sum_cons]
      show 6 * (t.size + r.size) ≤ ((txt L t).length + 1 + 1 + 1) + _
      omega
end
end TT
namespace Law
open PySem PySem.Spec PyProof.Rows L2 Evl TR GX EK
end Law

namespace Law
open PySem PySem.Spec PyProof.Rows L2 Evl TR GX EK
def spRouX : Sp := fun vs H Q E => spRough vs H Q E ∨ spRouW vs H Q E
def spFWX : Sp := fun vs H Q E => spFW vs H Q E ∨ spFWG vs H Q E
theorem is_line {h : List Nat} {r : List (List Nat)} {a : Ans} (hI : Is (h :: r) a) (hn : ∀ L w, ¬ HdOk h L w) : a = .line 0 := by
  cases hI with
  | head _ => rfl
  | many h2 _ => exact absurd h2 (hn _ _)
  | none h2 => exact absurd h2 (hn _ _)
  | bad h2 _ _ _ _ => exact absurd h2 (hn _ _)
  | good h2 _ _ _ _ => exact absurd h2 (hn _ _)
theorem is_many {h L : List Nat} {w : Nat} {r : List (List Nat)} {a : Ans} (hI : Is (h :: r) a) (hh : HdOk h L w) (hr : 64 < r.length) : a = .many r.length := by
  cases hI with
  | head h2 => exact absurd hh (h2 _ _)
  | many _ _ => rfl
  | none _ => exact absurd hr (by show ¬ 64 < 0; omega)
  | bad _ h3 _ _ _ => omega
  | good _ _ h3 _ _ => omega
theorem is_none {h L : List Nat} {w : Nat} {a : Ans} (hI : Is [h] a) (hh : HdOk h L w) : a = .line 1 := by
  cases hI with
  | head h2 => exact absurd hh (h2 _ _)
  | many _ h3 => exact absurd h3 (by show ¬ 64 < 0; omega)
  | none _ => rfl
  | bad _ _ _ h3 _ => cases h3
  | good _ h3 _ _ _ => exact absurd h3 (by show ¬ 1 ≤ 0; omega)
theorem is_bad {h L l : List Nat} {w i : Nat} {r : List (List Nat)} {a : Ans} (hI : Is (h :: r) a) (hh : HdOk h L w) (hr : r.length ≤ 64) (hg : ∀ (j : Nat) y, j < i → r[j]? = some y → ∃ t, TT.Rl L w r.length y t) (hl : r[i]? = some l) (hn : ∀ t, ¬ TT.Rl L w r.length l t) : a = .line (i + 1) := by
  cases hI with
  | head h2 => exact absurd hh (h2 _ _)
  | many _ h3 => omega
  | none _ => cases hl
  | @bad _ L2 l2 _ w2 i2 hh2 _ hg2 hl2 hn2 =>
    obtain ⟨rfl, rfl⟩ := hd_uni hh hh2
    rcases Nat.lt_trichotomy i i2 with q | q | q
    · obtain ⟨t, ht⟩ := hg2 i l q hl
      exact absurd ht (hn t)
    · rw [q]
    · obtain ⟨t, ht⟩ := hg i2 l2 q hl2
      exact absurd ht (hn2 t)
  | @good _ L2 _ w2 ts hh2 _ _ hlen hg2 =>
    obtain ⟨rfl, rfl⟩ := hd_uni hh hh2
    have hi := (List.getElem?_eq_some_iff.mp hl).1
    exact absurd (hg2 i l _ hl (List.getElem?_eq_getElem (by omega))) (hn _)
/-- one line has one tree -/
theorem rl_uni {L l : List Nat} {w n : Nat} {t t' : Tr} (hw : w ≤ 8) (hn : n ≤ 64) (hL : L ≠ []) (a : TT.Rl L w n l t) (b : TT.Rl L w n l t') : t = t' := by
  have h1 := TT.rl_to hw hn hL a
  rw [TT.rl_to hw hn hL b] at h1
  exact ((Prod.mk.inj (Option.some.inj h1)).1).symm
theorem is_good {h L : List Nat} {w : Nat} {r : List (List Nat)} {ts : List Tr} {a : Ans} (hI : Is (h :: r) a) (hh : HdOk h L w) (h1 : 1 ≤ r.length) (hr : r.length ≤ 64) (hlen : ts.length = r.length) (hg : ∀ (i : Nat) y t, r[i]? = some y → ts[i]? = some t → TT.Rl L w r.length y t) : a = .sts L w ts := by
  cases hI with
  | head h2 => exact absurd hh (h2 _ _)
  | many _ h3 => omega
  | none _ => exact absurd h1 (by show ¬ 1 ≤ 0; omega)
  | @bad _ L2 l2 _ w2 i2 hh2 _ hg2 hl2 hn2 =>
    obtain ⟨rfl, rfl⟩ := hd_uni hh hh2
    have hi := (List.getElem?_eq_some_iff.mp hl2).1
    exact absurd (hg i2 l2 _ hl2 (List.getElem?_eq_getElem (by omega))) (hn2 _)
  | @good _ L2 _ w2 us hh2 _ _ hlen2 hg2 =>
    obtain ⟨rfl, rfl⟩ := hd_uni hh hh2
    have hL : L ≠ [] := TT.low_ne hh.1.lo
    have : ts = us := by
      refine List.ext_getElem? fun i => ?_
      cases hy : r[i]? with
      | none =>
        have := List.getElem?_eq_none_iff.mp hy
        rw [List.getElem?_eq_none (by omega), List.getElem?_eq_none (by omega)]
      | some y =>
        have hi := (List.getElem?_eq_some_iff.mp hy).1
        have e1 : ts[i]? = some (ts[i]'(by omega)) := List.getElem?_eq_getElem (by omega)
        have e2 : us[i]? = some (us[i]'(by omega)) := List.getElem?_eq_getElem (by omega)
        rw [e1, e2]
        exact congrArg some (rl_uni hh.2.2.1 hr hL (hg i y _ hy e1) (hg2 i y _ hy e2))
    rw [this]
theorem sum_six {L : List Nat} {w n : Nat} : ∀ {ts : List Tr} {r : List (List Nat)}, ts.length = r.length → (∀ (i : Nat) y t, r[i]? = some y → ts[i]? = some t → TT.Rl L w n y t) → 6 * total ts ≤ (r.map List.length).sum
  | [], [], _, _ => Nat.zero_le _
  | t :: ts, y :: r, hl, h => by
    have h1 := sum_six (ts := ts) (r := r) (by simpa using hl) fun i y t a b => h (i + 1) y t a b
    have h2 := h 0 y t rfl rfl
    have h3 := TT.txt_six h2.1
    rw [← h2.2.2] at h3
    have e : total (t :: ts) = t.size + total ts := rfl
    rw [e, List.map_cons, List.sum_cons]
    omega
  | [], _ :: _, h, _ => by cases h
  | _ :: _, [], h, _ => by cases h
section
variable {P : Program} {w : World} {K : PySem.W.Frag} {mg : Str → Option Value} {base : Heap} {C_Searcher C_BadLine C_TooMany fL fM C0 fI : Addr} {fdI fdL fdM : FuncData}
theorem ok_readG {f : Addr} {fd : FuncData} (F : Fun K "read" "Searcher.read" s_Searcher_read f fd) (T : Tx mg) (E1 : ErrC K C_BadLine fL C0) (E2 : ErrC K C_TooMany fM C0) (g_BadLine : mg "BadLine" = some (.ref C_BadLine)) (g_TooMany : mg "TooMany" = some (.ref C_TooMany))
    (I_BadLine : FnOk P w K mg base CX0 3 fL fdL ["self", "line"] (spE1 C_BadLine "line")) (B_BadLine : Binds K fdL ["self", "line"] [])
    (I_TooMany : FnOk P w K mg base CX0 3 fM fdM ["self", "what", "many", "most"] (spE3 C_TooMany "what" "many" "most")) (B_TooMany : Binds K fdM ["self", "what", "many", "most"] [])
    (M_Searcher : Mk K C_Searcher fI) (F_Searcher : FnOk P w K mg base CX0 42 fI fdI ["self", "letters", "width", "states"] (spInit C_Searcher)) (b_Searcher : Binds K fdI ["self", "letters", "width", "states"] [])
    (c_are_letters : Kn P w K mg base "are_letters" ["value"] 1 (spAreG K)) (c_is_width : Kn P w K mg base "_is_width" ["text"] 1 spWidG) (c_rough_tree : Kn P w K mg base "rough_tree" ["letters", "line"] 84 spRouX)
    (c_first_wrong : Kn P w K mg base "first_wrong" ["tree", "letters", "width", "states"] 4 spFWX) (c_tree_text : Kn P w K mg base "tree_text" ["letters", "tree"] 41 (spTxt 40)) :
    FnOk P w K mg base (L2.CX P w) 85 f fd ["cls", "text"] (spReadG K C_Searcher C_BadLine C_TooMany) := by
  refine F.okX sc_Searcher_read (fun vs H Q E h => ?_) (fun cdv A outer s H vs Q E hr h => ?_)
  · obtain ⟨v, rfl, _⟩ := h
    rfl
  · obtain ⟨v, rfl, h⟩ := h
    obtain ⟨O_BadLine, i_BadLine, t_BadLine, _, _, _⟩ := E1
    obtain ⟨O_TooMany, i_TooMany, t_TooMany, _, _, _⟩ := E2
    refine ⟨_, (pss_cons (ps_if (pt_not (pt_val (pe_callB call_isi (by rfl) T.isinstance PyProof.Rows.boot_isinstance (pa_cons (pv 1) (pa_cons (pe_bltn (v := .ty "str") (by rfl) T.str PyProof.Rows.boot_str rfl) pa_nil))))) (pss_one (ps_raise rfl (takes_of rfl rfl rfl rfl) (pmk_oex O_BadLine i_BadLine t_BadLine I_BadLine (hr.mono (by decide)) B_BadLine .nil pass0 (by rfl) g_BadLine (pa_cons pe_int pa_nil)))) pss_nil)
      (pss_cons (ps_asg (pe_split (pv 1) pe_str) (SL.pg_starL rfl (pg_name (i := 2) sc_Searcher_read.nd rfl (Or.inl rfl)) (pg_name (i := 3) sc_Searcher_read.nd rfl (Or.inl rfl))))
      (pss_cons (ps_asg (pe_partition (pv 2) pe_str) (pg_tup (by rfl) (pgs_cons (pg_name (i := 4) sc_Searcher_read.nd rfl (Or.inl rfl)) (pgs_cons (pg_name (i := 5) sc_Searcher_read.nd rfl (Or.inl rfl)) (pgs_cons (pg_name (i := 6) sc_Searcher_read.nd rfl (Or.inl rfl)) pgs_nil)))))
      (pss_cons (ps_if (PW.pt (pw_or (pt_not (pt_val (pe_call c_are_letters.ok (hr.mono (by decide)) (by rfl) c_are_letters.g c_are_letters.kp c_are_letters.b .nil pass0 (pa_cons (pv 4) pa_nil)))) (pw_or1 (pt_not (pt_val (pe_call c_is_width.ok (hr.mono (by decide)) (by rfl) c_is_width.g c_is_width.kp c_is_width.b .nil pass0 (pa_cons (pv 6) pa_nil))))))) (pss_one (ps_raise rfl (takes_of rfl rfl rfl rfl) (pmk_oex O_BadLine i_BadLine t_BadLine I_BadLine (hr.mono (by decide)) B_BadLine .nil pass0 (by rfl) g_BadLine (pa_cons pe_int pa_nil)))) pss_nil)
      (pss_cons (ps_set (i := 7) sc_Searcher_read.nd rfl (Or.inl rfl) (pe_callTy call_int_str (by rfl) T.int PyProof.Rows.boot_int (pa_cons (pv 6) pa_nil)))
      (pss_cons (ps_if (pt_cmpR op_gt (pe_callB call_len_seq (by rfl) T.len PySem.boot_len (pa_cons (pv 3) pa_nil)) (pe_glob (v := .int 64) rfl T.m_MOST_STATES ⟨_, rfl⟩) (nomark _)) (pss_one (ps_raise rfl (takes_of rfl rfl rfl rfl) (pmk_oex O_TooMany i_TooMany t_TooMany I_TooMany (hr.mono (by decide)) B_TooMany .nil pass0 (by rfl) g_TooMany (pa_cons pe_str (pa_cons (pe_callB call_len_seq (by rfl) T.len PySem.boot_len (pa_cons (pv 3) pa_nil)) (pa_cons (pe_glob (v := .int 64) rfl T.m_MOST_STATES ⟨_, rfl⟩) pa_nil)))))) pss_nil)
      (pss_cons (ps_if (pt_cmpR op_eq (pe_callB call_len_seq (by rfl) T.len PySem.boot_len (pa_cons (pv 3) pa_nil)) pe_int (nomark _)) (pss_one (ps_raise rfl (takes_of rfl rfl rfl rfl) (pmk_oex O_BadLine i_BadLine t_BadLine I_BadLine (hr.mono (by decide)) B_BadLine .nil pass0 (by rfl) g_BadLine (pa_cons pe_int pa_nil)))) pss_nil)
      (pss_cons (ps_set (i := 8) sc_Searcher_read.nd rfl (Or.inl rfl) (pe_lst pa_nil))
      (pss_cons (ps_for (passes_of rfl) rfl (pi_enum (by rfl) T.enumerate (pa_cons (pv 3) pa_nil)) (pg_tup (by rfl) (pgs_cons (pg_name (i := 9) sc_Searcher_read.nd rfl (Or.inl rfl)) (pgs_cons (pg_name (i := 10) sc_Searcher_read.nd rfl (Or.inl rfl)) pgs_nil))) (pss_cons (ps_set (i := 11) sc_Searcher_read.nd rfl (Or.inl rfl) (pe_call c_rough_tree.ok (hr.mono (by decide)) (by rfl) c_rough_tree.g c_rough_tree.kp c_rough_tree.b .nil pass0 (pa_cons (pv 4) (pa_cons (pv 10) pa_nil))))
      (pss_cons (ps_if (PW.pt (pw_or (pt_cmpR op_notN (pe_call c_first_wrong.ok (hr.mono (by decide)) (by rfl) c_first_wrong.g c_first_wrong.kp c_first_wrong.b .nil pass0 (pa_cons (pv 11) (pa_cons (pv 4) (pa_cons (pv 7) (pa_cons (pe_callB call_len_seq (by rfl) T.len PySem.boot_len (pa_cons (pv 3) pa_nil)) pa_nil))))) pe_non (nomark _)) (pw_or1 (pt_cmpR op_ne (pe_call c_tree_text.ok (hr.mono (by decide)) (by rfl) c_tree_text.g c_tree_text.kp c_tree_text.b .nil pass0 (pa_cons (pv 4) (pa_cons (pv 11) pa_nil))) (pv 10) (nomark _))))) (pss_one (ps_raise rfl (takes_of rfl rfl rfl rfl) (pmk_oex O_BadLine i_BadLine t_BadLine I_BadLine (hr.mono (by decide)) B_BadLine .nil pass0 (by rfl) g_BadLine (pa_cons (pe_op op_add (pv 9) pe_int) pa_nil)))) pss_nil)
      (pss_one (ps_expr (pe_bm PySem.F.plainAttrs_list PySem.F.slot_list_append PySem.F.type_list_append mt_append (pv 8) (pa_cons (pv 11) pa_nil)))))))
      (pss_one (ps_ret (MV.pe_makeV (pv 0) M_Searcher F_Searcher (hr.mono (by decide)) b_Searcher pass0 (pa_cons (pv 4) (pa_cons (pv 7) (pa_cons (pv 8) pa_nil))))))))))))))), ?_⟩
    have one : ∀ (i : Int) (H5 : Hp), Ex H H5 → RzF E H C_BadLine [("line", .int i)] → ∀ a, H5 a = none →
        spE1 C_BadLine "line" (.ref a :: ([V.int i] ++ [])) (upd H5 a (exo a C_BadLine none)) (fun v' H2 => v' = .non ∧ ∃ (d : Addr) (fs' : List (Str × V)), H2 a = some (exo a C_BadLine (some d)) ∧ H2 d = some (exd d fs') ∧ H5 d = none ∧ E (.ref C_BadLine) (some d) (upd (del H2 a) d (.xd fs'))) (fun _ _ _ => False) := fun i H5 e5 q5 a ha =>
      ⟨a, _, _, rfl, upd_same, .flat (.int _), fun dx v' H3 er a1 => by
        cases av_int a1
        exact raise_endN ha er fun d3 H4 e4 hd hx _ => (q5.ex e5) d3 H4 e4 hd hx⟩
    rcases h with ⟨z, ls, a, rfl, X, hI, hm⟩ | ⟨hn, hm⟩
    rotate_left
    · obtain ⟨t, ht, hk⟩ := hn
      refine ⟨_, rfl, _, _, _, _, false, rfl, .ty _, ht, hk, false, rfl, ?_⟩
      exact ⟨by show 1 ≤ 1000; decide, one 0 _ (Ex.refl _) hm⟩
    obtain ⟨hlen, hspl, hne, hok, hsum, hcnt⟩ := X
    obtain ⟨h, r, rfl⟩ : ∃ h r, ls = h :: r := by
      cases ls with
      | nil => exact absurd rfl hne
      | cons h r => exact ⟨h, r, rfl⟩
    obtain ⟨hha, hhl⟩ := hok h List.mem_cons_self
    refine ⟨_, rfl, _, _, _, _, true, rfl, .ty _, .base (.str _), kit_ss, true, rfl, ?_⟩
    refine ⟨_, rfl, ⟨_, rfl⟩, _, _, rfl, rfl, by decide +kernel, sz_of (by omega), fun p hp => ?_⟩
    rw [hspl]
    refine ⟨p, .str (TT.S h), (r.map TT.S).map V.str, rfl, upd_same, fun p2 hp2 => ?_⟩
    have e1 : Ex H (L2.upd (L2.upd H p (.lst (((h :: r).map TT.S).map V.str))) p2 (.lst ((r.map TT.S).map V.str))) := (Ex.new hp).trans (Ex.new hp2)
    have g1 : (L2.upd (L2.upd H p (.lst (((h :: r).map TT.S).map V.str))) p2 (.lst ((r.map TT.S).map V.str))) p2 = some (.lst ((r.map TT.S).map V.str)) := upd_same
    generalize (L2.upd (L2.upd H p (.lst (((h :: r).map TT.S).map V.str))) p2 (.lst ((r.map TT.S).map V.str))) = H1 at e1 g1 ⊢
    obtain ⟨hdl1, hdl2⟩ := TT.hd_len h
    obtain ⟨m, hpart⟩ := TT.part_hd h
    refine ⟨_, rfl, ⟨_, rfl⟩, _, _, rfl, rfl, by decide +kernel, sz_of (by rw [TT.S_len]; omega), fun p3 hp3 => ?_⟩
    rw [hpart]
    have e2 := e1.trans (Ex.new (o := .tup [.str (TT.S (TT.hdA h)), .str m, .str (TT.S (TT.hdB h))]) hp3)
    have g2 := (Ex.new (o := .tup [.str (TT.S (TT.hdA h)), .str m, .str (TT.S (TT.hdB h))]) hp3) _ _ g1
    refine ⟨p3, _, rfl, st_of upd_same, rfl, _, _, rfl, _, _, rfl, _, _, rfl, rfl, ?_⟩
    generalize (L2.upd H1 p3 (.tup [.str (TT.S (TT.hdA h)), .str m, .str (TT.S (TT.hdB h))])) = H2 at e2 g2 ⊢
    refine ⟨_, rfl, _, rfl, .inl ⟨TT.hdA h, rfl, by omega, fun H3 e3 => ⟨_, rfl, ite2 (fun hb => ?_) (fun hb => ?_)⟩⟩⟩
    · have : a = .line 0 := is_line hI fun L w hh => by
        rw [(hd_to hh).2.2.1] at hb
        cases hb
      subst this
      exact ⟨by show 1 ≤ 1000; decide, one 0 _ (e2.trans e3) hm⟩
    have hA : areB (TT.hdA h) = true := by simpa using hb
    refine ⟨_, rfl, TT.hdB h, rfl, by omega, fun H4 e4 => ⟨_, rfl, ite2 (fun hb2 => ?_) (fun hb2 => ?_)⟩⟩
    · have : a = .line 0 := is_line hI fun L w hh => by
        rw [(hd_to hh).2.2.2] at hb2
        cases hb2
      subst this
      exact ⟨by show 1 ≤ 1000; decide, one 0 _ ((e2.trans e3).trans e4) hm⟩
    have hB : widB (TT.hdB h) = true := by simpa using hb2
    obtain ⟨wd, hH, hBn⟩ := hd_of hA hB
    clear hb hb2
    rw [hBn]
    obtain ⟨L, hLe⟩ : ∃ L, TT.hdA h = L := ⟨_, rfl⟩
    rw [hLe] at hH ⊢
    have hLG := hH.1
    have hL4 := hLG.hi
    have w1 := hH.2.1
    have w8 := hH.2.2.1
    have nm := TT.num_len (show wd < 100 by omega)
    have e34 := (e2.trans e3).trans e4
    have g4 := e4 _ _ (e3 _ _ g2)
    have hxl : ((r.map TT.S).map V.str).length = r.length := by simp
    have hxi : ∀ (i : Nat) (x : V), ((r.map TT.S).map V.str)[i]? = some x → ∃ y, r[i]? = some y ∧ x = .str (TT.S y) := fun i x hx => by
      rw [List.getElem?_map, List.getElem?_map] at hx
      cases hc : r[i]? with
      | none => rw [hc] at hx; cases hx
      | some u =>
        rw [hc] at hx
        exact ⟨u, rfl, (Option.some.inj hx).symm⟩
    have hcr : r.length ≤ 9000 := by
      rw [List.length_cons] at hcnt
      omega
    have hsr : (r.map List.length).sum ≤ 9000 := by
      rw [List.map_cons, List.sum_cons] at hsum
      omega
    generalize ((r.map TT.S).map V.str) = xs at g4 hxl hxi
    refine ⟨_, rfl, _, _, rfl, TT.num_int (show wd < 100 by omega), by show (tx (TT.num wd)).length ≤ 640; rw [tx_len]; omega, ?_⟩
    refine ⟨_, rfl, p2, xs, rfl, .inl (sq_of g4), _, _, rfl, rfl, _, rfl, ite2 (fun hb => ?_) fun hb => ?_⟩
    · have hr64 : 64 < r.length := by
        have := of_decide_eq_true hb
        omega
      cases is_many hI hH hr64
      have hm2 : RzF E H C_TooMany [("most", .int 64), ("many", .int (xs.length : Nat)), ("what", .str "states")] := by
        rw [hxl]
        exact hm
      refine ⟨_, rfl, p2, xs, rfl, .inl (sq_of g4), by show 3 ≤ 1000; decide, fun a ha => ⟨a, _, _, _, _, _, _, rfl, upd_same, .flat (.str _), .flat (.int _), .flat (.int _), fun dx v' u' w' H3 er a1 a2 a3 => ?_⟩⟩
      cases av_str a1
      cases av_int a2
      cases av_int a3
      exact raise_endN ha er fun d3 H4 e4 hd hx _ => (hm2.ex e34) d3 H4 e4 hd hx
    have n64 : r.length ≤ 64 := Nat.le_of_not_lt fun z => hb (decide_eq_true (by omega))
    refine ⟨_, rfl, p2, xs, rfl, .inl (sq_of g4), rfl, _, rfl, ite2 (fun hb => ?_) fun hb => ?_⟩
    · have hr0 : r = [] := by
        have := V.int.inj (of_decide_eq_true hb)
        exact List.length_eq_zero_iff.mp (by omega)
      subst hr0
      cases is_none hI hH
      exact ⟨by show 1 ≤ 1000; decide, one 1 _ e34 hm⟩
    have n1 : 1 ≤ r.length := by
      refine Nat.pos_of_ne_zero fun z => hb (decide_eq_true (congrArg V.int ?_))
      rw [hxl, z]
      rfl
    have hLne := TT.low_ne hLG.lo
    refine ⟨Nat.zero_le _, fun D hD => ?_⟩
    refine ⟨_, rfl, p2, xs, rfl, sq_of ((Ex.new hD) _ _ g4), EN.for_enumL (xs := xs) (fun i σ H' => ∃ (zs : List V) (ts : List Tr) (y9 y10 y11 : Option V), σ = [some (.ref C_Searcher), some (.str z), some (.str (TT.S h)), some (.ref p2), some (.str (TT.S L)), some (.str m), some (.str (TT.S (TT.num wd))), some (.int (wd : Int)), some (.ref D), y9, y10, y11] ∧ Ex H4 H' ∧ H' D = some (.lst zs) ∧ Kids true H' zs ts ∧ ts.length = i ∧ ∀ (j : Nat) y t, r[j]? = some y → ts[j]? = some t → TT.Rl L wd r.length y t)
      ⟨[], [], none, none, none, rfl, Ex.new hD, upd_same, .nil, rfl, fun j y t _ ht => by cases ht⟩ (fun i σ H' hw => ?_) (fun i x T' σ H' hx hw hT => ?_) (fun σ H' hw => ?_)⟩
    · obtain ⟨zs, ts, y9, y10, y11, rfl, e5, hz, Z, hl, hg⟩ := hw
      exact sq_of (e5 _ _ g4)
    · obtain ⟨zs, ts, y9, y10, y11, rfl, e5, hz, Z, hl, hg⟩ := hw
      obtain ⟨y, hy, rfl⟩ := hxi i x hx
      have mem := List.mem_of_getElem? hy
      obtain ⟨hya, hyl⟩ := hok y (List.mem_cons_of_mem _ mem)
      have lz := Z.len
      have hi := (List.getElem?_eq_some_iff.mp hy).1
      have e6 := e5.trans (Ex.new (o := .tup [.int (i : Nat), .str (TT.S y)]) hT)
      have hz6 := (Ex.new (o := .tup [.int (i : Nat), .str (TT.S y)]) hT) _ _ hz
      have Z6 := Z.ex (Ex.new (o := .tup [.int (i : Nat), .str (TT.S y)]) hT)
      have hgx : ∀ (j : Nat) y, j < i → r[j]? = some y → ∃ t, TT.Rl L wd r.length y t := fun j y2 hj hy2 =>
        ⟨_, hg j y2 _ hy2 (List.getElem?_eq_getElem (by omega))⟩
      refine ⟨T', _, rfl, st_of upd_same, rfl, _, _, rfl, _, _, rfl, rfl, ?_⟩
      generalize (L2.upd H' T' (.tup [.int (i : Nat), .str (TT.S y)])) = H6 at e6 hz6 Z6 ⊢
      by_cases hR : ∃ t, TT.Rl L wd r.length y t
      · obtain ⟨t, tr⟩ := hR
        obtain ⟨tok, tdp, rfl⟩ := id tr
        have t6 := TT.txt_six tok
        have tsm := TT.small_of w8 n64 tok
        refine ⟨_, rfl, _, rfl, .inl ⟨t, L, wd, r.length, rfl, hLG, tok, tsm, tdp, by omega, fun H7 v e7 hv => ?_⟩⟩
        have e47 := e6.trans e7
        refine ⟨_, rfl, _, rfl, _, rfl, _, rfl, p2, xs, rfl, .inl (sq_of (e47 _ _ g4)), .inl ⟨t, v, true, L, wd, r.length, by rw [hxl]; rfl, hv, tok, by omega, tdp, by omega, fun H8 e8 => ?_⟩⟩
        refine ⟨rfl, _, rfl, ite2 (fun hb => by cases hb) fun _ => ?_⟩
        refine ⟨_, rfl, _, rfl, t, v, L, wd, r.length, rfl, hv.ex e8, tok, tsm, hL4, tdp, by omega, fun H9 e9 => ?_⟩
        refine ⟨_, rfl, rfl, _, rfl, ite2 (fun hb => absurd hb (by simp; rfl)) fun _ => ?_⟩
        have e89 := e8.trans e9
        have hz9 := e89 _ _ (e7 _ _ hz6)
        refine ⟨_, rfl, .inl ⟨rfl, _, sq_of hz9⟩, _, rfl, D, _, _, rfl, rfl, hz9, sz_lt (by omega), ?_⟩
        refine ⟨zs ++ [v], ts ++ [t], _, _, _, rfl, (e47.trans e89).mut hD, upd_same, ?_, by rw [List.length_append, hl]; rfl, fun j y2 t2 hy2 ht2 => ?_⟩
        · refine Kids.upd (fun ys hh => ?_) ((Z6.ex (e7.trans e89)).snoc (hv.ex e89))
          rw [hz9] at hh
          cases hh
        · by_cases hj : j < ts.length
          · rw [List.getElem?_append_left hj] at ht2
            exact hg j y2 t2 hy2 ht2
          · have hj2 := (List.getElem?_eq_some_iff.mp ht2).1
            rw [List.length_append, List.length_singleton] at hj2
            have : j = i := by omega
            subst this
            rw [hy] at hy2
            cases hy2
            rw [List.getElem?_append_right (by omega), hl, Nat.sub_self] at ht2
            cases ht2
            exact tr
      · have hbad := is_bad hI hH n64 hgx hy fun t ht => hR ⟨t, ht⟩
        subst hbad
        have hm' : RzF E H C_BadLine [("line", .int ((i : Int) + 1))] := hm
        refine ⟨_, rfl, _, rfl, .inr ⟨L, y, rfl, hL4, hya, hyl, fun H7 v g e7 hv tv sz nv => ?_⟩⟩
        have e47 := e6.trans e7
        refine ⟨_, rfl, _, rfl, _, rfl, _, rfl, p2, xs, rfl, .inl (sq_of (e47 _ _ g4)), .inr ⟨v, g, L, wd, r.length, by rw [hxl]; rfl, hv, by omega, sz, fun H8 e8 => ?_⟩⟩
        cases hfw : (fwG L.length wd r.length g).1 with
        | true =>
          have eV : fwV (fwG L.length wd r.length g) = .int ((fwG L.length wd r.length g).2 : Nat) := by
            unfold fwV
            rw [if_pos hfw]
          rw [eV]
          refine ⟨rfl, _, rfl, ite2 (fun _ => ?_) (fun hb => absurd (by simp) hb)⟩
          exact ⟨_, rfl, _, _, rfl, rfl, by show 1 ≤ 1000; decide, one _ _ (e34.trans (e47.trans e8)) hm'⟩
        | false =>
          have eV : fwV (fwG L.length wd r.length g) = .non := by
            unfold fwV
            rw [if_neg (by rw [hfw]; simp)]
          rw [eV]
          obtain ⟨t, hta, tok, tdp, tsz⟩ := ga_tr (GX.fwG_rt hfw) tv hv
          have tsm := TT.small_of w8 n64 tok
          refine ⟨rfl, _, rfl, ite2 (fun hb => by cases hb) fun _ => ?_⟩
          refine ⟨_, rfl, _, rfl, t, v, L, wd, r.length, rfl, hta.ex e8, tok, tsm, hL4, tdp, by omega, fun H9 e9 => ?_⟩
          refine ⟨_, rfl, rfl, _, rfl, ite2 (fun _ => ?_) (fun hb => ?_)⟩
          · exact ⟨_, rfl, _, _, rfl, rfl, by show 1 ≤ 1000; decide, one _ _ (e34.trans ((e47.trans e8).trans e9)) hm'⟩
          · refine absurd ⟨t, tok, tdp, ?_⟩ hR
            have : V.str (tx (TT.txt L t)) = V.str (TT.S y) := by
              by_cases q : V.str (tx (TT.txt L t)) = V.str (TT.S y)
              · exact q
              · exact absurd (by simpa using q) hb
            have e := congrArg (fun s : Str => TL.tl s) (V.str.inj this)
            exact (TT.tl_S y).symm.trans (e.symm.trans (TT.tl_S _))
    · obtain ⟨zs, ts, y9, y10, y11, rfl, e5, hz, Z, hl, hg⟩ := hw
      rw [hxl] at hl
      cases is_good hI hH n1 n64 hl hg
      have htot := sum_six hl hg
      have hall : ∀ t ∈ ts, t.ok L.length wd ts.length ∧ t.depth ≤ 40 := fun t ht => by
        obtain ⟨j, hj, rfl⟩ := List.mem_iff_getElem.mp ht
        have := hg j _ _ (List.getElem?_eq_getElem (by omega)) (List.getElem?_eq_getElem hj)
        rw [hl]
        exact ⟨this.1, this.2.1⟩
      refine ⟨_, rfl, rfl, _, rfl, _, rfl, _, rfl, fun o dx ho hdx hne => mk_sp (kt := false) ho hdx hne hz Z hLG w1 w8 (by omega) (by omega) hall (by omega) fun H12 e12 SO => ⟨rfl, ?_⟩⟩
      exact hm _ _ ((e34.trans e5).trans e12) SO
end
end Law

namespace TT
open PySem PySem.Spec PyProof.Rows L2 TR
/-- no sign below the blank -/
def Vis (l : List Nat) : Prop := ∀ c ∈ l, 32 ≤ c ∧ c < 128
theorem Vis.app {a b : List Nat} (h : Vis a) (k : Vis b) : Vis (a ++ b) := fun c hc => by
  rcases List.mem_append.mp hc with q | q
  · exact h c q
  · exact k c q
theorem Vis.cons {c : Nat} {b : List Nat} (h : 32 ≤ c ∧ c < 128) (k : Vis b) : Vis (c :: b) := fun d hd => by
  rcases List.mem_cons.mp hd with q | q
  · rw [q]
    exact h
  · exact k d q
theorem vis_of {l : List Nat} (h : l.all (fun c => decide (32 ≤ c ∧ c < 128)) = true) : Vis l := fun c hc => of_decide_eq_true (List.all_eq_true.mp h c hc)
theorem num_vis {n : Nat} (h : n < 100) : Vis (num n) := by
  have : ∀ n < 100, (num n).all (fun c => decide (32 ≤ c ∧ c < 128)) = true := by decide +kernel
  exact vis_of (this n h)
theorem low_vis {L : List Nat} (h : Low L) : Vis L := fun c hc => by
  have := h c hc
  omega
theorem join_vis : ∀ {ps : List (List Nat)}, (∀ p ∈ ps, Vis p) → Vis (TL.joinL [44, 32] ps)
  | [], _ => fun c hc => nomatch hc
  | [p], h => h p List.mem_cons_self
  | p :: q :: r, h => (h p List.mem_cons_self).app ((vis_of (by decide)).app (join_vis fun x hx => h x (List.mem_cons_of_mem _ hx)))
mutual
theorem txt_vis {L : List Nat} (hL : Low L) : ∀ {t : Tr}, small t → Vis (txt L t)
  | .go s q, h => by
    unfold txt
    exact (vis_of (by decide)).app (.cons (by decide) ((num_vis h.1).app (.cons (by decide) (num_vis h.2))))
  | .tell n t, h => by
    unfold txt
    exact (vis_of (by decide)).app (.cons (by decide) ((num_vis h.1).app (.cons (by decide) (txt_vis hL h.2))))
  | .read p ts, h => by
    unfold txt
    exact (vis_of (by decide)).app (.cons (by decide) ((num_vis h.1).app (.cons (by decide) (.cons (by decide) ((join_vis (txts_vis hL hL h.2)).app (vis_of (by decide)))))))
theorem txts_vis {L : List Nat} (hL : Low L) : ∀ {l : List Nat} {ts : Trs}, Low l → smalls ts → ∀ p ∈ txts L l ts, Vis p
  | [], _, _, _, p, hp => by
    unfold txts at hp
    cases hp
  | _ :: _, .nil, _, _, p, hp => by
    unfold txts at hp
    cases hp
  | c :: l, .cons t r, hl, h, p, hp => by
    unfold txts at hp
    rcases List.mem_cons.mp hp with q | q
    · rw [q]
      exact .cons (by have := hl c List.mem_cons_self; omega) (.cons (by decide) (.cons (by decide) (txt_vis hL h.1)))
    · exact txts_vis hL (fun d hd => hl d (List.mem_cons_of_mem _ hd)) h.2 p q
end
theorem vis_no {l : List Nat} (h : Vis l) : 10 ∉ l := fun z => by
  have := h _ z
  omega
theorem vis_asc {l : List Nat} (h : Vis l) : Asc l := fun c hc => (h c hc).2
theorem ln_one {l : List Nat} (h : 10 ∉ l) : ln l = [l] := by
  induction l with
  | nil => rfl
  | cons c r ih =>
    obtain ⟨w, ws, e1, e2⟩ := ln_miss (c := c) (r := r) (fun z => h (by rw [z]; exact List.mem_cons_self))
    rw [ih (fun z => h (List.mem_cons_of_mem _ z))] at e1
    injection e1 with q1 q2
    rw [e2, ← q1, ← q2]
theorem ln_joined {ps : List (List Nat)} (h : ps ≠ []) (hp : ∀ p ∈ ps, 10 ∉ p) : ln (TL.joinL [10] ps) = ps := by
  rw [ln_join h]
  clear h
  induction ps with
  | nil => rfl
  | cons p r ih =>
    rw [List.map_cons, List.flatten_cons, ln_one (hp p List.mem_cons_self), ih fun q hq => hp q (List.mem_cons_of_mem _ hq)]
    rfl
/-! ### how long the text of a small tree is -/
def cap : Nat → Nat
  | 0 => 0
  | 1 => 6
  | d + 2 => 27 + 4 * cap (d + 1)
theorem cap_mono : ∀ {d e : Nat}, d ≤ e → cap d ≤ cap e := by
  have step : ∀ d, cap d ≤ cap (d + 1) := by
    intro d
    match d with
    | 0 => exact Nat.zero_le _
    | d + 1 =>
      show cap (d + 1) ≤ 27 + 4 * cap (d + 1)
      omega
  intro d e h
  induction h with
  | refl => exact Nat.le_refl _
  | step _ ih => exact Nat.le_trans ih (step _)
theorem num_one {n : Nat} (h : n < 10) : (num n).length = 1 := by
  have : ∀ n < 10, (num n).length = 1 := by decide +kernel
  exact this n h
theorem joinL_cap {X : List Nat} {b : Nat} : ∀ ps : List (List Nat), (∀ p ∈ ps, p.length ≤ b) → (TL.joinL X ps).length ≤ ps.length * b + (ps.length - 1) * X.length
  | [], _ => Nat.zero_le _
  | [p], h => by
    have := h p List.mem_cons_self
    show p.length ≤ 1 * b + 0 * X.length
    omega
  | p :: q :: r, h => by
    have h1 := h p List.mem_cons_self
    have := joinL_cap (X := X) (q :: r) fun x hx => h x (List.mem_cons_of_mem _ hx)
    show (p ++ (X ++ TL.joinL X (q :: r))).length ≤ (r.length + 1 + 1) * b + (r.length + 1) * X.length
    rw [List.length_append, List.length_append]
    rw [show (q :: r).length = r.length + 1 from rfl, show r.length + 1 - 1 = r.length by omega] at this
    have e1 : (r.length + 1 + 1) * b = (r.length + 1) * b + b := Nat.succ_mul _ _
    have e2 : (r.length + 1) * X.length = r.length * X.length + X.length := Nat.succ_mul _ _
    omega
mutual
theorem txt_cap {L : List Nat} {w n : Nat} (hL0 : 1 ≤ L.length) (hL : L.length ≤ 4) (hw : w ≤ 8) (hn : n ≤ 9) : ∀ {t : Tr}, t.ok L.length w n → (txt L t).length ≤ cap t.depth
  | .go s q, h => by
    have h1 := num_one (n := s) (by have := h.2.1; omega)
    have h2 := num_one (n := q) (by have := h.2.2; omega)
    unfold txt
    show _ ≤ 6
    simp [wGo]
    omega
  | .tell m t, h => by
    have h1 := num_one (n := m) (by have := h.1; omega)
    have h2 := txt_cap hL0 hL hw hn (t := t) h.2
    have h3 := tr_depth_pos t
    obtain ⟨d, hd⟩ : ∃ d, t.depth = d + 1 := ⟨t.depth - 1, by omega⟩
    unfold txt
    show _ ≤ cap (t.depth + 1)
    rw [hd] at h2 ⊢
    show _ ≤ 27 + 4 * cap (d + 1)
    simp [wTell]
    omega
  | .read p ts, h => by
    have h1 := num_one (n := p) (by have := h.1; omega)
    have h2 := txts_cap hL0 hL hw hn (L := L) (l := L) h.2.2 h.2.1
    have h3 := joinL_cap (X := [44, 32]) (txts L L ts) h2
    have h4 : (txts L L ts).length ≤ 4 := by
      rw [txts_pcs, pcs_len L L ts.list h.2.1.symm]
      exact hL
    have h5 : (txts L L ts).length * (3 + cap ts.depth) ≤ 4 * (3 + cap ts.depth) := Nat.mul_le_mul_right _ h4
    rw [show [44, 32].length = 2 from rfl] at h3
    unfold txt
    show _ ≤ cap (ts.depth + 1)
    have key : 15 + 4 * (3 + cap ts.depth) ≤ cap (ts.depth + 1) ∨ ts.depth = 0 := by
      cases hd : ts.depth with
      | zero => exact .inr rfl
      | succ d =>
        refine .inl ?_
        show 15 + 4 * (3 + cap (d + 1)) ≤ 27 + 4 * cap (d + 1)
        omega
    rcases key with key | key
    · simp [wRead]
      omega
    · have h6 : ts = .nil := by
        cases ts with
        | nil => rfl
        | cons t r =>
          have := tr_depth_pos t
          have e : (Trs.cons t r).depth = max t.depth r.depth := rfl
          omega
      have h7 := h.2.1
      rw [h6] at h7
      have h8 : 0 = L.length := h7
      omega
theorem txts_cap {L l : List Nat} {w n : Nat} (hL0 : 1 ≤ L.length) (hL : L.length ≤ 4) (hw : w ≤ 8) (hn : n ≤ 9) : ∀ {ts : Trs}, ts.ok L.length w n → ts.list.length = l.length → ∀ p ∈ txts L l ts, p.length ≤ 3 + cap ts.depth
  | .nil, _, _, p, hp => by
    unfold txts at hp
    cases l <;> cases hp
  | .cons t r, h, hl, p, hp => by
    cases l with
    | nil => cases hl
    | cons c l =>
      unfold txts at hp
      have e : (Trs.cons t r).depth = max t.depth r.depth := rfl
      rcases List.mem_cons.mp hp with q | q
      · have h1 := txt_cap hL0 hL hw hn (t := t) h.1
        have h2 := cap_mono (show t.depth ≤ (Trs.cons t r).depth by omega)
        rw [q]
        show (txt L t).length + 1 + 1 + 1 ≤ _
        omega
      · have h1 := txts_cap hL0 hL hw hn (L := L) (l := l) (ts := r) h.2 (by simpa [Trs.list] using hl) p q
        have h2 := cap_mono (show r.depth ≤ (Trs.cons t r).depth by omega)
        omega
end
/-- the text of a small searcher -/
theorem whole_bd {L : List Nat} {w : Nat} {ts : List Tr} (hL : Law.LG L) (w1 : 1 ≤ w) (w8 : w ≤ 8) (n1 : 1 ≤ ts.length) (n4 : ts.length ≤ 4) (h : ∀ t ∈ ts, t.ok L.length w ts.length ∧ t.depth ≤ 3) :
    ∃ x, whole L w ts = S x ∧ Bd 231 940 x ∧ Law.Is (ln x) (.sts L w ts) := by
  have lo := hL.lo
  have hi := hL.hi
  have hsm : ∀ t ∈ ts, small t := fun t ht => small_of w8 (by omega) (h t ht).1
  have hcap : ∀ t ∈ ts, (txt L t).length ≤ 231 := fun t ht => Nat.le_trans (txt_cap (by omega) hi w8 (by omega) (h t ht).1) (cap_mono (h t ht).2)
  have hh : (headL L w).length ≤ 6 := by
    have := num_one (n := w) (by omega)
    unfold headL
    rw [List.length_append, List.length_cons]
    omega
  have hvis : ∀ p ∈ headL L w :: ts.map (txt L), Vis p := fun p hp => by
    rcases List.mem_cons.mp hp with q | q
    · rw [q]
      exact (low_vis hL.az).app (.cons (by decide) (num_vis (by omega)))
    · obtain ⟨t, ht, rfl⟩ := List.mem_map.mp q
      exact txt_vis hL.az (hsm t ht)
  have hlen : ∀ p ∈ headL L w :: ts.map (txt L), p.length ≤ 231 := fun p hp => by
    rcases List.mem_cons.mp hp with q | q
    · rw [q]
      omega
    · obtain ⟨t, ht, rfl⟩ := List.mem_map.mp q
      exact hcap t ht
  have hln := ln_joined (ps := headL L w :: ts.map (txt L)) (by simp) fun p hp => vis_no (hvis p hp)
  have hsum : ((ts.map (txt L)).map List.length).sum ≤ ts.length * 231 := by
    clear hln hlen hvis n1 n4 h hsm
    induction ts with
    | nil => exact Nat.zero_le _
    | cons t r ih =>
      have h1 := hcap t List.mem_cons_self
      have h2 := ih fun x hx => hcap x (List.mem_cons_of_mem _ hx)
      show (txt L t).length + ((r.map (txt L)).map List.length).sum ≤ (r.length + 1) * 231
      rw [Nat.succ_mul]
      omega
  refine ⟨TL.joinL [10] (headL L w :: ts.map (txt L)), ?_, ?_, ?_⟩
  · unfold whole lines
    rw [show S (headL L w) :: ts.map (fun t => S (txt L t)) = (headL L w :: ts.map (txt L)).map S by rw [List.map_cons, List.map_map]; rfl]
    exact ln_joinS _
  · refine ⟨fun c hc => ?_, fun p hp => ?_, ?_⟩
    · rcases join_mem hc with z | ⟨p, hp, z⟩
      · rw [z]
        decide
      · exact vis_asc (hvis p hp) c z
    · rw [hln] at hp
      exact hlen p hp
    · have := join_le [10] (headL L w :: ts.map (txt L))
      rw [List.map_cons, List.sum_cons, List.length_cons, List.length_map] at this
      have h5 : ts.length * 231 ≤ 4 * 231 := Nat.mul_le_mul_right _ n4
      rw [List.length_singleton] at this
      omega
  · rw [hln]
    have hnum : ∀ w < 9, num w = [48 + w] := by decide +kernel
    have hr : (ts.map (txt L)).length = ts.length := List.length_map _
    refine .good ⟨hL, w1, w8, ?_⟩ (by omega) (by omega) hr.symm fun i y t hy ht => ?_
    · unfold headL
      rw [hnum w (by omega)]
    · rw [List.getElem?_map, ht] at hy
      cases hy
      rw [hr]
      have := h t (List.mem_of_getElem? ht)
      exact ⟨this.1, by omega, rfl⟩
end TT

namespace TT
open PySem PySem.Spec PyProof.Rows L2 TR
theorem tree_none (L : List Nat) (w n : Nat) (l : List Nat) : ∀ d, treeF L w n l d none = none
  | 0 => by
    unfold treeF
    rfl
  | d + 1 => by
    unfold treeF
    rfl
theorem tw_take {l : List Nat} {k j : Nat} (hj : j ≤ (l.drop k).length) (ha : ∀ c ∈ (l.drop k).take j, dig c = true) (hn : ∀ c, l[k + j]? = some c → dig c = false) : dsAt l k = (l.drop k).take j := by
  have e := (List.take_append_drop j (l.drop k)).symm
  unfold dsAt
  rw [e]
  have hr : Nd ((l.drop k).drop j) := fun c hc => by
    rw [List.drop_drop, List.head?_drop] at hc
    exact hn c hc
  rw [tw_app (List.all_eq_true.mpr ha) hr]
  rw [List.take_left' (by rw [List.length_take]; omega)]
end TT
namespace Law
open PySem PySem.Spec PyProof.Rows L2 Evl TR GX EK
def oV : Option Nat → V
  | none => .non
  | some k => .int (k : Nat)
def spLTak : Sp := fun vs H Q _ => ∃ (l part : List Nat) (p : Option Nat), vs = [.str (tx l), oV p, .str (tx part)] ∧ l.length ≤ 9000 ∧ part.length ≤ 100 ∧ ∀ H', Ex H H' → Q (oV (TT.takF l p part)) H'
def spLNum : Sp := fun vs H Q _ => ∃ (l : List Nat) (p : Option Nat) (lo hi : Nat), vs = [.str (tx l), oV p, .int (lo : Nat), .int (hi : Nat)] ∧ l.length ≤ 9000 ∧ ∀ H' r, Ex H H' → H' r = some (.tup [oV ((TT.numF l p lo hi).map Prod.fst), oV ((TT.numF l p lo hi).map Prod.snd)]) → Q (.ref r) H'
def spLGo : Sp := fun vs H Q _ => ∃ (l L : List Nat) (p : Option Nat) (wa : Addr) (w n : Nat), vs = [.str (tx l), oV p, .ref wa] ∧ l.length ≤ 9000 ∧ H wa = some (.tup [.str (tx L), .int (w : Nat), .int (n : Nat)]) ∧ 1 ≤ n ∧
  ∀ H' r v, Ex H H' → H' r = some (.tup [v, oV ((TT.goF l p w n).map Prod.snd)]) → (∀ t k, TT.goF l p w n = some (t, k) → TR.TA true H' v t) → Q (.ref r) H'
theorem l_nums : (Str.ofString "0123456789").cps.toList = [48, 49, 50, 51, 52, 53, 54, 55, 56, 57] := by decide +kernel
theorem dig_in (c : Nat) : decide (c ∈ (Str.ofString "0123456789").cps.toList) = TT.dig c := by
  rw [l_nums]
  unfold TT.dig
  by_cases h : 48 ≤ c ∧ c ≤ 57
  · rw [decide_eq_true h.1, decide_eq_true h.2]
    obtain ⟨h1, h2⟩ := h
    have : ∀ c < 58, 48 ≤ c → decide (c ∈ [48, 49, 50, 51, 52, 53, 54, 55, 56, 57]) = (true && true) := by decide
    exact this c (by omega) h1
  · have h2 : (decide (48 ≤ c) && decide (c ≤ 57)) = false := by
      rw [Bool.and_eq_false_iff, decide_eq_false_iff_not, decide_eq_false_iff_not]
      omega
    rw [h2, decide_eq_false]
    simp only [List.mem_cons, List.not_mem_nil, or_false]
    omega
theorem l_go : Str.ofString "go " = tx TT.pGo := by decide +kernel
theorem l_tell : Str.ofString "tell " = tx TT.pTell := by decide +kernel
theorem l_read : Str.ofString "read " = tx TT.pRead := by decide +kernel
theorem l_sp : Str.ofString " " = tx [32] := by decide +kernel
theorem l_cl : Str.ofString "]" = tx [93] := by decide +kernel
theorem l_zero : Str.ofString "0" = tx [48] := by decide +kernel
theorem and_val {t u : L2.TT} {σ : L2.St} {H : Hp} {b : Bool} {Q : Bool → Hp → Prop} (h : ∀ Q', Q' b H → tAnd t u σ H Q') (q : Q b H) : tAnd t u σ H Q := h Q q
theorem or_val {t u : L2.TT} {σ : L2.St} {H : Hp} {b : Bool} {Q : Bool → Hp → Prop} (h : ∀ Q', Q' b H → tOr t u σ H Q') (q : Q b H) : tOr t u σ H Q := h Q q
section
variable {P : Program} {w : World} {K : PySem.W.Frag} {mg : Str → Option Value} {base : Heap}
theorem ok_ltak {f : Addr} {fd : FuncData} (F : Fun K "_law_taken" "_law_taken" s_ltaken f fd) (T : Tx mg) : FnOk P w K mg base CX0 1 f fd ["_law_line_here", "_law_at", "_law_part"] spLTak := by
  refine F.ok sc_ltaken (fun vs H Q E h => ?_) (fun cdv A outer s H vs Q E hr h => ?_)
  · obtain ⟨l, part, p, rfl, _⟩ := h
    rfl
  · obtain ⟨l, part, p, rfl, hl, hp, q⟩ := h
    refine ⟨_, (pss_one (ps_ret (pe_ifExp (PW.pt (pw_and (pt_cmpR op_notN (pv 1) pe_non (nomark _)) (pw_and1 (pt_cmpR op_eq (pe_slice sl_str (pv 0) (po_some (pv 1)) (po_some (pe_op op_add (pv 1) (pe_callB call_len_str (by rfl) T.len PySem.boot_len (pa_cons (pv 2) pa_nil))))) (pv 2) (nomark _))))) (pe_op op_add (pv 1) (pe_callB call_len_str (by rfl) T.len PySem.boot_len (pa_cons (pv 2) pa_nil))) pe_non))), ?_⟩
    have q0 := q H (Ex.refl _)
    cases p with
    | none => exact ⟨_, rfl, rfl, _, rfl, ite2 (fun hb => by cases hb) fun _ => q0⟩
    | some k =>
      have szp : (tx part).length ≤ sizeLine := sz_of (by rw [tx_len]; omega)
      have szl : (tx l).length ≤ sizeLine := sz_of (by rw [tx_len]; omega)
      refine ⟨_, rfl, rfl, _, rfl, ite2 (fun _ => ?_) (fun hb => absurd (by simp [oV]) hb)⟩
      refine ⟨_, rfl, _, rfl, _, rfl, _, rfl, _, rfl, _, rfl, szp, _, _, rfl, rfl, _, rfl, _, rfl, szl, ?_⟩
      rw [tx_len, cut_mid]
      refine ⟨_, rfl, rfl, _, rfl, ite2 (fun hb => ?_) (fun hb => ?_)⟩
      · have e : (l.drop k).take part.length = part := by
          have := congrArg (fun s : Str => TL.tl s) (V.str.inj (of_decide_eq_true hb))
          exact this
        have e2 : TT.takF l (some k) part = some (k + part.length) := by
          unfold TT.takF
          dsimp only
          rw [if_pos e]
        rw [e2] at q0
        refine ⟨_, rfl, _, rfl, _, rfl, szp, _, _, rfl, rfl, ?_⟩
        rw [tx_len]
        exact q0
      · have e2 : TT.takF l (some k) part = none := by
          unfold TT.takF
          dsimp only
          exact if_neg fun z => hb (by rw [z]; simp)
        rw [e2] at q0
        exact q0
theorem ok_lnum {f : Addr} {fd : FuncData} (F : Fun K "_law_number" "_law_number" s_lnumber f fd) (T : Tx mg) : FnOk P w K mg base CX0 1 f fd ["_law_line_here", "_law_at", "_law_low", "_law_high"] spLNum := by
  refine F.ok sc_lnumber (fun vs H Q E h => ?_) (fun cdv A outer s H vs Q E hr h => ?_)
  · obtain ⟨l, p, lo, hi, rfl, _⟩ := h
    rfl
  · obtain ⟨l, p, lo, hi, rfl, hl, q⟩ := h
    refine ⟨_, (pss_cons (ps_if (pt_cmpR op_isN (pv 1) pe_non (nomark _)) (pss_one (ps_ret (pe_tup (pa_cons pe_non (pa_cons pe_non pa_nil))))) pss_nil)
      (pss_cons (ps_set (i := 4) sc_lnumber.nd rfl (Or.inl rfl) (pv 1))
      (pss_cons (ps_while PassesOwn.never (PW.pt (pw_and (pt_cmpR op_lt (pv 4) (pe_callB call_len_str (by rfl) T.len PySem.boot_len (pa_cons (pv 0) pa_nil)) (nomark _)) (pw_and1 (pt_cmpR op_in_sign (pe_ix ix_str (pv 0) (pv 4) (fun _ _ => rfl)) pe_str rfl)))) (pss_one (ps_set (i := 4) sc_lnumber.nd rfl (Or.inl rfl) (pe_op op_add (pv 4) pe_int))))
      (pss_cons (ps_set (i := 5) sc_lnumber.nd rfl (Or.inl rfl) (pe_slice sl_str (pv 0) (po_some (pv 1)) (po_some (pv 4))))
      (pss_cons (ps_if (PW.pt (pw_or (pt_cmpR op_eq (pv 5) pe_str (nomark _)) (pw_or (pt_cmpR op_gt (pe_callB call_len_str (by rfl) T.len PySem.boot_len (pa_cons (pv 5) pa_nil)) pe_int (nomark _)) (pw_or1 (PW.pt (pw_and (pt_cmpR op_gt (pe_callB call_len_str (by rfl) T.len PySem.boot_len (pa_cons (pv 5) pa_nil)) pe_int (nomark _)) (pw_and1 (pt_cmpR op_eq (pe_ix ix_str (pv 5) pe_int (fun _ _ => rfl)) pe_str (nomark _))))))))) (pss_one (ps_ret (pe_tup (pa_cons pe_non (pa_cons pe_non pa_nil))))) pss_nil)
      (pss_one (ps_ret (pe_ifExp (PW.pt (pw_and (pt_cmpR op_le (pv 2) (pe_callTy call_int_str (by rfl) T.int PyProof.Rows.boot_int (pa_cons (pv 5) pa_nil)) (nomark _)) (pw_and1 (pt_cmpR op_le (pe_callTy call_int_str (by rfl) T.int PyProof.Rows.boot_int (pa_cons (pv 5) pa_nil)) (pv 3) (nomark _))))) (pe_tup (pa_cons (pe_callTy call_int_str (by rfl) T.int PyProof.Rows.boot_int (pa_cons (pv 5) pa_nil)) (pa_cons (pv 4) pa_nil))) (pe_tup (pa_cons pe_non (pa_cons pe_non pa_nil))))))))))), ?_⟩
    cases p with
    | none =>
      refine ⟨_, rfl, rfl, _, rfl, ite2 (fun _ => ?_) fun hb => absurd (by simp [oV]) hb⟩
      exact ⟨by show 2 ≤ sizeLine; decide, fun r hr => q _ r (Ex.new hr) upd_same⟩
    | some k =>
      have szl : (tx l).length ≤ sizeLine := sz_of (by rw [tx_len]; omega)
      refine ⟨_, rfl, rfl, _, rfl, ite2 (fun hb => by cases hb) fun _ => ?_⟩
      refine ⟨_, rfl, ?_⟩
      refine ⟨fun m σ H' => H' = H ∧ ∃ j y5, m = l.length - (k + j) ∧ σ = [some (.str (tx l)), some (.int (k : Nat)), some (.int (lo : Nat)), some (.int (hi : Nat)), some (.int ((k + j : Nat) : Int)), y5] ∧ j ≤ (l.drop k).length ∧ ∀ c ∈ (l.drop k).take j, TT.dig c = true,
        ⟨_, rfl, 0, none, rfl, rfl, Nat.zero_le _, fun c hc => (List.not_mem_nil hc).elim⟩, fun m σ H' hw => ?_⟩
      obtain ⟨rfl, j, y5, rfl, rfl, hj, ha⟩ := hw
      have fin : (∀ c, l[k + j]? = some c → TT.dig c = false) → TT.dsAt l k = (l.drop k).take j ∧ ((l.drop k).take j).length = j := fun h => ⟨TT.tw_take hj ha h, by rw [List.length_take]; omega⟩
      have hx : ∀ c, l[k + j]? = some c → k + j < l.length := fun c hc => (List.getElem?_eq_some_iff.mp hc).1
      refine and_val (b := match l[k + j]? with | some c => TT.dig c | none => false) (fun Q' hq => ?_) ?_
      · refine ⟨_, rfl, _, rfl, _, rfl, szl, _, _, rfl, rfl, _, rfl, ite2 (fun hb => ?_) (fun hb => ?_)⟩
        · have hlt : k + j < l.length := by
            have := of_decide_eq_true hb
            rw [tx_len] at this
            omega
          obtain ⟨c, hc⟩ : ∃ c, l[k + j]? = some c := ⟨_, List.getElem?_eq_getElem hlt⟩
          refine ⟨_, rfl, _, rfl, tx l, _, c, rfl, rfl, szl, atI_nat hc, c, _, rfl, rfl, _, rfl, ?_⟩
          rw [hc] at hq
          rw [dig_in]
          exact hq
        · have hlt : ¬ k + j < l.length := fun z => hb (decide_eq_true (by rw [tx_len]; omega))
          rw [List.getElem?_eq_none (by omega)] at hq
          exact hq
      refine ite2 (fun hd => ?_) (fun hd => ?_)
      · obtain ⟨c, hc, hd⟩ : ∃ c, l[k + j]? = some c ∧ TT.dig c = true := by
          cases hc : l[k + j]? with
          | none => rw [hc] at hd; cases hd
          | some c =>
            rw [hc] at hd
            exact ⟨c, rfl, hd⟩
        have hlt := hx c hc
        refine ⟨fun σ2 H2 => ∃ m2, m2 < l.length - (k + j) ∧ H2 = H' ∧ ∃ j y5, m2 = l.length - (k + j) ∧ σ2 = [some (.str (tx l)), some (.int (k : Nat)), some (.int (lo : Nat)), some (.int (hi : Nat)), some (.int ((k + j : Nat) : Int)), y5] ∧ j ≤ (l.drop k).length ∧ ∀ c ∈ (l.drop k).take j, TT.dig c = true, fun σ2 H2 h => h, ?_⟩
        refine ⟨_, rfl, _, _, rfl, rfl, _, ?_, rfl, j + 1, y5, rfl, ?_, ?_, fun d hd2 => ?_⟩
        · omega
        · rfl
        · rw [List.length_drop]
          omega
        · have e : (l.drop k)[j]? = some c := by
            rw [List.getElem?_drop]
            exact hc
          rw [take_next' e] at hd2
          rcases List.mem_append.mp hd2 with z | z
          · exact ha d z
          · rw [List.mem_singleton.mp z]
            exact hd
      obtain ⟨eds, lds⟩ := fin fun c hc => by
        rw [hc] at hd
        simpa using hd
      clear hd fin hx
      obtain ⟨ds, hds⟩ : ∃ ds, (l.drop k).take j = ds := ⟨_, rfl⟩
      rw [hds] at eds lds ha
      have szd : (tx ds).length ≤ sizeLine := sz_of (by rw [tx_len, lds]; rw [List.length_drop] at hj; omega)
      refine ⟨_, rfl, _, rfl, _, rfl, _, rfl, _, rfl, _, rfl, szl, ?_⟩
      rw [show ((k + j : Nat) : Int) = (k : Int) + (j : Int) from rfl, cut_mid, hds]
      have eN : TT.numF l (some k) lo hi = if TT.bad ds then none else if lo ≤ TT.val ds ∧ TT.val ds ≤ hi then some (TT.val ds, k + j) else none := by
        unfold TT.numF
        dsimp only
        rw [eds, lds]
      have eS : V.str (tx ds) = V.str (Str.ofString "") ↔ ds = [] := by
        constructor
        · intro z
          have := congrArg (fun s : Str => TL.tl s) (V.str.inj z)
          exact this
        · intro z
          rw [z]
          rfl
      have eZ : ∀ c, ds.head? = some c → (V.str ⟨#[c]⟩ = V.str (Str.ofString "0") ↔ c = 48) := fun c _ => by
        rw [l_zero]
        constructor
        · intro z
          have : [c] = [48] := congrArg (fun s : Str => TL.tl s) (V.str.inj z)
          exact (List.cons.inj this).1
        · intro z
          rw [z]
          rfl
      dsimp only [gName, tSeq, tIfS]
      refine or_val (b := decide (TT.bad ds)) (fun Q' hq => ?_) ?_
      · refine ⟨_, rfl, rfl, _, rfl, ite2 (fun hb => ?_) (fun hb => ?_)⟩
        · rw [decide_eq_true (show TT.bad ds from .inl (eS.mp (of_decide_eq_true hb)))] at hq
          exact hq
        have hne : ds ≠ [] := fun z => hb (decide_eq_true (eS.mpr z))
        refine ⟨_, rfl, _, rfl, szd, _, _, rfl, rfl, _, rfl, ite2 (fun hb2 => ?_) (fun hb2 => ?_)⟩
        · have h2 : 2 < ds.length := by
            have := of_decide_eq_true hb2
            rw [tx_len] at this
            omega
          rw [decide_eq_true (show TT.bad ds from .inr (.inl h2))] at hq
          exact hq
        have h2 : ¬ 2 < ds.length := fun z => hb2 (decide_eq_true (by rw [tx_len]; omega))
        refine ⟨_, rfl, _, rfl, szd, _, _, rfl, rfl, _, rfl, ite2 (fun hb3 => ?_) (fun hb3 => ?_)⟩
        · have h3 : 1 < ds.length := by
            have := of_decide_eq_true hb3
            rw [tx_len] at this
            omega
          obtain ⟨c, hc⟩ : ∃ c, ds[0]? = some c := ⟨_, List.getElem?_eq_getElem (by omega)⟩
          have hch : ds.head? = some c := by rw [List.head?_eq_getElem?]; exact hc
          refine ⟨_, rfl, tx ds, _, c, rfl, rfl, szd, atI_nat (j := 0) hc, rfl, _, rfl, ?_⟩
          by_cases h4 : c = 48
          · rw [decide_eq_true (show TT.bad ds from .inr (.inr ⟨h3, by rw [hch, h4]⟩))] at hq
            rw [decide_eq_true ((eZ c hch).mpr h4)]
            exact hq
          · rw [decide_eq_false (show ¬ TT.bad ds from fun z => by
              rcases z with z | z | z
              · exact hne z
              · exact h2 z
              · have := z.2
                rw [hch] at this
                exact h4 (Option.some.inj this))] at hq
            rw [decide_eq_false (fun z => h4 ((eZ c hch).mp z))]
            exact hq
        · have h3 : ¬ 1 < ds.length := fun z => hb3 (decide_eq_true (by rw [tx_len]; omega))
          rw [decide_eq_false (show ¬ TT.bad ds from fun z => by
              rcases z with z | z | z
              · exact hne z
              · exact h2 z
              · exact h3 z.1)] at hq
          exact hq
      by_cases hb : TT.bad ds
      · rw [decide_eq_true hb]
        rw [if_pos hb] at eN
        exact ⟨by show 2 ≤ sizeLine; decide, fun r hr => q _ r (Ex.new hr) (by rw [eN]; exact upd_same)⟩
      rw [decide_eq_false hb]
      rw [if_neg hb] at eN
      obtain ⟨en, ev⟩ := TT.ds_num ha hb
      have hint : PySem.intText? (tx ds) = some ((TT.val ds : Nat) : Int) := by
        have := TT.num_int ev
        rw [en] at this
        exact this
      have h640 : (tx ds).length ≤ 640 := by
        rw [tx_len, ← en]
        have := TT.num_len ev
        omega
      refine iteF ?_
      dsimp only [tNext, tRet, tIf]
      refine and_val (b := decide (lo ≤ TT.val ds ∧ TT.val ds ≤ hi)) (fun Q' hq => ?_) ?_
      · refine ⟨_, rfl, _, rfl, _, _, rfl, hint, h640, _, _, rfl, rfl, _, rfl, ite2 (fun hb3 => ?_) (fun hb3 => ?_)⟩
        · have h3 : lo ≤ TT.val ds := by
            have := of_decide_eq_true hb3
            omega
          refine ⟨_, rfl, _, _, rfl, hint, h640, _, rfl, _, _, rfl, rfl, _, rfl, ?_⟩
          by_cases h4 : TT.val ds ≤ hi
          · rw [decide_eq_true (show lo ≤ TT.val ds ∧ TT.val ds ≤ hi from ⟨h3, h4⟩)] at hq
            rw [decide_eq_true (show ((TT.val ds : Nat) : Int) ≤ (hi : Int) by omega)]
            exact hq
          · rw [decide_eq_false (show ¬ (lo ≤ TT.val ds ∧ TT.val ds ≤ hi) from fun z => h4 z.2)] at hq
            rw [decide_eq_false (show ¬ ((TT.val ds : Nat) : Int) ≤ (hi : Int) by omega)]
            exact hq
        · rw [decide_eq_false (show ¬ (lo ≤ TT.val ds ∧ TT.val ds ≤ hi) from fun z => hb3 (decide_eq_true (by omega)))] at hq
          exact hq
      refine ite2 (fun hc => ?_) (fun hc => ?_)
      · rw [if_pos (of_decide_eq_true hc)] at eN
        refine ⟨_, rfl, _, _, rfl, hint, h640, _, rfl, by show 2 ≤ sizeLine; decide, fun r hr => q _ r (Ex.new hr) (by rw [eN]; exact upd_same)⟩
      · rw [if_neg fun z => hc (decide_eq_true z)] at eN
        exact ⟨by show 2 ≤ sizeLine; decide, fun r hr => q _ r (Ex.new hr) (by rw [eN]; exact upd_same)⟩
end
end Law

namespace TT
open PySem PySem.Spec PyProof.Rows L2 TR
/-- the branches as the loop has them -/
def stG (f : Option Nat → Option (Tr × Nat)) (l L : List Nat) : Option (Nat × Nat) → Nat → Option (List Tr × Nat)
  | none, _ => none
  | some a, i => brF f l L a.2 i
def stN (f : Option Nat → Option (Tr × Nat)) (l : List Nat) (i c : Nat) (x : Option (List Tr × Nat)) : Option (Tr × Nat) := f (takF l (x.map Prod.snd) (sep i c))
theorem stG_zero (f : Option Nat → Option (Tr × Nat)) (l L : List Nat) (x : Option (Nat × Nat)) : (stG f l L x 0).map Prod.snd = x.map Prod.snd := by
  cases x <;> rfl
theorem stG_next (f : Option Nat → Option (Tr × Nat)) (l L : List Nat) (x : Option (Nat × Nat)) (i : Nat) (hf : f none = none) : (stG f l L x (i + 1)).map Prod.snd = (stN f l i (L.getD i 0) (stG f l L x i)).map Prod.snd := by
  cases x with
  | none =>
    show none = (f none).map Prod.snd
    rw [hf]
    rfl
  | some a =>
    show (stF f l i (L.getD i 0) (brF f l L a.2 i)).map Prod.snd = (stN f l i (L.getD i 0) (brF f l L a.2 i)).map Prod.snd
    cases brF f l L a.2 i with
    | none =>
      show none = (f none).map Prod.snd
      rw [hf]
      rfl
    | some b =>
      unfold stF stN
      dsimp only [Option.map]
      cases f (takF l (some b.2) (sep i (L.getD i 0))) <;> rfl
theorem stG_some {f : Option Nat → Option (Tr × Nat)} {l L : List Nat} {x : Option (Nat × Nat)} {i : Nat} {ts : List Tr} {k : Nat} (h : stG f l L x (i + 1) = some (ts, k)) : ∃ us k0 t, stG f l L x i = some (us, k0) ∧ stN f l i (L.getD i 0) (stG f l L x i) = some (t, k) ∧ ts = us ++ [t] := by
  cases x with
  | none => cases h
  | some a =>
    have h1 : stF f l i (L.getD i 0) (brF f l L a.2 i) = some (ts, k) := h
    show ∃ us k0 t, brF f l L a.2 i = some (us, k0) ∧ stN f l i (L.getD i 0) (brF f l L a.2 i) = some (t, k) ∧ ts = us ++ [t]
    cases hb : brF f l L a.2 i with
    | none => rw [hb] at h1; cases h1
    | some b =>
      rw [hb] at h1
      unfold stF at h1
      dsimp only at h1
      cases hg : f (takF l (some b.2) (sep i (L.getD i 0))) with
      | none => rw [hg] at h1; cases h1
      | some e =>
        rw [hg] at h1
        cases h1
        exact ⟨b.1, b.2, e.1, rfl, hg, rfl⟩
theorem sep_tx (i c : Nat) : Law.tx (sp0 i) ++ ⟨#[c]⟩ ++ Str.ofString ": " = Law.tx (sep i c) := by
  refine TL.ext_tl ?_
  simp only [TL.tl_append]
  rw [show TL.tl (Str.ofString ": ") = [58, 32] by decide +kernel]
  show sp0 i ++ [c] ++ [58, 32] = sep i c
  unfold sep sp0
  simp
end TT
namespace Law
open PySem PySem.Spec PyProof.Rows L2 Evl TR GX EK
theorem if_val {t : L2.TT} {a b : TE} {σ : L2.St} {H : Hp} {v : V} {Q : VK} (h : ∀ Q' : VK, Q' v H → tIf t a b σ H Q') (q : Q v H) : tIf t a b σ H Q := h Q q
def spLTree (d : Nat) : Sp := fun vs H Q _ => ∃ (l L : List Nat) (p : Option Nat) (wa : Addr) (w n lev : Nat), vs = [.str (tx l), oV p, .ref wa, .int (lev : Nat)] ∧ lev + d = 41 ∧ l.length ≤ 9000 ∧ L.length ≤ 4 ∧ H wa = some (.tup [.str (tx L), .int (w : Nat), .int (n : Nat)]) ∧ 1 ≤ n ∧
  ∀ H' r v, Ex H H' → H' r = some (.tup [v, oV ((TT.treeF L w n l d p).map Prod.snd)]) → (∀ t k, TT.treeF L w n l d p = some (t, k) → TR.TA true H' v t) → Q (.ref r) H'
theorem go_eq (l : List Nat) (p : Option Nat) (w n : Nat) : TT.goF l p w n = match TT.numF l (TT.takF l p TT.pGo) 1 (w + 1) with
    | none => none
    | some (s, k1) => match TT.numF l (TT.takF l (some k1) [32]) 0 (n - 1) with
      | none => none
      | some (q, k2) => some (.go s q, k2) := rfl
section
variable {P : Program} {w : World} {K : PySem.W.Frag} {mg : Str → Option Value} {base : Heap}
theorem ok_lgo {f : Addr} {fd : FuncData} (F : Fun K "_law_go" "_law_go" s_lgo f fd) (T : Tx mg) (c_ltaken : Kn P w K mg base "_law_taken" ["_law_line_here", "_law_at", "_law_part"] 1 spLTak)
    (c_lnumber : Kn P w K mg base "_law_number" ["_law_line_here", "_law_at", "_law_low", "_law_high"] 1 spLNum) : FnOk P w K mg base CX0 2 f fd ["_law_line_here", "_law_at", "_law_world"] spLGo := by
  refine F.ok sc_lgo (fun vs H Q E h => ?_) (fun cdv A outer s H vs Q E hr h => ?_)
  · obtain ⟨l, L, p, wa, wd, n, rfl, _⟩ := h
    rfl
  · obtain ⟨l, L, p, wa, wd, n, rfl, hl, hwa, hn, q⟩ := h
    refine ⟨_, (pss_cons (ps_asg (pe_call c_lnumber.ok (hr.mono (by decide)) (by rfl) c_lnumber.g c_lnumber.kp c_lnumber.b .nil pass0 (pa_cons (pv 0) (pa_cons (pe_call c_ltaken.ok (hr.mono (by decide)) (by rfl) c_ltaken.g c_ltaken.kp c_ltaken.b .nil pass0 (pa_cons (pv 0) (pa_cons (pv 1) (pa_cons pe_str pa_nil)))) (pa_cons pe_int (pa_cons (pe_op op_add (pe_ix ix_tup (pv 2) pe_int (fun _ _ => rfl)) pe_int) pa_nil))))) (pg_tup (by rfl) (pgs_cons (pg_name (i := 3) sc_lgo.nd rfl (Or.inl rfl)) (pgs_cons (pg_name (i := 1) sc_lgo.nd rfl (Or.inl rfl)) pgs_nil))))
      (pss_cons (ps_asg (pe_call c_lnumber.ok (hr.mono (by decide)) (by rfl) c_lnumber.g c_lnumber.kp c_lnumber.b .nil pass0 (pa_cons (pv 0) (pa_cons (pe_call c_ltaken.ok (hr.mono (by decide)) (by rfl) c_ltaken.g c_ltaken.kp c_ltaken.b .nil pass0 (pa_cons (pv 0) (pa_cons (pv 1) (pa_cons pe_str pa_nil)))) (pa_cons pe_int (pa_cons (pe_op op_sub (pe_ix ix_tup (pv 2) pe_int (fun _ _ => rfl)) pe_int) pa_nil))))) (pg_tup (by rfl) (pgs_cons (pg_name (i := 4) sc_lgo.nd rfl (Or.inl rfl)) (pgs_cons (pg_name (i := 1) sc_lgo.nd rfl (Or.inl rfl)) pgs_nil))))
      (pss_one (ps_ret (pe_ifExp (pt_cmpR op_isN (pv 1) pe_non (nomark _)) (pe_tup (pa_cons pe_non (pa_cons pe_non pa_nil))) (pe_tup (pa_cons (pe_tup (pa_cons pe_str (pa_cons (pv 3) (pa_cons (pv 4) pa_nil)))) (pa_cons (pv 1) pa_nil)))))))), ?_⟩
    refine ⟨_, rfl, _, rfl, _, rfl, l, TT.pGo, p, by rw [l_go]; rfl, hl, by decide, fun H1 e1 => ?_⟩
    have hwa1 := e1 _ _ hwa
    refine ⟨_, rfl, wa, _, 1, _, rfl, rfl, st_of hwa1, rfl, _, _, rfl, rfl, ?_⟩
    refine ⟨l, _, 1, wd + 1, rfl, hl, fun H2 r2 e2 h2 => ?_⟩
    have hwa2 := e2 _ _ hwa1
    refine ⟨r2, _, rfl, st_of h2, rfl, _, _, rfl, _, _, rfl, rfl, ?_⟩
    have eg := go_eq l p wd n
    generalize TT.numF l (TT.takF l p TT.pGo) 1 (wd + 1) = x1 at eg h2 ⊢
    have en : ((n : Int) - 1) = ((n - 1 : Nat) : Int) := by omega
    refine ⟨_, rfl, _, rfl, _, rfl, l, [32], x1.map Prod.snd, by rw [l_sp]; rfl, hl, by decide, fun H3 e3 => ?_⟩
    have hwa3 := e3 _ _ hwa2
    refine ⟨_, rfl, wa, _, 2, _, rfl, rfl, st_of hwa3, rfl, _, _, rfl, rfl, ?_⟩
    refine ⟨l, _, 0, n - 1, by dsimp only; rw [en]; rfl, hl, fun H4 r4 e4 h4 => ?_⟩
    have e04 := ((e1.trans e2).trans e3).trans e4
    refine ⟨r4, _, rfl, st_of h4, rfl, _, _, rfl, _, _, rfl, rfl, ?_⟩
    cases x1 with
    | none =>
      refine ⟨_, rfl, rfl, _, rfl, ite2 (fun _ => ?_) fun hb => absurd rfl hb⟩
      refine ⟨by show 2 ≤ sizeLine; decide, fun r hr => q _ r .non (e04.trans (Ex.new hr)) ?_ fun t k z => ?_⟩
      · rw [eg]
        exact upd_same
      · rw [eg] at z
        cases z
    | some a =>
      obtain ⟨s1, k1⟩ := a
      dsimp only at eg
      rw [show Option.map Prod.snd (some (s1, k1)) = some k1 from rfl] at h4 ⊢
      generalize TT.numF l (TT.takF l (some k1) [32]) 0 (n - 1) = x2 at eg h4 ⊢
      cases x2 with
      | none =>
        refine ⟨_, rfl, rfl, _, rfl, ite2 (fun _ => ?_) fun hb => absurd rfl hb⟩
        refine ⟨by show 2 ≤ sizeLine; decide, fun r hr => q _ r .non (e04.trans (Ex.new hr)) ?_ fun t k z => ?_⟩
        · rw [eg]
          exact upd_same
        · rw [eg] at z
          cases z
      | some a2 =>
        obtain ⟨s2, k2⟩ := a2
        refine ⟨_, rfl, rfl, _, rfl, ite2 (fun hb => by cases hb) fun _ => ?_⟩
        refine ⟨_, rfl, _, rfl, by show 3 ≤ sizeLine; decide, fun r hr => ⟨_, rfl, by show 2 ≤ sizeLine; decide, fun r' hr' => ?_⟩⟩
        have hr1 : (L2.upd H4 r (.tup [.str "go", .int (s1 : Nat), .int (s2 : Nat)])) r = some (.tup [.str "go", .int (s1 : Nat), .int (s2 : Nat)]) := upd_same
        refine q _ r' (.ref r) ((e04.trans (Ex.new hr)).trans (Ex.new hr')) ?_ fun t k z => ?_
        · rw [eg]
          exact upd_same
        · rw [eg] at z
          cases z
          exact .go ((Ex.new hr') _ _ hr1)
theorem ok_ltree {f : Addr} {fd : FuncData} (F : Fun K "_law_tree_at" "_law_tree_at" s_ltree_at f fd) (T : Tx mg) (g : mg "_law_tree_at" = some (.ref f)) (b : Binds K fd ["_law_line_here", "_law_at", "_law_world", "_law_level"] [])
    (c_ltaken : Kn P w K mg base "_law_taken" ["_law_line_here", "_law_at", "_law_part"] 1 spLTak) (c_lnumber : Kn P w K mg base "_law_number" ["_law_line_here", "_law_at", "_law_low", "_law_high"] 1 spLNum) (c_lgo : Kn P w K mg base "_law_go" ["_law_line_here", "_law_at", "_law_world"] 2 spLGo) :
    ∀ d : Nat, FnOk P w K mg base CX0 (d + 3) f fd ["_law_line_here", "_law_at", "_law_world", "_law_level"] (spLTree d)
  | 0 => by
    have c_ltree_at : Kn P w K mg base "_law_tree_at" ["_law_line_here", "_law_at", "_law_world", "_law_level"] 0 (fun _ _ _ _ => False) := ⟨f, fd, ⟨fun _ _ _ _ h => h.elim, fun _ _ _ _ _ _ _ _ _ _ _ _ _ h => h.elim⟩, g, F.kp, b⟩
    refine F.ok sc_ltree_at (fun vs H Q E h => ?_) (fun cdv A outer s H vs Q E hr h => ?_)
    · obtain ⟨l, L, p, wa, wd, n, lev, rfl, _⟩ := h
      rfl
    · obtain ⟨l, L, p, wa, wd, n, lev, rfl, hlev, hl, hL, hwa, hn, q⟩ := h
      refine ⟨_, (pss_cons (ps_if (PW.pt (pw_or (pt_cmpR op_gt (pv 3) pe_int (nomark _)) (pw_or1 (pt_cmpR op_isN (pv 1) pe_non (nomark _))))) (pss_one (ps_ret (pe_tup (pa_cons pe_non (pa_cons pe_non pa_nil))))) pss_nil)
      (pss_cons (ps_if (pt_cmpR op_notN (pe_call c_ltaken.ok (hr.mono (by omega)) (by rfl) c_ltaken.g c_ltaken.kp c_ltaken.b .nil pass0 (pa_cons (pv 0) (pa_cons (pv 1) (pa_cons pe_str pa_nil)))) pe_non (nomark _)) (pss_one (ps_ret (pe_call c_lgo.ok (hr.mono (by omega)) (by rfl) c_lgo.g c_lgo.kp c_lgo.b .nil pass0 (pa_cons (pv 0) (pa_cons (pv 1) (pa_cons (pv 2) pa_nil)))))) pss_nil)
      (pss_cons (ps_if (pt_cmpR op_notN (pe_call c_ltaken.ok (hr.mono (by omega)) (by rfl) c_ltaken.g c_ltaken.kp c_ltaken.b .nil pass0 (pa_cons (pv 0) (pa_cons (pv 1) (pa_cons pe_str pa_nil)))) pe_non (nomark _)) (pss_cons (ps_asg (pe_call c_lnumber.ok (hr.mono (by omega)) (by rfl) c_lnumber.g c_lnumber.kp c_lnumber.b .nil pass0 (pa_cons (pv 0) (pa_cons (pe_op op_add (pv 1) pe_int) (pa_cons pe_int (pa_cons pe_int pa_nil))))) (pg_tup (by rfl) (pgs_cons (pg_name (i := 4) sc_ltree_at.nd rfl (Or.inl rfl)) (pgs_cons (pg_name (i := 1) sc_ltree_at.nd rfl (Or.inl rfl)) pgs_nil))))
      (pss_cons (ps_asg (pe_call c_ltree_at.ok (hr.mono (by omega)) (by rfl) c_ltree_at.g c_ltree_at.kp c_ltree_at.b .nil pass0 (pa_cons (pv 0) (pa_cons (pe_call c_ltaken.ok (hr.mono (by omega)) (by rfl) c_ltaken.g c_ltaken.kp c_ltaken.b .nil pass0 (pa_cons (pv 0) (pa_cons (pv 1) (pa_cons pe_str pa_nil)))) (pa_cons (pv 2) (pa_cons (pe_op op_add (pv 3) pe_int) pa_nil))))) (pg_tup (by rfl) (pgs_cons (pg_name (i := 5) sc_ltree_at.nd rfl (Or.inl rfl)) (pgs_cons (pg_name (i := 1) sc_ltree_at.nd rfl (Or.inl rfl)) pgs_nil))))
      (pss_one (ps_ret (pe_ifExp (pt_cmpR op_isN (pv 1) pe_non (nomark _)) (pe_tup (pa_cons pe_non (pa_cons pe_non pa_nil))) (pe_tup (pa_cons (pe_tup (pa_cons pe_str (pa_cons (pv 4) (pa_cons (pv 5) pa_nil)))) (pa_cons (pv 1) pa_nil)))))))) pss_nil)
      (pss_cons (ps_asg (pe_call c_lnumber.ok (hr.mono (by omega)) (by rfl) c_lnumber.g c_lnumber.kp c_lnumber.b .nil pass0 (pa_cons (pv 0) (pa_cons (pe_call c_ltaken.ok (hr.mono (by omega)) (by rfl) c_ltaken.g c_ltaken.kp c_ltaken.b .nil pass0 (pa_cons (pv 0) (pa_cons (pv 1) (pa_cons pe_str pa_nil)))) (pa_cons pe_int (pa_cons (pe_ix ix_tup (pv 2) pe_int (fun _ _ => rfl)) pa_nil))))) (pg_tup (by rfl) (pgs_cons (pg_name (i := 6) sc_ltree_at.nd rfl (Or.inl rfl)) (pgs_cons (pg_name (i := 1) sc_ltree_at.nd rfl (Or.inl rfl)) pgs_nil))))
      (pss_cons (ps_set (i := 7) sc_ltree_at.nd rfl (Or.inl rfl) (pe_lst pa_nil))
      (pss_cons (ps_for PassesOwn.never rfl (pi_range1 (by rfl) T.range (pa_cons (pe_callB call_len_str (by rfl) T.len PySem.boot_len (pa_cons (pe_ix ix_tup (pv 2) pe_int (fun _ _ => rfl)) pa_nil)) pa_nil)) (pg_name (i := 8) sc_ltree_at.nd rfl (Or.inl rfl)) (pss_cons (ps_set (i := 1) sc_ltree_at.nd rfl (Or.inl rfl) (pe_call c_ltaken.ok (hr.mono (by omega)) (by rfl) c_ltaken.g c_ltaken.kp c_ltaken.b .nil pass0 (pa_cons (pv 0) (pa_cons (pv 1) (pa_cons (pe_op op_add_str (pe_op op_add_str (pe_ifExp (pt_cmpR op_eq (pv 8) pe_int (nomark _)) pe_str pe_str) (pe_ix ix_str (pe_ix ix_tup (pv 2) pe_int (fun _ _ => rfl)) (pv 8) (fun _ _ => rfl))) pe_str) pa_nil)))))
      (pss_cons (ps_asg (pe_call c_ltree_at.ok (hr.mono (by omega)) (by rfl) c_ltree_at.g c_ltree_at.kp c_ltree_at.b .nil pass0 (pa_cons (pv 0) (pa_cons (pv 1) (pa_cons (pv 2) (pa_cons (pe_op op_add (pv 3) pe_int) pa_nil))))) (pg_tup (by rfl) (pgs_cons (pg_name (i := 5) sc_ltree_at.nd rfl (Or.inl rfl)) (pgs_cons (pg_name (i := 1) sc_ltree_at.nd rfl (Or.inl rfl)) pgs_nil))))
      (pss_one (ps_expr (pe_bm PySem.F.plainAttrs_list PySem.F.slot_list_append PySem.F.type_list_append mt_append (pv 7) (pa_cons (pv 5) pa_nil)))))))
      (pss_cons (ps_set (i := 1) sc_ltree_at.nd rfl (Or.inl rfl) (pe_call c_ltaken.ok (hr.mono (by omega)) (by rfl) c_ltaken.g c_ltaken.kp c_ltaken.b .nil pass0 (pa_cons (pv 0) (pa_cons (pv 1) (pa_cons pe_str pa_nil)))))
      (pss_one (ps_ret (pe_ifExp (pt_cmpR op_isN (pv 1) pe_non (nomark _)) (pe_tup (pa_cons pe_non (pa_cons pe_non pa_nil))) (pe_tup (pa_cons (pe_tup (pa_cons pe_str (pa_cons (pv 6) (pa_cons (pe_callTy call_tuple_of (by rfl) T.tuple PyProof.Rows.boot_tuple (pa_cons (pv 7) pa_nil)) pa_nil)))) (pa_cons (pv 1) pa_nil))))))))))))), ?_⟩
      refine ⟨_, rfl, _, _, rfl, rfl, _, rfl, ite2 (fun _ => ?_) fun hb => absurd (decide_eq_true (by omega)) hb⟩
      refine ⟨by show 2 ≤ sizeLine; decide, fun r hr => q _ r .non (Ex.new hr) ?_ fun t k z => ?_⟩
      · unfold TT.treeF
        exact upd_same
      · unfold TT.treeF at z
        cases z
  | d + 1 => by
    have c_ltree_at : Kn P w K mg base "_law_tree_at" ["_law_line_here", "_law_at", "_law_world", "_law_level"] (d + 3) (spLTree d) := ⟨f, fd, ok_ltree F T g b c_ltaken c_lnumber c_lgo d, g, F.kp, b⟩
    refine F.ok sc_ltree_at (fun vs H Q E h => ?_) (fun cdv A outer s H vs Q E hr h => ?_)
    · obtain ⟨l, L, p, wa, wd, n, lev, rfl, _⟩ := h
      rfl
    · obtain ⟨l, L, p, wa, wd, n, lev, rfl, hlev, hl, hL, hwa, hn, q⟩ := h
      refine ⟨_, (pss_cons (ps_if (PW.pt (pw_or (pt_cmpR op_gt (pv 3) pe_int (nomark _)) (pw_or1 (pt_cmpR op_isN (pv 1) pe_non (nomark _))))) (pss_one (ps_ret (pe_tup (pa_cons pe_non (pa_cons pe_non pa_nil))))) pss_nil)
      (pss_cons (ps_if (pt_cmpR op_notN (pe_call c_ltaken.ok (hr.mono (by omega)) (by rfl) c_ltaken.g c_ltaken.kp c_ltaken.b .nil pass0 (pa_cons (pv 0) (pa_cons (pv 1) (pa_cons pe_str pa_nil)))) pe_non (nomark _)) (pss_one (ps_ret (pe_call c_lgo.ok (hr.mono (by omega)) (by rfl) c_lgo.g c_lgo.kp c_lgo.b .nil pass0 (pa_cons (pv 0) (pa_cons (pv 1) (pa_cons (pv 2) pa_nil)))))) pss_nil)
      (pss_cons (ps_if (pt_cmpR op_notN (pe_call c_ltaken.ok (hr.mono (by omega)) (by rfl) c_ltaken.g c_ltaken.kp c_ltaken.b .nil pass0 (pa_cons (pv 0) (pa_cons (pv 1) (pa_cons pe_str pa_nil)))) pe_non (nomark _)) (pss_cons (ps_asg (pe_call c_lnumber.ok (hr.mono (by omega)) (by rfl) c_lnumber.g c_lnumber.kp c_lnumber.b .nil pass0 (pa_cons (pv 0) (pa_cons (pe_op op_add (pv 1) pe_int) (pa_cons pe_int (pa_cons pe_int pa_nil))))) (pg_tup (by rfl) (pgs_cons (pg_name (i := 4) sc_ltree_at.nd rfl (Or.inl rfl)) (pgs_cons (pg_name (i := 1) sc_ltree_at.nd rfl (Or.inl rfl)) pgs_nil))))
      (pss_cons (ps_asg (pe_call c_ltree_at.ok (hr.mono (by omega)) (by rfl) c_ltree_at.g c_ltree_at.kp c_ltree_at.b .nil pass0 (pa_cons (pv 0) (pa_cons (pe_call c_ltaken.ok (hr.mono (by omega)) (by rfl) c_ltaken.g c_ltaken.kp c_ltaken.b .nil pass0 (pa_cons (pv 0) (pa_cons (pv 1) (pa_cons pe_str pa_nil)))) (pa_cons (pv 2) (pa_cons (pe_op op_add (pv 3) pe_int) pa_nil))))) (pg_tup (by rfl) (pgs_cons (pg_name (i := 5) sc_ltree_at.nd rfl (Or.inl rfl)) (pgs_cons (pg_name (i := 1) sc_ltree_at.nd rfl (Or.inl rfl)) pgs_nil))))
      (pss_one (ps_ret (pe_ifExp (pt_cmpR op_isN (pv 1) pe_non (nomark _)) (pe_tup (pa_cons pe_non (pa_cons pe_non pa_nil))) (pe_tup (pa_cons (pe_tup (pa_cons pe_str (pa_cons (pv 4) (pa_cons (pv 5) pa_nil)))) (pa_cons (pv 1) pa_nil)))))))) pss_nil)
      (pss_cons (ps_asg (pe_call c_lnumber.ok (hr.mono (by omega)) (by rfl) c_lnumber.g c_lnumber.kp c_lnumber.b .nil pass0 (pa_cons (pv 0) (pa_cons (pe_call c_ltaken.ok (hr.mono (by omega)) (by rfl) c_ltaken.g c_ltaken.kp c_ltaken.b .nil pass0 (pa_cons (pv 0) (pa_cons (pv 1) (pa_cons pe_str pa_nil)))) (pa_cons pe_int (pa_cons (pe_ix ix_tup (pv 2) pe_int (fun _ _ => rfl)) pa_nil))))) (pg_tup (by rfl) (pgs_cons (pg_name (i := 6) sc_ltree_at.nd rfl (Or.inl rfl)) (pgs_cons (pg_name (i := 1) sc_ltree_at.nd rfl (Or.inl rfl)) pgs_nil))))
      (pss_cons (ps_set (i := 7) sc_ltree_at.nd rfl (Or.inl rfl) (pe_lst pa_nil))
      (pss_cons (ps_for PassesOwn.never rfl (pi_range1 (by rfl) T.range (pa_cons (pe_callB call_len_str (by rfl) T.len PySem.boot_len (pa_cons (pe_ix ix_tup (pv 2) pe_int (fun _ _ => rfl)) pa_nil)) pa_nil)) (pg_name (i := 8) sc_ltree_at.nd rfl (Or.inl rfl)) (pss_cons (ps_set (i := 1) sc_ltree_at.nd rfl (Or.inl rfl) (pe_call c_ltaken.ok (hr.mono (by omega)) (by rfl) c_ltaken.g c_ltaken.kp c_ltaken.b .nil pass0 (pa_cons (pv 0) (pa_cons (pv 1) (pa_cons (pe_op op_add_str (pe_op op_add_str (pe_ifExp (pt_cmpR op_eq (pv 8) pe_int (nomark _)) pe_str pe_str) (pe_ix ix_str (pe_ix ix_tup (pv 2) pe_int (fun _ _ => rfl)) (pv 8) (fun _ _ => rfl))) pe_str) pa_nil)))))
      (pss_cons (ps_asg (pe_call c_ltree_at.ok (hr.mono (by omega)) (by rfl) c_ltree_at.g c_ltree_at.kp c_ltree_at.b .nil pass0 (pa_cons (pv 0) (pa_cons (pv 1) (pa_cons (pv 2) (pa_cons (pe_op op_add (pv 3) pe_int) pa_nil))))) (pg_tup (by rfl) (pgs_cons (pg_name (i := 5) sc_ltree_at.nd rfl (Or.inl rfl)) (pgs_cons (pg_name (i := 1) sc_ltree_at.nd rfl (Or.inl rfl)) pgs_nil))))
      (pss_one (ps_expr (pe_bm PySem.F.plainAttrs_list PySem.F.slot_list_append PySem.F.type_list_append mt_append (pv 7) (pa_cons (pv 5) pa_nil)))))))
      (pss_cons (ps_set (i := 1) sc_ltree_at.nd rfl (Or.inl rfl) (pe_call c_ltaken.ok (hr.mono (by omega)) (by rfl) c_ltaken.g c_ltaken.kp c_ltaken.b .nil pass0 (pa_cons (pv 0) (pa_cons (pv 1) (pa_cons pe_str pa_nil)))))
      (pss_one (ps_ret (pe_ifExp (pt_cmpR op_isN (pv 1) pe_non (nomark _)) (pe_tup (pa_cons pe_non (pa_cons pe_non pa_nil))) (pe_tup (pa_cons (pe_tup (pa_cons pe_str (pa_cons (pv 6) (pa_cons (pe_callTy call_tuple_of (by rfl) T.tuple PyProof.Rows.boot_tuple (pa_cons (pv 7) pa_nil)) pa_nil)))) (pa_cons (pv 1) pa_nil))))))))))))), ?_⟩
      refine ⟨_, rfl, _, _, rfl, rfl, _, rfl, ite2 (fun hb => absurd (of_decide_eq_true hb) (by omega)) fun _ => ?_⟩
      cases p with
      | none =>
        refine ⟨_, rfl, rfl, _, rfl, ite2 (fun _ => ?_) fun hb => absurd rfl hb⟩
        refine ⟨by show 2 ≤ sizeLine; decide, fun r hr => q _ r .non (Ex.new hr) ?_ fun t k z => ?_⟩
        · unfold TT.treeF
          exact upd_same
        · unfold TT.treeF at z
          cases z
      | some k =>
        refine ⟨_, rfl, rfl, _, rfl, ite2 (fun hb => by cases hb) fun _ => ?_⟩
        refine ⟨_, rfl, _, rfl, l, TT.pGo, some k, by rw [l_go]; rfl, hl, by decide, fun H1 e1 => ?_⟩
        have hwa1 := e1 _ _ hwa
        by_cases hg : TT.takF l (some k) TT.pGo = none
        rotate_left
        · obtain ⟨k0, hk0⟩ := Option.ne_none_iff_exists'.mp hg
          rw [hk0]
          refine ⟨rfl, _, rfl, ite2 (fun _ => ?_) fun hb => absurd (by simp [oV]) hb⟩
          have eT : TT.treeF L wd n l (d + 1) (some k) = TT.goF l (some k) wd n := by
            show (if TT.takF l (some k) TT.pGo ≠ none then TT.goF l (some k) wd n else _) = _
            exact if_pos hg
          refine ⟨_, rfl, _, rfl, _, rfl, l, L, some k, wa, wd, n, rfl, hl, hwa1, hn, fun H2 r v e2 h2 hv => q _ r v (e1.trans e2) ?_ fun t k z => hv t k ?_⟩
          · rw [eT]
            exact h2
          · rw [← eT]
            exact z
        rw [hg]
        refine ⟨rfl, _, rfl, ite2 (fun hb => by cases hb) fun _ => ?_⟩
        refine ⟨_, rfl, _, rfl, l, TT.pTell, some k, by rw [l_tell]; rfl, hl, by decide, fun H2 e2 => ?_⟩
        have hwa2 := e2 _ _ hwa1
        have e02 := e1.trans e2
        by_cases ht : TT.takF l (some k) TT.pTell = none
        rotate_left
        · obtain ⟨k0, hk0⟩ := Option.ne_none_iff_exists'.mp ht
          rw [hk0]
          refine ⟨rfl, _, rfl, ite2 (fun _ => ?_) fun hb => absurd (by simp [oV]) hb⟩
          have eT : TT.treeF L wd n l (d + 1) (some k) = match TT.numF l (some (k + 5)) 0 2 with
              | none => none
              | some (m, k1) => match TT.treeF L wd n l d (TT.takF l (some k1) [32]) with
                | none => none
                | some (t, k2) => some (.tell m t, k2) := by
            show (if TT.takF l (some k) TT.pGo ≠ none then _ else if TT.takF l (some k) TT.pTell ≠ none then _ else _) = _
            rw [if_neg (by rw [hg]; simp), if_pos ht]
            all_goals rfl
          refine ⟨_, rfl, _, rfl, _, _, rfl, rfl, l, some (k + 5), 0, 2, rfl, hl, fun H3 r3 e3 h3 => ?_⟩
          have hwa3 := e3 _ _ hwa2
          refine ⟨r3, _, rfl, st_of h3, rfl, _, _, rfl, _, _, rfl, rfl, ?_⟩
          generalize TT.numF l (some (k + 5)) 0 2 = x1 at eT h3 ⊢
          refine ⟨_, rfl, _, rfl, _, rfl, l, [32], x1.map Prod.snd, by rw [l_sp]; rfl, hl, by decide, fun H4 e4 => ?_⟩
          have hwa4 := e4 _ _ hwa3
          refine ⟨_, rfl, _, rfl, _, _, rfl, rfl, l, L, _, wa, wd, n, lev + 1, rfl, by omega, hl, hL, hwa4, hn, fun H5 r5 v e5 h5 hv => ?_⟩
          have e05 := ((e02.trans e3).trans e4).trans e5
          refine ⟨r5, _, rfl, st_of h5, rfl, _, _, rfl, _, _, rfl, rfl, ?_⟩
          cases x1 with
          | none =>
            rw [show TT.treeF L wd n l d (TT.takF l (Option.map Prod.snd (none : Option (Nat × Nat))) [32]) = none from TT.tree_none L wd n l d]
            refine ⟨_, rfl, rfl, _, rfl, ite2 (fun _ => ?_) fun hb => absurd rfl hb⟩
            refine ⟨by show 2 ≤ sizeLine; decide, fun r hr => q _ r .non (e05.trans (Ex.new hr)) ?_ fun t k z => ?_⟩
            · rw [eT]
              exact upd_same
            · rw [eT] at z
              cases z
          | some a =>
            obtain ⟨s1, k1⟩ := a
            dsimp only at eT
            rw [show Option.map Prod.snd (some (s1, k1)) = some k1 from rfl] at h5 hv ⊢
            generalize TT.treeF L wd n l d (TT.takF l (some k1) [32]) = x2 at eT h5 hv ⊢
            cases x2 with
            | none =>
              refine ⟨_, rfl, rfl, _, rfl, ite2 (fun _ => ?_) fun hb => absurd rfl hb⟩
              refine ⟨by show 2 ≤ sizeLine; decide, fun r hr => q _ r .non (e05.trans (Ex.new hr)) ?_ fun t k z => ?_⟩
              · rw [eT]
                exact upd_same
              · rw [eT] at z
                cases z
            | some a2 =>
              obtain ⟨t2, k2⟩ := a2
              have ht2 := hv t2 k2 rfl
              refine ⟨_, rfl, rfl, _, rfl, ite2 (fun hb => by cases hb) fun _ => ?_⟩
              refine ⟨_, rfl, _, rfl, by show 3 ≤ sizeLine; decide, fun r hr => ⟨_, rfl, by show 2 ≤ sizeLine; decide, fun r' hr' => ?_⟩⟩
              have hr1 : (L2.upd H5 r (.tup [.str "tell", .int (s1 : Nat), v])) r = some (.tup [.str "tell", .int (s1 : Nat), v]) := upd_same
              refine q _ r' (.ref r) ((e05.trans (Ex.new hr)).trans (Ex.new hr')) ?_ fun t k z => ?_
              · rw [eT]
                exact upd_same
              · rw [eT] at z
                cases z
                exact .tell ((Ex.new hr') _ _ hr1) ((ht2.ex (Ex.new hr)).ex (Ex.new hr'))
        rw [ht]
        refine ⟨rfl, _, rfl, ite2 (fun hb => by cases hb) fun _ => ?_⟩
        have eT : TT.treeF L wd n l (d + 1) (some k) = match TT.numF l (TT.takF l (some k) TT.pRead) 0 wd with
            | none => none
            | some (m, k1) => match TT.brF (TT.treeF L wd n l d) l L k1 L.length with
              | none => none
              | some (ts, k2) => match TT.takF l (some k2) [93] with
                | none => none
                | some k3 => some (.read m (TT.Trs.ofL ts), k3) := by
          show (if TT.takF l (some k) TT.pGo ≠ none then _ else if TT.takF l (some k) TT.pTell ≠ none then _ else _) = _
          rw [if_neg (by rw [hg]; simp), if_neg (by rw [ht]; simp)]
          all_goals rfl
        refine ⟨_, rfl, _, rfl, _, rfl, l, TT.pRead, some k, by rw [l_read]; rfl, hl, by decide, fun H3 e3 => ?_⟩
        have hwa3 := e3 _ _ hwa2
        refine ⟨_, rfl, wa, _, 1, _, rfl, rfl, st_of hwa3, rfl, l, _, 0, wd, rfl, hl, fun H4 r4 e4 h4 => ?_⟩
        have hwa4 := e4 _ _ hwa3
        have e04 := (e02.trans e3).trans e4
        refine ⟨r4, _, rfl, st_of h4, rfl, _, _, rfl, _, _, rfl, rfl, ?_⟩
        generalize TT.numF l (TT.takF l (some k) TT.pRead) 0 wd = x1 at eT h4 ⊢
        refine ⟨Nat.zero_le _, fun D hD => ?_⟩
        have hwa5 := (Ex.new (o := .lst []) hD) _ _ hwa4
        have e05 := e04.trans (Ex.new (o := .lst []) hD)
        have hD4 : H D = none := fresh_back e04 hD
        have szL : (tx L).length ≤ sizeLine := tx_le (by omega)
        have hf := TT.tree_none L wd n l d
        have eT2 : TT.treeF L wd n l (d + 1) (some k) = match (generalizing := false) x1 with
            | none => none
            | some (m, k1) => match TT.stG (TT.treeF L wd n l d) l L x1 L.length with
              | none => none
              | some (ts, k2) => match TT.takF l (some k2) [93] with
                | none => none
                | some k3 => some (.read m (TT.Trs.ofL ts), k3) := by
          rw [eT]
          cases x1 <;> rfl
        refine ⟨_, rfl, wa, _, 0, _, rfl, rfl, st_of hwa5, rfl, _, rfl, szL, _, rfl, by rw [tx_len]; omega, by rw [tx_len]; omega, ?_⟩
        rw [show ((tx L).length : Int).toNat = L.length by rw [tx_len]; rfl]
        refine for_range (lo := 0) (n := L.length) (fun i σ H' => ∃ (y4 y5 y8 : Option V) (zs : List V), σ = [some (.str (tx l)), some (oV ((TT.stG (TT.treeF L wd n l d) l L x1 i).map Prod.snd)), some (.ref wa), some (.int (lev : Nat)), y4, y5, some (oV (x1.map Prod.fst)), some (.ref D), y8] ∧ Ex H H' ∧ H' wa = some (.tup [.str (tx L), .int (wd : Nat), .int (n : Nat)]) ∧ H' D = some (.lst zs) ∧ zs.length = i ∧ ∀ ts k, TT.stG (TT.treeF L wd n l d) l L x1 i = some (ts, k) → Kids true H' zs ts)
          ⟨none, none, none, [], by rw [TT.stG_zero]; rfl, e05, hwa5, upd_same, rfl, fun ts k z => ?_⟩ (fun i σ H' hi hw => ?_) (fun σ H' hw => ?_)
        · cases x1 with
          | none => cases z
          | some a =>
            cases z
            exact .nil
        · obtain ⟨y4, y5, y8, zs, rfl, e6, hwa6, hz, lz, Z⟩ := hw
          obtain ⟨c, hc⟩ : ∃ c, L[i]? = some c := ⟨_, List.getElem?_eq_getElem hi⟩
          have hcd : L.getD i 0 = c := by rw [List.getD_eq_getElem?_getD, hc]; rfl
          have hN := TT.stG_next (TT.treeF L wd n l d) l L x1 i hf
          have hS := fun ts k h => TT.stG_some (f := TT.treeF L wd n l d) (l := l) (L := L) (x := x1) (i := i) (ts := ts) (k := k) h
          rw [hcd] at hN hS
          unfold TT.stN at hN hS
          refine ⟨_, rfl, _, rfl, ?_⟩
          refine if_val (v := .str (tx (TT.sp0 i))) (fun Q' hq => ?_) ?_
          · refine ⟨_, rfl, rfl, _, rfl, ite2 (fun hb => ?_) (fun hb => ?_)⟩
            · have : i = 0 := by
                have := V.int.inj (of_decide_eq_true hb)
                omega
              rw [this] at hq
              exact hq
            · have h0 : i ≠ 0 := fun z => hb (decide_eq_true (by rw [z]; rfl))
              rw [show TT.sp0 i = [44, 32] from if_neg h0] at hq
              exact hq
          have l0 : (tx (TT.sp0 i)).length = 2 := by
            rw [tx_len]
            unfold TT.sp0
            split <;> rfl
          refine ⟨_, rfl, wa, _, 0, _, rfl, rfl, st_of hwa6, rfl, _, rfl, tx L, _, c, rfl, rfl, szL, by rw [Int.zero_add]; exact atI_nat hc, ?_⟩
          refine ⟨_, _, rfl, rfl, sz_of (by rw [l0]; show 2 + 1 ≤ _; decide), ?_⟩
          refine ⟨_, _, rfl, rfl, sz_of (by rw [TT.app_len, l0]; show 2 + 1 + 2 ≤ _; decide), ?_⟩
          refine ⟨l, TT.sep i c, (TT.stG (TT.treeF L wd n l d) l L x1 i).map Prod.snd, by rw [TT.sep_tx]; rfl, hl, ?_, fun H7 e7 => ?_⟩
          · unfold TT.sep
            split
            · exact show 5 ≤ 100 by decide
            · exact show 5 ≤ 100 by decide
          have hwa7 := e7 _ _ hwa6
          generalize TT.takF l ((TT.stG (TT.treeF L wd n l d) l L x1 i).map Prod.snd) (TT.sep i c) = p1 at hN hS ⊢
          refine ⟨_, rfl, _, rfl, _, rfl, _, rfl, _, _, rfl, rfl, l, L, p1, wa, wd, n, lev + 1, rfl, by omega, hl, hL, hwa7, hn, fun H8 r8 v e8 h8 hv => ?_⟩
          have hz8 := e8 _ _ (e7 _ _ hz)
          refine ⟨r8, _, rfl, st_of h8, rfl, _, _, rfl, _, _, rfl, rfl, ?_⟩
          refine ⟨_, rfl, .inl ⟨rfl, _, sq_of hz8⟩, _, rfl, D, _, _, rfl, rfl, hz8, sz_lt (by omega), ?_⟩
          have nwa : wa ≠ D := fun z => by
            rw [z, hD4] at hwa
            cases hwa
          refine ⟨_, _, _, zs ++ [v], by rw [hN]; rfl, ((e6.trans e7).trans e8).mut hD4, by rw [upd_ne nwa]; exact e8 _ _ hwa7, upd_same, by rw [List.length_append, lz]; rfl, fun ts k z => ?_⟩
          obtain ⟨us, k0, t, z1, z2, rfl⟩ := hS ts k z
          refine Kids.upd (fun ys hh => ?_) ((((Z us k0 z1).ex e7).ex e8).snoc (hv t k z2))
          rw [hz8] at hh
          cases hh
        · obtain ⟨y4, y5, y8, zs, rfl, e6, hwa6, hz, lz, Z⟩ := hw
          have x12 : x1 = none → TT.stG (TT.treeF L wd n l d) l L x1 L.length = none := fun z => by rw [z]; rfl
          generalize TT.stG (TT.treeF L wd n l d) l L x1 L.length = x2 at eT2 Z x12 ⊢
          refine ⟨_, rfl, _, rfl, l, [93], x2.map Prod.snd, by rw [l_cl]; rfl, hl, by decide, fun H7 e7 => ?_⟩
          have e07 := e6.trans e7
          have none_of : ∀ (hN : TT.treeF L wd n l (d + 1) (some k) = none), 2 ≤ sizeLine ∧ ∀ r, H7 r = none → Q (.ref r) (L2.upd H7 r (.tup [V.non, V.non])) := fun hN => ⟨by show 2 ≤ sizeLine; decide, fun r hr => q _ r .non (e07.trans (Ex.new hr)) (by rw [hN]; exact upd_same) fun t k z => by rw [hN] at z; cases z⟩
          cases x2 with
          | none =>
            refine ⟨_, rfl, rfl, _, rfl, ite2 (fun _ => ?_) fun hb => absurd rfl hb⟩
            refine none_of ?_
            rw [eT2]
            cases x1 <;> rfl
          | some a2 =>
            obtain ⟨ts, k2⟩ := a2
            rw [show Option.map Prod.snd (some (ts, k2)) = some k2 from rfl]
            dsimp only at eT2
            generalize TT.takF l (some k2) [93] = x3 at eT2 ⊢
            cases x3 with
            | none =>
              refine ⟨_, rfl, rfl, _, rfl, ite2 (fun _ => ?_) fun hb => absurd rfl hb⟩
              refine none_of ?_
              rw [eT2]
              cases x1 <;> rfl
            | some k3 =>
              refine ⟨_, rfl, rfl, _, rfl, ite2 (fun hb => by cases hb) fun _ => ?_⟩
              have hz7 := e7 _ _ hz
              refine ⟨_, rfl, _, rfl, D, zs, rfl, .inl ⟨sq_of hz7, fun t2 ht2 => ?_⟩⟩
              have e8 := e07.trans (Ex.new (o := .tup zs) ht2)
              have ht3 : (L2.upd H7 t2 (.tup zs)) t2 = some (.tup zs) := upd_same
              have K8 := ((Z ts k2 rfl).ex e7).ex (Ex.new (o := .tup zs) ht2)
              generalize (L2.upd H7 t2 (.tup zs)) = H8 at e8 ht3 K8 ⊢
              cases x1 with
              | none =>
                cases x12 rfl
              | some a =>
                obtain ⟨s1, k1⟩ := a
                dsimp only at eT2
                refine ⟨by show 3 ≤ sizeLine; decide, fun r hr => ⟨_, rfl, by show 2 ≤ sizeLine; decide, fun r' hr' => ?_⟩⟩
                have hr1 : (L2.upd H8 r (.tup [.str "read", .int (s1 : Nat), .ref t2])) r = some (.tup [.str "read", .int (s1 : Nat), .ref t2]) := upd_same
                have e9 := (Ex.new (o := .tup [.str "read", .int (s1 : Nat), .ref t2]) hr).trans (Ex.new (o := .tup [.ref r, .int (k3 : Nat)]) hr')
                refine q _ r' (.ref r) (e8.trans e9) ?_ fun t k z => ?_
                · rw [eT2]
                  exact upd_same
                · rw [eT2] at z
                  cases z
                  exact .read ((Ex.new hr') _ _ hr1) (e9 _ _ ht3) (Kids.tas (by rw [TT.ofL_list]; exact K8.ex e9))
end
end Law

/-! xs == [] and xs != [], whatever stands in xs -/
namespace NL
open PySem PySem.Spec PyProof.Rows L2
def rEqNil (K : PySem.W.Frag) : R2 := fun x y H Q => ∃ a b xs, x = .ref a ∧ y = .ref b ∧ SqL K H a xs ∧ SqL K H b [] ∧ Q (.bl (decide (xs.length = 0))) H
def rNeNil (K : PySem.W.Frag) : R2 := fun x y H Q => ∃ a b xs, x = .ref a ∧ y = .ref b ∧ SqL K H a xs ∧ SqL K H b [] ∧ Q (.bl (!decide (xs.length = 0))) H
section
variable {X : Cx}
theorem op_eqNil (hu : X.A.units + 64 < cLine) : OpR X (compareOp .Eq) (rEqNil X.K) := by
  intro pins s σ H x y v u Q I rx ry h
  obtain ⟨a, b, xs, rfl, rfl, ha, hb, q⟩ := h
  cases (show v = Value.ref a from rx)
  cases (show u = Value.ref b from ry)
  obtain ⟨us, r1, p1, _⟩ := I.list ha
  obtain ⟨ws, r2, p2, _⟩ := I.list hb
  cases r2
  have l1 := r1.length
  have un : X.A.units < cLine := by omega
  show wpAny _ _ (richCompare .Eq _ _) _ _ _
  by_cases hx : xs.length = 0
  · rw [decide_eq_true hx] at q
    have hz : us.toArray.size = ([] : List Value).toArray.size := by rw [List.size_toArray, List.size_toArray, ← l1, hx]; rfl
    refine (SeqAt.RcAt.lists (e := fun _ => true) p1.isList p2.isList hz un fun j h1 h2 => absurd h2 (Nat.not_lt_zero j)) X.prog X.w _ _ ?_
    refine ⟨.bl true, H, I, ?_, q⟩
    show Value.bool _ = Value.bool true
    rw [show ((List.range us.toArray.size).all fun _ => true) = true from List.all_eq_true.mpr fun _ _ => rfl]
  · rw [decide_eq_false hx] at q
    refine (SeqAt.RcAt.lists_lengths p1.isList p2.isList ?_ un) X.prog X.w _ _ ⟨.bl false, H, I, rfl, q⟩
    rw [bne_iff_ne, List.size_toArray, List.size_toArray, ← l1]
    exact hx
theorem op_neNil (hu : X.A.units + 64 < cLine) : OpR X (compareOp .NotEq) (rNeNil X.K) := by
  intro pins s σ H x y v u Q I rx ry h
  obtain ⟨a, b, xs, rfl, rfl, ha, hb, q⟩ := h
  cases (show v = Value.ref a from rx)
  cases (show u = Value.ref b from ry)
  obtain ⟨us, r1, p1, _⟩ := I.list ha
  obtain ⟨ws, r2, p2, _⟩ := I.list hb
  cases r2
  have l1 := r1.length
  have un : X.A.units < cLine := by omega
  show wpAny _ _ (richCompare .NotEq _ _) _ _ _
  by_cases hx : xs.length = 0
  · rw [decide_eq_true hx] at q
    have hz : us.toArray.size = ([] : List Value).toArray.size := by rw [List.size_toArray, List.size_toArray, ← l1, hx]; rfl
    refine (SeqAt.RcNeAt.lists (e := fun _ => true) p1.isList p2.isList hz un fun j h1 h2 => absurd h2 (Nat.not_lt_zero j)) X.prog X.w _ _ ?_
    refine ⟨.bl false, H, I, ?_, q⟩
    show Value.bool _ = Value.bool false
    rw [show ((List.range us.toArray.size).all fun _ => true) = true from List.all_eq_true.mpr fun _ _ => rfl]
    rfl
  · rw [decide_eq_false hx] at q
    refine (SeqAt.RcNeAt.lists_lengths p1.isList p2.isList ?_ un) X.prog X.w _ _ ⟨.bl true, H, I, rfl, q⟩
    rw [bne_iff_ne, List.size_toArray, List.size_toArray, ← l1]
    exact hx
end
end NL

namespace TT
open PySem PySem.Spec PyProof.Rows L2 TR
def hL (h : List Nat) : List Nat := h.take (h.length - 2)
def hW (h : List Nat) : List Nat := h.drop (h.length - 1)
def hM (h : List Nat) : List Nat := (h.drop (h.length - 2)).take (h.length - 1 - (h.length - 2))
theorem hM_len {h : List Nat} (e : hM h = [32]) : 2 ≤ h.length := by
  have := congrArg List.length e
  unfold hM at this
  rw [List.length_take, List.length_drop] at this
  simp at this
  omega
theorem hW_one {h : List Nat} (e : 1 ≤ h.length) : ∃ c, hW h = [c] := by
  refine List.length_eq_one_iff.mp ?_
  unfold hW
  rw [List.length_drop]
  omega
theorem h_split {h : List Nat} (e : hM h = [32]) : h = hL h ++ 32 :: hW h := by
  have h2 := hM_len e
  unfold hM at e
  rw [show h.length - 1 - (h.length - 2) = 1 by omega] at e
  have e1 := (List.take_append_drop (h.length - 2) h).symm
  have e2 := (List.take_append_drop 1 (h.drop (h.length - 2))).symm
  rw [e, List.drop_drop, show h.length - 2 + 1 = h.length - 1 by omega] at e2
  rw [e2] at e1
  exact e1
theorem h_parts (L : List Nat) (c : Nat) : hL (L ++ [32, c]) = L ∧ hW (L ++ [32, c]) = [c] ∧ hM (L ++ [32, c]) = [32] := by
  have e : (L ++ [32, c]).length = L.length + 2 := by rw [List.length_append]; rfl
  unfold hL hW hM
  rw [e]
  refine ⟨?_, ?_, ?_⟩
  · rw [show L.length + 2 - 2 = L.length by omega]
    exact List.take_left ..
  · rw [show L.length + 2 - 1 = L.length + 1 by omega, show L ++ [32, c] = (L ++ [32]) ++ [c] by simp]
    exact List.drop_left' (by simp)
  · rw [show L.length + 2 - 2 = L.length by omega, show L.length + 2 - 1 - L.length = 1 by omega, List.drop_left]
    rfl
end TT
namespace Law
open PySem PySem.Spec PyProof.Rows L2 Evl TR GX EK
theorem cut_L (h : List Nat) : cutS (tx h) none (some (-2 : Int)) = tx (TT.hL h) := by
  refine TL.ext_tl ?_
  show (List.take _ (List.drop _ h)) = h.take (h.length - 2)
  rw [HT.sIx_none, tx_len, Nat.sub_zero, List.drop_zero]
  unfold HT.sIx
  simp only []
  rw [if_pos (by decide), show ((-2 : Int) + (h.length : Nat)).toNat = h.length - 2 by omega]
theorem cut_W (h : List Nat) : cutS (tx h) (some (-1 : Int)) none = tx (TT.hW h) := by
  refine TL.ext_tl ?_
  show (List.take _ (List.drop _ h)) = h.drop (h.length - 1)
  rw [HT.sIx_none, tx_len]
  unfold HT.sIx
  simp only []
  rw [if_pos (by decide), show ((-1 : Int) + (h.length : Nat)).toNat = h.length - 1 by omega]
  refine List.take_of_length_le ?_
  rw [List.length_drop]
  omega
theorem cut_M (h : List Nat) : cutS (tx h) (some (-2 : Int)) (some (-1 : Int)) = tx (TT.hM h) := by
  refine TL.ext_tl ?_
  show (List.take _ (List.drop _ h)) = (h.drop (h.length - 2)).take (h.length - 1 - (h.length - 2))
  rw [tx_len]
  unfold HT.sIx
  simp only []
  rw [if_pos (by decide), if_pos (by decide), show ((-2 : Int) + (h.length : Nat)).toNat = h.length - 2 by omega, show ((-1 : Int) + (h.length : Nat)).toNat = h.length - 1 by omega]
def MetV (H' : Hp) (v : V) : Ans → Prop
  | .line i => ∃ r, v = .ref r ∧ H' r = some (.tup [.str "line", .int (i : Nat), .bl true])
  | .many m => ∃ r, v = .ref r ∧ H' r = some (.tup [.str "states", .int (m : Nat), .int 64])
  | .sts L w ts => ∃ r s us, v = .ref r ∧ H' r = some (.tup [.str "states", .ref s]) ∧ H' s = some (.tup us) ∧ Kids true H' us ts
def spDueT (K : PySem.W.Frag) : Sp := fun vs H Q _ => ∃ v, vs = [v] ∧ ((∃ z ls a, v = .str z ∧ TxOk z ls ∧ Is ls a ∧ ∀ v' H', Ex H H' → MetV H' v' a → Q v' H') ∨ (NoS K H v ∧ ∀ v' H', Ex H H' → MetV H' v' (.line 0) → Q v' H'))
theorem hd_law {h : List Nat} (h1 : TT.hM h = [32]) (h2 : widB (TT.hW h) = true) (h3 : areB (TT.hL h) = true) : ∃ w, HdOk h (TT.hL h) w ∧ TT.hW h = TT.num w := by
  have k : ∀ c < 57, 49 ≤ c → [c] = TT.num (c - 48) := by decide +kernel
  obtain ⟨c, hc⟩ := TT.hW_one (h := h) (by have := TT.hM_len h1; omega)
  rw [hc] at h2
  have h4 : (decide (49 ≤ c) && decide (c ≤ 56)) = true := h2
  rw [Bool.and_eq_true, decide_eq_true_eq, decide_eq_true_eq] at h4
  have e := TT.h_split h1
  rw [hc] at e
  refine ⟨c - 48, ⟨areB_lg h3, by omega, by omega, ?_⟩, ?_⟩
  · rw [show 48 + (c - 48) = c by omega]
    exact e
  · rw [hc]
    exact k c (by omega) h4.1
theorem hd_law_to {h L : List Nat} {w : Nat} (hh : HdOk h L w) : TT.hM h = [32] ∧ widB (TT.hW h) = true ∧ areB (TT.hL h) = true := by
  obtain ⟨hL, w1, w8, rfl⟩ := hh
  obtain ⟨a, b, c⟩ := TT.h_parts L (48 + w)
  have k : ∀ w < 9, 1 ≤ w → widB [48 + w] = true := by decide +kernel
  exact ⟨c, by rw [b]; exact k w (by omega) w1, by rw [a]; exact areB_good hL⟩
theorem or_valH {t u : L2.TT} {σ : L2.St} {H : Hp} {b : Bool} {Q : Bool → Hp → Prop} (h : ∀ Q' : Bool → Hp → Prop, (∀ H', Ex H H' → Q' b H') → tOr t u σ H Q') (q : ∀ H', Ex H H' → Q b H') : tOr t u σ H Q := h Q q
theorem abc_in (c : Nat) : decide (c ∈ (Str.ofString "abcdefghijklmnopqrstuvwxyz").cps.toList) = azB c := by
  rw [show (Str.ofString "abcdefghijklmnopqrstuvwxyz").cps.toList = (List.range 26).map (97 + ·) by decide +kernel]
  unfold azB
  by_cases h : 97 ≤ c ∧ c ≤ 122
  · rw [decide_eq_true h.1, decide_eq_true h.2, decide_eq_true]
    · rfl
    · exact List.mem_map.mpr ⟨c - 97, List.mem_range.mpr (by omega), by omega⟩
  · have h2 : (decide (97 ≤ c) && decide (c ≤ 122)) = false := by
      rw [Bool.and_eq_false_iff, decide_eq_false_iff_not, decide_eq_false_iff_not]
      omega
    rw [h2, decide_eq_false]
    intro z
    obtain ⟨j, hj, e⟩ := List.mem_map.mp z
    have := List.mem_range.mp hj
    omega
section
variable {P : Program} {w : World} {K : PySem.W.Frag} {mg : Str → Option Value} {base : Heap}
theorem ok_ldue {f : Addr} {fd : FuncData} (F : Fun K "_law_due" "_law_due" s_ldue f fd) (T : Tx mg) (c_ltree_at : Kn P w K mg base "_law_tree_at" ["_law_line_here", "_law_at", "_law_world", "_law_level"] 43 (spLTree 40)) :
    FnOk P w K mg base CX0 44 f fd ["_law_text"] (spDueT K) := by
  refine F.ok sc_ldue (fun vs H Q E h => ?_) (fun cdv A outer s H vs Q E hr h => ?_)
  · obtain ⟨v, rfl, _⟩ := h
    rfl
  · obtain ⟨v, rfl, h⟩ := h
    refine ⟨_, (pss_cons (ps_if (pt_not (pt_val (pe_callB call_isi (by rfl) T.isinstance PyProof.Rows.boot_isinstance (pa_cons (pv 0) (pa_cons (pe_bltn (v := .ty "str") (by rfl) T.str PyProof.Rows.boot_str rfl) pa_nil))))) (pss_one (ps_ret (pe_tup (pa_cons pe_str (pa_cons pe_int (pa_cons pe_bl pa_nil)))))) pss_nil)
      (pss_cons (ps_set (i := 1) sc_ldue.nd rfl (Or.inl rfl) (pe_split (pv 0) pe_str))
      (pss_cons (ps_par (i := 2) (j := 3) (by rfl) sc_ldue.nd rfl rfl (by decide) rfl rfl (pa_cons (pe_slice sl_str (pe_ix ix_list (pv 1) pe_int (fun _ _ => rfl)) po_none (po_some (pe_un un_neg pe_int))) (pa_cons (pe_slice sl_str (pe_ix ix_list (pv 1) pe_int (fun _ _ => rfl)) (po_some (pe_un un_neg pe_int)) po_none) pa_nil)) (by rfl))
      (pss_cons (ps_set (i := 4) sc_ldue.nd rfl (Or.inr rfl) pe_str)
      (pss_cons (ps_if (PW.pt (pw_or (pt_cmpR op_ne (pe_slice sl_str (pe_ix ix_list (pv 1) pe_int (fun _ _ => rfl)) (po_some (pe_un un_neg pe_int)) (po_some (pe_un un_neg pe_int))) pe_str (nomark _)) (pw_or (pt_cmpR op_eq (pv 3) pe_str (nomark _)) (pw_or (pt_cmpR op_notIn_sign (pv 3) pe_str rfl) (pw_or (pt_cmpR op_lt (pe_callB call_len_str (by rfl) T.len PySem.boot_len (pa_cons (pv 2) pa_nil)) pe_int (nomark _)) (pw_or1 (pt_cmpR op_gt (pe_callB call_len_str (by rfl) T.len PySem.boot_len (pa_cons (pv 2) pa_nil)) pe_int (nomark _)))))))) (pss_one (ps_ret (pe_tup (pa_cons pe_str (pa_cons pe_int (pa_cons pe_bl pa_nil)))))) pss_nil)
      (pss_cons (ps_if (PW.pt (pw_or (pt_cmpR (NL.op_neNil hr.units) (pe_lc (own := [("_law_sign", 5)]) (g := gName 5) rfl sc_ldue.nd (pi_str (pv 2)) (blkOk_by (N := N_ldue) (sc := defScope s_ldue) (by decide +kernel)) (fun _ _ _ _ _ => (pg_name (i := 5) sc_ldue.nd rfl (Or.inl rfl))) (fun _ _ _ _ _ => (pts_one (pt_cmpR op_notIn_sign (pv 5) (pv 4) rfl))) (fun _ _ _ _ _ => (pv 5))) (pe_lst pa_nil) (nomark _)) (pw_or1 (pt_cmpR op_lt (EN.pe_lenSetS rfl (by rfl) T.len (by rfl) T.set (pv 2)) (pe_callB call_len_str (by rfl) T.len PySem.boot_len (pa_cons (pv 2) pa_nil)) (nomark _))))) (pss_one (ps_ret (pe_tup (pa_cons pe_str (pa_cons pe_int (pa_cons pe_bl pa_nil)))))) pss_nil)
      (pss_cons (ps_par (i := 6) (j := 7) (by rfl) sc_ldue.nd rfl rfl (by decide) rfl rfl (pa_cons (pe_op op_sub (pe_callB call_len_seq (by rfl) T.len PySem.boot_len (pa_cons (pv 1) pa_nil)) pe_int) (pa_cons (pe_lst pa_nil) pa_nil)) (by rfl))
      (pss_cons (ps_if (pt_cmpR op_gt (pv 6) pe_int (nomark _)) (pss_one (ps_ret (pe_tup (pa_cons pe_str (pa_cons (pv 6) (pa_cons pe_int pa_nil)))))) pss_nil)
      (pss_cons (ps_for PassesOwn.never rfl (pi_range2 (by rfl) T.range (pa_cons pe_int (pa_cons (pe_op op_add (pv 6) pe_int) pa_nil))) (pg_name (i := 8) sc_ldue.nd rfl (Or.inl rfl)) (pss_cons (ps_asg (pe_call c_ltree_at.ok (hr.mono (by decide)) (by rfl) c_ltree_at.g c_ltree_at.kp c_ltree_at.b .nil pass0 (pa_cons (pe_ix ix_list (pv 1) (pv 8) (fun _ _ => rfl)) (pa_cons pe_int (pa_cons (pe_tup (pa_cons (pv 2) (pa_cons (pe_callTy call_int_str (by rfl) T.int PyProof.Rows.boot_int (pa_cons (pv 3) pa_nil)) (pa_cons (pv 6) pa_nil)))) (pa_cons pe_int pa_nil))))) (pg_tup (by rfl) (pgs_cons (pg_name (i := 9) sc_ldue.nd rfl (Or.inl rfl)) (pgs_cons (pg_name (i := 10) sc_ldue.nd rfl (Or.inl rfl)) pgs_nil))))
      (pss_cons (ps_if (PW.pt (pw_or (pt_cmpR op_isN (pv 10) pe_non (nomark _)) (pw_or1 (pt_cmpR op_lt (pv 10) (pe_callB call_len_str (by rfl) T.len PySem.boot_len (pa_cons (pe_ix ix_list (pv 1) (pv 8) (fun _ _ => rfl)) pa_nil)) (nomark _))))) (pss_one (ps_ret (pe_tup (pa_cons pe_str (pa_cons (pv 8) (pa_cons pe_bl pa_nil)))))) pss_nil)
      (pss_one (ps_expr (pe_bm PySem.F.plainAttrs_list PySem.F.slot_list_append PySem.F.type_list_append mt_append (pv 7) (pa_cons (pv 9) pa_nil)))))))
      (pss_one (ps_ret (pe_ifExp (pt_cmpR op_gt (pv 6) pe_int (nomark _)) (pe_tup (pa_cons pe_str (pa_cons (pe_callTy call_tuple_of (by rfl) T.tuple PyProof.Rows.boot_tuple (pa_cons (pv 7) pa_nil)) pa_nil))) (pe_tup (pa_cons pe_str (pa_cons pe_int (pa_cons pe_bl pa_nil)))))))))))))))), ?_⟩
    rcases h with ⟨z, ls, a, rfl, X, hI, q⟩ | ⟨hn, q⟩
    rotate_left
    · obtain ⟨t, ht, hk⟩ := hn
      refine ⟨_, rfl, _, _, _, _, false, rfl, .ty _, ht, hk, false, rfl, ?_⟩
      exact ⟨by show 3 ≤ sizeLine; decide, fun r hr => q _ _ (Ex.new hr) ⟨r, rfl, upd_same⟩⟩
    obtain ⟨hlen, hspl, hne, hok, hsum, hcnt⟩ := X
    obtain ⟨h, r, rfl⟩ : ∃ h r, ls = h :: r := by
      cases ls with
      | nil => exact absurd rfl hne
      | cons h r => exact ⟨h, r, rfl⟩
    obtain ⟨hha, hhl⟩ := hok h List.mem_cons_self
    have szh : (tx h).length ≤ sizeLine := sz_of (by rw [tx_len]; omega)
    refine ⟨_, rfl, _, _, _, _, true, rfl, .ty _, .base (.str _), kit_ss, true, rfl, ?_⟩
    refine ⟨_, rfl, ⟨_, rfl⟩, _, _, rfl, rfl, by decide +kernel, sz_of (by omega), fun p hp => ?_⟩
    rw [hspl]
    have e1 : Ex H (L2.upd H p (.lst (((h :: r).map TT.S).map V.str))) := Ex.new hp
    have g1 : (L2.upd H p (.lst (((h :: r).map TT.S).map V.str))) p = some (.lst (((h :: r).map TT.S).map V.str)) := upd_same
    generalize (L2.upd H p (.lst (((h :: r).map TT.S).map V.str))) = H1 at e1 g1 ⊢
    have ret0 : a = .line 0 → ∀ H5, Ex H H5 → 3 ≤ sizeLine ∧ ∀ r, H5 r = none → Q (.ref r) (L2.upd H5 r (.tup [.str "line", .int 0, .bl true])) := fun ea H5 e5 => by
      subst ea
      exact ⟨by decide, fun r hr => q _ _ (e5.trans (Ex.new hr)) ⟨r, rfl, upd_same⟩⟩
    have hlW : (TT.hW h).length ≤ h.length := by
      unfold TT.hW
      rw [List.length_drop]
      omega
    have hlL : (TT.hL h).length ≤ h.length := by
      unfold TT.hL
      rw [List.length_take]
      omega
    have g0 : atI (((h :: r).map TT.S).map V.str) 0 = some (.str (tx h)) := atI_nat (j := 0) rfl
    refine ⟨_, rfl, p, _, 0, _, rfl, rfl, sq_of g1, g0, _, rfl, _, rfl, _, rfl, szh, ?_⟩
    rw [cut_L]
    refine ⟨_, rfl, p, _, 0, _, rfl, rfl, sq_of g1, g0, _, rfl, _, rfl, _, rfl, szh, ?_⟩
    rw [cut_W]
    refine ⟨_, _, rfl, ?_⟩
    have szL : (tx (TT.hL h)).length ≤ sizeLine := sz_of (by rw [tx_len]; omega)
    have eW : V.str (tx (TT.hW h)) = V.str (Str.ofString "") ↔ TT.hW h = [] := by
      constructor
      · intro z
        exact congrArg (fun s : Str => TL.tl s) (V.str.inj z)
      · intro z
        rw [z]
        rfl
    have eM : V.str (tx (TT.hM h)) = V.str (Str.ofString " ") ↔ TT.hM h = [32] := by
      rw [l_sp]
      constructor
      · intro z
        exact congrArg (fun s : Str => TL.tl s) (V.str.inj z)
      · intro z
        rw [z]
    have w_in : ∀ c : Nat, decide (c ∈ (Str.ofString "12345678").cps.toList) = (decide (49 ≤ c) && decide (c ≤ 56)) := fun c => by
      rw [show (Str.ofString "12345678").cps.toList = [49, 50, 51, 52, 53, 54, 55, 56] by decide +kernel]
      by_cases h : 49 ≤ c ∧ c ≤ 56
      · have : ∀ c < 57, 49 ≤ c → decide (c ∈ [49, 50, 51, 52, 53, 54, 55, 56]) = true := by decide
        rw [decide_eq_true h.1, decide_eq_true h.2]
        exact this c (by omega) h.1
      · have h2 : (decide (49 ≤ c) && decide (c ≤ 56)) = false := by
          rw [Bool.and_eq_false_iff, decide_eq_false_iff_not, decide_eq_false_iff_not]
          omega
        rw [h2, decide_eq_false]
        simp only [List.mem_cons, List.not_mem_nil, or_false]
        omega
    dsimp only [tSeq, tAsg, gName, tIfS, tC]
    refine or_val (b := !(decide (TT.hM h = [32]) && (widB (TT.hW h) && decide (2 ≤ (TT.hL h).length ∧ (TT.hL h).length ≤ 4)))) (fun Q' hq => ?_) ?_
    · refine ⟨_, rfl, p, _, 0, _, rfl, rfl, sq_of g1, g0, _, rfl, _, rfl, _, rfl, _, rfl, _, rfl, szh, ?_⟩
      rw [cut_M]
      refine ⟨rfl, _, rfl, ite2 (fun hb => ?_) (fun hb => ?_)⟩
      · rw [decide_eq_false (show ¬ TT.hM h = [32] from fun z => by
          rw [decide_eq_true (eM.mpr z)] at hb
          cases hb)] at hq
        exact hq
      have m1 : TT.hM h = [32] := by
        by_cases z : TT.hM h = [32]
        · exact z
        · refine absurd ?_ hb
          rw [decide_eq_false fun y => z (eM.mp y)]
          rfl
      rw [decide_eq_true m1, Bool.true_and] at hq
      obtain ⟨c, hc⟩ := TT.hW_one (h := h) (by have := TT.hM_len m1; omega)
      refine ⟨_, rfl, rfl, _, rfl, ite2 (fun hb2 => ?_) (fun hb2 => ?_)⟩
      · have := eW.mp (of_decide_eq_true hb2)
        rw [hc] at this
        cases this
      rw [hc] at hq ⊢
      have hw : widB [c] = (decide (49 ≤ c) && decide (c ≤ 56)) := rfl
      refine ⟨_, rfl, c, _, rfl, rfl, _, rfl, ite2 (fun hb3 => ?_) (fun hb3 => ?_)⟩
      · rw [w_in] at hb3
        have hz : (decide (49 ≤ c) && decide (c ≤ 56)) = false := by
          cases hx : (decide (49 ≤ c) && decide (c ≤ 56)) with
          | false => rfl
          | true => rw [hx] at hb3; cases hb3
        rw [hw, hz, Bool.false_and] at hq
        exact hq
      rw [w_in] at hb3
      have hz : (decide (49 ≤ c) && decide (c ≤ 56)) = true := by
          cases hx : (decide (49 ≤ c) && decide (c ≤ 56)) with
          | true => rfl
          | false => rw [hx] at hb3; exact absurd rfl hb3
      rw [hw, hz, Bool.true_and] at hq
      refine ⟨_, rfl, _, rfl, szL, _, _, rfl, rfl, _, rfl, ite2 (fun hb4 => ?_) (fun hb4 => ?_)⟩
      · have h4 := of_decide_eq_true hb4
        rw [tx_len] at h4
        rw [decide_eq_false (show ¬ (2 ≤ (TT.hL h).length ∧ (TT.hL h).length ≤ 4) by omega)] at hq
        exact hq
      have h4 : 2 ≤ (TT.hL h).length := Nat.le_of_not_lt fun z => hb4 (decide_eq_true (by rw [tx_len]; omega))
      refine ⟨_, rfl, _, rfl, szL, _, _, rfl, rfl, _, rfl, ?_⟩
      by_cases h5 : (TT.hL h).length ≤ 4
      · rw [decide_eq_true (show 2 ≤ (TT.hL h).length ∧ (TT.hL h).length ≤ 4 from ⟨h4, h5⟩)] at hq
        rw [decide_eq_false (show ¬ (4 : Int) < ((tx (TT.hL h)).length : Nat) by rw [tx_len]; omega)]
        exact hq
      · rw [decide_eq_false (show ¬ (2 ≤ (TT.hL h).length ∧ (TT.hL h).length ≤ 4) by omega)] at hq
        rw [decide_eq_true (show (4 : Int) < ((tx (TT.hL h)).length : Nat) by rw [tx_len]; omega)]
        exact hq
    refine ite2 (fun hb => ?_) (fun hb => ?_)
    · refine ret0 (is_line hI fun L w hh => ?_) _ e1
      obtain ⟨k1, k2, k3⟩ := hd_law_to hh
      have k4 := areB_lg k3
      rw [k1, k2, decide_eq_true (show 2 ≤ (TT.hL h).length ∧ (TT.hL h).length ≤ 4 from ⟨k4.lo, k4.hi⟩)] at hb
      cases hb
    obtain ⟨m1, m2, m3⟩ : TT.hM h = [32] ∧ widB (TT.hW h) = true ∧ 2 ≤ (TT.hL h).length ∧ (TT.hL h).length ≤ 4 := by
      have := (Bool.not_eq_true _).mp hb
      rw [Bool.not_eq_false', Bool.and_eq_true, Bool.and_eq_true, decide_eq_true_eq, decide_eq_true_eq] at this
      exact this
    clear hb
    obtain ⟨LL, hLL⟩ : ∃ LL, TT.hL h = LL := ⟨_, rfl⟩
    rw [hLL] at m3 szL hlL ⊢
    dsimp only [tNext, tSeq, tIfS]
    refine or_valH (b := !(LL.all azB && decide (ST.dct (LL.map sg) LL.length = LL.length))) (fun Q' hq => ?_) (fun H2 e2 => ?_)
    · refine ⟨_, rfl, _, rfl, fun D hD => ?_⟩
      refine lc_str (x := tx LL) (fun i H' => Ex H1 H' ∧ H' D = some (.lst ((((LL.take i).filter fun c => !azB c).map sg).map V.str))) ⟨Ex.new hD, upd_same⟩ (fun i c H' hic hw => ?_) (fun H' hw => ?_)
      · obtain ⟨e, hl⟩ := hw
        have hc := tx_at hic
        have hi := (List.getElem?_eq_some_iff.mp hc).1
        refine ⟨rfl, _, rfl, _, rfl, c, _, rfl, rfl, _, rfl, ?_⟩
        rw [abc_in]
        refine ite2 (fun hb => ?_) (fun hb => ?_)
        · refine ⟨_, rfl, _, hl, ?_, e.mut hD, ?_⟩
          · rw [List.length_map, List.length_map]
            have h1 := (List.filter_sublist (l := LL.take i) (p := fun c => !azB c)).length_le
            rw [List.length_take] at h1
            exact sz_lt (by omega)
          · rw [upd_same, take_next' hc, List.filter_append, List.map_append, List.map_append]
            rw [show List.filter (fun c => !azB c) [c] = [c] by rw [List.filter_cons, if_pos hb]; rfl]
            rfl
        · refine ⟨e, ?_⟩
          rw [hl, take_next' hc, List.filter_append, show List.filter (fun c => !azB c) [c] = [] by rw [List.filter_cons, if_neg hb]; rfl, List.append_nil]
      · obtain ⟨e, hl⟩ := hw
        rw [tx_size, List.take_length] at hl
        refine ⟨by decide, fun D2 hD2 => ?_⟩
        have hl2 := (Ex.new (o := .lst []) hD2) _ _ hl
        have e2 := e.trans (Ex.new (o := .lst []) hD2)
        refine ⟨D, D2, _, rfl, rfl, sq_of hl2, sq_of upd_same, _, rfl, ?_⟩
        have hq2 := hq _ e2
        generalize (L2.upd H' D2 (.lst [])) = H3 at hq2 ⊢
        cases hall : LL.all azB with
        | false =>
          rw [hall, Bool.false_and] at hq2
          refine ite2 (fun _ => hq2) (fun hb => ?_)
          exfalso
          refine hb ?_
          rw [decide_eq_false]
          · rfl
          intro z
          rw [List.length_map, List.length_map, List.length_eq_zero_iff, List.filter_eq_nil_iff] at z
          have : LL.all azB = true := List.all_eq_true.mpr fun c hc => by
            have := z c hc
            cases hx : azB c with
            | true => rfl
            | false => rw [hx] at this; exact absurd rfl this
          rw [hall] at this
          cases this
        | true =>
          rw [hall, Bool.true_and] at hq2
          refine ite2 (fun hb => ?_) (fun _ => ?_)
          · rw [decide_eq_true] at hb
            · cases hb
            rw [List.length_map, List.length_map, List.length_eq_zero_iff, List.filter_eq_nil_iff]
            intro c hc
            rw [List.all_eq_true.mp hall c hc]
            simp
          · refine ⟨_, rfl, _, rfl, ?_⟩
            refine ⟨by rw [tx_size]; omega, _, rfl, _, rfl, szL, _, _, rfl, rfl, _, rfl, ?_⟩
            have hle := ST.dct_le (LL.map sg) LL.length
            have e2 : decide (((ST.dct (ST.signsOf (tx LL)) (tx LL).cps.size : Nat) : Int) < (((tx LL).length : Nat) : Int)) = !decide (ST.dct (LL.map sg) LL.length = LL.length) := by
              rw [sgs_of, tx_size, tx_len]
              by_cases hx : ST.dct (LL.map sg) LL.length = LL.length
              · rw [decide_eq_true hx, decide_eq_false (by omega)]
                rfl
              · rw [decide_eq_false hx, decide_eq_true (by omega)]
                rfl
            rw [e2]
            exact hq2
    · have eB : areB LL = (LL.all azB && decide (ST.dct (LL.map sg) LL.length = LL.length)) := by
        unfold areB
        rw [decide_eq_true m3, Bool.true_and]
      rw [← eB]
      have e12 := e1.trans e2
      have g2 := e2 _ _ g1
      refine ite2 (fun hb => ?_) (fun hb => ?_)
      · refine ret0 (is_line hI fun L w hh => ?_) _ e12
        obtain ⟨k1, k2, k3⟩ := hd_law_to hh
        rw [hLL] at k3
        rw [k3] at hb
        cases hb
      have hB : areB LL = true := by
        cases hx : areB LL with
        | true => rfl
        | false => rw [hx] at hb; exact absurd rfl hb
      clear hb
      obtain ⟨wd, hH, hWn⟩ := hd_law m1 m2 (by rw [hLL]; exact hB)
      rw [hLL] at hH
      rw [hWn]
      have hLG := hH.1
      have w1 := hH.2.1
      have w8 := hH.2.2.1
      have nm := TT.num_len (show wd < 100 by omega)
      have hLne := TT.low_ne hLG.lo
      have h640 : (tx (TT.num wd)).length ≤ 640 := by rw [tx_len]; omega
      have hxl : (((h :: r).map TT.S).map V.str).length = r.length + 1 := by simp
      have hxi : ∀ (i : Nat) y, r[i]? = some y → (((h :: r).map TT.S).map V.str)[i + 1]? = some (.str (tx y)) := fun i y hy => by
        rw [List.getElem?_map, List.getElem?_map, List.getElem?_cons_succ, hy]
        rfl
      have hcr : r.length ≤ 9000 := by
        rw [List.length_cons] at hcnt
        omega
      generalize (((h :: r).map TT.S).map V.str) = xs at g2 hxl hxi
      have em : ((xs.length : Nat) : Int) - 1 = (r.length : Int) := by omega
      refine ⟨_, rfl, p, xs, rfl, .inl (sq_of g2), _, _, rfl, rfl, Nat.zero_le _, fun D hD => ⟨_, _, rfl, ?_⟩⟩
      dsimp only
      rw [em]
      refine ⟨_, rfl, _, _, rfl, rfl, _, rfl, ite2 (fun hb => ?_) (fun hb => ?_)⟩
      · have hr64 : 64 < r.length := by
          have := of_decide_eq_true hb
          omega
        cases is_many hI hH hr64
        exact ⟨_, rfl, by show 3 ≤ sizeLine; decide, fun r' hr' => q _ _ ((e12.trans (Ex.new hD)).trans (Ex.new hr')) ⟨r', rfl, upd_same⟩⟩
      have n64 : r.length ≤ 64 := Nat.le_of_not_lt fun z => hb (decide_eq_true (by omega))
      have g3 := (Ex.new (o := .lst []) hD) _ _ g2
      have e03 := e12.trans (Ex.new (o := .lst []) hD)
      have hD0 : H D = none := fresh_back e12 hD
      refine ⟨_, rfl, _, _, rfl, rfl, _, _, rfl, ⟨by omega, by omega, by omega, by omega⟩, ?_⟩
      rw [show (((r.length : Int) + 1) - 1).toNat = r.length by omega]
      refine for_range (lo := 1) (n := r.length) (fun i σ H' => ∃ (y8 y9 y10 : Option V) (zs : List V) (ts : List Tr), σ = [some (.str z), some (.ref p), some (.str (tx LL)), some (.str (tx (TT.num wd))), some (.str (Str.ofString "abcdefghijklmnopqrstuvwxyz")), none, some (.int (r.length : Nat)), some (.ref D), y8, y9, y10] ∧ Ex H H' ∧ H' p = some (.lst xs) ∧ H' D = some (.lst zs) ∧ Kids true H' zs ts ∧ ts.length = i ∧ ∀ (j : Nat) y t, r[j]? = some y → ts[j]? = some t → TT.Rl LL wd r.length y t)
        ⟨none, none, none, [], [], rfl, e03, g3, upd_same, .nil, rfl, fun j y t _ ht => by cases ht⟩ (fun i σ H' hi hw => ?_) (fun σ H' hw => ?_)
      · obtain ⟨y8, y9, y10, zs, ts, rfl, e6, g6, hz, Z, hl, hg⟩ := hw
        obtain ⟨y, hy⟩ : ∃ y, r[i]? = some y := ⟨_, List.getElem?_eq_getElem hi⟩
        obtain ⟨hya, hyl⟩ := hok y (List.mem_cons_of_mem _ (List.mem_of_getElem? hy))
        have lz := Z.len
        have hat : atI xs ((1 : Int) + (i : Nat)) = some (.str (tx y)) := by
          rw [show ((1 : Int) + (i : Nat)) = ((i + 1 : Nat) : Int) by omega]
          exact atI_nat (hxi i y hy)
        have n1 : 1 ≤ r.length := by omega
        have hgx : ∀ (j : Nat) y, j < i → r[j]? = some y → ∃ t, TT.Rl LL wd r.length y t := fun j y2 hj hy2 => ⟨_, hg j y2 _ hy2 (List.getElem?_eq_getElem (by omega))⟩
        refine ⟨_, rfl, _, rfl, p, _, _, _, rfl, rfl, sq_of g6, hat, ?_⟩
        refine ⟨_, rfl, _, rfl, _, _, rfl, TT.num_int (show wd < 100 by omega), h640, _, rfl, by show 3 ≤ sizeLine; decide, fun wa hwa => ?_⟩
        have e7 := e6.trans (Ex.new (o := .tup [.str (tx LL), .int (wd : Nat), .int (r.length : Nat)]) hwa)
        have hz7 := (Ex.new (o := .tup [.str (tx LL), .int (wd : Nat), .int (r.length : Nat)]) hwa) _ _ hz
        have g7 := (Ex.new (o := .tup [.str (tx LL), .int (wd : Nat), .int (r.length : Nat)]) hwa) _ _ g6
        have Z7 := Z.ex (Ex.new (o := .tup [.str (tx LL), .int (wd : Nat), .int (r.length : Nat)]) hwa)
        refine ⟨y, LL, some 0, wa, wd, r.length, 1, rfl, rfl, by omega, hLG.hi, upd_same, n1, fun H8 r8 v e8 h8 hv => ?_⟩
        have e78 := e7.trans e8
        have hz8 := e8 _ _ hz7
        have g8 := e8 _ _ g7
        refine ⟨r8, _, rfl, st_of h8, rfl, _, _, rfl, _, _, rfl, rfl, ?_⟩
        have lineE : (∀ t, ¬ TT.Rl LL wd r.length y t) → 3 ≤ sizeLine ∧ ∀ r', H8 r' = none → Q (.ref r') (L2.upd H8 r' (.tup [.str "line", .int ((1 : Int) + (i : Nat)), .bl true])) := fun hno => by
          cases is_bad hI hH n64 hgx hy hno
          refine ⟨by decide, fun r' hr' => q _ _ (e78.trans (Ex.new hr')) ⟨r', rfl, ?_⟩⟩
          rw [show ((i + 1 : Nat) : Int) = (1 : Int) + (i : Nat) by omega]
          exact upd_same
        cases hx : TT.treeF LL wd r.length y 40 (some 0) with
        | none =>
          refine ⟨_, rfl, rfl, _, rfl, ite2 (fun _ => ?_) fun hb => absurd rfl hb⟩
          refine ⟨_, rfl, lineE fun t ht => ?_⟩
          rw [TT.rl_to w8 n64 hLne ht] at hx
          cases hx
        | some a2 =>
          obtain ⟨t, k⟩ := a2
          refine ⟨_, rfl, rfl, _, rfl, ite2 (fun hb => by cases hb) fun _ => ?_⟩
          refine ⟨_, rfl, _, rfl, _, rfl, p, _, _, _, rfl, rfl, sq_of g8, hat, _, rfl, sz_of (by rw [tx_len]; omega), _, _, rfl, rfl, _, rfl, ite2 (fun hb => ?_) fun hb => ?_⟩
          · refine ⟨_, rfl, lineE fun t2 ht => ?_⟩
            rw [TT.rl_to w8 n64 hLne ht] at hx
            cases hx
            have := of_decide_eq_true hb
            rw [tx_len] at this
            omega
          · have hk : ¬ k < y.length := fun z => hb (decide_eq_true (by rw [tx_len]; omega))
            have hR := TT.rl_of n1 hLne hx hk
            refine ⟨_, rfl, .inl ⟨rfl, _, sq_of hz8⟩, _, rfl, D, _, _, rfl, rfl, hz8, sz_lt (by omega), ?_⟩
            refine ⟨_, _, _, zs ++ [v], ts ++ [t], rfl, e78.mut hD0, ?_, upd_same, ?_, by rw [List.length_append, hl]; rfl, fun j y2 t2 hy2 ht2 => ?_⟩
            · rw [upd_ne (fun z : p = D => by
                rw [z] at g2
                rw [g2] at hD
                cases hD)]
              exact g8
            · refine Kids.upd (fun ys hh => ?_) ((Z7.ex e8).snoc (hv t k hx))
              rw [hz8] at hh
              cases hh
            · by_cases hj : j < ts.length
              · rw [List.getElem?_append_left hj] at ht2
                exact hg j y2 t2 hy2 ht2
              · have hj2 := (List.getElem?_eq_some_iff.mp ht2).1
                rw [List.length_append, List.length_singleton] at hj2
                have : j = i := by omega
                subst this
                rw [hy] at hy2
                cases hy2
                rw [List.getElem?_append_right (by omega), hl, Nat.sub_self] at ht2
                cases ht2
                exact hR
      · obtain ⟨y8, y9, y10, zs, ts, rfl, e6, g6, hz, Z, hl, hg⟩ := hw
        refine ⟨_, rfl, _, _, rfl, rfl, _, rfl, ite2 (fun hb => ?_) (fun hb => ?_)⟩
        · have n1 : 1 ≤ r.length := by
            have := of_decide_eq_true hb
            omega
          cases is_good hI hH n1 n64 hl hg
          refine ⟨_, rfl, D, zs, rfl, .inl ⟨sq_of hz, fun t2 ht2 => ⟨by show 2 ≤ sizeLine; decide, fun r' hr' => ?_⟩⟩⟩
          have hs : (L2.upd H' t2 (.tup zs)) t2 = some (.tup zs) := upd_same
          exact q _ _ ((e6.trans (Ex.new ht2)).trans (Ex.new hr')) ⟨r', t2, zs, rfl, upd_same, (Ex.new hr') _ _ hs, (Z.ex (Ex.new ht2)).ex (Ex.new hr')⟩
        · have n0 : r = [] := List.length_eq_zero_iff.mp (Nat.eq_zero_of_not_pos fun z => hb (decide_eq_true (by omega)))
          subst n0
          cases is_none hI hH
          exact ⟨by show 3 ≤ sizeLine; decide, fun r' hr' => q _ _ (e6.trans (Ex.new hr')) ⟨r', rfl, upd_same⟩⟩
end
end Law

/-! in a try: C(..) and o.m(..) whose E hangs on the names -/
namespace MS
open PySem PySem.Spec PyProof.Rows L2 EK
section
variable {X : Cx} {CX : CXT} {k : Nat} {f C : Addr} {fd : FuncData} {ps : List Str} {sp : Sp} {dvs : List V} {ds : List Value} {E : L2.St → XK} {x m : Str} {p pos apos : Pos} {e o : Expr} {es : List Expr} {ta : TE} {t : TA}
theorem run_makeS {pins : List (Addr × Obj)} {σ : L2.St} {H : Hp} {s : Shared} {Q : VK} {us : List Value} {vs : List V} (M : Mk X.K C f) (F : FnOk X.prog X.w X.K X.mg X.base CX k f fd ps sp) (hr : Room (k + 1) X.A) (hb : Binds X.K fd ps ds) (hd : Vals dvs ds)
    (hx : PassesAt CX X σ (E σ)) (I : Inv X pins σ H s) (r : Vals vs us)
    (h : ∀ x dx, H x = none → H dx = none → dx ≠ x → sp (.ref x :: (vs ++ dvs)) (upd (upd H dx (.own x)) x (.ins C dx [])) (fun v H2 => v = .non ∧ Q (.ref x) H2) (E σ)) :
    wpAny (model X.prog X.w) X.A (call (.ref C) us) (EP X pins σ Q) X.xe s := by
  have hq := h (s.heap.objs.size + 1) s.heap.objs.size (I.hok.fresh (Nat.le_succ _)) (I.hok.fresh (Nat.le_refl _)) (Nat.ne_of_lt (Nat.lt_succ_self _))
  have I2 := Inv.made (C := C) I
  have r2 : Vals (V.ref (s.heap.objs.size + 1) :: (vs ++ dvs)) (Value.ref (s.heap.objs.size + 1) :: (us ++ ds)) := .cons rfl (r.append hd)
  have hl : (Value.ref (s.heap.objs.size + 1) :: us ++ ds).length = ps.length := by
    have e := r2.length
    rw [F.len _ _ _ _ hq] at e
    exact e.symm
  refine wpAny_call (make_map (f := f) I.kIn M.makes M.init (beq_iff_eq.mp M.fn) (codeAny_mono (F.run _ X.stack _ _ ⟨Value.ref (s.heap.objs.size + 1) :: us, []⟩ (Value.ref (s.heap.objs.size + 1) :: (us ++ ds)) _ _ (E σ) (hr.make C us [])
    (I2.env0.make C us []) (hb _ (Value.ref (s.heap.objs.size + 1) :: us) I2.kIn hl) r2 hq) fun r s' hq' => ?_))
  cases r with
  | error e => exact hx pins _ _ e s' I2 hq'
  | ok fl =>
    cases fl with
    | ret u =>
      obtain ⟨v, H', I3, rv, ev, q3⟩ := I2.after hq'
      subst ev
      exact ⟨rv, ⟨V.ref (s.heap.objs.size + 1), H', I3, rfl, q3⟩⟩
    | next => exact False.elim hq'
    | brk => exact False.elim hq'
    | cont => exact False.elim hq'
def tMakeS (C : Addr) (sp : Sp) (dvs : List V) (E : L2.St → XK) (t : TA) : TE := fun σ H Q => t σ H fun vs H1 => ∀ x dx, H1 x = none → H1 dx = none → dx ≠ x → sp (.ref x :: (vs ++ dvs)) (upd (upd H1 dx (.own x)) x (.ins C dx [])) (fun v H2 => v = .non ∧ Q (.ref x) H2) (E σ)
theorem pe_makeS (M : Mk X.K C f) (F : FnOk X.prog X.w X.K X.mg X.base CX k f fd ps sp) (hr : Room (k + 1) X.A) (hg : Gl X x) (hm : X.mg x = some (.ref C)) (hb : Binds X.K fd ps ds) (hd : Vals dvs ds) (hx : ∀ σ, PassesAt CX X σ (E σ))
    (ha : PA X (e :: es) t) (hdb : (x == ("__debug__" : Str)) = false := by decide) (he : starEach (e :: es) X.env = (false, eval e X.env) :: starEach es X.env := by rfl) (hpl : (backTo pos (starEach es X.env)).any (·.1) = false := by rfl) :
    PE X (.Call (.Name x p) (e :: es) [] pos) (tMakeS C sp dvs E t) := by
  refine ⟨fun pins s σ H Q I h => ?_⟩
  refine wpAny_Call_Name_kw (ld_glob I hg hm ?_ hdb)
  refine PySem.W.callWith_K (h₀ := X.base) I.ok.mod.kin M.kp (thn (ha.run pos pins s σ H _ I h) fun us s1 ⟨vs, H1, I1, r, q⟩ => ⟨I1.kIn, ?_⟩) he hpl
  exact run_makeS M F hr hb hd (hx σ) I1 r q
def tMethS (C : Addr) (m : Str) (sp : Sp) (E : L2.St → XK) (ta : TE) (t : TA) : TE := fun σ H Q => ta σ H fun x H1 => ∃ a dx fs, x = .ref a ∧ H1 a = some (.ins C dx fs) ∧ fs.lookup m = none ∧ t σ H1 fun vs H2 => sp (x :: vs) H2 Q (E σ)
theorem pe_methS {pl : Sem Bool} (he : PE X o ta) (c : Cls X.K C) (hm : Meth X.K C m f) (F : FnOk X.prog X.w X.K X.mg X.base CX k f fd ps sp) (hr : Room k X.A) (hb : Binds X.K fd ps []) (hx : ∀ σ, PassesAt CX X σ (E σ)) (ha : PA X (e :: es) t)
    (hst : starEach (e :: es) X.env = (false, eval e X.env) :: starEach es X.env := by rfl) (hpl : (backTo pos (starEach es X.env)).any (·.1) = false := by rfl)
    (ht : eval (.Call (.Attribute o m apos) (e :: es) [] pos) X.env = (do
      let ov ← eval o X.env
      standAt apos.atName
      let (f, first) ← holding [ov] (getMethod ov m pl)
      callWith pos f first (backTo pos (starEach (e :: es) X.env)) (backToKw pos (keywordEach [] X.env))) := by rfl) :
    PE X (.Call (.Attribute o m apos) (e :: es) [] pos) (tMethS C m sp E ta t) := by
  refine ⟨fun pins s σ H Q I h => ?_⟩
  refine PySem.W.methodCall_KW (pl := pl) (thn (he.run pins s σ H _ I h) fun u s1 ⟨x, H1, I1, rx, a, dx, fs, ex, ea, l, q⟩ => ?_) ht
  subst ex
  obtain rfl : u = Value.ref a := rx
  refine getmeth_ok I1 ea c hm l ?_
  refine PySem.W.callWith_K (first := [.ref a]) (h₀ := X.base) I.ok.mod.kin hm.kp (thn (ha.run pos pins s1 σ H1 _ I1 q) fun us s2 ⟨vs, H2, I2, r, q2⟩ => ⟨I2.kIn, ?_⟩) hst hpl
  exact run_fnS (us := .ref a :: us) (vs := .ref a :: vs) F hr hb (hx σ) I2 (.cons rfl r) q2
end
section
variable {X : Cx} {C : Addr} {x : Str} {p pos : Pos}
/-- raise C(), C without an __init__ of its own -/
theorem pmk_mk0 (T : OexC X.K C) (iC : PySem.W.findIn X.K (.ref C) "__init__" = some (some (.builtin "ValueError.__init__"))) (hg : Gl X x) (hm : X.mg x = some (.ref C)) (hdb : (x == ("__debug__" : Str)) = false := by decide) :
    PMk X (.Call (.Name x p) [] [] pos) (fun _ H Q => Q (.ref C) none H) := by
  intro pins s σ H Q I h
  refine wpAny_Call_Name_kw (ld_glob I hg hm ?_ hdb)
  refine PySem.W.callWith_K0 (first := []) I.kIn T.kC ?_
  show wpAny _ _ (call (.ref C) []) _ _ _
  have RS : Raises X (.ref C) := raises_own T.exC T.tyC
  obtain ⟨nm, q, N, bs, bm, sn, sub, ab, col, dd, k0, k1, k2, k3, k5, hC, hbm⟩ := T.cls
  obtain ⟨hp, g, dr, tk, os⟩ := s
  have up : hp.objs.size ≤ hp.objs.size + 1 := Nat.le_succ _
  have kk : ∀ b o, hp.get? b = some o → ((hp.push (PySem.W.kdv_tup [])).push (PySem.HandSPX.excO C hp.objs.size)).get? b = some o := fun b o y => Heap.get?_push_of_some _ (Heap.get?_push_of_some _ y)
  have he : ((hp.push (PySem.W.kdv_tup [])).push (PySem.HandSPX.excO C hp.objs.size)).get? (hp.objs.size + 1) = some (PySem.HandSPX.excO C hp.objs.size) := by heap_get
  have hnew : hp.get? (hp.objs.size + 1) = none := by
    cases z : hp.get? (hp.objs.size + 1) with
    | none => rfl
    | some o => exact absurd (Heap.lt_size z) (Nat.not_lt.mpr (Nat.le_succ _))
  have I2 : Inv X pins σ (upd H (hp.objs.size + 1) (exo (hp.objs.size + 1) C none)) ⟨(hp.push (PySem.W.kdv_tup [])).push (PySem.HandSPX.excO C hp.objs.size), g, dr, tk, os⟩ :=
    I.laid (t' := tk) (a := hp.objs.size + 1) (o := exo (hp.objs.size + 1) C none) (h' := (hp.push (PySem.W.kdv_tup [])).push (PySem.HandSPX.excO C hp.objs.size)) kk up (exo_ok he)
  refine wpAny_call (PySem.ExV.own_call (fv := .builtin "ValueError.__init__") F.excBase_ValueError (fun Y => PySem.HandSPX.refsVE_contains Y bm hbm) (I.kIn _ _ hC) (PySem.W.looks_findIn I.kIn iC) (fun self => .of_pure (F.excBase_ValueError.init.bind self)) (Nat.zero_le _)
    (PySem.HandSPX.init_base F.excBase_ValueError (fun Y => PySem.HandSPX.refsVE_contains Y bm hbm) (I2.kIn _ _ hC) he (Nat.zero_le _) fun h' t2 kh hx => ?_))
  refine ⟨rfl, hp.objs.size + 1, _, _, ⟨hp, g, dr, tk, os⟩, H, .ref C, none, rfl, I, fun b o y => kh b o (Nat.ne_of_lt (Nat.lt_succ_of_lt (Heap.lt_size y))) (kk b o y), hnew, hx, ⟨rfl, rfl⟩, rfl, rfl, I.hok.fresh up, rfl, I.bare, RS, h⟩
end
/-- isinstance(e, c), e the exception that the suite holds, without a dict -/
def rIsE0 (K : PySem.W.Frag) (cls : Value) (d : Option Addr) (D a : Addr) : List V → Hp → VK → Prop := fun xs H Q => ∃ (c : V) (cv : Value) (b : Bool), xs = [.ref a, c] ∧ cls = .ref D ∧ d = none ∧ ClsV c cv ∧ PySem.W.kitOne K (.ref D) cv = some b ∧ Q (.bl b) H
theorem call_isE0 {X : Cx} {a D : Addr} {cls : Value} {d : Option Addr} {oe : Obj} {pn : List (Addr × Obj)} (C : ExcC X.K D) (hz : Zc cls d oe) (hf : ∃ vs, oe.data = .fields vs) : CallR (X.suite a ((a, oe) :: pn)) (.builtin "isinstance") (rIsE0 X.K cls d D a) := by
  intro pins s σ H xs us Q I r h
  obtain ⟨c, cv, b, rfl, ec, ed, k, e, q⟩ := h
  obtain ⟨u1, u2, rfl, r1, r2⟩ := vals2 r
  cases r1
  have e2 := k.eq r2
  subst e2 ec ed
  obtain ⟨hget, _⟩ := I.pin (a, oe) (List.mem_append.mpr (.inl List.mem_cons_self))
  obtain ⟨vs, hv⟩ := hf
  have J : PySem.W.InstAt s.heap a oe D none := ⟨hget, hz.1, by unfold PySem.W.notCls; rw [hv] <;> rfl, by rw [hz.2]; exact True.intro⟩
  exact PySem.W.kia_one (PySem.W.ek_kitx C.hg C.hk C.hs C.hd C.ha C.hn C.ht C.hm) I.kIn J e (fun z => nomatch z) fun tk => ⟨.bl b, H, I.kept (t' := tk) fun _ _ z => z, rfl, q⟩
theorem pe_bmK {X : Cx} {K : PySem.W.Frag} {c : Expr} {T : String} {r : V → List V → Hp → VK → Prop} {to : TE} {t : TA} (hK : X.K = K) (h : PE X c (tBM X.K T r to t)) : PE X c (tBM K T r to t) := hK ▸ h
theorem call_isE1 {X : Cx} {K : PySem.W.Frag} {a D : Addr} {cls : Value} {d : Option Addr} {oe : Obj} {pn : List (Addr × Obj)} (hK : X.K = K) (C : ExcC K D) (hz : Zc cls d oe) (hf : ∃ vs, oe.data = .fields vs) : CallR (X.suite a ((a, oe) :: pn)) (.builtin "isinstance") (rIsE0 K cls d D a) := by
  subst hK
  exact call_isE0 C hz hf
end MS

/-! in a try: C.m(..), m a classmethod, whose E hangs on the names -/
namespace MS
open PySem PySem.Spec PyProof.Rows L2 EK ClX
section
variable {X : Cx} {CX : CXT} {k : Nat} {C p g : Addr} {mc : Value} {sp : Sp} {E : L2.St → XK} {o e : Expr} {es : List Expr} {m : Str} {pos apos : Pos} {ta : TE} {t : TA} {pl : Sem Bool}
theorem run_cmS {pins : List (Addr × Obj)} {σ : L2.St} {H : Hp} {s : Shared} {q : Addr} {Q : VK} {us : List Value} {vs : List V} (F : FnR X.prog X.w X.K X.mg X.base CX k g sp) (hr : Room k X.A)
    (hx : PassesAt CX X σ (E σ)) (I : Inv X ((q, PySem.W.methodObj (.ref g) (.ref C)) :: pins) σ H s) (r : Vals vs us) (h : sp (.ref C :: vs) H Q (E σ)) :
    wpAny (model X.prog X.w) X.A (call (.ref q) us) (EP X pins σ Q) X.xe s := by
  have inner : codeAny (model X.prog X.w) X.A (.call (.ref g) ⟨.ref C :: us, []⟩) (fun r s' => match r with
      | .ok (.ret v) => EP X ((q, PySem.W.methodObj (.ref g) (.ref C)) :: pins) σ Q v s'
      | .ok _ => False
      | .error e => X.xe e s') s := by
    refine codeAny_mono (F X.A X.stack s H (.ref C :: us) (.ref C :: vs) Q (E σ) hr I.env0 (.cons rfl r) h) fun r s' z => ?_
    cases r with
    | error e => exact hx _ H s e s' I z
    | ok fl => cases fl <;> first | exact I.after z | exact z.elim
  exact thn (wpAny_call (PySem.W.method_call (pin_at I) inner)) fun _ _ y => unpinE y
def tCMethS (C : Addr) (sp : Sp) (E : L2.St → XK) (ta : TE) (t : TA) : TE := fun σ H Q => ta σ H fun x H1 => x = .ref C ∧ t σ H1 fun vs H2 => sp (.ref C :: vs) H2 Q (E σ)
theorem pe_cmethS (he : PE X o ta) (r : CRead X.K C mc) (c : CMet X.K C mc m p g) (F : FnR X.prog X.w X.K X.mg X.base CX k g sp) (hr : Room k X.A) (hx : ∀ σ, PassesAt CX X σ (E σ)) (ha : PA X (e :: es) t)
    (hst : starEach (e :: es) X.env = (false, eval e X.env) :: starEach es X.env := by rfl) (hpl : (backTo pos (starEach es X.env)).any (·.1) = false := by rfl)
    (ht : eval (.Call (.Attribute o m apos) (e :: es) [] pos) X.env = (do
      let ov ← eval o X.env
      standAt apos.atName
      let (f, first) ← holding [ov] (getMethod ov m pl)
      callWith pos f first (backTo pos (starEach (e :: es) X.env)) (backToKw pos (keywordEach [] X.env))) := by rfl) :
    PE X (.Call (.Attribute o m apos) (e :: es) [] pos) (tCMethS C sp E ta t) := by
  refine ⟨fun pins s σ H Q I h => ?_⟩
  refine PySem.W.methodCall_KW (pl := pl) (thn (he.run pins s σ H _ I h) fun u s1 ⟨x, H1, I1, rx, ex, q⟩ => ?_) ht
  subst ex
  obtain rfl : u = Value.ref C := rx
  refine getmethcm_ok I1 r c fun s2 I2 => ?_
  refine callwith_cm I2 (base_none I1 (Nat.le_refl _)) c.fi (thn (ha.run pos _ s2 σ H1 _ I2 q) fun us s3 ⟨vs, H2, I3, rv, q2⟩ => ⟨⟨pin_at I3, I3.kIn⟩, ?_⟩) hst hpl
  exact run_cmS F hr (hx σ) I3 rv q2
end
end MS

namespace Law
open PySem PySem.Spec PyProof.Rows L2 Evl TR GX EK
theorem sFs_s (l w s n : V) : (sFs l w s n).lookup ("states" : Str) = some s := rfl
structure Exm (K : PySem.W.Frag) (CL CM : Addr) : Prop where
  ll : PySem.W.exmOne K (.ref CL) (.ref CL) = some true
  ml : PySem.W.exmOne K (.ref CM) (.ref CL) = some false
  mm : PySem.W.exmOne K (.ref CM) (.ref CM) = some true
structure NoF (K : PySem.W.Frag) (CL CM : Addr) : Prop where
  l : PySem.W.findIn K (.ref CL) "line" = some none
  m1 : PySem.W.findIn K (.ref CM) "what" = some none
  m2 : PySem.W.findIn K (.ref CM) "many" = some none
  m3 : PySem.W.findIn K (.ref CM) "most" = some none
structure Gs (mg : Str → Option Value) (CL CM C0 : Addr) : Prop where
  l : mg "BadLine" = some (.ref CL)
  m : mg "TooMany" = some (.ref CM)
  s : mg "SkipsError" = some (.ref C0)
section
variable {P : Program} {w : World} {K : PySem.W.Frag} {mg : Str → Option Value} {base : Heap} {C_Searcher C_BadLine C_TooMany fL fM C_SkipsError pr fr : Addr}
theorem ok_ltold {f : Addr} {fd : FuncData} (F : Fun K "_law_told" "_law_told" s_ltold f fd) (T : Tx mg) (E1 : ErrC K C_BadLine fL C_SkipsError) (E2 : ErrC K C_TooMany fM C_SkipsError) (G : Gs mg C_BadLine C_TooMany C_SkipsError) (NF : NoF K C_BadLine C_TooMany) (EX : Exm K C_BadLine C_TooMany)
    (S : SC K C_Searcher) (g_Searcher : mg "Searcher" = some (.ref C_Searcher)) (R_Searcher : ClX.CRead K C_Searcher (.type "type")) (CM_read : ClX.CMet K C_Searcher (.type "type") "read" pr fr)
    (FR_read : FnR P w K mg base (L2.CX P w) 85 fr (fun vs H Q E => spReadG K C_Searcher C_BadLine C_TooMany (vs ++ []) H Q E)) :
    FnOk P w K mg base CX0 86 f fd ["_law_text"] (spDueT K) := by
  refine F.ok sc_ltold (fun vs H Q E h => ?_) (fun cdv A outer s H vs Q E hr h => ?_)
  · obtain ⟨v, rfl, _⟩ := h
    rfl
  · obtain ⟨v, rfl, h⟩ := h
    obtain ⟨_, _, _, XF_BadLine, EX_BadLine, k1⟩ := E1
    obtain ⟨_, _, _, XF_TooMany, EX_TooMany, k2⟩ := E2
    obtain ⟨g_BadLine, g_TooMany, g_SkipsError⟩ := G
    obtain ⟨N_BadLine_line, N_TooMany_what, N_TooMany_many, N_TooMany_most⟩ := NF
    refine ⟨_, (pss_one (EK.ps_tryN (i := 1) rfl rfl sc_ltold.nd rfl rfl takes0 (fun W pn xe tk _ => (pss_one (ps_ret (pe_tup (pa_cons pe_str (pa_cons (EK.pe_fldK (K := K) rfl (MS.pe_cmethS (pe_glob (v := .ref C_Searcher) rfl g_Searcher rfl) R_Searcher CM_read FR_read (hr.mono (by decide)) (fun σ => passAt tk σ) (pa_cons (pv 0) pa_nil)) rfl) pa_nil)))))) (EK.HdsN.cons ⟨(by rfl), (by decide), .inl g_BadLine⟩ (fun a oe cls d pn hz hf => (pss_one (ps_ret (pe_tup (pa_cons pe_str (pa_cons (pe_xf XF_BadLine N_BadLine_line hz hf (pv 1)) (pa_cons (pe_callB (EK.call_isE EX_BadLine hz hf) (by rfl) T.isinstance PyProof.Rows.boot_isinstance (pa_cons (pv 1) (pa_cons (pe_glob (v := .ref C_SkipsError) rfl g_SkipsError rfl) pa_nil))) pa_nil))))))) (EK.HdsN.cons ⟨(by rfl), (by decide), .inl g_TooMany⟩ (fun a oe cls d pn hz hf => (pss_one (ps_ret (pe_tup (pa_cons (pe_xf XF_TooMany N_TooMany_what hz hf (pv 1)) (pa_cons (pe_xf XF_TooMany N_TooMany_many hz hf (pv 1)) (pa_cons (pe_xf XF_TooMany N_TooMany_most hz hf (pv 1)) pa_nil))))))) EK.HdsN.nil)))), ?_⟩
    have bad : ∀ (W : VK → Prop), True := fun _ => True.intro
    rcases h with ⟨z, ls, a, rfl, X, hI, q⟩ | ⟨hn, q⟩
    · refine ⟨rfl, _, rfl, _, rfl, .inl ⟨z, ls, a, rfl, X, hI, ?_⟩⟩
      cases a with
      | line i =>
        intro dd H2 e2 hd0 hx2
        refine ⟨true, EX.ll, fun _ a ha => ?_, fun z => nomatch z⟩
        exact ⟨_, rfl, rfl, rfl, dd, _, _, rfl, hx2, rfl, _, rfl, _, _, true, rfl, rfl, ⟨dd, _, rfl, hx2⟩, .own _, k1, by show 3 ≤ sizeLine; decide, fun r hr2 => q _ _ (e2.trans (Ex.new hr2)) ⟨r, rfl, upd_same⟩⟩
      | many m =>
        intro dd H2 e2 hd0 hx2
        refine ⟨false, EX.ml, (fun z => nomatch z), fun _ => ⟨true, EX.mm, fun _ a ha => ?_, fun z => nomatch z⟩⟩
        exact ⟨_, rfl, rfl, rfl, dd, _, _, rfl, hx2, rfl, _, rfl, rfl, rfl, dd, _, _, rfl, hx2, rfl, _, rfl, rfl, rfl, dd, _, _, rfl, hx2, rfl, by show 3 ≤ sizeLine; decide, fun r hr2 => q _ _ (e2.trans (Ex.new hr2)) ⟨r, rfl, upd_same⟩⟩
      | sts L wd ts =>
        intro o H' e SO
        obtain ⟨dx, st, us, s1, s2, KK⟩ := SO.ex
        exact ⟨o, _, dx, _, _, rfl, s1, S.cl, S.ns, sFs_s _ _ _ _, by show 2 ≤ sizeLine; decide, fun r hr => q _ _ (e.trans (Ex.new hr)) ⟨r, st, us, rfl, upd_same, (Ex.new hr) _ _ s2, KK.ex (Ex.new hr)⟩⟩
    · refine ⟨rfl, _, rfl, _, rfl, .inr ⟨hn, ?_⟩⟩
      intro dd H2 e2 hd0 hx2
      refine ⟨true, EX.ll, fun _ a ha => ?_, fun z => nomatch z⟩
      exact ⟨_, rfl, rfl, rfl, dd, _, _, rfl, hx2, rfl, _, rfl, _, _, true, rfl, rfl, ⟨dd, _, rfl, hx2⟩, .own _, k1, by show 3 ≤ sizeLine; decide, fun r hr2 => q _ _ (e2.trans (Ex.new hr2)) ⟨r, rfl, upd_same⟩⟩
end
end Law

/-! text.replace(old, new) where old and new come out of lists: their tokens stay in sight -/
namespace RX
open PySem PySem.Spec PyProof.Rows L2
/-- no call, no other's turn -/
def Nc {α : Type} : Sem α → Prop
  | .pure _ => True
  | .raise _ => True
  | .unsupported _ => True
  | .rule _ k => Nc (k ())
  | .at _ k => Nc (k ())
  | .load _ _ k => ∀ o, Nc (k o)
  | .update _ _ _ k => Nc (k ())
  | .fresh k => ∀ t, Nc (k t)
  | .ask k => ∀ w, Nc (k w)
  | _ => False
theorem nc_bind {α β : Type} {f : α → Sem β} : ∀ {t : Sem α}, Nc t → (∀ a, Nc (f a)) → Nc (t.bind f) := by
  intro t
  induction t with
  | pure a => intro _ h; exact h a
  | raise e => intro _ _; exact True.intro
  | unsupported w => intro _ _; exact True.intro
  | rule g k ih => intro n h; exact ih () n h
  | «at» p k ih => intro n h; exact ih () n h
  | load a p k ih => intro n h o; exact ih o (n o) h
  | update a p g k ih => intro n h; exact ih () n h
  | fresh k ih => intro n h t; exact ih t (n t) h
  | ask k ih => intro n h w; exact ih w (n w) h
  | _ => intro n _; exact False.elim n
theorem wp_both {α : Type} (M : Model) (Γ : PySem.Ctx) (t : Sem α) : ∀ {Q R : α → Pos → Shared → Prop} {E F : Value → Pos → Shared → Prop} (p : Pos) (s : Shared), Nc t → Sem.wp M Γ t Q E p s → Sem.wp M Γ t R F p s →
    Sem.wp M Γ t (fun a p s => Q a p s ∧ R a p s) (fun e p s => E e p s ∧ F e p s) p s := by
  induction t with
  | pure a => intro Q R E F p s _ h g; exact ⟨h, g⟩
  | raise e => intro Q R E F p s _ h g; exact ⟨h, g⟩
  | unsupported w => intro Q R E F p s _ h g; exact h
  | rule g k ih => intro Q R E F p s n h g; exact ih () p s n h g
  | «at» p' k ih => intro Q R E F p s n h g; exact ih () p' s n h g
  | load a q k ih =>
    intro Q R E F p s n h g
    obtain ⟨o, ho, h⟩ := h
    obtain ⟨o', ho', g⟩ := g
    have e : o' = o := Option.some.inj (ho'.symm.trans ho)
    subst e
    exact ⟨o', ho, ih o' p s (n o') h g⟩
  | update a q f k ih => intro Q R E F p s n h g; exact ⟨h.1, ih () p _ n h.2 g.2⟩
  | fresh k ih => intro Q R E F p s n h g; exact ih _ p _ (n _) h g
  | ask k ih => intro Q R E F p s n h g; exact ih _ p _ (n _) h g
  | _ => intro Q R E F p s n _ _; exact False.elim n
theorem any_both {α : Type} {M : Model} {A : Around} {t : Sem α} {Q R : α → Shared → Prop} {E F : Value → Shared → Prop} {s : Shared} (n : Nc t) (h : wpAny M A t Q E s) (g : wpAny M A t R F s) :
    wpAny M A t (fun a s => Q a s ∧ R a s) (fun e s => E e s ∧ F e s) s := fun Γ p hΓ => wp_both M Γ t p s n (h Γ p hΓ) (g Γ p hΓ)
theorem nc_set (a : Addr) (x : Str) (v : Value) : Nc (nsSet a x v) := by
  unfold nsSet
  refine nc_bind (t := strHash x) (fun w => True.intro) fun h => ?_
  refine nc_bind (t := mkText x) (fun t => True.intro) fun k => ?_
  refine nc_bind (t := loadPart a _) (fun o => True.intro) fun o => ?_
  split
  · split
    · exact True.intro
    · exact True.intro
  · exact True.intro
section
variable {X : Cx} {pins : List (Addr × Obj)} {σ : L2.St} {H : Hp} {s : Shared}
/-- a local name is stored, and what it holds is in sight -/
theorem store_raw {i : Nat} {x : Str} {v : V} {u : Value} {m : Str → Option Value} {Q : Unit → Shared → Prop} (I : Inv X pins σ H s) (hN : X.N.Nodup) (hi : X.N[i]? = some x) (hk : X.env.scope.names.lookup x = some .local) (r : RelV v u)
    (hn : s.heap.Ns X.env.locals m)
    (h : ∀ s', Inv X pins (σ.set i (some v)) H s' → s'.heap.Ns X.env.locals (fun y => if y = x then some u else m y) → s.toks ≤ s'.toks → Q () s') : wpAny (model X.prog X.w) X.A (storeName X.env x u) Q X.xe s := by
  have hc : (X.env.scope.kind == .class || (X.env.scope.kind == .module && X.env.locals != X.env.globals)) = false := by
    rw [I.ok.kind]
    rfl
  have nc : Nc (storeName X.env x u) := by
    rw [storeName_local hk hc]
    exact nc_set _ _ _
  have a := store_ok (Q := fun _ s' => Inv X pins (σ.set i (some v)) H s') (E := X.xe) (M := model X.prog X.w) (A := X.A) I hN hi (.inl hk) r (fun _ j => j) (.inr hk)
  have b := wpAny_storeName_local (M := model X.prog X.w) (A := X.A) (E := X.xe) (v := u) (Q := fun _ s' => s'.heap.Ns X.env.locals (fun y => if y = x then some u else m y) ∧ s.toks ≤ s'.toks) hk hn (fun h' e _ => ⟨e, Nat.le_succ _⟩) hc
  exact wpAny_mono (any_both nc a b) (fun _ s' z => h s' z.1 z.2.1 z.2.2) fun _ _ z => z.1
/-- the raw value of a local name -/
theorem name_raw {x : Str} {p : Pos} {m : Str → Option Value} {u : Value} {Q E : Value → Shared → Prop} (I : Inv X pins σ H s) (hk : X.env.scope.names.lookup x = some .local) (hn : s.heap.Ns X.env.locals m) (hm : m x = some u) (q : Q u s)
    (hd : (x == ("__debug__" : Str)) = false := by decide) : wpAny (model X.prog X.w) X.A (eval (.Name x p) X.env) Q E s :=
  wpAny_Name (wpAny_loadName_local I.ok.kind hk hn hm q) hd
end
/-! ### one token is out -/
section
variable {X : Cx} {e f : Expr} {te tf : TE} {pos : Pos}
/-- (y, z) of two written texts -/
def tTwo (y z : Str) : TE := fun _ H Q => ∀ (a : Addr) (o : Obj) (t u : Tok), H a = none → o.cls = .type "tuple" → (∃ n, o.data = .seq #[.str y t, .str z u] n) → t ≠ 0 → u ≠ 0 → t ≠ u → Q (.ref a) (upd H a (.frz o (.tup [.str y, .str z])))
theorem pet_two {y z : Str} {j0 j1 k : Nat} {c0 c1 : Pos} : PET X (.Tuple [.Constant (.str y) j0 c0, .Constant (.str z) j1 c1] k pos) (tTwo y z) := by
  intro pins s σ H Q h0 I h
  refine wpAny_Tuple_spliced ?_
  show wpAny _ _ (spliced ((false, eval (.Constant (.str y) j0 c0) X.env) :: backTo pos (starEach [.Constant (.str z) j1 c1] X.env))) _ _ s
  refine Calls.spliced_cons (Calls.Constant_str ?_)
  show wpAny _ _ (spliced ((false, eval (.Constant (.str z) j1 c1) X.env) :: backTo pos (starEach [] X.env))) _ _ _
  refine Calls.spliced_cons (Calls.Constant_str (Calls.spliced_nil ?_))
  have h2 : (2 : Nat) ≤ sizeLine := by decide
  refine ⟨h2, .ref s.heap.objs.size, upd H s.heap.objs.size (.frz { cls := .type "tuple", data := .seq #[.str y s.toks, .str z (s.toks + 1)] } (.tup [.str y, .str z])), ?_, rfl, ?_⟩
  · exact I.laid (t' := s.toks + 1 + 1) (fun b u e => Heap.get?_push_of_some _ e) (Nat.le_refl _) ⟨Heap.get?_push_size _ rfl, h2, [.str y s.toks, .str z (s.toks + 1)], .cons ⟨_, rfl⟩ (.cons ⟨_, rfl⟩ .nil), ⟨_, Heap.get?_push_size _ rfl, rfl, _, rfl⟩⟩
  · exact h _ _ s.toks (s.toks + 1) (I.hok.fresh (Nat.le_refl _)) rfl ⟨_, rfl⟩ (show s.toks ≠ 0 by omega) (show s.toks + 1 ≠ 0 by omega) (show s.toks ≠ s.toks + 1 by omega)
/-- name = e -/
theorem pst_asg {i : Nat} {x : Str} {p : Pos} (hN : X.N.Nodup) (hi : X.N[i]? = some x) (hx : Loc X.env.scope x) (he : PET X e te) (hs : swapsWith e (some (.Name x p)) pos.line X.env = pure false := by rfl)
    (hf : X.fn x = true ∨ X.env.scope.names.lookup x = some .local := by first | exact .inl rfl | exact .inr rfl | assumption) : PST X (.Assign [.Name x p] e pos) (tAsg te (gName i)) := by
  intro pins s σ H D h0 I h
  refine wpAny_Assign_Name (thn (he pins s σ H _ h0 I h) fun v s1 z => ?_) hs
  obtain ⟨y, H1, I1, r1, q1⟩ := z
  exact store_ok I1 hN hi hx r1 (fun s2 I2 => ⟨_, H1, I2, q1⟩) hf
/-- if e == a number: a token is out behind the test -/
theorem ps_ifK {a b : List Stmt} {t u : TS} {i : Int} {j : Nat} {c0 p2 : Pos} (he : PE X e te) (ha : PSsT X a t) (hb : PSsT X b u) (hm : behindInMarks .Eq (.Constant (.int i) j c0) = false := by first | rfl | exact nomark _) :
    PS X (.If (.Compare e [.Eq] [.Constant (.int i) j c0] p2) a b pos) (tIfS (tTest (tOp rEq te (tC (.int i)))) t u) := by
  refine ⟨fun pins s σ H D I h => ?_⟩
  have key : wpAny (model X.prog X.w) X.A (isTrue (.Compare e [.Eq] [.Constant (.int i) j c0] p2) X.env (eval (.Compare e [.Eq] [.Constant (.int i) j c0] p2) X.env)) (fun d s1 => 1 ≤ s1.toks ∧ TP X pins σ (fun d H1 => if d = true then t D σ H1 else u D σ H1) d s1) X.xe s := by
    refine wpAny_isTrue_Compare1 (thn (he.run pins s σ H _ I h) fun v s1 z => ?_) hm
    obtain ⟨x, H1, I1, r1, q1⟩ := z
    refine wpAny_Constant_int ?_
    refine wpAny_mono (PySem.wpAny_toks (op_eq pins { s1 with toks := s1.toks + 1 } σ H1 x (.int i) v (.int i s1.toks) (fun x H' => ∃ k, x = V.bl k ∧ if k = true then t D σ H' else u D σ H') (I1.tok _) r1 ⟨_, rfl⟩ q1)) (fun c s3 z => ?_) fun _ _ z => z.2
    obtain ⟨hk, z1, H3, I3, r3, k, e3, q3⟩ := z
    subst e3
    cases r3
    have hk2 : s1.toks + 1 ≤ s3.toks := hk
    exact wpAny_truthy_bool ⟨by omega, H3, I3, q3⟩
  refine wpAny_If (thn key fun d s1 z => ?_)
  obtain ⟨hk, H1, I1, q1⟩ := z
  cases d with
  | true => exact ha pins s1 σ H1 D hk I1 q1
  | false => exact hb pins s1 σ H1 D hk I1 q1
end
section
variable {X : Cx} {e : Expr} {te : TE}
def tTwoRep (te : TE) (i j l : Nat) : TS := fun D σ H => te σ H fun v H1 => ∃ (b : Addr) (o : Obj) (y z x : Str) (t u : Tok), v = .ref b ∧ H1 b = some (.frz o (.tup [.str y, .str z])) ∧ o.cls = .type "tuple" ∧ (∃ n, o.data = .seq #[.str y t, .str z u] n) ∧ t ≠ 0 ∧ u ≠ 0 ∧ t ≠ u ∧ (y == z) = false ∧
  σ[l]? = some (some (.str x)) ∧ x.length + (x.length + 1) * z.length ≤ 16777216 ∧ D.nx (((σ.set i (some (.str y))).set j (some (.str z))).set l (some (.str (Txt.replace x y z)))) H1
/-- a, b = e; t = t.replace(a, b) -/
theorem pss_twoRep {i j l : Nat} {xa xb xt : Str} {pa pb pt p1 p2 p3 p4 ap cp pos : Pos} {kt : Nat} (hcalm : X.calm = true) (hN : X.N.Nodup) (hia : X.N[i]? = some xa) (hib : X.N[j]? = some xb) (hit : X.N[l]? = some xt)
    (hka : X.env.scope.names.lookup xa = some .local) (hkb : X.env.scope.names.lookup xb = some .local) (hkt : X.env.scope.names.lookup xt = some .local) (hab : xa ≠ xb) (hil : i ≠ l) (hjl : j ≠ l) (he : PE X e te)
    (hs : swapsWithSole [.Tuple [.Name xa pa, .Name xb pb] kt p1] e pos.line X.env = pure false := by rfl) (hw : swappedStores [.Tuple [.Name xa pa, .Name xb pb] kt p1] e X.env = pure none := by rfl)
    (h1 : (assignEach [.Tuple [.Name xa pa, .Name xb pb] kt p1] X.env).map (·.2) = [assign (.Tuple [.Name xa pa, .Name xb pb] kt p1) X.env] := by rfl)
    (hn : (assignEach [.Name xa pa, .Name xb pb] X.env).length = 2 := by rfl) (hst : (assignEach [.Name xa pa, .Name xb pb] X.env).findIdx? (·.1) = none := by rfl)
    (hm : (assignEach [.Name xa pa, .Name xb pb] X.env).map (·.2) = [assign (.Name xa pa) X.env, assign (.Name xb pb) X.env] := by rfl)
    (hsw : swapsWith (.Call (.Attribute (.Name xt p2) "replace" ap) [.Name xa p3, .Name xb p4] [] cp) (some (.Name xt pt)) cp.line X.env = pure false := by rfl)
    (hstar : starEach [.Name xa p3, .Name xb p4] X.env = [(false, eval (.Name xa p3) X.env), (false, eval (.Name xb p4) X.env)] := by rfl)
    (hbase : attributeBase (.Name xt p2) "replace" X.env (eval (.Name xt p2) X.env) = eval (.Name xt p2) X.env := by rfl) (hline : (ap.endLine == cp.line) = true := by rfl)
    (hda : (xa == ("__debug__" : Str)) = false := by decide) (hdb : (xb == ("__debug__" : Str)) = false := by decide) (hdt : (xt == ("__debug__" : Str)) = false := by decide) (hct : (xt == ("__classdict__" : Str)) = false := by decide) {pos2 : Pos} (hp2 : pos2.line = cp.line := by rfl) :
    PSs X [.Assign [.Tuple [.Name xa pa, .Name xb pb] kt p1] e pos, .Assign [.Name xt pt] (.Call (.Attribute (.Name xt p2) "replace" ap) [.Name xa p3, .Name xb p4] [] cp) pos2] (tTwoRep te i j l) := by
  refine ⟨fun pins s σ H D I h => ?_⟩
  refine wpAny_execs_cons (wpAny_Assign_stores (thn (he.run pins s σ H _ I h) fun v s1 z => ?_) hs hw)
  obtain ⟨x0, H1, I1, r1, b, o, y, z, x, t, u, e0, hb, hcls, ⟨n, hdat⟩, ht, hu, htu, hyz, hx, hlen, q⟩ := z
  subst e0
  cases r1
  rw [h1]
  have ob := I1.hok b _ hb
  obtain ⟨hget, _⟩ := ob
  have hT : s1.heap.IsTuple b #[.str y t, .str z u] := ⟨o, hget, hcls, n, hdat⟩
  refine assign_Tuple_tuple (I1.ok.hd hcalm) hT (by rw [hn]; rfl) hst fun h' hx2 => ?_
  have I2 : Inv X pins σ H1 { s1 with heap := h' } := I1.kept (t' := s1.toks) fun b o e => hx2 b o (Nat.ne_of_lt (Heap.lt_size e)) e
  rw [hm]
  obtain ⟨m, hns, _⟩ := I2.loc
  refine assignInOrder_cons (wpAny_assign_Name (store_raw I2 hN hia hka (v := .str y) ⟨t, rfl⟩ hns fun s3 I3 n3 _ => ?_))
  refine assignInOrder_cons (wpAny_assign_Name (store_raw I3 hN hib hkb (v := .str z) ⟨u, rfl⟩ n3 fun s4 I4 n4 _ => ?_))
  refine assignInOrder_nil ?_
  have ha4 : (if xa = xb then some (Value.str z u) else if xa = xa then some (Value.str y t) else m xa) = some (Value.str y t) := by rw [if_neg hab, if_pos rfl]
  have hb4 : (if xb = xb then some (Value.str z u) else if xb = xa then some (Value.str y t) else m xb) = some (Value.str z u) := if_pos rfl
  have hx4 : ((σ.set i (some (V.str y))).set j (some (V.str z)))[l]? = some (some (.str x)) := by
    rw [List.getElem?_set_ne hjl, List.getElem?_set_ne hil]
    exact hx
  refine wpAny_execs_cons (wpAny_Assign_Name (PySem.Call_method2 hbase hstar hline (raw_name hit (.inl hkt) I4 hx4 (fun v r => ?_) hdt hct)) (by rw [hp2]; exact hsw))
  obtain ⟨tx, e5⟩ := r
  subst e5
  refine ⟨"str", _, PySem.F.plainAttrs_str, PySem.F.slot_str_replace, PySem.F.type_str_replace, typeIs_str _ _ _, (fun _ e => nomatch e), Calls.callWith_builtin rfl (Calls.evalArgs_plain (Calls.spliced_cons ?_))⟩
  refine name_raw I4 hka n4 ha4 ?_ hda
  refine Calls.spliced_cons (name_raw I4 hkb n4 hb4 ?_ hdb)
  refine Calls.spliced_nil ?_
  refine PySem.SC.replace ht hu htu hyz hlen fun t' k => ?_
  refine store_ok (I4.tok k) hN hit (.inl hkt) (v := V.str (Txt.replace x y z)) ⟨t', rfl⟩ (fun s5 I5 => ?_) (.inr hkt)
  exact wpAny_execs_nil ⟨_, H1, I5, q⟩
end
/-! ### the same as structures (a def of ∀ is opened by the unifier too early) -/
structure TE1 (X : Cx) (e : Expr) (t : TE) : Prop where
  run : PET X e t
structure TA1 (X : Cx) (es : List Expr) (t : TA) : Prop where
  run : PAT X es t
structure TS1 (X : Cx) (st : Stmt) (t : TS) : Prop where
  run : PST X st t
structure TSs (X : Cx) (b : List Stmt) (t : TS) : Prop where
  run : PSsT X b t
section
variable {X : Cx} {st : Stmt} {rest : List Stmt} {t u : TS} {e c : Expr} {es : List Expr} {te : TE} {ta : TA} {tc : TT} {pos : Pos}
theorem ts_cons (h1 : TS1 X st t) (h2 : TSs X rest u) : TSs X (st :: rest) (tSeq t u) := ⟨psst_cons h1.run h2.run⟩
theorem ts_of (h : PSs X rest t) : TSs X rest t := ⟨PSsT.of h⟩
theorem ts_one (h : TS1 X st t) : TSs X [st] t := ⟨CwR.psst_one h.run⟩
theorem ts_if {a b : List Stmt} (hc : PT X c tc) (ha : TSs X a t) (hb : TSs X b u) : TS1 X (.If c a b pos) (tIfS tc t u) := ⟨CwR.pst_if hc ha.run hb.run⟩
theorem ts_two {y z : Str} {j0 j1 k : Nat} {c0 c1 : Pos} : TE1 X (.Tuple [.Constant (.str y) j0 c0, .Constant (.str z) j1 c1] k pos) (tTwo y z) := ⟨pet_two⟩
theorem ta_nil : TA1 X [] tNil := ⟨pat_nil⟩
theorem ta_cons (ha : TE1 X e te) (hr : TA1 X es ta) (hs : starEach (e :: es) X.env = (false, eval e X.env) :: starEach es X.env := by rfl) : TA1 X (e :: es) (tCons te ta) := ⟨pat_cons ha.run hr.run hs⟩
theorem ts_lst (h : TA1 X es ta) : TE1 X (.List es pos) (tLst ta) := ⟨pet_lst h.run⟩
theorem ts_asg {i : Nat} {x : Str} {p : Pos} (hN : X.N.Nodup) (hi : X.N[i]? = some x) (hx : Loc X.env.scope x) (he : TE1 X e te) (hs : swapsWith e (some (.Name x p)) pos.line X.env = pure false := by rfl)
    (hf : X.fn x = true ∨ X.env.scope.names.lookup x = some .local := by first | exact .inl rfl | exact .inr rfl | assumption) : TS1 X (.Assign [.Name x p] e pos) (tAsg te (gName i)) := ⟨pst_asg hN hi hx he.run hs hf⟩
theorem ps_ifT {a b : List Stmt} {i : Int} {j : Nat} {c0 p2 : Pos} (he : PE X e te) (ha : TSs X a t) (hb : TSs X b u) (hm : behindInMarks .Eq (.Constant (.int i) j c0) = false := by first | rfl | exact nomark _) :
    PS X (.If (.Compare e [.Eq] [.Constant (.int i) j c0] p2) a b pos) (tIfS (tTest (tOp rEq te (tC (.int i)))) t u) := ps_ifK he ha.run hb.run hm
end
end RX

namespace RX
open PySem PySem.Spec PyProof.Rows L2
/-- written texts -/
inductive Lits : List Expr → List Str → Prop
  | nil : Lits [] []
  | cons {c : Str} {j : Nat} {p : Pos} {es : List Expr} {cs : List Str} : Lits es cs → Lits (.Constant (.str c) j p :: es) (c :: cs)
def vals : List Str → Nat → List Value
  | [], _ => []
  | c :: cs, t => .str c t :: vals cs (t + 1)
theorem vals_rel : ∀ (cs : List Str) (t : Nat), Vals (cs.map V.str) (vals cs t)
  | [], _ => .nil
  | c :: cs, t => .cons ⟨t, rfl⟩ (vals_rel cs (t + 1))
theorem vals_mem {u : Value} : ∀ {cs : List Str} {t : Nat}, u ∈ vals cs t → ∃ (c : Str) (t' : Nat), u = .str c t' ∧ c ∈ cs ∧ t ≤ t' ∧ t' < t + cs.length
  | c :: cs, t, h => by
    rcases List.mem_cons.mp h with q | q
    · exact ⟨c, t, q, List.mem_cons_self, Nat.le_refl _, by show t < t + (cs.length + 1); omega⟩
    · obtain ⟨c', t', e, hc, h1, h2⟩ := vals_mem q
      exact ⟨c', t', e, List.mem_cons_of_mem _ hc, by omega, by show t' < t + (cs.length + 1); omega⟩
theorem vals_len : ∀ (cs : List Str) (t : Nat), (vals cs t).length = cs.length
  | [], _ => rfl
  | c :: cs, t => congrArg (· + 1) (vals_len cs (t + 1))
theorem lits_run {M : Model} {A : Around} {env : Env} {E : Value → Shared → Prop} {es : List Expr} {cs : List Str} (h : Lits es cs) : ∀ (pos : Pos) (s : Shared) (Q : List Value → Shared → Prop), Q (vals cs s.toks) { s with toks := s.toks + cs.length } →
    wpAny M A (spliced (backTo pos (starEach es env))) Q E s := by
  induction h with
  | nil =>
    intro pos s Q q
    exact Calls.spliced_nil q
  | @cons c j p es cs _ ih =>
    intro pos s Q q
    show wpAny _ _ (spliced ((false, eval (.Constant (.str c) j p) env) :: backTo pos (starEach es env))) _ _ s
    refine Calls.spliced_cons (Calls.Constant_str ?_)
    refine ih pos _ _ ?_
    have e : s.toks + 1 + cs.length = s.toks + (cs.length + 1) := by omega
    show Q (.str c s.toks :: vals cs (s.toks + 1)) { s with toks := s.toks + 1 + cs.length }
    rw [e]
    exact q
end RX
namespace Law
open PySem PySem.Spec PyProof.Rows L2 Evl TR GX EK RX
def CErw (outer : List Env) (P : Program) (w : World) (H : Hp) (s : Shared) (Q : Value → Hp → Prop) (r : Result) (s' : Shared) : Prop :=
  match r with
  | .ok (.ret u) => ∃ H', s'.os = s.os ∧ AllBare s'.gens ∧ Un (frs outer) [] H H' s.heap s'.heap ∧ HOk P w H' s'.heap ∧ Q u H'
  | _ => False
def PickRaw (P : Program) (w : World) (K : PySem.W.Frag) (mg : Str → Option Value) (base : Heap) (k : Nat) (f : Addr) : Prop :=
  ∀ (A : Around) (outer : List Env) (s : Shared) (H : Hp) (a : Addr) (o : Obj) (its : List Value) (vs : List V) (n n0 : Nat) (p : PenI) (H0 : Hp) (Q : Value → Hp → Prop), Room k A → Env0 P w K mg base A outer s H → PenAt p H0 H n → n < 1000000 →
    H a = some (.frz o (.lst vs)) → o.cls = .type "list" → o.data = .seq its.toArray n0 → vs.length = its.length → 0 < its.length → its.length < 1000 → (∀ H' u, PenAt p H0 H' (n + 1) → u ∈ its → Q u H') →
    codeAny (model P w) A (.call (.ref f) ⟨[.ref p.d, .ref a], []⟩) (CErw outer P w H s Q) s
section
variable {P : Program} {w : World} {K : PySem.W.Frag} {mg : Str → Option Value} {base : Heap}
theorem pick_raw {f : Addr} {fd : FuncData} (F : Fun K "_law_pick" "_law_pick" s_lpick f fd) (T : Tx mg) (c_ldraw : Kn P w K mg base "_law_draw" ["_law_pen_here", "_law_many"] 1 spDraw) (b : Binds K fd ["_law_pen_here", "_law_some"] []) : PickRaw P w K mg base 2 f := by
  intro A outer s H a o its vs n n0 p H0 Q hr e0 P0 hn ha hcls hdat hlen h0 h1 q
  have S := sc_lpick
  have KX : K.In s.heap := e0.mod.kin.keeps fun b o e => (e0.bs b o e).1
  have lim : s.heap.NoLimit := e0.mod.nolimit.keeps fun b o e => (e0.bs b o e).1
  have hb := b s [.ref p.d, .ref a] KX rfl
  obtain ⟨oc, od, kV, doc, pm, an, cdv, ct, osl, rfl, lk, hcd⟩ := F.ex
  refine codeAny_call_function hr.depth (KX _ _ lk) rfl S.co S.gen rfl (PySem.W.codeRec_of KX hcd) (hb _ _ _ _ ?_)
  refine wpAny_newFunctionEnv_cells S.kind (fun y hy => ?_) fun env he s1 xx => ?_
  · obtain ⟨n, v⟩ := y
    rcases S.par n (List.of_mem_zip hy).1 with q | q
    · exact .inl q
    · exact .inr ⟨q, PySem.W.cellsFrom_some _ _ _ (.inl q)⟩
  subst he
  refine ⟨lim.keeps xx.toInCall.keep, codeAny_func ?_⟩
  have I : Inv (cxOf CX0 P w K mg base N_lpick "_law_pick" (defScope s_lpick) f cdv A outer s H E0) [] (start N_lpick [.ref p.d, .ref a]) H s1 := inv_start S hr.hd e0 rfl (.cons rfl (.cons rfl .nil)) xx
  have hr1 : Room 1 (A.deeper (envOfC "_law_pick" (defScope s_lpick) s.heap.objs.size f cdv)) := hr.deeper _
  refine wpAny_execs_cons (wpAny_Return_some (Subscript_ (raw_name (X := cxOf CX0 P w K mg base N_lpick "_law_pick" (defScope s_lpick) f cdv A outer s H E0) (i := 1) rfl (.inl rfl) I rfl (fun v r => ?_))))
  have e : v = Value.ref a := r
  subst e
  have nad : a ≠ p.d := fun z => by
    obtain ⟨kvs, hk⟩ := P0.dict
    rw [z, hk] at ha
    cases ha
  refine' wpAny_mono (PE.run (X := cxOf CX0 P w K mg base N_lpick "_law_pick" (defScope s_lpick) f cdv A outer s H E0) ?hidx [] s1 _ H (fun v H' => ∃ r : Int, v = .int r ∧ 0 ≤ r ∧ r < its.length ∧ PenAt p (L2.upd H0 a (.frz o (.lst vs))) H' (n + 1)) I ?hrd) (fun u s2 z => ?hgo) fun _ _ z => z
  case hidx => exact (pe_call c_ldraw.ok (hr1.mono (by decide)) (by rfl) c_ldraw.g c_ldraw.kp c_ldraw.b .nil pass0 (pa_cons (pv 0) (pa_cons (pe_callB call_len_seq (by rfl) T.len PySem.boot_len (pa_cons (pv 1) pa_nil)) pa_nil)))
  case hrd =>
    refine ⟨_, rfl, _, rfl, a, vs, rfl, .inl (.inl (.inr ⟨o, ha⟩)), p, L2.upd H0 a (.frz o (.lst vs)), n, _, rfl, P0.keep ha nad, hn, by omega, by omega, fun H' r P1 r0 r1 => ⟨r, rfl, r0, by omega, P1⟩⟩
  case hgo =>
    obtain ⟨v, H2, I2, rv, r, rfl, r0, r1, P1⟩ := z
    obtain ⟨tk, rfl⟩ := rv
    have ha2 := P1.1 a _ upd_same
    obtain ⟨hget, _⟩ := I2.hok a _ ha2
    have hl : s2.heap.IsList a its.toArray := ⟨o, hget, hcls, n0, hdat⟩
    obtain ⟨j, rfl⟩ : ∃ j : Nat, r = (j : Int) := ⟨r.toNat, (Int.toNat_of_nonneg r0).symm⟩
    have hj : j < its.length := by omega
    refine item_listR hl (by omega) (by omega) (x := its[j]) (by simp [hj]) ?_ rfl
    exact ⟨H2, I2.os, I2.bare, I2.base, I2.hok, q _ _ (P0.drop ha P1) (List.getElem_mem hj)⟩
end
section
variable {X : Cx} {k : Nat} {f : Addr} {pins : List (Addr × Obj)} {σ : L2.St} {H : Hp} {s : Shared}
/-- pick(pen, [a written list]), the text's token in sight -/
theorem pick_eval {ip : Nat} {fx px : Str} {es : List Expr} {cs : List Str} {pf p1 pl pos : Pos} {p : PenI} {H0 : Hp} {n : Nat} {Q : Value → Shared → Prop} (R : PickRaw X.prog X.w X.K X.mg X.base k f) (hr : Room k X.A) (hg : Gl X fx) (hm : X.mg fx = some (.ref f)) (hk : PySem.W.keepIn X.K (.ref f) = true)
    (hNp : X.N[ip]? = some px) (hvp : Vis X.env.scope px) (hl : Lits es cs) (h0 : 0 < cs.length) (h1 : cs.length < 1000) (I : Inv X pins σ H s) (hp : σ[ip]? = some (some (.ref p.d))) (P0 : PenAt p H0 H n) (hn : n < 1000000)
    (hf : X.fn fx = X.fn fx) (q : ∀ (c : Str) (t : Nat) (H' : Hp) (s' : Shared), Inv X pins σ H' s' → PenAt p H0 H' (n + 1) → c ∈ cs → s.toks ≤ t → t < s'.toks → Q (.str c t) s')
    (hdb : (fx == ("__debug__" : Str)) = false := by decide) (hdp : (px == ("__debug__" : Str)) = false := by decide) (hcp : (px == ("__classdict__" : Str)) = false := by decide)
    (hst : starEach [.Name px p1, .List es pl] X.env = [(false, eval (.Name px p1) X.env), (false, eval (.List es pl) X.env)] := by rfl) :
    wpAny (model X.prog X.w) X.A (eval (.Call (.Name fx pf) [.Name px p1, .List es pl] [] pos) X.env) Q X.xe s := by
  refine wpAny_Call_Name_kw (ld_glob I hg hm ?_ hdb)
  refine PySem.W.callWith_K (h₀ := X.base) I.ok.mod.kin hk ?_ (by rfl) (by rfl)
  show wpAny _ _ (spliced ((false, eval (.Name px p1) X.env) :: backTo pos (starEach [.List es pl] X.env))) _ _ s
  refine Calls.spliced_cons (raw_name hNp hvp I hp (fun v r => ?_) hdp hcp)
  obtain rfl : v = Value.ref p.d := r
  show wpAny _ _ (spliced ((false, eval (.List es pl) X.env) :: backTo pos (starEach [] X.env))) _ _ _
  refine Calls.spliced_cons (wpAny_List_spliced ?_)
  refine lits_run hl pl s _ ?_
  refine ⟨?_, ?_⟩
  · rw [vals_len]
    exact Nat.le_trans (Nat.le_of_lt h1) (by decide)
  refine Calls.spliced_nil ?_
  have hz : (cs.map V.str).length ≤ sizeLine := by
    rw [List.length_map]
    exact Nat.le_trans (Nat.le_of_lt h1) (by decide)
  have hfr : H s.heap.objs.size = none := I.hok.fresh (Nat.le_refl _)
  have I2 : Inv X pins σ (upd H s.heap.objs.size (.frz { cls := .type "list", data := .seq (vals cs s.toks).toArray } (.lst (cs.map V.str)))) { s with heap := s.heap.push { cls := .type "list", data := .seq (vals cs s.toks).toArray }, toks := s.toks + cs.length } :=
    I.laid (t' := s.toks + cs.length) (fun b u e => Heap.get?_push_of_some _ e) (Nat.le_refl _) ⟨Heap.get?_push_size _ rfl, hz, vals cs s.toks, 0, vals_rel cs s.toks, Heap.get?_push_size _ rfl⟩
  refine ⟨I2.kIn, ?_⟩
  have P2 := P0.ex (Ex.new (o := .frz { cls := .type "list", data := .seq (vals cs s.toks).toArray } (.lst (cs.map V.str))) hfr)
  have hcode := R X.A X.stack _ _ s.heap.objs.size { cls := .type "list", data := .seq (vals cs s.toks).toArray } (vals cs s.toks) (cs.map V.str) n 0 p H0 (fun u H' => u ∈ vals cs s.toks ∧ PenAt p H0 H' (n + 1)) hr I2.env0 P2 hn upd_same rfl rfl (by rw [List.length_map, vals_len]) (by rw [vals_len]; exact h0) (by rw [vals_len]; exact h1) (fun H' u P' hu => ⟨hu, P'⟩)
  refine wpAny_call (codeAny_mono (PySem.codeAny_toks_of (Nat.le_refl _) hcode) fun r s' hq => ?_)
  obtain ⟨htk, hq⟩ := hq
  cases r with
  | error e => exact False.elim hq
  | ok fl =>
    cases fl with
    | ret u =>
      obtain ⟨H', os, bare, un, hok, hu, P'⟩ := hq
      obtain ⟨c, t, rfl, hc, t1, t2⟩ := vals_mem hu
      obtain ⟨hh, g, d, tk, os'⟩ := s'
      obtain rfl : os' = s.os := os
      have I3 := I2.call (h' := hh) (g' := g) (d' := d) (t' := tk) (ch := []) un hok bare (fun b z => absurd z (by simp))
      have htk2 : s.toks + cs.length ≤ tk := htk
      exact q c t H' _ I3 P' hc t1 (show t < tk by omega)
    | next => exact False.elim hq
    | brk => exact False.elim hq
    | cont => exact False.elim hq
def tRepB (cs ds : List Str) (ip l : Nat) : TS := fun D σ H => ∃ (p : PenI) (H0 : Hp) (n : Nat) (x : Str), σ[ip]? = some (some (.ref p.d)) ∧ σ[l]? = some (some (.str x)) ∧ PenAt p H0 H n ∧ n < 900000 ∧ (∀ y ∈ cs, ∀ z ∈ ds, (y == z) = false ∧ x.length + (x.length + 1) * z.length ≤ 16777216) ∧
  ∀ H' y z, PenAt p H0 H' (n + 2) → y ∈ cs → z ∈ ds → D.nx (σ.set l (some (.str (Txt.replace x y z)))) H'
/-- t = t.replace(pick(pen, [..]), pick(pen, [..])) -/
theorem psst_repB {ip l : Nat} {fx px xt : Str} {es fs : List Expr} {cs ds : List Str} {pt p2 ap cp pos pf1 pn1 pl1 pc1 pf2 pn2 pl2 pc2 : Pos} (R : PickRaw X.prog X.w X.K X.mg X.base k f) (hr : Room k X.A) (hg : Gl X fx) (hm : X.mg fx = some (.ref f)) (hk : PySem.W.keepIn X.K (.ref f) = true)
    (hN : X.N.Nodup) (hNp : X.N[ip]? = some px) (hvp : Vis X.env.scope px) (hit : X.N[l]? = some xt) (hkt : X.env.scope.names.lookup xt = some .local) (hl1 : Lits es cs) (hl2 : Lits fs ds) (c0 : 0 < cs.length) (c1 : cs.length < 1000) (d0 : 0 < ds.length) (d1 : ds.length < 1000)
    (hsw : swapsWith (.Call (.Attribute (.Name xt p2) "replace" ap) [.Call (.Name fx pf1) [.Name px pn1, .List es pl1] [] pc1, .Call (.Name fx pf2) [.Name px pn2, .List fs pl2] [] pc2] [] cp) (some (.Name xt pt)) pos.line X.env = pure false := by rfl)
    (hstar : starEach [.Call (.Name fx pf1) [.Name px pn1, .List es pl1] [] pc1, .Call (.Name fx pf2) [.Name px pn2, .List fs pl2] [] pc2] X.env = [(false, eval (.Call (.Name fx pf1) [.Name px pn1, .List es pl1] [] pc1) X.env), (false, eval (.Call (.Name fx pf2) [.Name px pn2, .List fs pl2] [] pc2) X.env)] := by rfl)
    (hbase : attributeBase (.Name xt p2) "replace" X.env (eval (.Name xt p2) X.env) = eval (.Name xt p2) X.env := by rfl) (hline : (ap.endLine == cp.line) = true := by rfl)
    (hdb : (fx == ("__debug__" : Str)) = false := by decide) (hdp : (px == ("__debug__" : Str)) = false := by decide) (hcp : (px == ("__classdict__" : Str)) = false := by decide) (hdt : (xt == ("__debug__" : Str)) = false := by decide) (hct : (xt == ("__classdict__" : Str)) = false := by decide) :
    TS1 X (.Assign [.Name xt pt] (.Call (.Attribute (.Name xt p2) "replace" ap) [.Call (.Name fx pf1) [.Name px pn1, .List es pl1] [] pc1, .Call (.Name fx pf2) [.Name px pn2, .List fs pl2] [] pc2] [] cp) pos) (tRepB cs ds ip l) := by
  refine ⟨fun pins s σ H D ht0 I h => ?_⟩
  obtain ⟨p, H0, n, x, hp, hx, P0, hn, hyz, q⟩ := h
  refine wpAny_Assign_Name (PySem.Call_method2 hbase hstar hline (raw_name hit (.inl hkt) I hx (fun v r => ?_) hdt hct)) hsw
  obtain ⟨tx, e5⟩ := r
  subst e5
  refine ⟨"str", _, PySem.F.plainAttrs_str, PySem.F.slot_str_replace, PySem.F.type_str_replace, typeIs_str _ _ _, (fun _ e => nomatch e), Calls.callWith_builtin rfl (Calls.evalArgs_plain (Calls.spliced_cons ?_))⟩
  refine pick_eval (p := p) R hr hg hm hk hNp hvp hl1 c0 c1 I hp P0 (by omega) rfl (fun c t H1 s1 I1 P1 hc t1 t2 => ?_) hdb hdp hcp
  refine Calls.spliced_cons (pick_eval (p := p) R hr hg hm hk hNp hvp hl2 d0 d1 I1 hp P1 (by omega) rfl (fun d u H2 s2 I2 P2 hd u1 u2 => ?_) hdb hdp hcp)
  refine Calls.spliced_nil ?_
  obtain ⟨hne, hlen⟩ := hyz c hc d hd
  have ht0' : 1 ≤ s.toks := ht0
  refine PySem.SC.replace (show t ≠ 0 by omega) (show u ≠ 0 by omega) (show t ≠ u by omega) hne hlen fun t' k => ?_
  exact store_ok (I2.tok k) hN hit (.inl hkt) (v := V.str (Txt.replace x c d)) ⟨t', rfl⟩ (fun s5 I5 => ⟨_, H2, I5, q H2 c d P2 hc hd⟩) (.inr hkt)
end
end Law

namespace RA
open PySem PySem.Spec PyProof.Rows L2
/-! ### text[::-1], of any length -/
def revY (z : Str) : Str := ⟨((Builtin.Str.strSliceIndices none none (-1) z.length).filterMap (z.cps[·]?)).toArray⟩
theorem revY_mem {z : Str} {c : Nat} (h : c ∈ (revY z).cps.toList) : c ∈ z.cps.toList := by
  have h2 : c ∈ (Builtin.Str.strSliceIndices none none (-1) z.length).filterMap (z.cps[·]?) := h
  obtain ⟨i, _, e⟩ := List.mem_filterMap.mp h2
  exact Array.mem_toList_iff.mpr (Array.mem_of_getElem? e)
theorem revY_len (z : Str) : (revY z).length ≤ z.length := by
  show (((Builtin.Str.strSliceIndices none none (-1) z.length).filterMap (z.cps[·]?)).toArray).size ≤ z.length
  rw [List.size_toArray, picked_rev]
  refine Nat.le_trans (List.length_filterMap_le _ _) ?_
  rw [List.length_map, List.length_range]
  exact Nat.le_refl _
def tRevA (te : TE) : TE := fun σ H Q => te σ H fun x H1 => ∃ z : Str, x = .str z ∧ z.length ≤ sizeLine ∧ Q (.str (revY z)) H1
section
variable {X : Cx}
theorem madeA (z : Str) (t u : Tok) (h : z.length ≤ sizeLine) {Q : Value → Shared → Prop} {s : Shared} (q : ∀ u tk, Q (.str (revY z) u) { s with toks := tk }) : (sliceMade z t none none (some (-1, u))).post Q s := by
  unfold sliceMade
  rw [if_neg (by show ¬ ((((-1 : Int) == 1) && _) = true); simp)]
  exact ⟨Nat.le_trans (revY_len z) h, q _ _⟩
theorem pe_revA {e : Expr} {te : TE} {k : Nat} {p1 p2 p3 pos : Pos} (he : PE X e te) : PE X (.Subscript e (.Slice none none (some (.UnaryOp .USub (.Constant (.int 1) k p1) p2)) p3) pos) (tRevA te) := by
  refine ⟨fun pins s σ H Q I h => ?_⟩
  refine Subscript_ (thn (he.run pins s σ H _ I h) fun v s1 ⟨x, H1, I1, r1, q1⟩ => ?_)
  obtain ⟨z, ex, hz, q⟩ := q1
  subst ex
  obtain ⟨t, rfl⟩ := r1
  have hst : PO X (some (.UnaryOp .USub (.Constant (.int 1) k p1) p2)) (tPart (tUn (rU fun i => .int (-i)) (tC (.int 1)))) := po_some (pe_un un_neg pe_int)
  refine wpAny_Slice (thn (po_none.run pins s1 σ H1 (fun o H2 => o = none ∧ H2 = H1) I1 ⟨rfl, rfl⟩) fun vl s2 ⟨l, H2, I2, pl, el, e2⟩ => ?_)
  subst el e2
  refine thn (po_none.run pins s2 σ H2 (fun o H3 => o = none ∧ H3 = H2) I2 ⟨rfl, rfl⟩) fun vu s3 ⟨u, H3, I3, pu, eu, e3⟩ => ?_
  subst eu e3
  refine thn (hst.run pins s3 σ H3 (fun o H4 => o = some (-1) ∧ H4 = H3) I3 ⟨1, rfl, -1, rfl, rfl, rfl⟩) fun vs s4 ⟨o, H4, I4, ps, eo, e4⟩ => ?_
  subst eo e4
  have I5 : Inv X pins σ H4 { s4 with heap := s4.heap.push { cls := .type "slice", data := .fields #[vl, vu, vs] } } := I4.kept (t' := s4.toks) fun b ob q => Heap.get?_push_of_some _ q
  obtain ⟨a1, rfl, b1⟩ := IsPart.raw pl
  obtain ⟨a2, rfl, b2⟩ := IsPart.raw pu
  obtain ⟨a3, rfl, b3⟩ := IsPart.raw ps
  obtain rfl : a1 = none := by
    cases a1
    · rfl
    · cases b1
  obtain rfl : a2 = none := by
    cases a2
    · rfl
    · cases b2
  obtain ⟨a4, rfl⟩ : ∃ u, a3 = some (-1, u) := by
    cases a3 with
    | none => cases b3
    | some w =>
      obtain ⟨w1, w2⟩ := w
      cases b3
      exact ⟨w2, rfl⟩
  show wpAny (model X.prog X.w) X.A (subscriptTail e (.Slice none none (some (.UnaryOp .USub (.Constant (.int 1) k p1) p2)) p3) (.str z t) (.ref s4.heap.objs.size)) (EP X pins σ Q) X.xe _
  refine tail_any (ops := [.ref s4.heap.objs.size, .str z t]) (typeIs_str _ _ _) (F.slot_str_getitem.lookup) ?_ (by with_unfolding_all rfl)
  refine wpAny_getItem_str_slice (l := none) (u := none) (st := some (-1, a4)) ⟨_, Heap.get?_push_size _ rfl, rfl, rfl⟩ rfl ?_
  exact madeA z t a4 hz fun u tk => ⟨.str (revY z), H4, I5.tok tk, ⟨u, rfl⟩, q⟩
end
end RA

namespace Law
open PySem PySem.Spec PyProof.Rows L2 Evl TR GX EK
theorem cut2 {A : Prop} {N : L2.St → Hp → Prop} (Pv : L2.St → Hp → Prop) (hA : (∀ σ' H', Pv σ' H' → N σ' H') → A) (rest : ∀ σ' H', Pv σ' H' → N σ' H') : A := hA rest
theorem cutL_to (xs : List V) (k : Nat) : cutV xs none (some (k : Int)) = xs.take k := by
  unfold cutV
  rw [HT.sIx_none, HT.sIx_nat, Nat.sub_zero, List.drop_zero, List.take_eq_take_iff]
  omega
theorem cutL_from (xs : List V) (k : Nat) : cutV xs (some (k : Int)) none = xs.drop k := by
  unfold cutV
  rw [HT.sIx_none, HT.sIx_nat]
  by_cases h : k ≤ xs.length
  · rw [Nat.min_eq_left h, List.take_of_length_le (by rw [List.length_drop]; omega)]
  · rw [Nat.min_eq_right (by omega), List.drop_of_length_le (Nat.le_refl _), List.drop_of_length_le (show xs.length ≤ k by omega)]
    rw [List.take_nil]
theorem PenAt.now {p : PenI} {H0 H : Hp} {n : Nat} (P : PenAt p H0 H n) : PenAt p (del H p.d) H n ∧ Ex H0 (del H p.d) := by
  obtain ⟨e0, h0, hc, hl, op, lf, ho, hd⟩ := P
  have nc : p.c ≠ p.d := fun z => by
    rw [z, h0] at hc
    cases hc
  refine ⟨⟨fun b o h => ?_, del_same, by rw [del_ne nc]; exact e0 _ _ hc, hl, op, lf, ho, hd⟩, fun b o h => ?_⟩
  · by_cases hb : b = p.d
    · rw [hb, del_same] at h
      cases h
    · rw [del_ne hb] at h
      exact h
  · rw [del_ne (fun z => by rw [z, h0] at h; cases h)]
    exact e0 _ _ h
def lv (ls : List (List Nat)) : List V := (ls.map TT.S).map V.str
theorem lv_app (a b : List (List Nat)) : lv a ++ lv b = lv (a ++ b) := by
  unfold lv
  rw [List.map_append, List.map_append]
theorem lv_take (ls : List (List Nat)) (k : Nat) : (lv ls).take k = lv (ls.take k) := by
  unfold lv
  rw [List.map_take, List.map_take]
theorem lv_drop (ls : List (List Nat)) (k : Nat) : (lv ls).drop k = lv (ls.drop k) := by
  unfold lv
  rw [List.map_drop, List.map_drop]
theorem lv_len (ls : List (List Nat)) : (lv ls).length = ls.length := by
  unfold lv
  rw [List.length_map, List.length_map]
theorem lv_at {ls : List (List Nat)} {i : Nat} {y : List Nat} (h : ls[i]? = some y) : (lv ls)[i]? = some (.str (tx y)) := by
  unfold lv
  rw [List.getElem?_map, List.getElem?_map, h]
  rfl
/-- what one may put for what -/
def fit (y z : Str) : Bool := decide (1 ≤ y.length) && (decide (z.length ≤ 2 * y.length) && ((TL.tl z).all (fun c => decide (c < 128)) && (!(y == z) && decide (z.length ≤ 10))))
theorem fit_of {y z : Str} (h : fit y z = true) : 1 ≤ y.length ∧ z.length ≤ 2 * y.length ∧ TT.Asc (TL.tl z) ∧ (y == z) = false ∧ z.length ≤ 10 := by
  unfold fit at h
  rw [Bool.and_eq_true, Bool.and_eq_true, Bool.and_eq_true, Bool.and_eq_true, decide_eq_true_eq, decide_eq_true_eq, decide_eq_true_eq] at h
  refine ⟨h.1, h.2.1, fun c hc => of_decide_eq_true (List.all_eq_true.mp h.2.2.1 c hc), ?_, h.2.2.2.2⟩
  have := h.2.2.2.1
  cases hx : (y == z) with
  | false => rfl
  | true => rw [hx] at this; cases this
/-- a pair of written texts as it stands -/
def TwoAt (H : Hp) (v : V) : Prop := ∃ (b : Addr) (o : Obj) (y z : Str) (t u : Tok), v = .ref b ∧ H b = some (.frz o (.tup [.str y, .str z])) ∧ o.cls = .type "tuple" ∧ (∃ n, o.data = .seq #[.str y t, .str z u] n) ∧ t ≠ 0 ∧ u ≠ 0 ∧ t ≠ u ∧ fit y z = true
theorem TwoAt.ex {H H' : Hp} {v : V} (h : TwoAt H v) (e : Ex H H') : TwoAt H' v := by
  obtain ⟨b, o, y, z, t, u, h1, h2, h3⟩ := h
  exact ⟨b, o, y, z, t, u, h1, e _ _ h2, h3⟩
def spBentT : Sp := fun vs H Q _ => ∃ (p : PenI) (H0 : Hp) (n b m : Nat) (x : List Nat), vs = [.ref p.d, .str (tx x)] ∧ PenAt p H0 H n ∧ n < 500000 ∧ TT.Bd b m x ∧ b ≤ 480 ∧ m ≤ 4000 ∧ ∀ H' x', PenAt p H0 H' (n + 10) → TT.Bd (2 * b + 8) (m + 2 * b + 9) x' → Q (.str (tx x')) H'
section
variable {P : Program} {w : World} {K : PySem.W.Frag} {mg : Str → Option Value} {base : Heap}
theorem ok_lbent {f : Addr} {fd : FuncData} (F : Fun K "_law_bent" "_law_bent" s_lbent f fd) (T : Tx mg) (c_ldraw : Kn P w K mg base "_law_draw" ["_law_pen_here", "_law_many"] 1 spDraw) (c_pickL : Kn P w K mg base "_law_pick" ["_law_pen_here", "_law_some"] 2 spPickL) (R_pick : PickRaw P w K mg base 2 c_pickL.f) :
    FnOk P w K mg base CX0 3 f fd ["_law_pen_here", "_law_text"] spBentT := by
  refine F.ok sc_lbent (fun vs H Q E h => ?_) (fun cdv A outer s H vs Q E hr h => ?_)
  · obtain ⟨p, H0, n, b, m, x, rfl, _⟩ := h
    rfl
  · obtain ⟨p, H0, n, b, m, x, rfl, P0, hn, B0, hb, hm, q⟩ := h
    refine ⟨_, (pss_cons (ps_set (i := 2) sc_lbent.nd rfl (Or.inl rfl) (pe_split (pv 1) pe_str))
      (pss_cons (ps_par (i := 3) (j := 4) (by rfl) sc_lbent.nd rfl rfl (by decide) rfl rfl (pa_cons (pe_call c_ldraw.ok (hr.mono (by decide)) (by rfl) c_ldraw.g c_ldraw.kp c_ldraw.b .nil pass0 (pa_cons (pv 0) (pa_cons (pe_callB call_len_seq (by rfl) T.len PySem.boot_len (pa_cons (pv 2) pa_nil)) pa_nil))) (pa_cons (pe_call c_ldraw.ok (hr.mono (by decide)) (by rfl) c_ldraw.g c_ldraw.kp c_ldraw.b .nil pass0 (pa_cons (pv 0) (pa_cons pe_int pa_nil))) pa_nil)) (by rfl))
      (pss_cons (ps_par (i := 5) (j := 6) (by rfl) sc_lbent.nd rfl rfl (by decide) rfl rfl (pa_cons (pe_ix ix_list (pv 2) (pv 3) (fun _ _ => rfl)) (pa_cons (pe_call c_ldraw.ok (hr.mono (by decide)) (by rfl) c_ldraw.g c_ldraw.kp c_ldraw.b .nil pass0 (pa_cons (pv 0) (pa_cons (pe_op op_add (pe_callB call_len_str (by rfl) T.len PySem.boot_len (pa_cons (pe_ix ix_list (pv 2) (pv 3) (fun _ _ => rfl)) pa_nil)) pe_int) pa_nil))) pa_nil)) (by rfl))
      (pss_cons (ps_if (pt_cmpR op_eq (pv 4) pe_int (nomark _)) (pss_one (ps_ret (pe_join pe_str (pe_op op_cat (pe_slice sl_list (pv 2) po_none (po_some (pv 3))) (pe_slice sl_list (pv 2) (po_some (pe_op op_add (pv 3) pe_int)) po_none))))) pss_nil)
      (pss_cons (ps_if (pt_cmpR op_eq (pv 4) pe_int (nomark _)) (pss_one (ps_ret (pe_join pe_str (pe_op op_cat (pe_op op_cat (pe_slice sl_list (pv 2) po_none (po_some (pv 3))) (pe_lst (pa_cons (pe_call c_pickL.ok (hr.mono (by decide)) (by rfl) c_pickL.g c_pickL.kp c_pickL.b .nil pass0 (pa_cons (pv 0) (pa_cons (pv 2) pa_nil))) pa_nil))) (pe_slice sl_list (pv 2) (po_some (pv 3)) po_none))))) pss_nil)
      (pss_cons (ps_if (pt_cmpR op_eq (pv 4) pe_int (nomark _)) (pss_one (ps_set (i := 5) sc_lbent.nd rfl (Or.inl rfl) (pe_op op_add_str (pe_op op_add_str (pe_slice sl_str (pv 5) po_none (po_some (pv 6))) (pe_call c_pickL.ok (hr.mono (by decide)) (by rfl) c_pickL.g c_pickL.kp c_pickL.b .nil pass0 (pa_cons (pv 0) (pa_cons (pe_lst (pa_cons pe_str (pa_cons pe_str (pa_cons pe_str (pa_cons pe_str (pa_cons pe_str (pa_cons pe_str (pa_cons pe_str (pa_cons pe_str (pa_cons pe_str (pa_cons pe_str (pa_cons pe_str pa_nil)))))))))))) pa_nil)))) (pe_slice sl_str (pv 5) (po_some (pv 6)) po_none)))) (pss_one (RX.ps_ifT (pv 4) (RX.ts_of (pss_one (ps_set (i := 5) sc_lbent.nd rfl (Or.inl rfl) (pe_op op_add_str (pe_slice sl_str (pv 5) po_none (po_some (pv 6))) (pe_slice sl_str (pv 5) (po_some (pe_op op_add (pv 6) pe_int)) po_none))))) (RX.ts_one (RX.ts_if (pt_cmpR op_eq (pv 4) pe_int (nomark _)) (RX.ts_cons (RX.ts_asg (i := 7) sc_lbent.nd rfl (Or.inl rfl) (RX.ts_lst (RX.ta_cons RX.ts_two (RX.ta_cons RX.ts_two (RX.ta_cons RX.ts_two (RX.ta_cons RX.ts_two (RX.ta_cons RX.ts_two (RX.ta_cons RX.ts_two RX.ta_nil)))))))) (RX.ts_of (RX.pss_twoRep (i := 8) (j := 9) (l := 5) rfl sc_lbent.nd rfl rfl rfl rfl rfl rfl (by decide) (by decide) (by decide) (pe_call c_pickL.ok (hr.mono (by decide)) (by rfl) c_pickL.g c_pickL.kp c_pickL.b .nil pass0 (pa_cons (pv 0) (pa_cons (pv 7) pa_nil)))))) (RX.ts_one (RX.ts_if (pt_cmpR op_eq (pv 4) pe_int (nomark _)) (RX.ts_one (psst_repB (k := 2) (ip := 0) (l := 5) R_pick (hr.mono (by decide)) (by rfl) c_pickL.g c_pickL.kp sc_lbent.nd rfl (Or.inl rfl) rfl rfl (.cons (.cons (.cons (.cons .nil)))) (.cons (.cons (.cons (.cons (.cons .nil))))) (by decide) (by decide) (by decide) (by decide))) (RX.ts_of (pss_cons (ps_set (i := 10) sc_lbent.nd rfl (Or.inl rfl) (pe_lst (pa_cons pe_str (pa_cons pe_str (pa_cons pe_str (pa_cons pe_str (pa_cons pe_str (pa_cons pe_str (pa_cons pe_str (pa_cons pe_str pa_nil))))))))))
      (pss_one (ps_set (i := 5) sc_lbent.nd rfl (Or.inl rfl) (pe_call c_pickL.ok (hr.mono (by decide)) (by rfl) c_pickL.g c_pickL.kp c_pickL.b .nil pass0 (pa_cons (pv 0) (pa_cons (pe_op op_cat (pv 10) (pe_lst (pa_cons pe_str (pa_cons (pe_op op_add_str (pv 5) pe_str) (pa_cons (pe_op op_add_str pe_str (pv 5)) (pa_cons (RA.pe_revA (pv 5)) pa_nil)))))) pa_nil))))))))))))))
      (pss_one (ps_ret (pe_join pe_str (pe_op op_cat (pe_op op_cat (pe_slice sl_list (pv 2) po_none (po_some (pv 3))) (pe_lst (pa_cons (pv 5) pa_nil))) (pe_slice sl_list (pv 2) (po_some (pe_op op_add (pv 3) pe_int)) po_none))))))))))), ?_⟩
    obtain ⟨ls, hls⟩ : ∃ ls, TT.ln x = ls := ⟨_, rfl⟩
    have hlok : ∀ y ∈ ls, TT.Asc y ∧ y.length ≤ b := fun y hy => by
      rw [← hls] at hy
      exact ⟨fun c hc => B0.asc c (TT.ln_mem hy c hc), B0.lin y hy⟩
    have hsum := TT.ln_sum x
    rw [hls] at hsum
    have hxm := B0.len
    have hl1 : 1 ≤ ls.length := List.length_pos_iff.mpr (by rw [← hls]; exact TT.ln_ne x)
    refine ⟨_, rfl, ⟨_, rfl⟩, _, _, rfl, rfl, by decide +kernel, sz_of (by rw [tx_len]; omega), fun r hr0 => ?_⟩
    rw [show Txt.split (tx x) (Str.ofString "\n") = (TT.ln x).map TT.S from TT.split_ln x, hls]
    obtain ⟨Pn, en⟩ := P0.now
    have rd : r ≠ p.d := fresh_ne P0 hr0
    have Br : (del H p.d) r = none := by rw [del_ne rd]; exact hr0
    have P1 := (Pn.ex (Ex.new (o := .lst (lv ls)) hr0)).keep (a := r) upd_same rd
    have eB := en.trans (Ex.new (o := .lst (lv ls)) Br)
    have gB : (L2.upd (del H p.d) r (.lst (lv ls))) r = some (.lst (lv ls)) := upd_same
    have P1' : PenAt p (L2.upd (del H p.d) r (.lst (lv ls))) (L2.upd H r (.lst ((ls.map TT.S).map V.str))) n := P1
    generalize (L2.upd (del H p.d) r (.lst (lv ls))) = B at eB gB P1'
    clear P1 Pn
    generalize (L2.upd H r (.lst ((ls.map TT.S).map V.str))) = H1 at P1' ⊢
    have szx : (lv ls).length = ls.length := lv_len ls
    have done : ∀ (H' : Hp) (x' : List Nat) (k : Nat), PenAt p B H' k → k ≤ n + 10 → TT.Bd (2 * b + 8) (m + 2 * b + 9) x' → Q (.str (tx x')) H' := fun H' x' k P' hk b' => q H' x' ((P'.base P0 eB).le hk) b'
    -- a new text of lines
    have joined : ∀ (H' : Hp) (ps : List (List Nat)) (k : Nat) (D : Addr), PenAt p B H' k → k ≤ n + 10 → H' D = some (.lst (lv ps)) → (∀ y ∈ ps, TT.Asc y ∧ y.length ≤ 2 * b + 8) → (ps.map List.length).sum + ps.length ≤ m + 2 * b + 9 →
        ∃ (a : Str) (p : Addr), ∃ ys : List Str, V.str (Str.ofString "\n") = .str a ∧ [V.ref D] = [.ref p] ∧ (SqL K H' p (ys.map V.str) ∨ SqT K H' p (ys.map V.str)) ∧ (ys.map (·.length)).sum + ys.length * a.length ≤ 16777216 ∧ Q (.str (Txt.join a ys)) H' := fun H' ps k D P' hk hD hp hs => by
      have hx : ((ps.map TT.S).map (·.length)) = ps.map List.length := by
        rw [List.map_map]
        exact List.map_congr_left fun y _ => TT.S_len y
      refine ⟨_, D, ps.map TT.S, rfl, rfl, .inl (sq_of hD), ?_, ?_⟩
      · rw [hx, List.length_map, show (Str.ofString "\n").length = 1 by decide +kernel]
        omega
      · rw [TT.ln_joinS]
        have hb1 := TT.bd_join (b := 2 * b + 8) (m := m + 2 * b + 8) hp (by omega) fun _ => True.intro
        exact done H' _ k P' hk (hb1.more (Nat.le_refl _) (by omega))
    have sum_take : ∀ i, ((ls.take i).map List.length).sum + ((ls.drop i).map List.length).sum = (ls.map List.length).sum := fun i => by
      have := congrArg (fun l => (l.map List.length).sum) (List.take_append_drop i ls)
      simp only [List.map_append, List.sum_append] at this
      exact this
    refine ⟨_, rfl, _, rfl, r, _, rfl, .inl (sq_of (P1'.1 _ _ gB)), p, B, n, _, rfl, P1', by omega, by rw [szx]; omega, by rw [szx]; omega, fun H2 r2 P2 a0 a1 => ?_⟩
    refine ⟨_, rfl, p, B, _, 7, rfl, P2, by omega, by decide, by decide, fun H3 r3 P3 c0 c1 => ⟨_, _, rfl, ?_⟩⟩
    rw [szx] at a1
    obtain ⟨i, rfl⟩ : ∃ i : Nat, r2 = (i : Int) := ⟨r2.toNat, (Int.toNat_of_nonneg a0).symm⟩
    have hi : i < ls.length := by omega
    obtain ⟨y, hy⟩ : ∃ y, ls[i]? = some y := ⟨_, List.getElem?_eq_getElem hi⟩
    obtain ⟨hya, hyb⟩ := hlok y (List.mem_of_getElem? hy)
    have hset := TT.sum_set hy
    have szy : (tx y).length ≤ sizeLine := sz_of (by rw [tx_len]; omega)
    have hat : atI (lv ls) (i : Int) = some (.str (tx y)) := atI_nat (lv_at hy)
    refine ⟨_, rfl, _, rfl, r, _, _, _, rfl, rfl, sq_of (P3.1 _ _ gB), hat, ?_⟩
    refine ⟨_, rfl, _, rfl, _, rfl, r, _, _, _, rfl, rfl, sq_of (P3.1 _ _ gB), hat, _, rfl, szy, _, _, rfl, rfl, ?_⟩
    refine ⟨p, B, _, _, rfl, P3, by omega, by rw [tx_len]; omega, by rw [tx_len]; omega, fun H4 r4 P4 d0 d1 => ⟨_, _, rfl, ?_⟩⟩
    obtain ⟨j, rfl⟩ : ∃ j : Nat, r4 = (j : Int) := ⟨r4.toNat, (Int.toNat_of_nonneg d0).symm⟩
    rw [tx_len] at d1
    have e1 : ((i : Int) + 1) = ((i + 1 : Nat) : Int) := rfl
    have hdrop : ∀ q ∈ ls.drop (i + 1), TT.Asc q ∧ q.length ≤ 2 * b + 8 := fun q hq => by
      have := hlok q (List.mem_of_mem_drop hq)
      exact ⟨this.1, by omega⟩
    have htake : ∀ q ∈ ls.take i, TT.Asc q ∧ q.length ≤ 2 * b + 8 := fun q hq => by
      have := hlok q (List.mem_of_mem_take hq)
      exact ⟨this.1, by omega⟩
    have ltake : (ls.take i).length = i := by rw [List.length_take]; omega
    have ldrop : (ls.drop (i + 1)).length = ls.length - (i + 1) := by rw [List.length_drop]
    have szl : ∀ ps : List (List Nat), ps.length ≤ 9000 → (lv ps).length ≤ sizeLine := fun ps h => by
      rw [lv_len]
      exact sz_of (by omega)
    -- way 0
    refine ⟨_, rfl, rfl, _, rfl, ite2 (fun hw => ?_) (fun hw => ?_)⟩
    · refine ⟨⟨_, rfl⟩, _, rfl, _, rfl, _, rfl, r, _, rfl, sq_of (P4.1 _ _ gB), fun D1 hD1 => ?_⟩
      rw [cutL_to, lv_take]
      have P5 := P4.ex (Ex.new (o := .lst (lv (ls.take i))) hD1)
      have g5 : (L2.upd H4 D1 (.lst (lv (ls.take i)))) D1 = some (.lst (lv (ls.take i))) := upd_same
      generalize (L2.upd H4 D1 (.lst (lv (ls.take i)))) = H5 at P5 g5 ⊢
      refine ⟨_, rfl, _, rfl, _, _, rfl, rfl, _, rfl, r, _, rfl, sq_of (P5.1 _ _ gB), fun D2 hD2 => ?_⟩
      dsimp only
      rw [e1, cutL_from, lv_drop]
      have P6 := P5.ex (Ex.new (o := .lst (lv (ls.drop (i + 1)))) hD2)
      have g6 := (Ex.new (o := .lst (lv (ls.drop (i + 1)))) hD2) _ _ g5
      have k6 : (L2.upd H5 D2 (.lst (lv (ls.drop (i + 1))))) D2 = some (.lst (lv (ls.drop (i + 1)))) := upd_same
      generalize (L2.upd H5 D2 (.lst (lv (ls.drop (i + 1))))) = H6 at P6 g6 k6 ⊢
      refine ⟨D1, D2, _, _, rfl, rfl, g6, k6, by rw [lv_len, lv_len, ltake, ldrop]; exact sz_of (by omega), fun D3 hD3 => ?_⟩
      rw [lv_app]
      refine joined _ _ _ D3 (P6.ex (Ex.new hD3)) (by omega) upd_same (fun q hq => ?_) ?_
      · rcases List.mem_append.mp hq with z | z
        · exact htake q z
        · exact hdrop q z
      · rw [List.map_append, List.sum_append, List.length_append, ltake, ldrop]
        omega
    -- way 1
    refine ⟨_, rfl, rfl, _, rfl, ite2 (fun hw1 => ?_) (fun hw1 => ?_)⟩
    · refine ⟨⟨_, rfl⟩, _, rfl, _, rfl, _, rfl, r, _, rfl, sq_of (P4.1 _ _ gB), fun D1 hD1 => ?_⟩
      rw [cutL_to, lv_take]
      have P5 := P4.ex (Ex.new (o := .lst (lv (ls.take i))) hD1)
      have g5 : (L2.upd H4 D1 (.lst (lv (ls.take i)))) D1 = some (.lst (lv (ls.take i))) := upd_same
      have bD1 : B D1 = none := fresh_back P4.1 hD1
      have nD1 : D1 ≠ p.d := fresh_ne P4 hD1
      generalize (L2.upd H4 D1 (.lst (lv (ls.take i)))) = H5 at P5 g5 ⊢
      have P5k := P5.keep g5 nD1
      have eB1 : Ex B (L2.upd B D1 (.lst (lv (ls.take i)))) := Ex.new bD1
      refine ⟨_, rfl, _, rfl, p, _, r, _, _, rfl, P5k, by omega, P5k.1 _ _ (eB1 _ _ gB), by rw [szx]; omega, by rw [szx]; omega, fun H6 v P6 hv => ?_⟩
      obtain ⟨y1, hy1, rfl⟩ : ∃ y1, y1 ∈ ls ∧ v = .str (tx y1) := by
        unfold lv at hv
        obtain ⟨s1, hs1, rfl⟩ := List.mem_map.mp hv
        obtain ⟨y1, hy1, rfl⟩ := List.mem_map.mp hs1
        exact ⟨y1, hy1, rfl⟩
      obtain ⟨ya1, yb1⟩ := hlok y1 hy1
      have g6 := P6.1 _ _ (upd_same (H := B) (a := D1) (o := .lst (lv (ls.take i))))
      have P6b : PenAt p B H6 (n + 1 + 1 + 1 + 1) := P6.base P4 eB1
      refine ⟨by show 1 ≤ sizeLine; decide, fun D2 hD2 => ?_⟩
      have P7 := P6b.ex (Ex.new (o := .lst (lv [y1])) hD2)
      have g7 := (Ex.new (o := .lst (lv [y1])) hD2) _ _ g6
      have k7 : (L2.upd H6 D2 (.lst (lv [y1]))) D2 = some (.lst (lv [y1])) := upd_same
      rw [show [V.str (tx y1)] = lv [y1] from rfl]
      generalize (L2.upd H6 D2 (.lst (lv [y1]))) = H7 at P7 g7 k7 ⊢
      refine ⟨D1, D2, _, _, rfl, rfl, g7, k7, by rw [lv_len, lv_len, ltake]; exact sz_of (by show i + 1 ≤ 100000; omega), fun D3 hD3 => ?_⟩
      rw [lv_app]
      have P8 := P7.ex (Ex.new (o := .lst (lv (ls.take i ++ [y1]))) hD3)
      have k8 : (L2.upd H7 D3 (.lst (lv (ls.take i ++ [y1])))) D3 = some (.lst (lv (ls.take i ++ [y1]))) := upd_same
      generalize (L2.upd H7 D3 (.lst (lv (ls.take i ++ [y1])))) = H8 at P8 k8 ⊢
      refine ⟨_, rfl, _, rfl, _, rfl, r, _, rfl, sq_of (P8.1 _ _ gB), fun D4 hD4 => ?_⟩
      rw [cutL_from, lv_drop]
      have P9 := P8.ex (Ex.new (o := .lst (lv (ls.drop i))) hD4)
      have k9 := (Ex.new (o := .lst (lv (ls.drop i))) hD4) _ _ k8
      have m9 : (L2.upd H8 D4 (.lst (lv (ls.drop i)))) D4 = some (.lst (lv (ls.drop i))) := upd_same
      generalize (L2.upd H8 D4 (.lst (lv (ls.drop i)))) = H9 at P9 k9 m9 ⊢
      refine ⟨D3, D4, _, _, rfl, rfl, k9, m9, by rw [lv_len, lv_len, List.length_append, ltake, List.length_drop]; exact sz_of (by show i + 1 + (ls.length - i) ≤ 100000; omega), fun D5 hD5 => ?_⟩
      rw [lv_app]
      have hst := sum_take i
      refine joined _ _ _ D5 (P9.ex (Ex.new hD5)) (by omega) upd_same (fun q hq => ?_) ?_
      · rcases List.mem_append.mp hq with z | z
        · rcases List.mem_append.mp z with z | z
          · exact htake q z
          · rw [List.mem_singleton.mp z]
            exact ⟨ya1, by omega⟩
        · have := hlok q (List.mem_of_mem_drop z)
          exact ⟨this.1, by omega⟩
      · rw [List.map_append, List.sum_append, List.map_append, List.sum_append, List.length_append, List.length_append, ltake, List.length_drop]
        show _ + (y1.length + 0) + _ + (i + 1 + _) ≤ _
        omega
    -- another line
    refine' cut2 (fun σ' H' => ∃ (y' : List Nat) (k : Nat) (y7 y8 y9 y10 : Option V), σ' = [some (.ref p.d), some (.str (tx x)), some (.ref r), some (.int (i : Nat)), some (.int r3), some (.str (tx y')), some (.int (j : Nat)), y7, y8, y9, y10] ∧ PenAt p B H' k ∧ k ≤ n + 10 ∧ TT.Asc y' ∧ y'.length ≤ 2 * b + 8) (fun rest => ?_) ?_
    rotate_left
    · -- way 2
      have szj : (tx (y.take j)).length ≤ sizeLine := sz_of (by rw [tx_len, List.length_take]; omega)
      have ay : ∀ q : List Nat, (∀ c ∈ q, c ∈ y) → TT.Asc q := fun q hq c hc => hya c (hq c hc)
      refine ⟨_, rfl, rfl, _, rfl, ite2 (fun hw2 => ?_) (fun hw2 => ?_)⟩
      · refine ⟨_, rfl, _, rfl, _, rfl, _, rfl, szy, ?_⟩
        rw [cut_to]
        refine ⟨_, rfl, by show 11 ≤ sizeLine; decide, fun D1 hD1 => ⟨p, B, D1, _, _, rfl, P4.ex (Ex.new hD1), by omega, upd_same, by show 0 < 11; decide, by show 11 < 10000; decide, fun H5 v P5 hv => ?_⟩⟩
        obtain ⟨z, hz, za, zl⟩ : ∃ z, v = .str (tx z) ∧ TT.Asc z ∧ z.length ≤ 6 := by
          have key : ∀ z ∈ [" ", "0", "9", "[", "]", ",", ": ", "go 1 0", "x", "\n", "-"].map Str.ofString, (TL.tl z).all (· < 128) = true ∧ (TL.tl z).length ≤ 6 := by decide +kernel
          obtain ⟨z, hz, rfl⟩ : ∃ z ∈ [" ", "0", "9", "[", "]", ",", ": ", "go 1 0", "x", "\n", "-"].map Str.ofString, v = .str z := by
            simp only [List.mem_cons, List.not_mem_nil, or_false] at hv
            rcases hv with rfl | rfl | rfl | rfl | rfl | rfl | rfl | rfl | rfl | rfl | rfl <;> exact ⟨_, by simp, rfl⟩
          obtain ⟨k1, k2⟩ := key z hz
          refine ⟨TL.tl z, congrArg V.str (TL.ext_tl rfl), fun c hc => ?_, k2⟩
          simpa using List.all_eq_true.mp k1 c hc
        subst hz
        refine ⟨_, _, rfl, rfl, sz_of (by rw [tx_len, tx_len, List.length_take]; omega), _, rfl, _, rfl, _, rfl, _, rfl, szy, ?_⟩
        rw [cut_from]
        refine ⟨_, _, rfl, rfl, sz_of (by rw [TT.app_len, tx_len, tx_len, tx_len, List.length_take, List.length_drop]; omega), ?_⟩
        refine rest _ _ ⟨y.take j ++ z ++ y.drop j, _, none, none, none, none, ?_, P5, by omega, fun c hc => ?_, ?_⟩
        · rw [show tx (y.take j) ++ tx z ++ tx (y.drop j) = tx (y.take j ++ z ++ y.drop j) from (congrArg (· ++ TT.S (y.drop j)) (TT.S_app (y.take j) z)).trans (TT.S_app _ _)]
          rfl
        · rcases List.mem_append.mp hc with hc | hc
          · rcases List.mem_append.mp hc with hc | hc
            · exact hya c (List.mem_of_mem_take hc)
            · exact za c hc
          · exact hya c (List.mem_of_mem_drop hc)
        · rw [List.length_append, List.length_append, List.length_take, List.length_drop]
          omega
      -- way 3
      refine ⟨_, rfl, rfl, _, rfl, ite2 (fun hw3 => ?_) (fun hw3 => ?_)⟩
      · refine ⟨_, rfl, _, rfl, _, rfl, _, rfl, szy, ?_⟩
        rw [cut_to]
        refine ⟨_, rfl, _, rfl, _, _, rfl, rfl, _, rfl, _, rfl, szy, ?_⟩
        dsimp only
        rw [show ((j : Int) + 1) = ((j + 1 : Nat) : Int) from rfl, cut_from]
        refine ⟨_, _, rfl, rfl, sz_of (by rw [tx_len, tx_len, List.length_take, List.length_drop]; omega), ?_⟩
        refine rest _ _ ⟨y.take j ++ y.drop (j + 1), _, none, none, none, none, ?_, P4, by omega, fun c hc => ?_, ?_⟩
        · rw [show tx (y.take j) ++ tx (y.drop (j + 1)) = tx (y.take j ++ y.drop (j + 1)) from TT.S_app _ _]
          rfl
        · rcases List.mem_append.mp hc with hc | hc
          · exact hya c (List.mem_of_mem_take hc)
          · exact hya c (List.mem_of_mem_drop hc)
        · rw [List.length_append, List.length_take, List.length_drop]
          omega
      -- way 4
      refine ⟨_, rfl, rfl, _, rfl, ite2 (fun hw4 => ?_) (fun hw4 => ?_)⟩
      · refine fun a1 o1 t1 u1 h1 c1 d1 nt1 nu1 ne1 => ?_
        have R1 := P4.ex (Ex.new (o := .frz o1 (.tup [.str "go", .str "Go"])) h1)
        have w1 : TwoAt (L2.upd H4 a1 (.frz o1 (.tup [.str "go", .str "Go"]))) (.ref a1) := ⟨a1, o1, "go", "Go", t1, u1, rfl, upd_same, c1, d1, nt1, nu1, ne1, by decide +kernel⟩
        generalize (L2.upd H4 a1 (.frz o1 (.tup [.str "go", .str "Go"]))) = K1 at R1 w1 ⊢
        refine fun a2 o2 t2 u2 h2 c2 d2 nt2 nu2 ne2 => ?_
        have R2 := R1.ex (Ex.new (o := .frz o2 (.tup [.str "tell", .str "read"])) h2)
        have w2 : TwoAt (L2.upd K1 a2 (.frz o2 (.tup [.str "tell", .str "read"]))) (.ref a2) := ⟨a2, o2, "tell", "read", t2, u2, rfl, upd_same, c2, d2, nt2, nu2, ne2, by decide +kernel⟩
        have w1 := w1.ex (Ex.new (o := .frz o2 (.tup [.str "tell", .str "read"])) h2)
        generalize (L2.upd K1 a2 (.frz o2 (.tup [.str "tell", .str "read"]))) = K2 at R2 w1 w2 ⊢
        refine fun a3 o3 t3 u3 h3 c3 d3 nt3 nu3 ne3 => ?_
        have R3 := R2.ex (Ex.new (o := .frz o3 (.tup [.str "read", .str "tell"])) h3)
        have w3 : TwoAt (L2.upd K2 a3 (.frz o3 (.tup [.str "read", .str "tell"]))) (.ref a3) := ⟨a3, o3, "read", "tell", t3, u3, rfl, upd_same, c3, d3, nt3, nu3, ne3, by decide +kernel⟩
        have w1 := w1.ex (Ex.new (o := .frz o3 (.tup [.str "read", .str "tell"])) h3)
        have w2 := w2.ex (Ex.new (o := .frz o3 (.tup [.str "read", .str "tell"])) h3)
        generalize (L2.upd K2 a3 (.frz o3 (.tup [.str "read", .str "tell"]))) = K3 at R3 w1 w2 w3 ⊢
        refine fun a4 o4 t4 u4 h4 c4 d4 nt4 nu4 ne4 => ?_
        have R4 := R3.ex (Ex.new (o := .frz o4 (.tup [.str ", ", .str ","])) h4)
        have w4 : TwoAt (L2.upd K3 a4 (.frz o4 (.tup [.str ", ", .str ","]))) (.ref a4) := ⟨a4, o4, ", ", ",", t4, u4, rfl, upd_same, c4, d4, nt4, nu4, ne4, by decide +kernel⟩
        have w1 := w1.ex (Ex.new (o := .frz o4 (.tup [.str ", ", .str ","])) h4)
        have w2 := w2.ex (Ex.new (o := .frz o4 (.tup [.str ", ", .str ","])) h4)
        have w3 := w3.ex (Ex.new (o := .frz o4 (.tup [.str ", ", .str ","])) h4)
        generalize (L2.upd K3 a4 (.frz o4 (.tup [.str ", ", .str ","]))) = K4 at R4 w1 w2 w3 w4 ⊢
        refine fun a5 o5 t5 u5 h5 c5 d5 nt5 nu5 ne5 => ?_
        have R5 := R4.ex (Ex.new (o := .frz o5 (.tup [.str "]", .str "]]"])) h5)
        have w5 : TwoAt (L2.upd K4 a5 (.frz o5 (.tup [.str "]", .str "]]"]))) (.ref a5) := ⟨a5, o5, "]", "]]", t5, u5, rfl, upd_same, c5, d5, nt5, nu5, ne5, by decide +kernel⟩
        have w1 := w1.ex (Ex.new (o := .frz o5 (.tup [.str "]", .str "]]"])) h5)
        have w2 := w2.ex (Ex.new (o := .frz o5 (.tup [.str "]", .str "]]"])) h5)
        have w3 := w3.ex (Ex.new (o := .frz o5 (.tup [.str "]", .str "]]"])) h5)
        have w4 := w4.ex (Ex.new (o := .frz o5 (.tup [.str "]", .str "]]"])) h5)
        generalize (L2.upd K4 a5 (.frz o5 (.tup [.str "]", .str "]]"]))) = K5 at R5 w1 w2 w3 w4 w5 ⊢
        refine fun a6 o6 t6 u6 h6 c6 d6 nt6 nu6 ne6 => ?_
        have R6 := R5.ex (Ex.new (o := .frz o6 (.tup [.str "1", .str "01"])) h6)
        have w6 : TwoAt (L2.upd K5 a6 (.frz o6 (.tup [.str "1", .str "01"]))) (.ref a6) := ⟨a6, o6, "1", "01", t6, u6, rfl, upd_same, c6, d6, nt6, nu6, ne6, by decide +kernel⟩
        have w1 := w1.ex (Ex.new (o := .frz o6 (.tup [.str "1", .str "01"])) h6)
        have w2 := w2.ex (Ex.new (o := .frz o6 (.tup [.str "1", .str "01"])) h6)
        have w3 := w3.ex (Ex.new (o := .frz o6 (.tup [.str "1", .str "01"])) h6)
        have w4 := w4.ex (Ex.new (o := .frz o6 (.tup [.str "1", .str "01"])) h6)
        have w5 := w5.ex (Ex.new (o := .frz o6 (.tup [.str "1", .str "01"])) h6)
        generalize (L2.upd K5 a6 (.frz o6 (.tup [.str "1", .str "01"]))) = K6 at R6 w1 w2 w3 w4 w5 w6 ⊢
        refine ⟨by show 6 ≤ sizeLine; decide, fun D hD => ?_⟩
        have P5 := R6.ex (Ex.new (o := .lst [.ref a1, .ref a2, .ref a3, .ref a4, .ref a5, .ref a6]) hD)
        have k5 : (L2.upd K6 D (.lst [.ref a1, .ref a2, .ref a3, .ref a4, .ref a5, .ref a6])) D = some (.lst [.ref a1, .ref a2, .ref a3, .ref a4, .ref a5, .ref a6]) := upd_same
        have all : ∀ v ∈ [V.ref a1, .ref a2, .ref a3, .ref a4, .ref a5, .ref a6], TwoAt (L2.upd K6 D (.lst [.ref a1, .ref a2, .ref a3, .ref a4, .ref a5, .ref a6])) v := fun v hv => by
          simp only [List.mem_cons, List.not_mem_nil, or_false] at hv
          rcases hv with rfl | rfl | rfl | rfl | rfl | rfl
          · exact w1.ex (Ex.new hD)
          · exact w2.ex (Ex.new hD)
          · exact w3.ex (Ex.new hD)
          · exact w4.ex (Ex.new hD)
          · exact w5.ex (Ex.new hD)
          · exact w6.ex (Ex.new hD)
        generalize (L2.upd K6 D (.lst [.ref a1, .ref a2, .ref a3, .ref a4, .ref a5, .ref a6])) = H5 at P5 k5 all ⊢
        obtain ⟨Pn, eN⟩ := P5.now
        refine ⟨_, rfl, _, rfl, p, _, D, _, _, rfl, Pn, by omega, k5, by show 0 < 6; decide, by show 6 < 10000; decide, fun H6 v P6 hv => ?_⟩
        obtain ⟨bb, o, y0, z0, t, u, rfl, hb0, hc0, hd0, nt, nu, ne, hfit⟩ := all v hv
        have nb : bb ≠ p.d := fun z => by
          obtain ⟨kvs, hk⟩ := P5.dict
          rw [z, hk] at hb0
          cases hb0
        have hb6 := P6.1 bb _ (by rw [del_ne nb]; exact hb0)
        obtain ⟨f1, f2, f3, f4, f5⟩ := fit_of hfit
        obtain ⟨x', ex, xa, xl⟩ := TT.repl_S f1 f2 f3 hya
        refine ⟨bb, o, y0, z0, tx y, t, u, rfl, hb6, hc0, hd0, nt, nu, ne, f4, rfl, ?_, ?_⟩
        · rw [tx_len]
          have : (y.length + 1) * z0.length ≤ 481 * 10 := Nat.mul_le_mul (by omega) f5
          omega
        · rw [show Txt.replace (tx y) y0 z0 = tx x' from ex]
          exact rest _ _ ⟨x', _, _, _, _, _, rfl, P6.base P4 eN, by omega, xa, by omega⟩
      · -- way 5
        refine ⟨_, rfl, rfl, _, rfl, ite2 (fun hw5 => ?_) (fun hw5 => ?_)⟩
        · have key : ∀ c ∈ ["0", "1", "2", "3"].map Str.ofString, ∀ d ∈ ["4", "9", "10", "64", "5"].map Str.ofString, fit c d = true := by decide +kernel
          refine ⟨p, B, _, tx y, rfl, rfl, P4, by omega, fun c hc d hd => ?_, fun H5 c d P5 hc hd => ?_⟩
          · obtain ⟨f1, f2, f3, f4, f5⟩ := fit_of (key c hc d hd)
            refine ⟨f4, ?_⟩
            rw [tx_len]
            have : (y.length + 1) * d.length ≤ 481 * 10 := Nat.mul_le_mul (by omega) f5
            omega
          · obtain ⟨f1, f2, f3, f4, f5⟩ := fit_of (key c hc d hd)
            obtain ⟨x', ex, xa, xl⟩ := TT.repl_S f1 f2 f3 hya
            rw [show Txt.replace (tx y) c d = tx x' from ex]
            exact rest _ _ ⟨x', _, _, _, _, _, rfl, P5, by omega, xa, by omega⟩
        · refine ⟨by show 8 ≤ sizeLine; decide, fun D1 hD1 => ?_⟩
          have P5 := P4.ex (Ex.new (o := .lst (["ab 0", "ab 9", "a 3", "aab 2", "ab  2", "ab 12", "abcde 2", "aB 3"].map fun z => V.str (Str.ofString z))) hD1)
          have g5 : (L2.upd H4 D1 (.lst (["ab 0", "ab 9", "a 3", "aab 2", "ab  2", "ab 12", "abcde 2", "aB 3"].map fun z => V.str (Str.ofString z)))) D1 = some (.lst (["ab 0", "ab 9", "a 3", "aab 2", "ab  2", "ab 12", "abcde 2", "aB 3"].map fun z => V.str (Str.ofString z))) := upd_same
          have P5' : PenAt p B (L2.upd H4 D1 (.lst [.str "ab 0", .str "ab 9", .str "a 3", .str "aab 2", .str "ab  2", .str "ab 12", .str "abcde 2", .str "aB 3"])) (n + 1 + 1 + 1) := P5
          have g5' : (L2.upd H4 D1 (.lst [.str "ab 0", .str "ab 9", .str "a 3", .str "aab 2", .str "ab  2", .str "ab 12", .str "abcde 2", .str "aB 3"])) D1 = some (.lst (["ab 0", "ab 9", "a 3", "aab 2", "ab  2", "ab 12", "abcde 2", "aB 3"].map fun z => V.str (Str.ofString z))) := upd_same
          clear P5 g5
          generalize (L2.upd H4 D1 (.lst [.str "ab 0", .str "ab 9", .str "a 3", .str "aab 2", .str "ab  2", .str "ab 12", .str "abcde 2", .str "aB 3"])) = H5 at P5' g5' ⊢
          have szY : (tx y).length + 1 ≤ sizeLine := Nat.le_trans (by rw [tx_len]; show y.length + 1 ≤ 1000; omega) (show 1000 ≤ sizeLine by decide)
          have sp1 : (Str.ofString " ").length = 1 := by decide +kernel
          refine ⟨_, rfl, _, rfl, _, rfl, _, _, rfl, rfl, by rw [sp1]; exact szY, _, rfl, _, _, rfl, rfl, by rw [sp1, Nat.add_comm]; exact szY, _, rfl, tx y, rfl, szy, by show 4 ≤ sizeLine; decide, fun D2 hD2 => ?_⟩
          have P6 := P5'.ex (Ex.new (o := .lst [.str "", .str (tx y ++ Str.ofString " "), .str (Str.ofString " " ++ tx y), .str (RA.revY (tx y))]) hD2)
          have g6 := (Ex.new (o := .lst [.str "", .str (tx y ++ Str.ofString " "), .str (Str.ofString " " ++ tx y), .str (RA.revY (tx y))]) hD2) _ _ g5'
          have k6 : (L2.upd H5 D2 (.lst [.str "", .str (tx y ++ Str.ofString " "), .str (Str.ofString " " ++ tx y), .str (RA.revY (tx y))])) D2 = some (.lst [.str "", .str (tx y ++ Str.ofString " "), .str (Str.ofString " " ++ tx y), .str (RA.revY (tx y))]) := upd_same
          generalize (L2.upd H5 D2 (.lst [.str "", .str (tx y ++ Str.ofString " "), .str (Str.ofString " " ++ tx y), .str (RA.revY (tx y))])) = H6 at P6 g6 k6 ⊢
          refine ⟨D1, D2, _, _, rfl, rfl, g6, k6, by show 8 + 4 ≤ sizeLine; decide, fun D3 hD3 => ?_⟩
          refine ⟨p, B, D3, _, _, rfl, P6.ex (Ex.new hD3), by omega, upd_same, by show 0 < 8 + 4; decide, by show 8 + 4 < 10000; decide, fun H7 v P7 hv => ?_⟩
          obtain ⟨z, hz, za, zl⟩ : ∃ z, v = .str (tx z) ∧ TT.Asc z ∧ z.length ≤ 2 * b + 8 := by
            rcases List.mem_append.mp hv with hv | hv
            · have key : ∀ z ∈ ["ab 0", "ab 9", "a 3", "aab 2", "ab  2", "ab 12", "abcde 2", "aB 3"].map Str.ofString, (TL.tl z).all (· < 128) = true ∧ (TL.tl z).length ≤ 8 := by decide +kernel
              obtain ⟨w, hw, rfl⟩ := List.mem_map.mp hv
              obtain ⟨k1, k2⟩ := key (Str.ofString w) (List.mem_map.mpr ⟨w, hw, rfl⟩)
              refine ⟨TL.tl (Str.ofString w), congrArg V.str (TL.ext_tl rfl), fun c hc => ?_, by omega⟩
              simpa using List.all_eq_true.mp k1 c hc
            · have sp : ∀ c ∈ TL.tl (Str.ofString " "), c < 128 := by decide +kernel
              simp only [List.mem_cons, List.not_mem_nil, or_false] at hv
              rcases hv with rfl | rfl | rfl | rfl
              · exact ⟨[], rfl, fun c hc => (List.not_mem_nil hc).elim, Nat.zero_le _⟩
              · refine ⟨y ++ TL.tl (Str.ofString " "), congrArg V.str (TL.ext_tl (TL.tl_append _ _)), fun c hc => ?_, ?_⟩
                · rcases List.mem_append.mp hc with hc | hc
                  · exact hya c hc
                  · exact sp c hc
                · rw [List.length_append, ← TL.len_tl, sp1]
                  omega
              · refine ⟨TL.tl (Str.ofString " ") ++ y, congrArg V.str (TL.ext_tl (TL.tl_append _ _)), fun c hc => ?_, ?_⟩
                · rcases List.mem_append.mp hc with hc | hc
                  · exact sp c hc
                  · exact hya c hc
                · rw [List.length_append, ← TL.len_tl, sp1]
                  omega
              · refine ⟨TL.tl (RA.revY (tx y)), congrArg V.str (TL.ext_tl rfl), fun c hc => hya c (RA.revY_mem hc), ?_⟩
                have := RA.revY_len (tx y)
                rw [tx_len] at this
                rw [← TL.len_tl]
                omega
          subst hz
          exact rest _ _ ⟨z, _, _, _, _, _, rfl, P7, by omega, za, zl⟩
    · rintro σ6 H6 ⟨y', k, y7, y8, y9, y10, rfl, P5, hk, ya, yl⟩
      refine ⟨⟨_, rfl⟩, _, rfl, _, rfl, _, rfl, r, _, rfl, sq_of (P5.1 _ _ gB), fun D1 hD1 => ?_⟩
      rw [cutL_to, lv_take]
      have P6 := P5.ex (Ex.new (o := .lst (lv (ls.take i))) hD1)
      have g6 : (L2.upd H6 D1 (.lst (lv (ls.take i)))) D1 = some (.lst (lv (ls.take i))) := upd_same
      generalize (L2.upd H6 D1 (.lst (lv (ls.take i)))) = H7 at P6 g6 ⊢
      refine ⟨_, rfl, by show 1 ≤ sizeLine; decide, fun D2 hD2 => ?_⟩
      have P7 := P6.ex (Ex.new (o := .lst (lv [y'])) hD2)
      have g7 := (Ex.new (o := .lst (lv [y'])) hD2) _ _ g6
      have k7 : (L2.upd H7 D2 (.lst (lv [y']))) D2 = some (.lst (lv [y'])) := upd_same
      rw [show [V.str (tx y')] = lv [y'] from rfl]
      generalize (L2.upd H7 D2 (.lst (lv [y']))) = H8 at P7 g7 k7 ⊢
      refine ⟨D1, D2, _, _, rfl, rfl, g7, k7, by rw [lv_len, lv_len, ltake]; exact sz_of (by show i + 1 ≤ 100000; omega), fun D3 hD3 => ?_⟩
      rw [lv_app]
      have P8 := P7.ex (Ex.new (o := .lst (lv (ls.take i ++ [y']))) hD3)
      have k8 : (L2.upd H8 D3 (.lst (lv (ls.take i ++ [y'])))) D3 = some (.lst (lv (ls.take i ++ [y']))) := upd_same
      generalize (L2.upd H8 D3 (.lst (lv (ls.take i ++ [y'])))) = H9 at P8 k8 ⊢
      refine ⟨_, rfl, _, rfl, _, _, rfl, rfl, _, rfl, r, _, rfl, sq_of (P8.1 _ _ gB), fun D4 hD4 => ?_⟩
      dsimp only
      rw [e1, cutL_from, lv_drop]
      have P9 := P8.ex (Ex.new (o := .lst (lv (ls.drop (i + 1)))) hD4)
      have k9 := (Ex.new (o := .lst (lv (ls.drop (i + 1)))) hD4) _ _ k8
      have m9 : (L2.upd H9 D4 (.lst (lv (ls.drop (i + 1))))) D4 = some (.lst (lv (ls.drop (i + 1)))) := upd_same
      generalize (L2.upd H9 D4 (.lst (lv (ls.drop (i + 1))))) = H10 at P9 k9 m9 ⊢
      refine ⟨D3, D4, _, _, rfl, rfl, k9, m9, by rw [lv_len, lv_len, List.length_append, ltake, ldrop]; exact sz_of (by show i + 1 + _ ≤ 100000; omega), fun D5 hD5 => ?_⟩
      rw [lv_app]
      refine joined _ _ _ D5 (P9.ex (Ex.new hD5)) hk upd_same (fun q hq => ?_) ?_
      · rcases List.mem_append.mp hq with z | z
        · rcases List.mem_append.mp z with z | z
          · exact htake q z
          · rw [List.mem_singleton.mp z]
            exact ⟨ya, yl⟩
        · exact hdrop q z
      · rw [List.map_append, List.sum_append, List.map_append, List.sum_append, List.length_append, List.length_append, ltake, ldrop]
        show _ + (y'.length + 0) + _ + (i + 1 + _) ≤ _
        omega
end
end Law

namespace Law
open PySem PySem.Spec PyProof.Rows L2 Evl TR GX EK
theorem txok_of {b m : Nat} {x : List Nat} (h : TT.Bd b m x) (hb : b ≤ 1900) (hm : m ≤ 9000) : TxOk (tx x) (TT.ln x) := by
  have hs := TT.ln_sum x
  have hl := h.len
  have h1 : 1 ≤ (TT.ln x).length := List.length_pos_iff.mpr (TT.ln_ne x)
  refine ⟨by rw [tx_len]; omega, TT.split_ln x, TT.ln_ne x, fun l hl => ⟨fun c hc => h.asc c (TT.ln_mem hl c hc), Nat.le_trans (h.lin l hl) hb⟩, by omega, by omega⟩
theorem first_bad {L : List Nat} {w : Nat} (r : List (List Nat)) : ∀ n, n ≤ r.length → (∀ (j : Nat) y, j < n → r[j]? = some y → ∃ t, TT.Rl L w r.length y t) ∨ ∃ i l, i < n ∧ (∀ (j : Nat) y, j < i → r[j]? = some y → ∃ t, TT.Rl L w r.length y t) ∧ r[i]? = some l ∧ ∀ t, ¬ TT.Rl L w r.length l t
  | 0, _ => .inl fun j y hj => absurd hj (Nat.not_lt_zero _)
  | n + 1, hn => by
    rcases first_bad (L := L) (w := w) r n (by omega) with h | ⟨i, l, hi, h⟩
    · have hy : r[n]? = some (r[n]'(by omega)) := List.getElem?_eq_getElem (by omega)
      by_cases hR : ∃ t, TT.Rl L w r.length (r[n]'(by omega)) t
      · refine .inl fun j y hj hjy => ?_
        by_cases e : j = n
        · rw [e, hy] at hjy
          cases hjy
          exact hR
        · exact h j y (by omega) hjy
      · exact .inr ⟨n, _, Nat.lt_succ_self _, h, hy, fun t ht => hR ⟨t, ht⟩⟩
    · exact .inr ⟨i, l, by omega, h⟩
theorem trees_of {L : List Nat} {w n : Nat} : ∀ {r : List (List Nat)}, (∀ (j : Nat) y, r[j]? = some y → ∃ t, TT.Rl L w n y t) → ∃ ts : List Tr, ts.length = r.length ∧ ∀ (i : Nat) y t, r[i]? = some y → ts[i]? = some t → TT.Rl L w n y t
  | [], _ => ⟨[], rfl, fun i y t h => by cases h⟩
  | y :: r, h => by
    obtain ⟨t, ht⟩ := h 0 y rfl
    obtain ⟨ts, h1, h2⟩ := trees_of (r := r) fun j y hj => h (j + 1) y hj
    refine ⟨t :: ts, congrArg (· + 1) h1, fun i y' t' hy ht' => ?_⟩
    cases i with
    | zero =>
      cases hy
      cases ht'
      exact ht
    | succ i => exact h2 i y' t' hy ht'
theorem is_ex : ∀ {ls : List (List Nat)}, ls ≠ [] → ∃ a, Is ls a
  | [], h => absurd rfl h
  | h :: r, _ => by
    by_cases hh : ∃ L w, HdOk h L w
    · obtain ⟨L, w, hh⟩ := hh
      by_cases h64 : 64 < r.length
      · exact ⟨_, .many hh h64⟩
      by_cases h0 : r = []
      · subst h0
        exact ⟨_, .none hh⟩
      have h1 : 1 ≤ r.length := List.length_pos_iff.mpr h0
      rcases first_bad (L := L) (w := w) r r.length (Nat.le_refl _) with g | ⟨i, l, _, g1, g2, g3⟩
      · obtain ⟨ts, t1, t2⟩ := trees_of (r := r) fun j y hy => g j y (List.getElem?_eq_some_iff.mp hy).1 hy
        exact ⟨_, .good hh h1 (by omega) t1 t2⟩
      · exact ⟨_, .bad hh (by omega) g1 g2 g3⟩
    · exact ⟨_, .head fun L w z => hh ⟨L, w, z⟩⟩
/-- an answer within bounds -/
def AnsOk : Ans → Prop
  | .line i => i ≤ 10000
  | .many m => m ≤ 10000
  | .sts L w ts => ∃ l n, w ≤ 8 ∧ n ≤ 64 ∧ (∀ t ∈ ts, t.ok l w n) ∧ (∀ t ∈ ts, t.depth ≤ 40) ∧ TR.total ts ≤ 2000
theorem ans_ok {z : Str} {ls : List (List Nat)} {a : Ans} (h : Is ls a) (X : TxOk z ls) : AnsOk a := by
  have hc := X.cnt
  have hs := X.sum
  cases h with
  | head _ => exact Nat.zero_le _
  | many _ _ =>
    rw [List.length_cons] at hc
    show _ ≤ 10000
    omega
  | none _ => show 1 ≤ 10000; decide
  | bad _ h2 _ h3 _ =>
    have := (List.getElem?_eq_some_iff.mp h3).1
    show _ + 1 ≤ 10000
    omega
  | @good _ L r w ts hh h1 h2 h3 h4 =>
    have h6 := sum_six h3 h4
    rw [List.map_cons, List.sum_cons] at hs
    have key : ∀ t ∈ ts, t.ok L.length w r.length ∧ t.depth ≤ 40 := fun t ht => by
      obtain ⟨j, hj, rfl⟩ := List.mem_iff_getElem.mp ht
      have := h4 j _ _ (List.getElem?_eq_getElem (by omega)) (List.getElem?_eq_getElem hj)
      exact ⟨this.1, this.2.1⟩
    exact ⟨L.length, r.length, hh.2.2.1, h2, fun t ht => (key t ht).1, fun t ht => (key t ht).2, by omega⟩
def ansD : Ans → PyData
  | .line i => .tuple [.str "line", .int (i : Nat), .bool true]
  | .many m => .tuple [.str "states", .int (m : Nat), .int 64]
  | .sts L w ts => .tuple [.str "states", sdata ts]
theorem MetV.ex {H H' : Hp} {v : V} {a : Ans} (h : MetV H v a) (e : Ex H H') : MetV H' v a := by
  cases a with
  | line i => obtain ⟨r, e1, hr⟩ := h; exact ⟨r, e1, e _ _ hr⟩
  | many m => obtain ⟨r, e1, hr⟩ := h; exact ⟨r, e1, e _ _ hr⟩
  | sts L w ts => obtain ⟨r, s, us, e1, hr, hs, KK⟩ := h; exact ⟨r, s, us, e1, e _ _ hr, e _ _ hs, KK.ex e⟩
theorem MetV.dp {K : PySem.W.Frag} {H : Hp} {v : V} {a : Ans} (h : MetV H v a) : ∃ r, v = .ref r ∧ Dp K H (.ref r) (ansD a) := by
  cases a with
  | line i =>
    obtain ⟨r, e1, hr⟩ := h
    exact ⟨r, e1, .tup (st_of hr) (.cons (.str _) (.cons (.int _) (.cons (.bl _) .nil)))⟩
  | many m =>
    obtain ⟨r, e1, hr⟩ := h
    exact ⟨r, e1, .tup (st_of hr) (.cons (.str _) (.cons (.int _) (.cons (.int _) .nil)))⟩
  | sts L w ts =>
    obtain ⟨r, s, us, e1, hr, hs, KK⟩ := h
    exact ⟨r, e1, .tup (st_of hr) (.cons (.str _) (.cons (.tup (st_of hs) KK.dp) .nil))⟩
theorem log_small {n : Nat} (h : n < 10 ^ 10) : n.log2 < 1920 := by
  by_cases h0 : n = 0
  · rw [h0]; decide
  · exact (Nat.log2_lt h0).mpr (Nat.lt_of_lt_of_le h (by decide +kernel))
theorem int_short {n : Nat} (h : n < 10 ^ 10) : (PyData.int (n : Nat)).shown.length ≤ 13 := by
  simp only [PyData.shown]
  have := PySem.W.KT.len_num (n := (n : Int)) (by omega) (by omega)
  exact Nat.le_trans this (by decide)
theorem int_shows {n : Nat} (h : n < 10 ^ 10) : (PyData.int (n : Nat)).showable = true := by
  simp only [PyData.showable]
  exact decide_eq_true (by show ((n : Nat) : Int).natAbs.log2 < _; exact log_small h)
theorem ans_data {a : Ans} (h : AnsOk a) : (ansD a).showable = true ∧ (ansD a).hasDict = false ∧ (ansD a).depth ≤ 180 ∧ (ansD a).shown.length ≤ sizeLine := by
  cases a with
  | line i =>
    have hi : i < 10 ^ 10 := Nat.lt_of_le_of_lt (show i ≤ 10000 from h) (by decide)
    have h1 := int_shows hi
    have h2 := int_short hi
    refine ⟨?_, ?_, ?_, ?_⟩
    · unfold ansD
      simp only [PyData.showable, PyData.showableAll, Bool.and_true, Bool.true_and] at h1 ⊢
      exact h1
    · unfold ansD
      simp only [PyData.hasDict, PyData.hasDictAll, Bool.or_false]
    · unfold ansD
      simp only [PyData.depth, PyData.depthAll]
      omega
    · have h3 := fmt_text [reprText ("line" : Str), (PyData.int (i : Nat)).shown, (PyData.bool true).shown]
      rw [piled_cons, piled_cons, piled_cons] at h3
      have e0 : piled [] = 0 := rfl
      have e1 : (reprText ("line" : Str)).length ≤ 6 := by decide +kernel
      have e2 : (PyData.bool true).shown.length ≤ 6 := by decide +kernel
      have e : (ansD (.line i)).shown = tupleText [reprText ("line" : Str), (PyData.int (i : Nat)).shown, (PyData.bool true).shown] := by
        unfold ansD
        simp only [PyData.shown, PyData.shownAll]
      rw [e]
      exact Nat.le_trans (show _ ≤ 1000 by omega) (by decide)
  | many m =>
    have hi : m < 10 ^ 10 := Nat.lt_of_le_of_lt (show m ≤ 10000 from h) (by decide)
    have h1 := int_shows hi
    have h2 := int_short hi
    have g1 := int_shows (show 64 < 10 ^ 10 by decide)
    have g2 := int_short (show 64 < 10 ^ 10 by decide)
    refine ⟨?_, ?_, ?_, ?_⟩
    · unfold ansD
      have g3 : (PyData.int 64).showable = true := g1
      simp only [PyData.showable, PyData.showableAll, Bool.and_true, Bool.true_and, Bool.and_eq_true] at h1 g3 ⊢
      exact ⟨h1, g3⟩
    · unfold ansD
      simp only [PyData.hasDict, PyData.hasDictAll, Bool.or_false]
    · unfold ansD
      simp only [PyData.depth, PyData.depthAll]
      omega
    · have h3 := fmt_text [reprText ("states" : Str), (PyData.int (m : Nat)).shown, (PyData.int ((64 : Nat) : Int)).shown]
      rw [piled_cons, piled_cons, piled_cons] at h3
      have e0 : piled [] = 0 := rfl
      have e1 : (reprText ("states" : Str)).length ≤ 8 := by decide +kernel
      have e : (ansD (.many m)).shown = tupleText [reprText ("states" : Str), (PyData.int (m : Nat)).shown, (PyData.int ((64 : Nat) : Int)).shown] := by
        unfold ansD
        simp only [PyData.shown, PyData.shownAll]
        rfl
      rw [e]
      exact Nat.le_trans (show _ ≤ 1000 by omega) (by decide)
  | sts L w ts =>
    obtain ⟨l, n, w8, n64, hok, hd, ht⟩ := h
    have h1 := sd_shown w8 n64 hok
    have h2 := sd_shows w8 n64 hok
    have h3 := sd_dp hd
    refine ⟨?_, ?_, ?_, ?_⟩
    · unfold ansD sdata
      simp only [PyData.showable, PyData.showableAll, Bool.and_true, Bool.true_and]
      exact h2.1
    · unfold ansD sdata
      simp only [PyData.hasDict, PyData.hasDictAll, Bool.or_false, Bool.false_or]
      exact h2.2
    · unfold ansD
      simp only [PyData.depth, PyData.depthAll]
      omega
    · have h4 := fmt_text [reprText ("states" : Str), (sdata ts).shown]
      rw [piled_cons, piled_cons] at h4
      have e0 : piled [] = 0 := rfl
      have e1 : (reprText ("states" : Str)).length ≤ 8 := by decide +kernel
      have e : (ansD (.sts L w ts)).shown = tupleText [reprText ("states" : Str), (sdata ts).shown] := by
        unfold ansD
        simp only [PyData.shown, PyData.shownAll]
      rw [e]
      exact Nat.le_trans (show _ ≤ 1000000 by omega) (by decide)
theorem MetV.rp {K : PySem.W.Frag} {H : Hp} {v : V} {a : Ans} {Q : VK} (h : MetV H v a) (ok : AnsOk a) (q : Q (.str (ansD a).shown) H) : RP K [v] H Q := by
  obtain ⟨r, rfl, hd⟩ := h.dp (K := K)
  obtain ⟨h1, h2, h3, h4⟩ := ans_data ok
  exact ⟨⟨r, ansD a, rfl, hd, h1, h2, h3, h4, q⟩⟩
end Law

namespace Law
open PySem PySem.Spec PyProof.Rows L2 Evl TR GX EK
section
variable {K : PySem.W.Frag} {H : Hp}
theorem nos_non : NoS K H .non := ⟨_, .base .non, kit_ty (by decide +kernel)⟩
theorem nos_int (i : Int) : NoS K H (.int i) := ⟨_, .base (.int i), kit_ty (by decide +kernel)⟩
theorem nos_bl (b : Bool) : NoS K H (.bl b) := ⟨_, .base (.bl b), kit_ty (by decide +kernel)⟩
theorem nos_lst {a : Addr} {xs : List V} (h : H a = some (.lst xs)) : NoS K H (.ref a) := ⟨_, .base (.lst h), kit_ty (by decide +kernel)⟩
theorem nos_tup {a : Addr} {xs : List V} (h : H a = some (.tup xs)) : NoS K H (.ref a) := ⟨_, .base (.tup h), kit_ty (by decide +kernel)⟩
theorem nos_dK {a : Addr} {xs : List (Key × V)} (h : H a = some (.dK xs)) : NoS K H (.ref a) := ⟨_, .base (.dK h), kit_ty (by decide +kernel)⟩
end
theorem TyOf_ex {K : PySem.W.Frag} {H H' : Hp} {v : V} {t : Value} (h : TyOf K H v t) (e : Ex H H') : TyOf K H' v t := by
  cases h with
  | non => exact .non
  | bl x => exact .bl x
  | int i => exact .int i
  | str x => exact .str x
  | flt x => exact .flt x
  | lst h => exact .lst (e _ _ h)
  | frz h => exact .frz (e _ _ h)
  | tup h => exact .tup (e _ _ h)
  | dK h => exact .dK (e _ _ h)
  | dT h => exact .dT (e _ _ h)
  | ins h a b c d f => exact .ins (e _ _ h) a b c d f
theorem TyX_ex {K : PySem.W.Frag} {H H' : Hp} {v : V} {t : Value} (h : TyX K H v t) (e : Ex H H') : TyX K H' v t := by
  cases h with
  | base h => exact .base (TyOf_ex h e)
  | byt b => exact .byt b
  | set h => exact .set (e _ _ h)
  | kList h c => exact .kList h c
  | kTuple h c => exact .kTuple h c
  | kDict h c => exact .kDict h c
  | fTuple h => exact .fTuple (e _ _ h)
  | fDict h => exact .fDict (e _ _ h)
theorem NoS.ex {K : PySem.W.Frag} {H H' : Hp} {v : V} (h : NoS K H v) (e : Ex H H') : NoS K H' v := by
  obtain ⟨t, ty, k⟩ := h
  exact ⟨t, TyX_ex ty e, k⟩
theorem pick_now {p : PenI} {H0 H : Hp} {n : Nat} {a : Addr} {xs : List V} {Q : VK} {E : XK} (P : PenAt p H0 H n) (hn : n < 1000000) (h : H a = some (.lst xs)) (h0 : 0 < xs.length) (h1 : xs.length < 10000)
    (q : ∀ B H' v, Ex H0 B → (∀ b o, H b = some o → b ≠ p.d → B b = some o) → PenAt p B H' (n + 1) → v ∈ xs → Q v H') : spPickL [.ref p.d, .ref a] H Q E :=
  ⟨p, del H p.d, a, n, xs, rfl, P.now.1, hn, h, h0, h1, fun H' v P' hv => q _ H' v P.now.2 (fun b o hb nb => by rw [del_ne nb]; exact hb) P' hv⟩
theorem room190 {k : Nat} {A : Around} (r : Room k A) : A.units + 190 < cLine := by
  have := r.un
  omega
theorem st_eq {t : L2.St → Hp → Prop} {σ σ' : L2.St} {H : Hp} (e : σ = σ') (h : t σ' H) : t σ H := e ▸ h
theorem gn_eq {i : Nat} {v : V} {σ σ' : L2.St} {H : Hp} {Q : L2.St → Hp → Prop} (e : σ.set i (some v) = σ') (h : Q σ' H) : gName i v σ H Q := by
  subst e
  exact h
def spLaw (K : PySem.W.Frag) : Sp := fun vs H Q _ => ∃ (a : Addr) (ns : List Int), vs = [.ref a] ∧ SqL K H a (ns.map V.int) ∧ ns.length ≤ 63 ∧ ∀ H', Q (.bl true) H'
/-- what is handed in: a text within bounds, or no text -/
def OddT (K : PySem.W.Frag) (H : Hp) (v : V) : Prop := (∃ x, v = .str (tx x) ∧ TT.Bd 1900 9000 x) ∨ NoS K H v
theorem OddT.ex {K : PySem.W.Frag} {H H' : Hp} {v : V} (h : OddT K H v) (e : Ex H H') : OddT K H' v := by
  rcases h with h | h
  · exact .inl h
  · exact .inr (h.ex e)
/-- both ways meet the same -/
theorem OddT.due {K : PySem.W.Frag} {H : Hp} {v : V} (h : OddT K H v) : ∃ a, AnsOk a ∧ ∀ (H1 : Hp) (Q : VK) (E : XK), Ex H H1 → (∀ v' H', Ex H1 H' → MetV H' v' a → Q v' H') → spDueT K [v] H1 Q E := by
  rcases h with ⟨x, rfl, B⟩ | h
  · have X := txok_of B (Nat.le_refl _) (Nat.le_refl _)
    obtain ⟨a, ha⟩ := is_ex (TT.ln_ne x)
    exact ⟨a, ans_ok ha X, fun H1 Q E e q => ⟨_, rfl, .inl ⟨_, _, a, rfl, X, ha, q⟩⟩⟩
  · exact ⟨.line 0, Nat.zero_le _, fun H1 Q E e q => ⟨_, rfl, .inr ⟨h.ex e, q⟩⟩⟩
theorem odd_bd {K : PySem.W.Frag} {H : Hp} {b m : Nat} {x : List Nat} (h : TT.Bd b m x) (hb : b ≤ 1900) (hm : m ≤ 9000) : OddT K H (.str (tx x)) := .inl ⟨x, rfl, h.more hb hm⟩
theorem le_sum : ∀ {l : List Nat} {n : Nat}, n ∈ l → n ≤ l.sum
  | x :: r, n, h => by
    rw [List.sum_cons]
    rcases List.mem_cons.mp h with q | q
    · omega
    · have := le_sum q
      omega
/-- a short text -/
theorem bd_short {x : List Nat} (h : x.all (fun c => decide (c < 128)) = true) (hl : x.length ≤ 100) : TT.Bd 100 100 x := by
  refine ⟨fun c hc => of_decide_eq_true (List.all_eq_true.mp h c hc), fun w hw => ?_, hl⟩
  have h1 := TT.ln_sum x
  have h2 : w.length ≤ ((TT.ln x).map List.length).sum := le_sum (List.mem_map.mpr ⟨w, hw, rfl⟩)
  have h3 : 1 ≤ (TT.ln x).length := List.length_pos_iff.mpr (TT.ln_ne x)
  omega
theorem odd_str {K : PySem.W.Frag} {H : Hp} (z : Str) (h : z.cps.toList.all (fun c => decide (c < 128)) = true) (hl : z.cps.toList.length ≤ 100) : OddT K H (.str z) := by
  rw [tx_all z]
  exact odd_bd (bd_short h hl) (by decide) (by decide)
theorem ans_cl (L : List Nat) (w : Nat) (ts : List Tr) : (ansD (.sts L w ts)).canLay0 = true := by
  unfold ansD
  simp only [PyData.canLay0, PyData.canLayAll0, Bool.and_true, Bool.true_and, sd_cl]
  decide +kernel
theorem eqv_states (ts : List Tr) : PyData.eqv (ansD (.sts L w ts)) (ansD (.sts L w ts)) = true := by
  unfold ansD
  rw [eqvT]
  simp only [PyData.eqvAll, sd_eqv (ts := ts) (us := ts) true ⟨fun _ => rfl, fun _ => rfl⟩, Bool.and_true]
  simp [PyData.eqv]
theorem ne_rep {x y : V} (h : x = y) : ¬ ((!decide (x = y)) = true) := by simp [h]
theorem lines_fit {L : List Nat} {wd : Nat} {ts : List Tr} (hLG : LG L) (w8 : wd ≤ 8) (n4 : ts.length ≤ 4) (hall : ∀ t ∈ ts, TT.small t ∧ t.size ≤ 100) : ((TT.lines L wd ts).map (·.length)).sum + (TT.lines L wd ts).length * (Str.ofString "\n").length ≤ 16777216 := by
  have hL4 := hLG.hi
  have nm := TT.num_len (show wd < 100 by omega)
  have ll : (TT.lines L wd ts).length = ts.length + 1 := by
    unfold TT.lines
    rw [List.length_cons, List.length_map]
  have hs := sumL (n := 80000) (ys := TT.lines L wd ts) fun y hy => by
    rcases List.mem_cons.mp hy with h | h
    · rw [h, TT.S_len]
      unfold TT.headL
      rw [List.length_append, List.length_cons]
      omega
    · obtain ⟨t, ht, rfl⟩ := List.mem_map.mp h
      obtain ⟨tsm, tsz⟩ := hall t ht
      have := TT.txt_len L tsm
      rw [TT.S_len]
      omega
  rw [show (Str.ofString "\n").length = 1 by decide +kernel, ll]
  rw [ll] at hs
  have : (ts.length + 1) * 80000 ≤ 65 * 80000 := Nat.mul_le_mul_right _ (by omega)
  omega
theorem cutVV {A : Prop} {N : VK} (Pv : V → Hp → Prop) (hA : (∀ v H', Pv v H' → N v H') → A) (rest : ∀ v H', Pv v H' → N v H') : A := hA rest
/-- the long text -/
theorem long_bd {y : List Nat} (hy : y = [97, 98, 32, 51] ∨ y = [98, 97, 32, 49] ∨ y = [97, 98, 32, 48]) {n : Nat} (hn : n ≤ 66) :
    ∃ x, Txt.join (Str.ofString "\n") (TT.S y :: List.replicate n (TT.S [103, 111, 32, 49, 32, 48])) = tx x ∧ TT.Bd 1900 9000 x ∧ ((TT.S y :: List.replicate n (TT.S [103, 111, 32, 49, 32, 48])).map (·.length)).sum + (TT.S y :: List.replicate n (TT.S [103, 111, 32, 49, 32, 48])).length * (Str.ofString "\n").length ≤ 16777216 := by
  have hy2 : TT.Asc y ∧ y.length ≤ 6 ∧ 10 ∉ y := by
    rcases hy with rfl | rfl | rfl
    · exact ⟨fun c hc => of_decide_eq_true (List.all_eq_true.mp (show [97, 98, 32, 51].all (fun c => decide (c < 128)) = true by decide) c hc), by decide, by decide⟩
    · exact ⟨fun c hc => of_decide_eq_true (List.all_eq_true.mp (show [98, 97, 32, 49].all (fun c => decide (c < 128)) = true by decide) c hc), by decide, by decide⟩
    · exact ⟨fun c hc => of_decide_eq_true (List.all_eq_true.mp (show [97, 98, 32, 48].all (fun c => decide (c < 128)) = true by decide) c hc), by decide, by decide⟩
  have hg : TT.Asc [103, 111, 32, 49, 32, 48] := fun c hc => of_decide_eq_true (List.all_eq_true.mp (show [103, 111, 32, 49, 32, 48].all (fun c => decide (c < 128)) = true by decide) c hc)
  obtain ⟨ps, hps⟩ : ∃ ps, y :: List.replicate n [103, 111, 32, 49, 32, 48] = ps := ⟨_, rfl⟩
  have hne : ps ≠ [] := by rw [← hps]; exact List.cons_ne_nil _ _
  have hall : ∀ p ∈ ps, TT.Asc p ∧ p.length ≤ 6 ∧ 10 ∉ p := fun p hp => by
    rw [← hps] at hp
    rcases List.mem_cons.mp hp with q | q
    · rw [q]; exact hy2
    · rw [(List.mem_replicate.mp q).2]
      exact ⟨hg, by decide, by decide⟩
  have hlen : ps.length ≤ 67 := by
    rw [← hps, List.length_cons, List.length_replicate]
    omega
  have hS : TT.S y :: List.replicate n (TT.S [103, 111, 32, 49, 32, 48]) = ps.map TT.S := by
    rw [← hps, List.map_cons, List.map_replicate]
  have hln := TT.ln_joined hne fun p hp => (hall p hp).2.2
  have hcap := TT.joinL_cap (X := [10]) (b := 6) ps fun p hp => (hall p hp).2.1
  refine ⟨TL.joinL [10] ps, ?_, ⟨fun c hc => ?_, fun p hp => ?_, ?_⟩, ?_⟩
  · rw [hS, TT.ln_joinS]
    rfl
  · rcases TT.join_mem hc with z | ⟨p, hp, z⟩
    · rw [z]
      decide
    · exact (hall p hp).1 c z
  · rw [hln] at hp
    exact Nat.le_trans (hall p hp).2.1 (by decide)
  · have h5 : ps.length * 6 ≤ 67 * 6 := Nat.mul_le_mul_right _ hlen
    rw [List.length_singleton] at hcap
    omega
  · rw [hS]
    have hs := sumL (n := 6) (ys := ps.map TT.S) fun z hz => by
      obtain ⟨p, hp, rfl⟩ := List.mem_map.mp hz
      rw [TT.S_len]
      exact (hall p hp).2.1
    rw [show (Str.ofString "\n").length = 1 by decide +kernel]
    rw [List.length_map] at hs ⊢
    have h5 : ps.length * 6 ≤ 67 * 6 := Nat.mul_le_mul_right _ hlen
    omega
section
variable {P : Program} {w : World} {K : PySem.W.Frag} {mg : Str → Option Value} {base : Heap}
theorem ok_law {f : Addr} {fd : FuncData} (F : Fun K "law" "law" s_law f fd) (T : Tx mg) (g_repr : mg "repr" = none)
    (c_lpen : Kn P w K mg base "_law_pen" ["_law_script"] 1 (spPen K)) (c_ldraw : Kn P w K mg base "_law_draw" ["_law_pen_here", "_law_many"] 1 spDraw) (c_pickL : Kn P w K mg base "_law_pick" ["_law_pen_here", "_law_some"] 2 spPickL) (c_lletters : Kn P w K mg base "_law_letters" ["_law_pen_here"] 3 spLetters)
    (c_ltrees : Kn P w K mg base "_law_trees" ["_law_pen_here", "_law_letters_here", "_law_width", "_law_many", "_law_depth"] 7 spTrees) (c_lline : Kn P w K mg base "_law_line" ["_law_tree_here", "_law_letters_here"] 41 (spLine 40))
    (c_ltold : Kn P w K mg base "_law_told" ["_law_text"] 86 (spDueT K)) (c_ldue : Kn P w K mg base "_law_due" ["_law_text"] 44 (spDueT K)) (c_lbent : Kn P w K mg base "_law_bent" ["_law_pen_here", "_law_text"] 3 spBentT) :
    GD.Gd P w K mg base 87 f fd ["_law_script"] (spLaw K) := by
  refine GD.okG F sc_law (fun vs H Q E h => ?_) (fun cdv A outer s H vs Q E hr hg h => ?_)
  · obtain ⟨a, ns, rfl, _⟩ := h
    rfl
  · obtain ⟨a, ns, rfl, hS, hl, q⟩ := h
    refine ⟨_, (pss_cons (ps_set (i := 1) sc_law.nd rfl (Or.inl rfl) (pe_call c_lpen.ok (hr.mono (by decide)) (by rfl) c_lpen.g c_lpen.kp c_lpen.b .nil pass0 (pa_cons (pv 0) pa_nil)))
      (pss_cons (ps_for PassesOwn.never rfl (pi_range1 (by rfl) T.range (pa_cons (pe_op op_add pe_int (pe_callB (call_min2 rfl) (by rfl) T.min (by decide +kernel) (pa_cons pe_int (pa_cons (pe_callB call_len_seq (by rfl) T.len PySem.boot_len (pa_cons (pv 0) pa_nil)) pa_nil)))) pa_nil)) (pg_name (i := 2) sc_law.nd rfl (Or.inl rfl)) (pss_cons (ps_asg (pe_tup (pa_cons (pe_call c_lletters.ok (hr.mono (by decide)) (by rfl) c_lletters.g c_lletters.kp c_lletters.b .nil pass0 (pa_cons (pv 1) pa_nil)) (pa_cons (pe_op op_add pe_int (pe_call c_ldraw.ok (hr.mono (by decide)) (by rfl) c_ldraw.g c_ldraw.kp c_ldraw.b .nil pass0 (pa_cons (pv 1) (pa_cons pe_int pa_nil)))) (pa_cons (pe_op op_add pe_int (pe_call c_ldraw.ok (hr.mono (by decide)) (by rfl) c_ldraw.g c_ldraw.kp c_ldraw.b .nil pass0 (pa_cons (pv 1) (pa_cons pe_int pa_nil)))) pa_nil)))) (pg_tup (by rfl) (pgs_cons (pg_name (i := 3) sc_law.nd rfl (Or.inr rfl)) (pgs_cons (pg_name (i := 4) sc_law.nd rfl (Or.inl rfl)) (pgs_cons (pg_name (i := 5) sc_law.nd rfl (Or.inl rfl)) pgs_nil)))))
      (pss_cons (ps_set (i := 6) sc_law.nd rfl (Or.inl rfl) (pe_call c_ltrees.ok (hr.mono (by decide)) (by rfl) c_ltrees.g c_ltrees.kp c_ltrees.b .nil pass0 (pa_cons (pv 1) (pa_cons (pv 3) (pa_cons (pv 4) (pa_cons (pv 5) (pa_cons pe_int pa_nil)))))))
      (pss_cons (ps_set (i := 7) sc_law.nd rfl (Or.inl rfl) (pe_join pe_str (pe_op op_cat (pe_lst (pa_cons (pe_op op_add_str (pe_op op_add_str (pv 3) pe_str) (pe_callTy call_str_int (by rfl) T.str PyProof.Rows.boot_str (pa_cons (pv 4) pa_nil))) pa_nil)) (pe_lc (own := [("_law_tree_here", 8)]) (g := gName 8) (tt := tYes) rfl sc_law.nd (pi_list (pv 6)) (blkOk_by (N := N_law) (sc := defScope s_law) (by decide +kernel)) (fun _ _ _ _ _ => (pg_name (i := 8) sc_law.nd rfl (Or.inl rfl))) (fun _ _ _ _ _ => pts_nil) (fun _ _ _ _ _ => (pe_call c_lline.ok (hr.mono (by decide)) (by rfl) c_lline.g c_lline.kp c_lline.b .nil pass0 (pa_cons (pv 8) (pa_cons (pv 3) pa_nil))))))))
      (pss_cons (ps_if (PW.pt (pw_or (pt_cmpR (TR.op_neDD hr) (pe_call c_ltold.ok (hr.mono (by decide)) (by rfl) c_ltold.g c_ltold.kp c_ltold.b .nil pass0 (pa_cons (pv 7) pa_nil)) (pe_tup (pa_cons pe_str (pa_cons (pe_callTy call_tuple_of (by rfl) T.tuple PyProof.Rows.boot_tuple (pa_cons (pv 6) pa_nil)) pa_nil))) (nomark _)) (pw_or1 (pt_cmpR (TR.op_neDD hr) (pe_call c_ldue.ok (hr.mono (by decide)) (by rfl) c_ldue.g c_ldue.kp c_ldue.b .nil pass0 (pa_cons (pv 7) pa_nil)) (pe_tup (pa_cons pe_str (pa_cons (pe_callTy call_tuple_of (by rfl) T.tuple PyProof.Rows.boot_tuple (pa_cons (pv 6) pa_nil)) pa_nil))) (nomark _))))) (pss_one (ps_ret pe_bl)) pss_nil)
      (pss_one (ps_for PassesOwn.never rfl (pi_range1 (by rfl) T.range (pa_cons pe_int pa_nil)) (pg_name (i := 9) sc_law.nd rfl (Or.inl rfl)) (pss_cons (ps_set (i := 10) sc_law.nd rfl (Or.inl rfl) (pe_call c_lbent.ok (hr.mono (by decide)) (by rfl) c_lbent.g c_lbent.kp c_lbent.b .nil pass0 (pa_cons (pv 1) (pa_cons (pv 7) pa_nil))))
      (pss_cons (ps_set (i := 10) sc_law.nd rfl (Or.inl rfl) (pe_ifExp (pt_cmpR op_eq (pe_call c_ldraw.ok (hr.mono (by decide)) (by rfl) c_ldraw.g c_ldraw.kp c_ldraw.b .nil pass0 (pa_cons (pv 1) (pa_cons pe_int pa_nil))) pe_int (nomark _)) (pe_call c_lbent.ok (hr.mono (by decide)) (by rfl) c_lbent.g c_lbent.kp c_lbent.b .nil pass0 (pa_cons (pv 1) (pa_cons (pv 10) pa_nil))) (pv 10)))
      (pss_one (ps_if (pt_cmpR op_ne (pe_callB (TR.call_reprD hg (room190 hr)) (by rfl) g_repr boot_repr (pa_cons (pe_call c_ltold.ok (hr.mono (by decide)) (by rfl) c_ltold.g c_ltold.kp c_ltold.b .nil pass0 (pa_cons (pv 10) pa_nil)) pa_nil)) (pe_callB (TR.call_reprD hg (room190 hr)) (by rfl) g_repr boot_repr (pa_cons (pe_call c_ldue.ok (hr.mono (by decide)) (by rfl) c_ldue.g c_ldue.kp c_ldue.b .nil pass0 (pa_cons (pv 10) pa_nil)) pa_nil)) (nomark _)) (pss_one (ps_ret pe_bl)) pss_nil)))))))))))
      (pss_cons (ps_set (i := 11) sc_law.nd rfl (Or.inl rfl) (pe_join pe_str (pe_op op_cat (pe_lst (pa_cons (pe_call c_pickL.ok (hr.mono (by decide)) (by rfl) c_pickL.g c_pickL.kp c_pickL.b .nil pass0 (pa_cons (pv 1) (pa_cons (pe_lst (pa_cons pe_str (pa_cons pe_str (pa_cons pe_str pa_nil)))) pa_nil))) pa_nil)) (pe_op op_rep (pe_lst (pa_cons pe_str pa_nil)) (pe_call c_pickL.ok (hr.mono (by decide)) (by rfl) c_pickL.g c_pickL.kp c_pickL.b .nil pass0 (pa_cons (pv 1) (pa_cons (pe_lst (pa_cons pe_int (pa_cons pe_int (pa_cons pe_int pa_nil)))) pa_nil)))))))
      (pss_cons (ps_set (i := 12) sc_law.nd rfl (Or.inl rfl) (pe_call c_pickL.ok (hr.mono (by decide)) (by rfl) c_pickL.g c_pickL.kp c_pickL.b .nil pass0 (pa_cons (pv 1) (pa_cons (pe_lst (pa_cons pe_non (pa_cons pe_int (pa_cons pe_bl (pa_cons (pe_lst pa_nil) (pa_cons (pe_lst (pa_cons pe_str (pa_cons pe_str pa_nil))) (pa_cons pe_dnewK (pa_cons (pe_tup (pa_cons pe_str pa_nil)) (pa_cons pe_str (pa_cons pe_str (pa_cons pe_str (pa_cons pe_str pa_nil)))))))))))) pa_nil))))
      (pss_one (ps_ret (pe_cmpR (NL.op_eqNil hr.units) (pe_lc (own := [("_law_text", 7)]) (g := gName 7) rfl sc_law.nd (pi_list (pe_lst (pa_cons (pv 11) (pa_cons (pv 12) pa_nil)))) (blkOk_by (N := N_law) (sc := defScope s_law) (by decide +kernel)) (fun _ _ _ _ _ => (pg_name (i := 7) sc_law.nd rfl (Or.inl rfl))) (fun _ _ _ _ _ => (pts_one (pt_cmpR op_ne (pe_callB (show CallR _ _ (TR.rRepr K) from TR.call_reprD hg (room190 hr)) (by rfl) g_repr boot_repr (pa_cons (pe_call c_ltold.ok (hr.mono (by decide)) (by rfl) c_ltold.g c_ltold.kp c_ltold.b .nil pass0 (pa_cons (pv 7) pa_nil)) pa_nil)) (pe_callB (show CallR _ _ (TR.rRepr K) from TR.call_reprD hg (room190 hr)) (by rfl) g_repr boot_repr (pa_cons (pe_call c_ldue.ok (hr.mono (by decide)) (by rfl) c_ldue.g c_ldue.kp c_ldue.b .nil pass0 (pa_cons (pv 7) pa_nil)) pa_nil)) (nomark _)))) (fun _ _ _ _ _ => (pv 7))) (pe_lst pa_nil) (nomark _)))))))), ?_⟩
    refine ⟨_, rfl, a, ns, rfl, hS, hl, fun p H0 H1 eH P0 => ?_⟩
    have hS1 : SqL K H1 a (ns.map V.int) := ex_l (eH.trans P0.1) hS
    have hm10 : 0 ≤ (4 : Int) + (if ((ns.map V.int).length : Int) < 6 then ((ns.map V.int).length : Int) else 6) ∧ (4 : Int) + (if ((ns.map V.int).length : Int) < 6 then ((ns.map V.int).length : Int) else 6) ≤ 10 := by
      by_cases q : ((ns.map V.int).length : Int) < 6
      · rw [if_pos q]; omega
      · rw [if_neg q]; omega
    refine ⟨_, rfl, a, _, rfl, .inl hS1, _, _, rfl, _, _, rfl, rfl, _, rfl, by omega, by omega, ?_⟩
    obtain ⟨m, hm⟩ : ∃ m : Nat, ((4 : Int) + (if ((ns.map V.int).length : Int) < 6 then ((ns.map V.int).length : Int) else 6)).toNat = m := ⟨_, rfl⟩
    rw [hm]
    have hm2 : m ≤ 10 := by omega
    clear hm hm10 hS1
    refine for_range (lo := 0) (n := m) (fun i σ H' => ∃ (B : Hp) (y2 y3 y4 y5 y6 y7 y8 y9 y10 y11 y12 : Option V), σ = [some (.ref a), some (.ref p.d), y2, y3, y4, y5, y6, y7, y8, y9, y10, y11, y12] ∧ PenAt p B H' (2000 * i))
      ⟨H0, none, none, none, none, none, none, none, none, none, none, none, rfl, P0⟩ (fun i σ H' hi hw => ?_) (fun σ H' hw => ?_)
    · obtain ⟨B, y2, y3, y4, y5, y6, y7, y8, y9, y10, y11, y12, rfl, P1⟩ := hw
      refine ⟨_, rfl, p, B, _, rfl, P1, by omega, fun H2 lf lq lm P2 b1 b2 b3 b4 => ?_⟩
      have hLG := lets_good b1 b2 b3 b4
      obtain ⟨L, hLe⟩ : ∃ L, lets lf lq lm = L := ⟨_, rfl⟩
      rw [hLe] at hLG ⊢
      have L2' := hLG.lo
      have L4 := hLG.hi
      refine ⟨_, rfl, p, B, _, 8, rfl, P2, by omega, by decide, by decide, fun H3 r3 P3 r30 r31 => ⟨_, _, rfl, rfl, ?_⟩⟩
      obtain ⟨wd, hwd⟩ : ∃ wd : Nat, (1 : Int) + r3 = (wd : Int) := ⟨(1 + r3).toNat, (Int.toNat_of_nonneg (by omega)).symm⟩
      dsimp only
      rw [hwd]
      refine ⟨_, rfl, p, B, _, 4, rfl, P3, by omega, by decide, by decide, fun H4 r4 P4 r40 r41 => ⟨_, _, rfl, rfl, ?_⟩⟩
      obtain ⟨mn, hmn⟩ : ∃ mn : Nat, (1 : Int) + r4 = (mn : Int) := ⟨(1 + r4).toNat, (Int.toNat_of_nonneg (by omega)).symm⟩
      dsimp only
      rw [hmn]
      refine ⟨by show 3 ≤ sizeLine; decide, fun tt htt => ?_⟩
      have PT := P4.ex (Ex.new (o := .tup [.str (tx L), .int (wd : Int), .int (mn : Int)]) htt)
      refine ⟨tt, _, rfl, st_of upd_same, rfl, _, _, rfl, _, _, rfl, _, _, rfl, rfl, ?_⟩
      generalize (L2.upd H4 tt (.tup [.str (tx L), .int (wd : Int), .int (mn : Int)])) = HT at PT ⊢
      refine ⟨_, rfl, _, rfl, _, rfl, _, rfl, p, B, _, L, wd, mn, rfl, PT, by omega, L2', L4, by omega, by omega, by omega, by omega, fun B1 H5 r us ts d1 P5 hr0 hr1 KK hlen hall => ?_⟩
      have w1 : 1 ≤ wd := by omega
      have w8 : wd ≤ 8 := by omega
      have m1 : 1 ≤ mn := by omega
      have m4 : mn ≤ 4 := by omega
      have hr5 := P5.1 _ _ hr1
      have KK5 := KK.ex P5.1
      have lus := KK.len
      obtain ⟨x, hx, hB, hI⟩ := TT.whole_bd hLG w1 w8 (by omega) (by omega) (fun t ht => ⟨by rw [hlen]; exact (hall t ht).1, (hall t ht).2.1⟩)
      have hsm : ∀ t ∈ ts, TT.small t := fun t ht => TT.small_of w8 (by omega) (hall t ht).1
      have nl := TT.numS_len (show wd < 100 by omega)
      -- the text
      refine ⟨⟨_, rfl⟩, _, rfl, _, _, rfl, rfl, ?_, _, rfl, _, rfl, TT.num_log (by omega), _, _, rfl, rfl, ?_, by show 1 ≤ sizeLine; decide, fun l1 hl1 => ?_⟩
      · refine sz_of ?_
        rw [tx_len, lit_sp]
        omega
      · refine sz_of ?_
        rw [TT.app_len, tx_len, lit_sp]
        omega
      have hd := TT.head_out L wd
      rw [TT.emp_l] at hd
      rw [show tx L ++ Str.ofString " " ++ Str.ofString (toString ((wd : Nat) : Int)) = TT.S (TT.headL L wd) from hd]
      have e8 : Ex H5 (L2.upd H5 l1 (.lst [.str (TT.S (TT.headL L wd))])) := Ex.new hl1
      have g8 : (L2.upd H5 l1 (.lst [.str (TT.S (TT.headL L wd))])) l1 = some (.lst [.str (TT.S (TT.headL L wd))]) := upd_same
      generalize (L2.upd H5 l1 (.lst [.str (TT.S (TT.headL L wd))])) = H8 at e8 g8 ⊢
      have KK8 := KK5.ex e8
      refine ⟨_, rfl, r, rfl, ⟨us, sq_of (e8 _ _ hr5)⟩, fun D hD => ?_⟩
      refine lc_list (g := gName 8) (tt := tYes) (vs := [8]) (fun i H' => Ex H8 H' ∧ H' D = some (.lst ((((ts.take i).map fun t => TT.S (TT.txt L t)).map V.str)))) ⟨Ex.new hD, upd_same⟩ (fun i H' _ p => sq_of (p.1 _ _ (e8 _ _ hr5))) (fun i x H' hx p => ?_) (fun H9 p => ?_)
      · obtain ⟨e9, hz⟩ := p
        obtain ⟨t, ht, hta⟩ := KK8.get hx
        have mem := List.mem_of_getElem? ht
        have hi := (List.getElem?_eq_some_iff.mp ht).1
        obtain ⟨tok, tdp, tsz⟩ := hall t mem
        refine ⟨rfl, _, rfl, _, rfl, t, x, L, wd, mn, rfl, hta.ex e9, tok, hsm t mem, L4, by omega, by omega, fun H10 e10 => ?_⟩
        refine ⟨_, e10 _ _ hz, ?_, (e9.trans e10).mut hD, ?_⟩
        · rw [List.length_map, List.length_map, List.length_take]
          exact sz_lt (by omega)
        · rw [upd_same, take_next' ht, List.map_append, List.map_append]
          rfl
      obtain ⟨e9, hz⟩ := p
      rw [lus, List.take_length] at hz
      refine ⟨l1, D, _, _, rfl, rfl, e9 _ _ g8, hz, ?_, fun l3 hl3 => ?_⟩
      · rw [List.length_map, List.length_map]
        exact sz_of (by show 1 + ts.length ≤ 100000; omega)
      have eA := (e8.trans e9).trans (Ex.new (o := .lst ([.str (TT.S (TT.headL L wd))] ++ ((ts.map fun t => TT.S (TT.txt L t)).map V.str))) hl3)
      have gA : (L2.upd H9 l3 (.lst ([.str (TT.S (TT.headL L wd))] ++ ((ts.map fun t => TT.S (TT.txt L t)).map V.str)))) l3 = some (.lst ((TT.lines L wd ts).map V.str)) := upd_same
      generalize (L2.upd H9 l3 (.lst ([.str (TT.S (TT.headL L wd))] ++ ((ts.map fun t => TT.S (TT.txt L t)).map V.str)))) = HA at eA gA ⊢
      refine ⟨_, l3, TT.lines L wd ts, rfl, rfl, .inl (sq_of gA), lines_fit hLG w8 (by omega) (fun t ht => ⟨hsm t ht, (hall t ht).2.2⟩), ?_⟩
      have hx' : Txt.join (Str.ofString "\n") (TT.lines L wd ts) = tx x := hx
      refine' gn_eq (σ' := [some (.ref a), some (.ref p.d), some (.int (0 + (i : Int))), some (.str (tx L)), some (.int (wd : Int)), some (.int (mn : Int)), some (.ref r), some (.str (tx x)), y8, y9, y10, y11, y12]) (by rw [← hx']; rfl) ?_
      have KKA := KK5.ex eA
      have hrA := eA _ _ hr5
      have PA := P5.ex eA
      have X := txok_of hB (by decide) (by decide)
      -- right
      refine ⟨_, rfl, _, rfl, .inl ⟨_, _, _, rfl, X, hI, fun v1 HB e1 m1 => ?_⟩⟩
      refine ⟨_, rfl, r, us, rfl, .inl ⟨sq_of (e1 _ _ hrA), fun t2 ht2 => ⟨by show 2 ≤ sizeLine; decide, fun t3 ht3 => ?_⟩⟩⟩
      have e2 := (Ex.new (H := HB) (o := .tup us) ht2).trans (Ex.new (o := .tup [.str "states", .ref t2]) ht3)
      have k2 : (upd (upd HB t2 (.tup us)) t3 (.tup [.str "states", .ref t2])) t2 = some (.tup us) := (Ex.new ht3) _ _ upd_same
      have k3 : (upd (upd HB t2 (.tup us)) t3 (.tup [.str "states", .ref t2])) t3 = some (.tup [.str "states", .ref t2]) := upd_same
      generalize (upd (upd HB t2 (.tup us)) t3 (.tup [.str "states", .ref t2])) = HC at e2 k2 k3 ⊢
      obtain ⟨o1, rfl, dp1⟩ := (m1.ex e2).dp (K := K)
      have dpz : ∀ H', Ex (HC) H' → Dp K H' (.ref t3) (ansD (.sts L wd ts)) := fun H' e => .tup (st_of (e _ _ k3)) (.cons (.str _) (.cons (.tup (st_of (e _ _ k2)) (KKA.ex ((e1.trans e2).trans e)).dp) .nil))
      have hdp : (ansD (.sts L wd ts)).depth ≤ 180 := (ans_data (ans_ok hI X)).2.2.1
      refine ⟨_, _, dp1, dpz _ (Ex.refl _), ans_cl L wd ts, ans_cl L wd ts, hdp, _, rfl, ite2 (fun hb => ?_) fun _ => ?_⟩
      · rw [eqv_states] at hb
        cases hb
      have P6 := PA.ex (e1.trans e2)
      have hr6 := (e1.trans e2) _ _ hrA
      refine ⟨_, rfl, _, rfl, .inl ⟨_, _, _, rfl, X, hI, fun v4 HD e4 m4 => ?_⟩⟩
      refine ⟨_, rfl, r, us, rfl, .inl ⟨sq_of (e4 _ _ hr6), fun t5 ht5 => ⟨by show 2 ≤ sizeLine; decide, fun t6 ht6 => ?_⟩⟩⟩
      have e5 := (Ex.new (H := HD) (o := .tup us) ht5).trans (Ex.new (o := .tup [.str "states", .ref t5]) ht6)
      have k5 : (upd (upd HD t5 (.tup us)) t6 (.tup [.str "states", .ref t5])) t5 = some (.tup us) := (Ex.new ht6) _ _ upd_same
      have k6 : (upd (upd HD t5 (.tup us)) t6 (.tup [.str "states", .ref t5])) t6 = some (.tup [.str "states", .ref t5]) := upd_same
      generalize (upd (upd HD t5 (.tup us)) t6 (.tup [.str "states", .ref t5])) = HE at e5 k5 k6 ⊢
      obtain ⟨o4, rfl, dp4⟩ := (m4.ex e5).dp (K := K)
      have dp6 : Dp K HE (.ref t6) (ansD (.sts L wd ts)) := .tup (st_of k6) (.cons (.str _) (.cons (.tup (st_of k5) (KKA.ex ((e1.trans e2).trans (e4.trans e5))).dp) .nil))
      refine ⟨_, _, dp4, dp6, ans_cl L wd ts, ans_cl L wd ts, hdp, _, rfl, ite2 (fun hb => ?_) fun _ => ?_⟩
      · rw [eqv_states] at hb
        cases hb
      have P7 := P6.ex (e4.trans e5)
      clear P6 PA P5 dp4 dp6 dpz dp1 k2 k3 k5 k6 m1 m4 e8 g8 eA gA KK8 KKA KK5
      -- bent
      refine ⟨_, rfl, by decide, by decide, ?_⟩
      refine for_range (lo := 0) (n := 4) (fun j σ' H' => ∃ (y8 y9 y10 : Option V), σ' = [some (.ref a), some (.ref p.d), some (.int (0 + (i : Int))), some (.str (tx L)), some (.int (wd : Int)), some (.int (mn : Int)), some (.ref r), some (.str (tx x)), y8, y9, y10, y11, y12] ∧
        PenAt p B1 H' (2000 * i + 1100 + 30 * j)) ⟨y8, y9, y10, rfl, P7.le (by omega)⟩ (fun j σ' H' hj hw => ?_) (fun σ' H' hw => ?_)
      · obtain ⟨y8, y9, y10, rfl, P8⟩ := hw
        refine ⟨_, rfl, _, rfl, p, B1, _, 231, 940, x, rfl, P8, by omega, hB, by decide, by decide, fun H9 x9 P9 B9 => ?_⟩
        refine ⟨_, rfl, p, B1, _, 3, rfl, P9, by omega, by decide, by decide, fun H10 r10 P10 z0 z1 => ⟨rfl, ?_⟩⟩
        refine' cut2 (fun σ' H' => ∃ z, σ' = [some (.ref a), some (.ref p.d), some (.int (0 + (i : Int))), some (.str (tx L)), some (.int (wd : Int)), some (.int (mn : Int)), some (.ref r), some (.str (tx x)), y8, some (.int (0 + (j : Int))), some (.str (tx z)), y11, y12] ∧ TT.Bd 948 2360 z ∧ PenAt p B1 H' (2000 * i + 1100 + 30 * j + 21)) (fun rest => ?_) ?_
        rotate_left
        · refine ⟨_, rfl, ite2 (fun hb => ?_) (fun hb => ?_)⟩
          · refine ⟨_, rfl, _, rfl, p, B1, _, _, _, x9, rfl, P10, by omega, B9, by decide, by decide, fun H11 x11 P11 B11 => ?_⟩
            refine' gn_eq (σ' := [some (.ref a), some (.ref p.d), some (.int (0 + (i : Int))), some (.str (tx L)), some (.int (wd : Int)), some (.int (mn : Int)), some (.ref r), some (.str (tx x)), y8, some (.int (0 + (j : Int))), some (.str (tx x11)), y11, y12]) rfl ?_
            exact rest _ _ ⟨x11, rfl, B11.more (by decide) (by decide), P11.le (by omega)⟩
          · refine ⟨_, rfl, ?_⟩
            refine' gn_eq (σ' := [some (.ref a), some (.ref p.d), some (.int (0 + (i : Int))), some (.str (tx L)), some (.int (wd : Int)), some (.int (mn : Int)), some (.ref r), some (.str (tx x)), y8, some (.int (0 + (j : Int))), some (.str (tx x9)), y11, y12]) rfl ?_
            exact rest _ _ ⟨x9, rfl, B9.more (by decide) (by decide), P10.le (by omega)⟩
        · rintro σ12 H12 ⟨z, rfl, B12, P12⟩
          have Z := txok_of B12 (by decide) (by decide)
          obtain ⟨az, hz⟩ := is_ex (TT.ln_ne z)
          have oz := ans_ok hz Z
          refine ⟨_, rfl, _, rfl, .inl ⟨_, _, az, rfl, Z, hz, fun v1 H13 e13 m13 => m13.rp oz ?_⟩⟩
          refine ⟨_, rfl, _, rfl, .inl ⟨_, _, az, rfl, Z, hz, fun v2 H14 e14 m14 => m14.rp oz ?_⟩⟩
          refine ⟨rfl, _, rfl, ite2 (fun hb => absurd hb (ne_rep rfl)) (fun _ => ?_)⟩
          exact ⟨_, _, _, rfl, (P12.ex (e13.trans e14)).le (by omega)⟩
      · obtain ⟨y8, y9, y10, rfl, P8⟩ := hw
        exact ⟨_, _, _, _, _, _, _, _, _, _, _, _, rfl, P8.le (by omega)⟩
    · obtain ⟨B, y2, y3, y4, y5, y6, y7, y8, y9, y10, y11, y12, rfl, P1⟩ := hw
      refine ⟨⟨_, rfl⟩, _, rfl, by show 3 ≤ sizeLine; decide, fun a1 h1 => ?_⟩
      have Q1 := P1.ex (Ex.new (o := .lst [.str "ab 3", .str "ba 1", .str "ab 0"]) h1)
      refine pick_now (E := fun _ _ _ => False) Q1 (by omega) upd_same (by show 0 < 3; decide) (by show 3 < 10000; decide) fun B2 H2 vy eB2 kB2 P2 hvy => ?_
      obtain ⟨yl, rfl, hyl⟩ : ∃ yl : List Nat, vy = .str (TT.S yl) ∧ (yl = [97, 98, 32, 51] ∨ yl = [98, 97, 32, 49] ∨ yl = [97, 98, 32, 48]) := by
        simp only [List.mem_cons, List.not_mem_nil, or_false] at hvy
        rcases hvy with rfl | rfl | rfl
        · exact ⟨[97, 98, 32, 51], congrArg V.str (by decide +kernel), .inl rfl⟩
        · exact ⟨[98, 97, 32, 49], congrArg V.str (by decide +kernel), .inr (.inl rfl)⟩
        · exact ⟨[97, 98, 32, 48], congrArg V.str (by decide +kernel), .inr (.inr rfl)⟩
      clear hvy kB2 Q1
      refine ⟨by show 1 ≤ sizeLine; decide, fun l1 hl1 => ⟨by show 1 ≤ sizeLine; decide, fun l2 hl2 => ?_⟩⟩
      have n1 := fresh_ne P2 hl1
      have Q2 := P2.ex (Ex.new (o := .lst [.str (TT.S yl)]) hl1)
      have n2 := fresh_ne Q2 hl2
      have Q3 := Q2.ex (Ex.new (o := .lst [.str "go 1 0"]) hl2)
      refine ⟨_, rfl, by show 3 ≤ sizeLine; decide, fun l3 hl3 => ?_⟩
      have Q4 := Q3.ex (Ex.new (o := .lst [.int 64, .int 65, .int 66]) hl3)
      have x3 := Ex.new (o := .lst [.int 64, .int 65, .int 66]) hl3
      have x2 := (Ex.new (o := .lst [.str "go 1 0"]) hl2).trans x3
      refine pick_now (E := fun _ _ _ => False) Q4 (by omega) upd_same (by show 0 < 3; decide) (by show 3 < 10000; decide) fun B3 H3 vn eB3 kB3 P3 hvn => ?_
      obtain ⟨n, rfl, hn66⟩ : ∃ n : Nat, vn = .int (n : Int) ∧ n ≤ 66 := by
        simp only [List.mem_cons, List.not_mem_nil, or_false] at hvn
        rcases hvn with rfl | rfl | rfl
        · exact ⟨64, rfl, by decide⟩
        · exact ⟨65, rfl, by decide⟩
        · exact ⟨66, rfl, by decide⟩
      have hl1B := kB3 l1 _ (x2 _ _ upd_same) n1
      have hl2B := kB3 l2 _ (x3 _ _ upd_same) n2
      clear hvn kB3 Q4 Q3 Q2 x2 x3
      refine ⟨l2, (n : Int), _, rfl, rfl, P3.1 _ _ hl2B, by omega, by omega, sz_le (by show 1 * n < 1000; omega), fun l4 hl4 => ?_⟩
      have Q5 := P3.ex (Ex.new (o := .lst (List.replicate (n : Int).toNat [V.str "go 1 0"]).flatten) hl4)
      have hl4' : (upd H3 l4 (.lst (List.replicate (n : Int).toNat [V.str "go 1 0"]).flatten)) l4 = some (.lst (List.replicate n (V.str (TT.S [103, 111, 32, 49, 32, 48])))) := by
        rw [upd_same, show (n : Int).toNat = n from rfl, List.flatten_replicate_singleton]
        exact congrArg (fun z => some (HO.lst (List.replicate n (V.str z)))) (by decide +kernel)
      generalize (upd H3 l4 (.lst (List.replicate (n : Int).toNat [V.str "go 1 0"]).flatten)) = H4 at Q5 hl4' ⊢
      refine ⟨l1, l4, _, _, rfl, rfl, Q5.1 _ _ hl1B, hl4', sz_le (by rw [List.length_replicate]; show 1 + n < 1000; omega), fun l5 hl5 => ?_⟩
      have Q6 := Q5.ex (Ex.new (o := .lst ([.str (TT.S yl)] ++ List.replicate n (V.str (TT.S [103, 111, 32, 49, 32, 48])))) hl5)
      have hl5' : (upd H4 l5 (.lst ([.str (TT.S yl)] ++ List.replicate n (V.str (TT.S [103, 111, 32, 49, 32, 48]))))) l5 = some (.lst ((TT.S yl :: List.replicate n (TT.S [103, 111, 32, 49, 32, 48])).map V.str)) := by
        rw [upd_same, List.map_cons, List.map_replicate]
        rfl
      generalize (upd H4 l5 (.lst ([.str (TT.S yl)] ++ List.replicate n (V.str (TT.S [103, 111, 32, 49, 32, 48]))))) = H5 at Q6 hl5' ⊢
      obtain ⟨xl, hxl, hBl, hfit⟩ := long_bd hyl hn66
      refine ⟨_, l5, _, rfl, rfl, .inl (sq_of hl5'), hfit, ?_⟩
      refine' gn_eq (σ' := [some (.ref a), some (.ref p.d), y2, y3, y4, y5, y6, y7, y8, y9, y10, some (.str (tx xl)), y12]) (by rw [← hxl]; rfl) ?_
      clear hfit hl5' hl4' hl1B hl2B P3 Q5 P2
      -- odd
      refine ⟨_, rfl, by show 0 ≤ sizeLine; decide, fun a1 h1 => ?_⟩
      have n1 := fresh_ne Q6 h1
      have Q1 := Q6.ex (Ex.new (o := .lst []) h1)
      refine ⟨by show 2 ≤ sizeLine; decide, fun a2 h2 => ?_⟩
      have n2 := fresh_ne Q1 h2
      have Q2 := Q1.ex (Ex.new (o := .lst [.str "ab 3", .str "go 1 0"]) h2)
      refine fun a3 h3 => ?_
      have n3 := fresh_ne Q2 h3
      have Q3 := Q2.ex (Ex.new (o := .dK []) h3)
      refine ⟨by show 1 ≤ sizeLine; decide, fun a4 h4 => ?_⟩
      have n4 := fresh_ne Q3 h4
      have Q4 := Q3.ex (Ex.new (o := .tup [.str "ab 3"]) h4)
      refine ⟨by show 11 ≤ sizeLine; decide, fun a5 h5 => ?_⟩
      have Q5 := Q4.ex (Ex.new (o := .lst [.non, .int 5, .bl true, .ref a1, .ref a2, .ref a3, .ref a4, .str "", .str "ab 3", .str "ab 3\n", .str "\n"]) h5)
      have x5 := Ex.new (o := .lst [.non, .int 5, .bl true, .ref a1, .ref a2, .ref a3, .ref a4, .str "", .str "ab 3", .str "ab 3\n", .str "\n"]) h5
      have x4 := (Ex.new (o := .tup [.str "ab 3"]) h4).trans x5
      have x3 := (Ex.new (o := .dK []) h3).trans x4
      have x2 := (Ex.new (o := .lst [.str "ab 3", .str "go 1 0"]) h2).trans x3
      refine pick_now (E := fun _ _ _ => False) Q5 (by omega) upd_same (by show 0 < 11; decide) (by show 11 < 10000; decide) fun B6 H6 vo eB6 kB P6 hvo => ?_
      have hO : OddT K B6 vo := by
        simp only [List.mem_cons, List.not_mem_nil, or_false] at hvo
        rcases hvo with rfl | rfl | rfl | rfl | rfl | rfl | rfl | rfl | rfl | rfl | rfl
        · exact .inr nos_non
        · exact .inr (nos_int 5)
        · exact .inr (nos_bl true)
        · exact .inr (nos_lst (kB a1 _ (x2 _ _ upd_same) n1))
        · exact .inr (nos_lst (kB a2 _ (x3 _ _ upd_same) n2))
        · exact .inr (nos_dK (kB a3 _ (x4 _ _ upd_same) n3))
        · exact .inr (nos_tup (kB a4 _ (x5 _ _ upd_same) n4))
        · exact odd_str _ (by decide +kernel) (by decide +kernel)
        · exact odd_str _ (by decide +kernel) (by decide +kernel)
        · exact odd_str _ (by decide +kernel) (by decide +kernel)
        · exact odd_str _ (by decide +kernel) (by decide +kernel)
      clear x2 x3 x4 x5 Q5 Q4 Q3 Q2 Q1 Q6 kB hvo P1
      refine' gn_eq (σ' := [some (.ref a), some (.ref p.d), y2, y3, y4, y5, y6, y7, y8, y9, y10, some (.str (tx xl)), some vo]) rfl ?_
      have hO6 := hO.ex P6.1
      have hL6 : OddT K H6 (.str (tx xl)) := .inl ⟨xl, rfl, hBl⟩
      -- both
      refine ⟨_, rfl, _, rfl, by show 2 ≤ sizeLine; decide, fun l hl => ?_⟩
      have e7 := Ex.new (H := H6) (o := .lst [.str (tx xl), vo]) hl
      have hl7 : (upd H6 l (.lst [.str (tx xl), vo])) l = some (.lst [.str (tx xl), vo]) := upd_same
      generalize (upd H6 l (.lst [.str (tx xl), vo])) = H7 at e7 hl7 ⊢
      refine ⟨l, rfl, ⟨_, sq_of hl7⟩, fun D hD => ?_⟩
      refine lc_list (g := gName 7) (vs := [7]) (fun i H' => Ex H7 H' ∧ H' D = some (.lst [])) ⟨Ex.new hD, upd_same⟩ (fun i H' _ p => sq_of (p.1 _ _ hl7)) (fun i x H' hx p => ?_) (fun H9 p => ?_)
      · obtain ⟨e8, hz⟩ := p
        have hX : OddT K H' x := by
          have mem := List.mem_of_getElem? hx
          simp only [List.mem_cons, List.not_mem_nil, or_false] at mem
          rcases mem with rfl | rfl
          · exact hL6.ex (e7.trans e8)
          · exact hO6.ex (e7.trans e8)
        obtain ⟨az, oz, hd⟩ := hX.due
        refine ⟨rfl, _, rfl, hd H' _ E0 (Ex.refl _) fun v1 H10 e10 m10 => m10.rp oz ?_⟩
        refine ⟨_, rfl, hd H10 _ E0 e10 fun v2 H11 e11 m11 => m11.rp oz ?_⟩
        refine ⟨rfl, _, rfl, ite2 (fun hb => absurd hb (ne_rep rfl)) (fun _ => ?_)⟩
        exact ⟨e8.trans (e10.trans e11), (e10.trans e11) _ _ hz⟩
      · obtain ⟨e9, hz⟩ := p
        refine ⟨by show 0 ≤ sizeLine; decide, fun z hz0 => ?_⟩
        exact ⟨D, z, [], rfl, rfl, sq_of ((Ex.new hz0) _ _ hz), sq_of upd_same, q _⟩
end
end Law

namespace Law
open PySem PySem.Spec PyProof.Rows L2 Evl TR EK
theorem kit_mk {K : PySem.W.Frag} {t : Value} {c : Addr} {b : Bool} (n : (t == .ref c) = false ∨ b = true) (h1 : PySem.W.isClsIn K c = true) (h2 : PySem.W.typeIn K (.ref c) = some (.type "type")) (h3 : PySem.W.subIn K t (.ref c) = some b) : PySem.W.kitOne K t (.ref c) = some b := by
  have e : PySem.W.kitCls K t (.ref c) = some b := by
    unfold PySem.W.kitCls
    show (if ((PySem.W.clsIn K c).isSome && PySem.W.typeIn K (.ref c) == some (.type "type")) = true then PySem.W.subIn K t (.ref c) else none) = some b
    rw [if_pos (by rw [Bool.and_eq_true]; exact ⟨h1, by rw [h2]; simp⟩)]
    exact h3
  unfold PySem.W.kitOne
  by_cases q : (t == .ref c) = true
  · rw [if_pos q]
    rcases n with n | n
    · rw [n] at q
      cases q
    · rw [n]
  · rw [if_neg q]
    exact e
theorem exm_mk {K : PySem.W.Frag} {t : Value} {c : Addr} {b : Bool} (h0 : PySem.W.subIn K (.ref c) (.type "BaseException") = some true) (h1 : PySem.W.isClsIn K c = true) (h2 : PySem.W.typeIn K (.ref c) = some (.type "type")) (h3 : PySem.W.subIn K t (.ref c) = some b) : PySem.W.exmOne K t (.ref c) = some b := by
  unfold PySem.W.exmOne
  rw [if_pos (by rw [h0]; simp)]
  unfold PySem.W.kitCls
  show (if ((PySem.W.clsIn K c).isSome && PySem.W.typeIn K (.ref c) == some (.type "type")) = true then PySem.W.subIn K t (.ref c) else none) = some b
  rw [if_pos (by rw [Bool.and_eq_true]; exact ⟨h1, by rw [h2]; simp⟩)]
  exact h3
theorem all_mk {l : PySem.W.OpenLaw} {w : World} {K : PySem.W.Frag} {h : Heap} {mg : Str → Option Value} {fa C0 f1 f2 f3 f4 f5 f6 f7 f8 f9 f10 f11 f12 f13 f14 f15 f16 f17 f18 f19 f20 f21 f22 f23 f24 f25 f26 f27 f28 f29 f30 f31 f32 fS fL fM CS CL CM : Addr} (X : K.In h) (G : h.Ns mainGlobals mg) (hfa : mg "law" = some (.ref fa))
    {od1 an1 od2 an2 od3 an3 od4 an4 od5 an5 od6 an6 od7 an7 od8 an8 od9 an9 od10 an10 od11 an11 od12 an12 od13 an13 od14 an14 od15 an15 od16 an16 od17 an17 od18 an18 od19 an19 od20 an20 od21 an21 od22 an22 od23 an23 od24 an24 od25 an25 od26 an26 od27 an27 od28 an28 od29 an29 od30 an30 od31 an31 od32 an32 odS anS odL anL odM anM : Option Addr} {sl1 sl2 sl3 sl4 sl5 sl6 sl7 sl8 sl9 sl10 sl11 sl12 sl13 sl14 sl15 sl16 sl17 sl18 sl19 sl20 sl21 sl22 sl23 sl24 sl25 sl26 sl27 sl28 sl29 sl30 sl31 sl32 slS slL slM : Array (Option Value)} {oc1 kV1 dc1 pm1 cd1 ct1 oc2 kV2 dc2 pm2 cd2 ct2 oc3 kV3 dc3 pm3 cd3 ct3 oc4 kV4 dc4 pm4 cd4 ct4 oc5 kV5 dc5 pm5 cd5 ct5 oc6 kV6 dc6 pm6 cd6 ct6 oc7 kV7 dc7 pm7 cd7 ct7 oc8 kV8 dc8 pm8 cd8 ct8 oc9 kV9 dc9 pm9 cd9 ct9 oc10 kV10 dc10 pm10 cd10 ct10 oc11 kV11 dc11 pm11 cd11 ct11 oc12 kV12 dc12 pm12 cd12 ct12 oc13 kV13 dc13 pm13 cd13 ct13 oc14 kV14 dc14 pm14 cd14 ct14 oc15 kV15 dc15 pm15 cd15 ct15 oc16 kV16 dc16 pm16 cd16 ct16 oc17 kV17 dc17 pm17 cd17 ct17 oc18 kV18 dc18 pm18 cd18 ct18 oc19 kV19 dc19 pm19 cd19 ct19 oc20 kV20 dc20 pm20 cd20 ct20 oc21 kV21 dc21 pm21 cd21 ct21 oc22 kV22 dc22 pm22 cd22 ct22 oc23 kV23 dc23 pm23 cd23 ct23 oc24 kV24 dc24 pm24 cd24 ct24 oc25 kV25 dc25 pm25 cd25 ct25 oc26 kV26 dc26 pm26 cd26 ct26 oc27 kV27 dc27 pm27 cd27 ct27 oc28 kV28 dc28 pm28 cd28 ct28 oc29 kV29 dc29 pm29 cd29 ct29 oc30 kV30 dc30 pm30 cd30 ct30 oc31 kV31 dc31 pm31 cd31 ct31 oc32 kV32 dc32 pm32 cd32 ct32 ocS kVS dcS pmS cdS ctS ocL kVL dcL pmL cdL ctL ocM kVM dcM pmM cdM ctM : Value} {t0 t1 t2 t3 : Tok}
    {nmL} {qL} {NL} {bsL} {bmL} {snL} {suL} {abL} {colL} {ddL} {k0L} {k1L} {k2L} {k3L} {k5L} {nmM} {qM} {NM} {bsM} {bmM} {snM} {suM} {abM} {colM} {ddM} {k0M} {k1M} {k2M} {k3M} {k5M}
    {pR fR : Addr} {restR : List Value} {odR anR : Option Addr} {slR : Array (Option Value)} {ocR kVR dcR pmR cdR ctR : Value}
    (a1 : PySem.W.nsIn K mainGlobals "law" = some (some (.ref f1)))
    (l1 : K.lookup f1 = some ⟨oc1, od1, .func (PySem.W.fnOf "law" "law" (defArgs s_law) (defBody s_law) (defScope s_law) .none kV1 dc1 pm1 an1 cd1 ct1), sl1⟩)
    (c1 : PySem.W.codeIn K cd1 "law" = true)
    (k1 : PySem.W.keepIn K (.ref f1) = true)
    (a2 : PySem.W.nsIn K mainGlobals "_law_pen" = some (some (.ref f2)))
    (l2 : K.lookup f2 = some ⟨oc2, od2, .func (PySem.W.fnOf "_law_pen" "_law_pen" (defArgs s_lpen) (defBody s_lpen) (defScope s_lpen) .none kV2 dc2 pm2 an2 cd2 ct2), sl2⟩)
    (c2 : PySem.W.codeIn K cd2 "_law_pen" = true)
    (k2 : PySem.W.keepIn K (.ref f2) = true)
    (a3 : PySem.W.nsIn K mainGlobals "_law_draw" = some (some (.ref f3)))
    (l3 : K.lookup f3 = some ⟨oc3, od3, .func (PySem.W.fnOf "_law_draw" "_law_draw" (defArgs s_ldraw) (defBody s_ldraw) (defScope s_ldraw) .none kV3 dc3 pm3 an3 cd3 ct3), sl3⟩)
    (c3 : PySem.W.codeIn K cd3 "_law_draw" = true)
    (k3 : PySem.W.keepIn K (.ref f3) = true)
    (a4 : PySem.W.nsIn K mainGlobals "_law_pick" = some (some (.ref f4)))
    (l4 : K.lookup f4 = some ⟨oc4, od4, .func (PySem.W.fnOf "_law_pick" "_law_pick" (defArgs s_lpick) (defBody s_lpick) (defScope s_lpick) .none kV4 dc4 pm4 an4 cd4 ct4), sl4⟩)
    (c4 : PySem.W.codeIn K cd4 "_law_pick" = true)
    (k4 : PySem.W.keepIn K (.ref f4) = true)
    (a5 : PySem.W.nsIn K mainGlobals "_law_letters" = some (some (.ref f5)))
    (l5 : K.lookup f5 = some ⟨oc5, od5, .func (PySem.W.fnOf "_law_letters" "_law_letters" (defArgs s_lletters) (defBody s_lletters) (defScope s_lletters) .none kV5 dc5 pm5 an5 cd5 ct5), sl5⟩)
    (c5 : PySem.W.codeIn K cd5 "_law_letters" = true)
    (k5 : PySem.W.keepIn K (.ref f5) = true)
    (a6 : PySem.W.nsIn K mainGlobals "is_list" = some (some (.ref f6)))
    (l6 : K.lookup f6 = some ⟨oc6, od6, .func (PySem.W.fnOf "is_list" "is_list" (defArgs s_is_list) (defBody s_is_list) (defScope s_is_list) .none kV6 dc6 pm6 an6 cd6 ct6), sl6⟩)
    (c6 : PySem.W.codeIn K cd6 "is_list" = true)
    (k6 : PySem.W.keepIn K (.ref f6) = true)
    (a7 : PySem.W.nsIn K mainGlobals "is_integer" = some (some (.ref f7)))
    (l7 : K.lookup f7 = some ⟨oc7, od7, .func (PySem.W.fnOf "is_integer" "is_integer" (defArgs s_is_integer) (defBody s_is_integer) (defScope s_is_integer) .none kV7 dc7 pm7 an7 cd7 ct7), sl7⟩)
    (c7 : PySem.W.codeIn K cd7 "is_integer" = true)
    (k7 : PySem.W.keepIn K (.ref f7) = true)
    (a8 : PySem.W.nsIn K mainGlobals "is_whole" = some (some (.ref f8)))
    (l8 : K.lookup f8 = some ⟨oc8, od8, .func (PySem.W.fnOf "is_whole" "is_whole" (defArgs s_is_whole) (defBody s_is_whole) (defScope s_is_whole) .none kV8 dc8 pm8 an8 cd8 ct8), sl8⟩)
    (c8 : PySem.W.codeIn K cd8 "is_whole" = true)
    (k8 : PySem.W.keepIn K (.ref f8) = true)
    (a9 : PySem.W.nsIn K mainGlobals "are_letters" = some (some (.ref f9)))
    (l9 : K.lookup f9 = some ⟨oc9, od9, .func (PySem.W.fnOf "are_letters" "are_letters" (defArgs s_are_letters) (defBody s_are_letters) (defScope s_are_letters) .none kV9 dc9 pm9 an9 cd9 ct9), sl9⟩)
    (c9 : PySem.W.codeIn K cd9 "are_letters" = true)
    (k9 : PySem.W.keepIn K (.ref f9) = true)
    (a10 : PySem.W.nsIn K mainGlobals "_is_part" = some (some (.ref f10)))
    (l10 : K.lookup f10 = some ⟨oc10, od10, .func (PySem.W.fnOf "_is_part" "_is_part" (defArgs s_is_part) (defBody s_is_part) (defScope s_is_part) .none kV10 dc10 pm10 an10 cd10 ct10), sl10⟩)
    (c10 : PySem.W.codeIn K cd10 "_is_part" = true)
    (k10 : PySem.W.keepIn K (.ref f10) = true)
    (a11 : PySem.W.nsIn K mainGlobals "_within" = some (some (.ref f11)))
    (l11 : K.lookup f11 = some ⟨oc11, od11, .func (PySem.W.fnOf "_within" "_within" (defArgs s_within) (defBody s_within) (defScope s_within) .none kV11 dc11 pm11 an11 cd11 ct11), sl11⟩)
    (c11 : PySem.W.codeIn K cd11 "_within" = true)
    (k11 : PySem.W.keepIn K (.ref f11) = true)
    (a12 : PySem.W.nsIn K mainGlobals "first_wrong" = some (some (.ref f12)))
    (l12 : K.lookup f12 = some ⟨oc12, od12, .func (PySem.W.fnOf "first_wrong" "first_wrong" (defArgs s_first_wrong) (defBody s_first_wrong) (defScope s_first_wrong) .none kV12 dc12 pm12 an12 cd12 ct12), sl12⟩)
    (c12 : PySem.W.codeIn K cd12 "first_wrong" = true)
    (k12 : PySem.W.keepIn K (.ref f12) = true)
    (a13 : PySem.W.nsIn K mainGlobals "all_parts" = some (some (.ref f13)))
    (l13 : K.lookup f13 = some ⟨oc13, od13, .func (PySem.W.fnOf "all_parts" "all_parts" (defArgs s_all_parts) (defBody s_all_parts) (defScope s_all_parts) .none kV13 dc13 pm13 an13 cd13 ct13), sl13⟩)
    (c13 : PySem.W.codeIn K cd13 "all_parts" = true)
    (k13 : PySem.W.keepIn K (.ref f13) = true)
    (a14 : PySem.W.nsIn K mainGlobals "renamed" = some (some (.ref f14)))
    (l14 : K.lookup f14 = some ⟨oc14, od14, .func (PySem.W.fnOf "renamed" "renamed" (defArgs s_renamed) (defBody s_renamed) (defScope s_renamed) .none kV14 dc14 pm14 an14 cd14 ct14), sl14⟩)
    (c14 : PySem.W.codeIn K cd14 "renamed" = true)
    (k14 : PySem.W.keepIn K (.ref f14) = true)
    (a15 : PySem.W.nsIn K mainGlobals "_kept" = some (some (.ref f15)))
    (l15 : K.lookup f15 = some ⟨oc15, od15, .func (PySem.W.fnOf "_kept" "_kept" (defArgs s_kept) (defBody s_kept) (defScope s_kept) .none kV15 dc15 pm15 an15 cd15 ct15), sl15⟩)
    (c15 : PySem.W.codeIn K cd15 "_kept" = true)
    (k15 : PySem.W.keepIn K (.ref f15) = true)
    (a16 : PySem.W.nsIn K mainGlobals "tree_text" = some (some (.ref f16)))
    (l16 : K.lookup f16 = some ⟨oc16, od16, .func (PySem.W.fnOf "tree_text" "tree_text" (defArgs s_tree_text) (defBody s_tree_text) (defScope s_tree_text) .none kV16 dc16 pm16 an16 cd16 ct16), sl16⟩)
    (c16 : PySem.W.codeIn K cd16 "tree_text" = true)
    (k16 : PySem.W.keepIn K (.ref f16) = true)
    (a17 : PySem.W.nsIn K mainGlobals "_taken" = some (some (.ref f17)))
    (l17 : K.lookup f17 = some ⟨oc17, od17, .func (PySem.W.fnOf "_taken" "_taken" (defArgs s_taken) (defBody s_taken) (defScope s_taken) .none kV17 dc17 pm17 an17 cd17 ct17), sl17⟩)
    (c17 : PySem.W.codeIn K cd17 "_taken" = true)
    (k17 : PySem.W.keepIn K (.ref f17) = true)
    (a18 : PySem.W.nsIn K mainGlobals "_taken_number" = some (some (.ref f18)))
    (l18 : K.lookup f18 = some ⟨oc18, od18, .func (PySem.W.fnOf "_taken_number" "_taken_number" (defArgs s_taken_number) (defBody s_taken_number) (defScope s_taken_number) .none kV18 dc18 pm18 an18 cd18 ct18), sl18⟩)
    (c18 : PySem.W.codeIn K cd18 "_taken_number" = true)
    (k18 : PySem.W.keepIn K (.ref f18) = true)
    (a19 : PySem.W.nsIn K mainGlobals "rough_tree" = some (some (.ref f19)))
    (l19 : K.lookup f19 = some ⟨oc19, od19, .func (PySem.W.fnOf "rough_tree" "rough_tree" (defArgs s_rough_tree) (defBody s_rough_tree) (defScope s_rough_tree) .none kV19 dc19 pm19 an19 cd19 ct19), sl19⟩)
    (c19 : PySem.W.codeIn K cd19 "rough_tree" = true)
    (k19 : PySem.W.keepIn K (.ref f19) = true)
    (a20 : PySem.W.nsIn K mainGlobals "_is_width" = some (some (.ref f20)))
    (l20 : K.lookup f20 = some ⟨oc20, od20, .func (PySem.W.fnOf "_is_width" "_is_width" (defArgs s_is_width) (defBody s_is_width) (defScope s_is_width) .none kV20 dc20 pm20 an20 cd20 ct20), sl20⟩)
    (c20 : PySem.W.codeIn K cd20 "_is_width" = true)
    (k20 : PySem.W.keepIn K (.ref f20) = true)
    (a21 : PySem.W.nsIn K mainGlobals "_law_tree" = some (some (.ref f21)))
    (l21 : K.lookup f21 = some ⟨oc21, od21, .func (PySem.W.fnOf "_law_tree" "_law_tree" (defArgs s_ltree) (defBody s_ltree) (defScope s_ltree) .none kV21 dc21 pm21 an21 cd21 ct21), sl21⟩)
    (c21 : PySem.W.codeIn K cd21 "_law_tree" = true)
    (k21 : PySem.W.keepIn K (.ref f21) = true)
    (a22 : PySem.W.nsIn K mainGlobals "_law_trees" = some (some (.ref f22)))
    (l22 : K.lookup f22 = some ⟨oc22, od22, .func (PySem.W.fnOf "_law_trees" "_law_trees" (defArgs s_ltrees) (defBody s_ltrees) (defScope s_ltrees) .none kV22 dc22 pm22 an22 cd22 ct22), sl22⟩)
    (c22 : PySem.W.codeIn K cd22 "_law_trees" = true)
    (k22 : PySem.W.keepIn K (.ref f22) = true)
    (a23 : PySem.W.nsIn K mainGlobals "_law_line" = some (some (.ref f23)))
    (l23 : K.lookup f23 = some ⟨oc23, od23, .func (PySem.W.fnOf "_law_line" "_law_line" (defArgs s_lline) (defBody s_lline) (defScope s_lline) .none kV23 dc23 pm23 an23 cd23 ct23), sl23⟩)
    (c23 : PySem.W.codeIn K cd23 "_law_line" = true)
    (k23 : PySem.W.keepIn K (.ref f23) = true)
    (a24 : PySem.W.nsIn K mainGlobals "_law_taken" = some (some (.ref f24)))
    (l24 : K.lookup f24 = some ⟨oc24, od24, .func (PySem.W.fnOf "_law_taken" "_law_taken" (defArgs s_ltaken) (defBody s_ltaken) (defScope s_ltaken) .none kV24 dc24 pm24 an24 cd24 ct24), sl24⟩)
    (c24 : PySem.W.codeIn K cd24 "_law_taken" = true)
    (k24 : PySem.W.keepIn K (.ref f24) = true)
    (a25 : PySem.W.nsIn K mainGlobals "_law_number" = some (some (.ref f25)))
    (l25 : K.lookup f25 = some ⟨oc25, od25, .func (PySem.W.fnOf "_law_number" "_law_number" (defArgs s_lnumber) (defBody s_lnumber) (defScope s_lnumber) .none kV25 dc25 pm25 an25 cd25 ct25), sl25⟩)
    (c25 : PySem.W.codeIn K cd25 "_law_number" = true)
    (k25 : PySem.W.keepIn K (.ref f25) = true)
    (a26 : PySem.W.nsIn K mainGlobals "_law_go" = some (some (.ref f26)))
    (l26 : K.lookup f26 = some ⟨oc26, od26, .func (PySem.W.fnOf "_law_go" "_law_go" (defArgs s_lgo) (defBody s_lgo) (defScope s_lgo) .none kV26 dc26 pm26 an26 cd26 ct26), sl26⟩)
    (c26 : PySem.W.codeIn K cd26 "_law_go" = true)
    (k26 : PySem.W.keepIn K (.ref f26) = true)
    (a27 : PySem.W.nsIn K mainGlobals "_law_tree_at" = some (some (.ref f27)))
    (l27 : K.lookup f27 = some ⟨oc27, od27, .func (PySem.W.fnOf "_law_tree_at" "_law_tree_at" (defArgs s_ltree_at) (defBody s_ltree_at) (defScope s_ltree_at) .none kV27 dc27 pm27 an27 cd27 ct27), sl27⟩)
    (c27 : PySem.W.codeIn K cd27 "_law_tree_at" = true)
    (k27 : PySem.W.keepIn K (.ref f27) = true)
    (a28 : PySem.W.nsIn K mainGlobals "_law_due" = some (some (.ref f28)))
    (l28 : K.lookup f28 = some ⟨oc28, od28, .func (PySem.W.fnOf "_law_due" "_law_due" (defArgs s_ldue) (defBody s_ldue) (defScope s_ldue) .none kV28 dc28 pm28 an28 cd28 ct28), sl28⟩)
    (c28 : PySem.W.codeIn K cd28 "_law_due" = true)
    (k28 : PySem.W.keepIn K (.ref f28) = true)
    (a29 : PySem.W.nsIn K mainGlobals "_law_bent" = some (some (.ref f29)))
    (l29 : K.lookup f29 = some ⟨oc29, od29, .func (PySem.W.fnOf "_law_bent" "_law_bent" (defArgs s_lbent) (defBody s_lbent) (defScope s_lbent) .none kV29 dc29 pm29 an29 cd29 ct29), sl29⟩)
    (c29 : PySem.W.codeIn K cd29 "_law_bent" = true)
    (k29 : PySem.W.keepIn K (.ref f29) = true)
    (a30 : PySem.W.nsIn K mainGlobals "_law_told" = some (some (.ref f30)))
    (l30 : K.lookup f30 = some ⟨oc30, od30, .func (PySem.W.fnOf "_law_told" "_law_told" (defArgs s_ltold) (defBody s_ltold) (defScope s_ltold) .none kV30 dc30 pm30 an30 cd30 ct30), sl30⟩)
    (c30 : PySem.W.codeIn K cd30 "_law_told" = true)
    (k30 : PySem.W.keepIn K (.ref f30) = true)
    (a31 : PySem.W.nsIn K mainGlobals "_taken_tree" = some (some (.ref f31)))
    (l31 : K.lookup f31 = some ⟨oc31, od31, .func (PySem.W.fnOf "_taken_tree" "_taken_tree" (defArgs s_taken_tree) (defBody s_taken_tree) (defScope s_taken_tree) .none kV31 dc31 pm31 an31 cd31 ct31), sl31⟩)
    (c31 : PySem.W.codeIn K cd31 "_taken_tree" = true)
    (k31 : PySem.W.keepIn K (.ref f31) = true)
    (a32 : PySem.W.nsIn K mainGlobals "_taken_branches" = some (some (.ref f32)))
    (l32 : K.lookup f32 = some ⟨oc32, od32, .func (PySem.W.fnOf "_taken_branches" "_taken_branches" (defArgs s_taken_branches) (defBody s_taken_branches) (defScope s_taken_branches) .none kV32 dc32 pm32 an32 cd32 ct32), sl32⟩)
    (c32 : PySem.W.codeIn K cd32 "_taken_branches" = true)
    (k32 : PySem.W.keepIn K (.ref f32) = true)
    (aCS : PySem.W.nsIn K mainGlobals "Searcher" = some (some (.ref CS)))
    (aS : PySem.W.findIn K (.ref CS) "__init__" = some (some (.ref fS)))
    (lS : K.lookup fS = some ⟨ocS, odS, .func (PySem.W.fnOf "__init__" "Searcher.__init__" (defArgs s_Searcher_init) (defBody s_Searcher_init) (defScope s_Searcher_init) .none kVS dcS pmS anS cdS ctS), slS⟩)
    (cS : PySem.W.codeIn K cdS "Searcher.__init__" = true)
    (kS : PySem.W.keepIn K (.ref fS) = true)
    (nS1 : PySem.W.findIn K (.ref CS) "letters" = some none)
    (nS2 : PySem.W.findIn K (.ref CS) "width" = some none)
    (nS3 : PySem.W.findIn K (.ref CS) "states" = some none)
    (nS4 : PySem.W.findIn K (.ref CS) "nodes" = some none)
    (g4S : PySem.W.findIn K (.ref CS) "__setattr__" = some (some (.builtin "object.__setattr__")))
    (m2S : PySem.W.keepIn K (.ref CS) = true)
    (aCL : PySem.W.nsIn K mainGlobals "BadLine" = some (some (.ref CL)))
    (aL : PySem.W.findIn K (.ref CL) "__init__" = some (some (.ref fL)))
    (lL : K.lookup fL = some ⟨ocL, odL, .func (PySem.W.fnOf "__init__" "BadLine.__init__" (defArgs s_BadLine_init) (defBody s_BadLine_init) (defScope s_BadLine_init) .none kVL dcL pmL anL cdL ctL), slL⟩)
    (cL : PySem.W.codeIn K cdL "BadLine.__init__" = true)
    (kL : PySem.W.keepIn K (.ref fL) = true)
    (nL1 : PySem.W.findIn K (.ref CL) "line" = some none)
    (g4L : PySem.W.findIn K (.ref CL) "__setattr__" = some (some (.builtin "object.__setattr__")))
    (m2L : PySem.W.keepIn K (.ref CL) = true)
    (aCM : PySem.W.nsIn K mainGlobals "TooMany" = some (some (.ref CM)))
    (aM : PySem.W.findIn K (.ref CM) "__init__" = some (some (.ref fM)))
    (lM : K.lookup fM = some ⟨ocM, odM, .func (PySem.W.fnOf "__init__" "TooMany.__init__" (defArgs s_TooMany_init) (defBody s_TooMany_init) (defScope s_TooMany_init) .none kVM dcM pmM anM cdM ctM), slM⟩)
    (cM : PySem.W.codeIn K cdM "TooMany.__init__" = true)
    (kM : PySem.W.keepIn K (.ref fM) = true)
    (nM1 : PySem.W.findIn K (.ref CM) "what" = some none)
    (nM2 : PySem.W.findIn K (.ref CM) "many" = some none)
    (nM3 : PySem.W.findIn K (.ref CM) "most" = some none)
    (g4M : PySem.W.findIn K (.ref CM) "__setattr__" = some (some (.builtin "object.__setattr__")))
    (m2M : PySem.W.keepIn K (.ref CM) = true)
    (iS : PySem.W.isFn K (.ref fS) = true)
    (m1S : PySem.W.makesIn K CS = true)
    (g1S : PySem.W.plainGet K CS Str.empty = true)
    (g2S : PySem.W.hasDictIn K CS = true)
    (g3S : PySem.W.plainOver K CS = true)
    (q1 : PySem.W.findCls K (.ref CS) (.type "type") "read" = some (.get (.builtin "classmethod.__get__") (.ref pR) .none (.ref CS)))
    (q2 : PySem.W.recIn K pR "classmethod" = some (.ref fR :: restR))
    (q3 : PySem.W.fnIn K fR = true)
    (q4 : PySem.W.readsIn K CS (.type "type") = true)
    (q5 : PySem.W.specialIn K (.ref CS) "__getattribute__" = some (some (.builtin "type.__getattribute__")))
    (lR : K.lookup fR = some ⟨ocR, odR, .func (PySem.W.fnOf "read" "Searcher.read" (defArgs s_Searcher_read) (defBody s_Searcher_read) (defScope s_Searcher_read) .none kVR dcR pmR anR cdR ctR), slR⟩)
    (cR : PySem.W.codeIn K cdR "Searcher.read" = true)
    (kR : PySem.W.keepIn K (.ref fR) = true)
    (aC0 : PySem.W.nsIn K mainGlobals "SkipsError" = some (some (.ref C0)))
    (r1 : PySem.W.readsIn K C0 (.type "type") = true)
    (r2 : PySem.W.specialIn K (.ref C0) "__getattribute__" = some (some (.builtin "type.__getattribute__")))
    (r3 : PySem.W.findCls K (.ref C0) (.type "type") "__init__" = some (.val (.builtin "ValueError.__init__")))
    (s1 : PySem.W.isClsIn K C0 = true)
    (s2 : PySem.W.typeIn K (.ref C0) = some (.type "type"))
    (s3 : PySem.W.specialIn K (.builtin "object.__class__") "__get__" = some (some (.builtin "getset_descriptor.__get__")))
    (s4 : PySem.W.takesIn K (.builtin "object.__class__") = some true)
    (o1L : K.lookup CL = some (excClassObj nmL qL CL NL bsL bmL true snL suL abL colL ddL k0L k1L k2L k3L k5L "ValueError.__new__"))
    (o2L : PySem.HandSPX.refsVE bmL = true)
    (o3L : PySem.W.subIn K (.ref CL) (.type "BaseException") = some true)
    (o4L : PySem.W.typeIn K (.ref CL) = some (.type "type"))
    (tL : PySem.W.typeIn K (.ref fL) = some (.type "function"))
    (x1L : PySem.W.findIn K (.ref CL) "__getattribute__" = some (some (.builtin "BaseException.__getattribute__")))
    (x2L : PySem.W.findIn K (.ref CL) "__getattr__" = some none)
    (x3L : PySem.W.hasDictIn K CL = true)
    (e1L : PySem.W.findIn K (.ref CL) "__class__" = some (some (.builtin "object.__class__")))
    (e2L : PySem.W.mroIn K CL (.type "object") = some true)
    (p1L : PySem.W.subIn K (.ref CL) (.ref C0) = some true)
    (p2L : PySem.W.isClsIn K CL = true)
    (o1M : K.lookup CM = some (excClassObj nmM qM CM NM bsM bmM true snM suM abM colM ddM k0M k1M k2M k3M k5M "ValueError.__new__"))
    (o2M : PySem.HandSPX.refsVE bmM = true)
    (o3M : PySem.W.subIn K (.ref CM) (.type "BaseException") = some true)
    (o4M : PySem.W.typeIn K (.ref CM) = some (.type "type"))
    (tM : PySem.W.typeIn K (.ref fM) = some (.type "function"))
    (x1M : PySem.W.findIn K (.ref CM) "__getattribute__" = some (some (.builtin "BaseException.__getattribute__")))
    (x2M : PySem.W.findIn K (.ref CM) "__getattr__" = some none)
    (x3M : PySem.W.hasDictIn K CM = true)
    (e1M : PySem.W.findIn K (.ref CM) "__class__" = some (some (.builtin "object.__class__")))
    (e2M : PySem.W.mroIn K CM (.type "object") = some true)
    (p1M : PySem.W.subIn K (.ref CM) (.ref C0) = some true)
    (p2M : PySem.W.isClsIn K CM = true)
    (yLL : PySem.W.subIn K (.ref CL) (.ref CL) = some true)
    (yML : PySem.W.subIn K (.ref CM) (.ref CL) = some false)
    (yMM : PySem.W.subIn K (.ref CM) (.ref CM) = some true)
    (v0 : PySem.W.nsIn K mainGlobals "DEEPEST" = some (some (.int 40 t0)))
    (v1 : PySem.W.nsIn K mainGlobals "MOST_WIDTH" = some (some (.int 8 t1)))
    (v2 : PySem.W.nsIn K mainGlobals "MOST_STATES" = some (some (.int 64 t2)))
    (v3 : PySem.W.nsIn K mainGlobals "MOST_NODES" = some (some (.int 3000 t3)))
    (z0 : PySem.W.nsIn K mainGlobals "len" = some none)
    (z1 : PySem.W.nsIn K mainGlobals "int" = some none)
    (z2 : PySem.W.nsIn K mainGlobals "bool" = some none)
    (z3 : PySem.W.nsIn K mainGlobals "abs" = some none)
    (z4 : PySem.W.nsIn K mainGlobals "min" = some none)
    (z5 : PySem.W.nsIn K mainGlobals "list" = some none)
    (z6 : PySem.W.nsIn K mainGlobals "all" = some none)
    (z7 : PySem.W.nsIn K mainGlobals "range" = some none)
    (z8 : PySem.W.nsIn K mainGlobals "isinstance" = some none)
    (z9 : PySem.W.nsIn K mainGlobals "str" = some none)
    (z10 : PySem.W.nsIn K mainGlobals "set" = some none)
    (z11 : PySem.W.nsIn K mainGlobals "tuple" = some none)
    (z12 : PySem.W.nsIn K mainGlobals "dict" = some none)
    (z13 : PySem.W.nsIn K mainGlobals "enumerate" = some none)
    (z14 : PySem.W.nsIn K mainGlobals "reversed" = some none)
    (z15 : PySem.W.nsIn K mainGlobals "sum" = some none)
    (z16 : PySem.W.nsIn K mainGlobals "zip" = some none)
    (z17 : PySem.W.nsIn K mainGlobals "repr" = some none) :
    ∃ fd : FuncData, (∀ (s : Shared) (v : Value), BindsTo s fd ⟨[v], []⟩ [("_law_script", v)]) ∧ ∀ base : Heap, K.In base → base.Ns mainGlobals mg → GD.Gd l.prog w K mg base 87 fa fd ["_law_script"] (spLaw K) := by
  have e := hfa.symm.trans (PySem.W.mg_of X G a1)
  cases e
  have F1 := fun_mk (st := s_law) l1 c1 k1
  have F2 := fun_mk (st := s_lpen) l2 c2 k2
  have b2 := F2.binds (ps := ["_law_script"]) fun _ _ _ _ _ _ us hl => match us, hl with | [_], _ => rfl
  have F3 := fun_mk (st := s_ldraw) l3 c3 k3
  have b3 := F3.binds (ps := ["_law_pen_here", "_law_many"]) fun _ _ _ _ _ _ us hl => match us, hl with | [_, _], _ => rfl
  have F4 := fun_mk (st := s_lpick) l4 c4 k4
  have b4 := F4.binds (ps := ["_law_pen_here", "_law_some"]) fun _ _ _ _ _ _ us hl => match us, hl with | [_, _], _ => rfl
  have F5 := fun_mk (st := s_lletters) l5 c5 k5
  have b5 := F5.binds (ps := ["_law_pen_here"]) fun _ _ _ _ _ _ us hl => match us, hl with | [_], _ => rfl
  have F6 := fun_mk (st := s_is_list) l6 c6 k6
  have b6 := F6.binds (ps := ["value"]) fun _ _ _ _ _ _ us hl => match us, hl with | [_], _ => rfl
  have F7 := fun_mk (st := s_is_integer) l7 c7 k7
  have b7 := F7.binds (ps := ["value"]) fun _ _ _ _ _ _ us hl => match us, hl with | [_], _ => rfl
  have F8 := fun_mk (st := s_is_whole) l8 c8 k8
  have b8 := F8.binds (ps := ["value", "low", "high"]) fun _ _ _ _ _ _ us hl => match us, hl with | [_, _, _], _ => rfl
  have F9 := fun_mk (st := s_are_letters) l9 c9 k9
  have b9 := F9.binds (ps := ["value"]) fun _ _ _ _ _ _ us hl => match us, hl with | [_], _ => rfl
  have F10 := fun_mk (st := s_is_part) l10 c10 k10
  have b10 := F10.binds (ps := ["part", "letters", "width", "states"]) fun _ _ _ _ _ _ us hl => match us, hl with | [_, _, _, _], _ => rfl
  have F11 := fun_mk (st := s_within) l11 c11 k11
  have b11 := F11.binds (ps := ["part"]) fun _ _ _ _ _ _ us hl => match us, hl with | [_], _ => rfl
  have F12 := fun_mk (st := s_first_wrong) l12 c12 k12
  have b12 := F12.binds (ps := ["tree", "letters", "width", "states"]) fun _ _ _ _ _ _ us hl => match us, hl with | [_, _, _, _], _ => rfl
  have F13 := fun_mk (st := s_all_parts) l13 c13 k13
  have b13 := F13.binds (ps := ["tree"]) fun _ _ _ _ _ _ us hl => match us, hl with | [_], _ => rfl
  have F14 := fun_mk (st := s_renamed) l14 c14 k14
  have b14 := F14.binds (ps := ["tree", "names"]) fun _ _ _ _ _ _ us hl => match us, hl with | [_, _], _ => rfl
  have F15 := fun_mk (st := s_kept) l15 c15 k15
  have b15 := F15.binds (ps := ["value"]) fun _ _ _ _ _ _ us hl => match us, hl with | [_], _ => rfl
  have F16 := fun_mk (st := s_tree_text) l16 c16 k16
  have b16 := F16.binds (ps := ["letters", "tree"]) fun _ _ _ _ _ _ us hl => match us, hl with | [_, _], _ => rfl
  have F17 := fun_mk (st := s_taken) l17 c17 k17
  have b17 := F17.binds (ps := ["words"]) fun _ _ _ _ _ _ us hl => match us, hl with | [_], _ => rfl
  have F18 := fun_mk (st := s_taken_number) l18 c18 k18
  have b18 := F18.binds (ps := ["words"]) fun _ _ _ _ _ _ us hl => match us, hl with | [_], _ => rfl
  have F19 := fun_mk (st := s_rough_tree) l19 c19 k19
  have b19 := F19.binds (ps := ["letters", "line"]) fun _ _ _ _ _ _ us hl => match us, hl with | [_, _], _ => rfl
  have F20 := fun_mk (st := s_is_width) l20 c20 k20
  have b20 := F20.binds (ps := ["text"]) fun _ _ _ _ _ _ us hl => match us, hl with | [_], _ => rfl
  have F21 := fun_mk (st := s_ltree) l21 c21 k21
  have b21 := F21.binds (ps := ["_law_pen_here", "_law_letters_here", "_law_width", "_law_states", "_law_depth"]) fun _ _ _ _ _ _ us hl => match us, hl with | [_, _, _, _, _], _ => rfl
  have F22 := fun_mk (st := s_ltrees) l22 c22 k22
  have b22 := F22.binds (ps := ["_law_pen_here", "_law_letters_here", "_law_width", "_law_many", "_law_depth"]) fun _ _ _ _ _ _ us hl => match us, hl with | [_, _, _, _, _], _ => rfl
  have F23 := fun_mk (st := s_lline) l23 c23 k23
  have b23 := F23.binds (ps := ["_law_tree_here", "_law_letters_here"]) fun _ _ _ _ _ _ us hl => match us, hl with | [_, _], _ => rfl
  have F24 := fun_mk (st := s_ltaken) l24 c24 k24
  have b24 := F24.binds (ps := ["_law_line_here", "_law_at", "_law_part"]) fun _ _ _ _ _ _ us hl => match us, hl with | [_, _, _], _ => rfl
  have F25 := fun_mk (st := s_lnumber) l25 c25 k25
  have b25 := F25.binds (ps := ["_law_line_here", "_law_at", "_law_low", "_law_high"]) fun _ _ _ _ _ _ us hl => match us, hl with | [_, _, _, _], _ => rfl
  have F26 := fun_mk (st := s_lgo) l26 c26 k26
  have b26 := F26.binds (ps := ["_law_line_here", "_law_at", "_law_world"]) fun _ _ _ _ _ _ us hl => match us, hl with | [_, _, _], _ => rfl
  have F27 := fun_mk (st := s_ltree_at) l27 c27 k27
  have b27 := F27.binds (ps := ["_law_line_here", "_law_at", "_law_world", "_law_level"]) fun _ _ _ _ _ _ us hl => match us, hl with | [_, _, _, _], _ => rfl
  have F28 := fun_mk (st := s_ldue) l28 c28 k28
  have b28 := F28.binds (ps := ["_law_text"]) fun _ _ _ _ _ _ us hl => match us, hl with | [_], _ => rfl
  have F29 := fun_mk (st := s_lbent) l29 c29 k29
  have b29 := F29.binds (ps := ["_law_pen_here", "_law_text"]) fun _ _ _ _ _ _ us hl => match us, hl with | [_, _], _ => rfl
  have F30 := fun_mk (st := s_ltold) l30 c30 k30
  have b30 := F30.binds (ps := ["_law_text"]) fun _ _ _ _ _ _ us hl => match us, hl with | [_], _ => rfl
  have F31 := fun_mk (st := s_taken_tree) l31 c31 k31
  have b31 := F31.binds (ps := ["letters", "words", "depth"]) fun _ _ _ _ _ _ us hl => match us, hl with | [_, _, _], _ => rfl
  have F32 := fun_mk (st := s_taken_branches) l32 c32 k32
  have b32 := F32.binds (ps := ["letters", "words", "depth"]) fun _ _ _ _ _ _ us hl => match us, hl with | [_, _, _], _ => rfl
  have FS := fun_mk (x := "__init__") (qual := "Searcher.__init__") (st := s_Searcher_init) lS cS kS
  have bS := FS.binds (ps := ["self", "letters", "width", "states"]) fun _ _ _ _ _ _ us hl => match us, hl with | [_, _, _, _], _ => rfl
  have mS := PySem.W.mg_of X G aCS
  have FL := fun_mk (x := "__init__") (qual := "BadLine.__init__") (st := s_BadLine_init) lL cL kL
  have bL := FL.binds (ps := ["self", "line"]) fun _ _ _ _ _ _ us hl => match us, hl with | [_, _], _ => rfl
  have mL := PySem.W.mg_of X G aCL
  have FM := fun_mk (x := "__init__") (qual := "TooMany.__init__") (st := s_TooMany_init) lM cM kM
  have bM := FM.binds (ps := ["self", "what", "many", "most"]) fun _ _ _ _ _ _ us hl => match us, hl with | [_, _, _, _], _ => rfl
  have mM := PySem.W.mg_of X G aCM
  have T : Tx mg := { len := PySem.W.mg_none_of X G z0, int := PySem.W.mg_none_of X G z1, bool := PySem.W.mg_none_of X G z2, abs := PySem.W.mg_none_of X G z3, min := PySem.W.mg_none_of X G z4, list := PySem.W.mg_none_of X G z5, all := PySem.W.mg_none_of X G z6, range := PySem.W.mg_none_of X G z7, isinstance := PySem.W.mg_none_of X G z8, str := PySem.W.mg_none_of X G z9, set := PySem.W.mg_none_of X G z10, tuple := PySem.W.mg_none_of X G z11, dict := PySem.W.mg_none_of X G z12, enumerate := PySem.W.mg_none_of X G z13, reversed := PySem.W.mg_none_of X G z14, sum := PySem.W.mg_none_of X G z15, zip := PySem.W.mg_none_of X G z16, k_DEEPEST := _, m_DEEPEST := PySem.W.mg_of X G v0, k_MOST_WIDTH := _, m_MOST_WIDTH := PySem.W.mg_of X G v1, k_MOST_STATES := _, m_MOST_STATES := PySem.W.mg_of X G v2, k_MOST_NODES := _, m_MOST_NODES := PySem.W.mg_of X G v3 }
  have B0 : BaseC K mg C0 := ⟨PySem.W.mg_of X G aC0, ⟨r1, r2⟩, r3⟩
  have EL : ErrC K CL fL C0 := ⟨⟨⟨_, _, _, _, _, _, _, _, _, _, _, _, _, _, _, o1L, o2L⟩, g4L, o3L, o4L, m2L⟩, aL, tL, ⟨x1L, x2L, o3L, x3L⟩, ⟨x1L, x2L, o3L, x3L, e1L, s3, s4, e2L⟩, kit_mk (.inr rfl) s1 s2 p1L⟩
  have EM : ErrC K CM fM C0 := ⟨⟨⟨_, _, _, _, _, _, _, _, _, _, _, _, _, _, _, o1M, o2M⟩, g4M, o3M, o4M, m2M⟩, aM, tM, ⟨x1M, x2M, o3M, x3M⟩, ⟨x1M, x2M, o3M, x3M, e1M, s3, s4, e2M⟩, kit_mk (.inr rfl) s1 s2 p1M⟩
  have MKS : Mk K CS fS := ⟨m1S, aS, iS, m2S⟩
  have S : SC K CS := ⟨⟨g1S, g2S, g3S, g4S⟩, nS1, nS2, nS3, nS4⟩
  have GS : Gs mg CL CM C0 := ⟨mL, mM, PySem.W.mg_of X G aC0⟩
  have NF : NoF K CL CM := ⟨nL1, nM1, nM2, nM3⟩
  have EXM : Exm K CL CM := ⟨exm_mk o3L p2L o4L yLL, exm_mk o3L p2L o4L yML, exm_mk o3M p2M o4M yMM⟩
  refine ⟨PySem.W.fnOf "law" "law" (defArgs s_law) (defBody s_law) (defScope s_law) .none kV1 dc1 pm1 an1 cd1 ct1, fun s v => .of_eq rfl, fun base _ _ => ?_⟩
  have c_lpen : Kn l.prog w K mg base "_law_pen" ["_law_script"] 1 (spPen K) := ⟨f2, _, ok_pen F2 T , PySem.W.mg_of X G a2, F2.kp, b2⟩
  have c_ldraw : Kn l.prog w K mg base "_law_draw" ["_law_pen_here", "_law_many"] 1 spDraw := ⟨f3, _, ok_draw F3 T , PySem.W.mg_of X G a3, F3.kp, b3⟩
  have c_pickL : Kn l.prog w K mg base "_law_pick" ["_law_pen_here", "_law_some"] 2 spPickL := ⟨f4, _, ok_pickL F4 T c_ldraw, PySem.W.mg_of X G a4, F4.kp, b4⟩
  have c_lletters : Kn l.prog w K mg base "_law_letters" ["_law_pen_here"] 3 spLetters := ⟨f5, _, ok_letters F5 T c_ldraw c_pickL, PySem.W.mg_of X G a5, F5.kp, b5⟩
  have c_is_list : Kn l.prog w K mg base "is_list" ["value"] 1 spIsQ := ⟨f6, _, ok_isQ F6 T , PySem.W.mg_of X G a6, F6.kp, b6⟩
  have c_is_integer : Kn l.prog w K mg base "is_integer" ["value"] 1 spIsInt := ⟨f7, _, ok_integer F7 T , PySem.W.mg_of X G a7, F7.kp, b7⟩
  have c_is_whole : Kn l.prog w K mg base "is_whole" ["value", "low", "high"] 2 spWhole := ⟨f8, _, ok_whole F8 T c_is_integer, PySem.W.mg_of X G a8, F8.kp, b8⟩
  have c_are_letters : Kn l.prog w K mg base "are_letters" ["value"] 1 spAreL := ⟨f9, _, ok_areL F9 T , PySem.W.mg_of X G a9, F9.kp, b9⟩
  have c_is_part : Kn l.prog w K mg base "_is_part" ["part", "letters", "width", "states"] 3 spIsPart := ⟨f10, _, ok_ispart F10 T c_is_list c_is_whole, PySem.W.mg_of X G a10, F10.kp, b10⟩
  have c_within : Kn l.prog w K mg base "_within" ["part"] 1 spWithin := ⟨f11, _, ok_within F11 T , PySem.W.mg_of X G a11, F11.kp, b11⟩
  have c_first_wrong : Kn l.prog w K mg base "first_wrong" ["tree", "letters", "width", "states"] 4 spFW := ⟨f12, _, ok_fw F12 T c_is_part c_within, PySem.W.mg_of X G a12, F12.kp, b12⟩
  have c_all_parts : Kn l.prog w K mg base "all_parts" ["tree"] 2 spAll := ⟨f13, _, ok_all F13 T c_within, PySem.W.mg_of X G a13, F13.kp, b13⟩
  have c_renamed : Kn l.prog w K mg base "renamed" ["tree", "names"] 41 (spRen 40) := ⟨f14, _, ok_ren0 F14 T (PySem.W.mg_of X G a14) b14 40, PySem.W.mg_of X G a14, F14.kp, b14⟩
  have c_isLG : Kn l.prog w K mg base "is_list" ["value"] 1 spIsLG := ⟨f6, _, ok_isLG F6 T , PySem.W.mg_of X G a6, F6.kp, b6⟩
  have c_isIG : Kn l.prog w K mg base "is_integer" ["value"] 1 spIsIG := ⟨f7, _, ok_isIG F7 T , PySem.W.mg_of X G a7, F7.kp, b7⟩
  have c_whG : Kn l.prog w K mg base "is_whole" ["value", "low", "high"] 2 spWhG := ⟨f8, _, ok_whG F8 T c_isIG, PySem.W.mg_of X G a8, F8.kp, b8⟩
  have c_areG : Kn l.prog w K mg base "are_letters" ["value"] 1 (spAreG K) := ⟨f9, _, ok_areG F9 T , PySem.W.mg_of X G a9, F9.kp, b9⟩
  have c_partG : Kn l.prog w K mg base "_is_part" ["part", "letters", "width", "states"] 3 spPartG := ⟨f10, _, ok_partG F10 T c_isLG c_whG, PySem.W.mg_of X G a10, F10.kp, b10⟩
  have c_withG : Kn l.prog w K mg base "_within" ["part"] 1 spWithG := ⟨f11, _, ok_withG F11 T , PySem.W.mg_of X G a11, F11.kp, b11⟩
  have c_kept0 : Kn l.prog w K mg base "_kept" ["value"] 1 spKf := ⟨f15, _, ok_kf F15 T , PySem.W.mg_of X G a15, F15.kp, b15⟩
  have c_kept : Kn l.prog w K mg base "_kept" ["value"] 2 spKept := ⟨f15, _, ok_kept F15 T c_kept0, PySem.W.mg_of X G a15, F15.kp, b15⟩
  have c_tree_text : Kn l.prog w K mg base "tree_text" ["letters", "tree"] 41 (spTxt 40) := ⟨f16, _, ok_txt F16 T (PySem.W.mg_of X G a16) b16 40, PySem.W.mg_of X G a16, F16.kp, b16⟩
  have c_taken : Kn l.prog w K mg base "_taken" ["words"] 1 spTaken := ⟨f17, _, ok_taken F17 T , PySem.W.mg_of X G a17, F17.kp, b17⟩
  have c_taken_number : Kn l.prog w K mg base "_taken_number" ["words"] 2 spTakNum := ⟨f18, _, ok_taknum F18 T c_taken, PySem.W.mg_of X G a18, F18.kp, b18⟩
  have c_takW : Kn l.prog w K mg base "_taken" ["words"] 1 spTakW := ⟨f17, _, ok_takW F17 T , PySem.W.mg_of X G a17, F17.kp, b17⟩
  have c_numW : Kn l.prog w K mg base "_taken_number" ["words"] 2 spNumW := ⟨f18, _, ok_numW F18 T c_takW, PySem.W.mg_of X G a18, F18.kp, b18⟩
  have c_taken_tree : Kn l.prog w K mg base "_taken_tree" ["letters", "words", "depth"] 83 (spTake 40) := ⟨_, _, ok_take F31 F32 T (PySem.W.mg_of X G a31) b31 (PySem.W.mg_of X G a32) b32 c_taken c_taken_number 40, PySem.W.mg_of X G a31, F31.kp, b31⟩
  have c_treW : Kn l.prog w K mg base "_taken_tree" ["letters", "words", "depth"] 83 (spTreW 40) := ⟨_, _, ok_treW F31 F32 T (PySem.W.mg_of X G a31) b31 (PySem.W.mg_of X G a32) b32 c_takW c_numW 40, PySem.W.mg_of X G a31, F31.kp, b31⟩
  have c_rough_tree : Kn l.prog w K mg base "rough_tree" ["letters", "line"] 84 spRough := ⟨f19, _, ok_rough F19 T c_taken_tree, PySem.W.mg_of X G a19, F19.kp, b19⟩
  have c_widG : Kn l.prog w K mg base "_is_width" ["text"] 1 spWidG := ⟨f20, _, ok_widG F20 T , PySem.W.mg_of X G a20, F20.kp, b20⟩
  have c_ltree : Kn l.prog w K mg base "_law_tree" ["_law_pen_here", "_law_letters_here", "_law_width", "_law_states", "_law_depth"] 6 (spTree 4) := ⟨f21, _, ok_tree F21 T (PySem.W.mg_of X G a21) b21 c_ldraw 4, PySem.W.mg_of X G a21, F21.kp, b21⟩
  have c_ltrees : Kn l.prog w K mg base "_law_trees" ["_law_pen_here", "_law_letters_here", "_law_width", "_law_many", "_law_depth"] 7 spTrees := ⟨f22, _, ok_trees F22 T c_ltree, PySem.W.mg_of X G a22, F22.kp, b22⟩
  have c_lline : Kn l.prog w K mg base "_law_line" ["_law_tree_here", "_law_letters_here"] 41 (spLine 40) := ⟨f23, _, ok_lline F23 T (PySem.W.mg_of X G a23) b23 40, PySem.W.mg_of X G a23, F23.kp, b23⟩
  have c_ltaken : Kn l.prog w K mg base "_law_taken" ["_law_line_here", "_law_at", "_law_part"] 1 spLTak := ⟨f24, _, ok_ltak F24 T , PySem.W.mg_of X G a24, F24.kp, b24⟩
  have c_lnumber : Kn l.prog w K mg base "_law_number" ["_law_line_here", "_law_at", "_law_low", "_law_high"] 1 spLNum := ⟨f25, _, ok_lnum F25 T , PySem.W.mg_of X G a25, F25.kp, b25⟩
  have c_lgo : Kn l.prog w K mg base "_law_go" ["_law_line_here", "_law_at", "_law_world"] 2 spLGo := ⟨f26, _, ok_lgo F26 T c_ltaken c_lnumber, PySem.W.mg_of X G a26, F26.kp, b26⟩
  have c_ltree_at : Kn l.prog w K mg base "_law_tree_at" ["_law_line_here", "_law_at", "_law_world", "_law_level"] 43 (spLTree 40) := ⟨f27, _, ok_ltree F27 T (PySem.W.mg_of X G a27) b27 c_ltaken c_lnumber c_lgo 40, PySem.W.mg_of X G a27, F27.kp, b27⟩
  have c_ldue : Kn l.prog w K mg base "_law_due" ["_law_text"] 44 (spDueT K) := ⟨f28, _, ok_ldue F28 T c_ltree_at, PySem.W.mg_of X G a28, F28.kp, b28⟩
  have RPK : PickRaw l.prog w K mg base 2 c_pickL.f := by
    have e := (PySem.W.mg_of X G a4).symm.trans c_pickL.g
    injection e with e
    injection e with e
    exact e ▸ pick_raw F4 T c_ldraw b4
  have c_lbent : Kn l.prog w K mg base "_law_bent" ["_law_pen_here", "_law_text"] 3 spBentT := ⟨f29, _, ok_lbent F29 T c_ldraw c_pickL RPK, PySem.W.mg_of X G a29, F29.kp, b29⟩
  have c_rouX : Kn l.prog w K mg base "rough_tree" ["letters", "line"] 84 spRouX := ⟨_, _, FnOk_or (ok_rough F19 T c_taken_tree) (ok_rouW F19 T c_treW), PySem.W.mg_of X G a19, F19.kp, b19⟩
  have c_fwX : Kn l.prog w K mg base "first_wrong" ["tree", "letters", "width", "states"] 4 spFWX := ⟨_, _, FnOk_or (ok_fw F12 T c_is_part c_within) (ok_fwG F12 T c_partG c_withG), PySem.W.mg_of X G a12, F12.kp, b12⟩
  have IL := ok_BadLine (P := l.prog) (w := w) (base := base) FL T B0 EL.o nL1 c_kept
  have IM := ok_TooMany (P := l.prog) (w := w) (base := base) FM T B0 EM.o nM1 nM2 nM3 c_kept
  have I0 := ok_init (P := l.prog) (w := w) (base := base) FS T S c_are_letters c_is_whole c_is_list c_first_wrong c_all_parts c_renamed
  have FR := fun_mk (x := "read") (qual := "Searcher.read") (st := s_Searcher_read) lR cR kR
  have bR := FR.binds (ps := ["cls", "text"]) fun _ _ _ _ _ _ us hl => match us, hl with | [_, _], _ => rfl
  have RR := ok_readG (P := l.prog) (w := w) (base := base) FR T EL EM mL mM IL bL IM bM MKS I0 bS c_areG c_widG c_rouX c_fwX c_tree_text
  have c_ltold : Kn l.prog w K mg base "_law_told" ["_law_text"] 86 (spDueT K) := ⟨f30, _, ok_ltold F30 T EL EM GS NF EXM S mS ⟨q4, q5⟩ ⟨q1, ⟨_, q2⟩, q3⟩ (RR.raw bR .nil), PySem.W.mg_of X G a30, F30.kp, b30⟩
  exact ok_law F1 T (PySem.W.mg_none_of X G z17) c_lpen c_ldraw c_pickL c_lletters c_ltrees c_lline c_ltold c_ldue c_lbent
end Law
open PySem PySem.W PyProof.Rows
set_option maxHeartbeats 0 in
theorem PySem.Challenge.cw_wordskips_k08_bent_texts_of_searchers_holds : PySem.Challenge.rw_wordskips_k08_bent_texts_of_searchers.Holds := by
  w_on; o_law; k_head; (case hw => w_witness2)
  k_fill
  refine GD.walkG (l := PySem.Challenge.rw_wordskips_k08_bent_texts_of_searchers) (n := 63) (k := 87) (x := "_law_script") (sp := fun w => Law.spLaw _) rfl (by decide) rfl ⟨rfl, by decide, by decide⟩ (fun w h Y => PySem.W.kIn_of Y) ?F (fun _ _ a ns hl hS => ⟨a, ns, rfl, hS, hl, fun _ => rfl⟩)
  case F =>
    intro w mg fa h KX G hmg
    refine' Law.all_mk KX G hmg (a1 := ?a1) (l1 := ?l1) (c1 := ?c1) (k1 := ?k1) (a2 := ?a2) (l2 := ?l2) (c2 := ?c2) (k2 := ?k2) (a3 := ?a3) (l3 := ?l3) (c3 := ?c3) (k3 := ?k3) (a4 := ?a4) (l4 := ?l4) (c4 := ?c4) (k4 := ?k4) (a5 := ?a5) (l5 := ?l5) (c5 := ?c5) (k5 := ?k5) (a6 := ?a6) (l6 := ?l6) (c6 := ?c6) (k6 := ?k6) (a7 := ?a7) (l7 := ?l7) (c7 := ?c7) (k7 := ?k7) (a8 := ?a8) (l8 := ?l8) (c8 := ?c8) (k8 := ?k8) (a9 := ?a9) (l9 := ?l9) (c9 := ?c9) (k9 := ?k9) (a10 := ?a10) (l10 := ?l10) (c10 := ?c10) (k10 := ?k10) (a11 := ?a11) (l11 := ?l11) (c11 := ?c11) (k11 := ?k11) (a12 := ?a12) (l12 := ?l12) (c12 := ?c12) (k12 := ?k12) (a13 := ?a13) (l13 := ?l13) (c13 := ?c13) (k13 := ?k13) (a14 := ?a14) (l14 := ?l14) (c14 := ?c14) (k14 := ?k14) (a15 := ?a15) (l15 := ?l15) (c15 := ?c15) (k15 := ?k15) (a16 := ?a16) (l16 := ?l16) (c16 := ?c16) (k16 := ?k16) (a17 := ?a17) (l17 := ?l17) (c17 := ?c17) (k17 := ?k17) (a18 := ?a18) (l18 := ?l18) (c18 := ?c18) (k18 := ?k18) (a19 := ?a19) (l19 := ?l19) (c19 := ?c19) (k19 := ?k19) (a20 := ?a20) (l20 := ?l20) (c20 := ?c20) (k20 := ?k20) (a21 := ?a21) (l21 := ?l21) (c21 := ?c21) (k21 := ?k21) (a22 := ?a22) (l22 := ?l22) (c22 := ?c22) (k22 := ?k22) (a23 := ?a23) (l23 := ?l23) (c23 := ?c23) (k23 := ?k23) (a24 := ?a24) (l24 := ?l24) (c24 := ?c24) (k24 := ?k24) (a25 := ?a25) (l25 := ?l25) (c25 := ?c25) (k25 := ?k25) (a26 := ?a26) (l26 := ?l26) (c26 := ?c26) (k26 := ?k26) (a27 := ?a27) (l27 := ?l27) (c27 := ?c27) (k27 := ?k27) (a28 := ?a28) (l28 := ?l28) (c28 := ?c28) (k28 := ?k28) (a29 := ?a29) (l29 := ?l29) (c29 := ?c29) (k29 := ?k29) (a30 := ?a30) (l30 := ?l30) (c30 := ?c30) (k30 := ?k30) (a31 := ?a31) (l31 := ?l31) (c31 := ?c31) (k31 := ?k31) (a32 := ?a32) (l32 := ?l32) (c32 := ?c32) (k32 := ?k32) (aCS := ?aCS) (aS := ?aS) (lS := ?lS) (cS := ?cS) (kS := ?kS) (nS1 := ?nS1) (nS2 := ?nS2) (nS3 := ?nS3) (nS4 := ?nS4) (g4S := ?g4S) (m2S := ?m2S) (aCL := ?aCL) (aL := ?aL) (lL := ?lL) (cL := ?cL) (kL := ?kL) (nL1 := ?nL1) (g4L := ?g4L) (m2L := ?m2L) (aCM := ?aCM) (aM := ?aM) (lM := ?lM) (cM := ?cM) (kM := ?kM) (nM1 := ?nM1) (nM2 := ?nM2) (nM3 := ?nM3) (g4M := ?g4M) (m2M := ?m2M) (iS := ?iS) (m1S := ?m1S) (g1S := ?g1S) (g2S := ?g2S) (g3S := ?g3S) (q1 := ?q1) (q2 := ?q2) (q3 := ?q3) (q4 := ?q4) (q5 := ?q5) (lR := ?lR) (cR := ?cR) (kR := ?kR) (aC0 := ?aC0) (r1 := ?r1) (r2 := ?r2) (r3 := ?r3) (s1 := ?s1) (s2 := ?s2) (s3 := ?s3) (s4 := ?s4) (o1L := ?o1L) (o2L := ?o2L) (o3L := ?o3L) (o4L := ?o4L) (tL := ?tL) (x1L := ?x1L) (x2L := ?x2L) (x3L := ?x3L) (e1L := ?e1L) (e2L := ?e2L) (p1L := ?p1L) (p2L := ?p2L) (o1M := ?o1M) (o2M := ?o2M) (o3M := ?o3M) (o4M := ?o4M) (tM := ?tM) (x1M := ?x1M) (x2M := ?x2M) (x3M := ?x3M) (e1M := ?e1M) (e2M := ?e2M) (p1M := ?p1M) (p2M := ?p2M) (yLL := ?yLL) (yML := ?yML) (yMM := ?yMM) (v0 := ?v0) (v1 := ?v1) (v2 := ?v2) (v3 := ?v3) (z0 := ?z0) (z1 := ?z1) (z2 := ?z2) (z3 := ?z3) (z4 := ?z4) (z5 := ?z5) (z6 := ?z6) (z7 := ?z7) (z8 := ?z8) (z9 := ?z9) (z10 := ?z10) (z11 := ?z11) (z12 := ?z12) (z13 := ?z13) (z14 := ?z14) (z15 := ?z15) (z16 := ?z16) (z17 := ?z17)
    (case a1 => k_is); (case l1 => k_is); (case c1 => k_is); (case k1 => k_is); (case a2 => k_is); (case l2 => k_is); (case c2 => k_is); (case k2 => k_is); (case a3 => k_is); (case l3 => k_is); (case c3 => k_is); (case k3 => k_is); (case a4 => k_is); (case l4 => k_is); (case c4 => k_is); (case k4 => k_is); (case a5 => k_is); (case l5 => k_is); (case c5 => k_is); (case k5 => k_is); (case a6 => k_is); (case l6 => k_is); (case c6 => k_is); (case k6 => k_is); (case a7 => k_is); (case l7 => k_is); (case c7 => k_is); (case k7 => k_is); (case a8 => k_is); (case l8 => k_is); (case c8 => k_is); (case k8 => k_is); (case a9 => k_is); (case l9 => k_is); (case c9 => k_is); (case k9 => k_is); (case a10 => k_is); (case l10 => k_is); (case c10 => k_is); (case k10 => k_is); (case a11 => k_is); (case l11 => k_is); (case c11 => k_is); (case k11 => k_is); (case a12 => k_is); (case l12 => k_is); (case c12 => k_is); (case k12 => k_is); (case a13 => k_is); (case l13 => k_is); (case c13 => k_is); (case k13 => k_is); (case a14 => k_is); (case l14 => k_is); (case c14 => k_is); (case k14 => k_is); (case a15 => k_is); (case l15 => k_is); (case c15 => k_is); (case k15 => k_is); (case a16 => k_is); (case l16 => k_is); (case c16 => k_is); (case k16 => k_is); (case a17 => k_is); (case l17 => k_is); (case c17 => k_is); (case k17 => k_is); (case a18 => k_is); (case l18 => k_is); (case c18 => k_is); (case k18 => k_is); (case a19 => k_is); (case l19 => k_is); (case c19 => k_is); (case k19 => k_is); (case a20 => k_is); (case l20 => k_is); (case c20 => k_is); (case k20 => k_is); (case a21 => k_is); (case l21 => k_is); (case c21 => k_is); (case k21 => k_is); (case a22 => k_is); (case l22 => k_is); (case c22 => k_is); (case k22 => k_is); (case a23 => k_is); (case l23 => k_is); (case c23 => k_is); (case k23 => k_is); (case a24 => k_is); (case l24 => k_is); (case c24 => k_is); (case k24 => k_is); (case a25 => k_is); (case l25 => k_is); (case c25 => k_is); (case k25 => k_is); (case a26 => k_is); (case l26 => k_is); (case c26 => k_is); (case k26 => k_is); (case a27 => k_is); (case l27 => k_is); (case c27 => k_is); (case k27 => k_is); (case a28 => k_is); (case l28 => k_is); (case c28 => k_is); (case k28 => k_is); (case a29 => k_is); (case l29 => k_is); (case c29 => k_is); (case k29 => k_is); (case a30 => k_is); (case l30 => k_is); (case c30 => k_is); (case k30 => k_is); (case a31 => k_is); (case l31 => k_is); (case c31 => k_is); (case k31 => k_is); (case a32 => k_is); (case l32 => k_is); (case c32 => k_is); (case k32 => k_is); (case aCS => k_is); (case aS => k_is); (case lS => k_is); (case cS => k_is); (case kS => k_is); (case nS1 => k_is); (case nS2 => k_is); (case nS3 => k_is); (case nS4 => k_is); (case g4S => k_is); (case m2S => k_is); (case aCL => k_is); (case aL => k_is); (case lL => k_is); (case cL => k_is); (case kL => k_is); (case nL1 => k_is); (case g4L => k_is); (case m2L => k_is); (case aCM => k_is); (case aM => k_is); (case lM => k_is); (case cM => k_is); (case kM => k_is); (case nM1 => k_is); (case nM2 => k_is); (case nM3 => k_is); (case g4M => k_is); (case m2M => k_is); (case iS => k_is); (case m1S => k_is); (case g1S => k_is); (case g2S => k_is); (case g3S => k_is); (case q1 => k_is); (case q2 => k_is); (case q3 => k_is); (case q4 => k_is); (case q5 => k_is); (case lR => k_is); (case cR => k_is); (case kR => k_is); (case aC0 => k_is); (case r1 => k_is); (case r2 => k_is); (case r3 => k_is); (case s1 => k_is); (case s2 => k_is); (case s3 => k_is); (case s4 => k_is); (case o1L => k_is); (case o2L => rfl); (case o3L => k_is); (case o4L => k_is); (case tL => k_is); (case x1L => k_is); (case x2L => k_is); (case x3L => k_is); (case e1L => k_is); (case e2L => k_is); (case p1L => k_is); (case p2L => k_is); (case o1M => k_is); (case o2M => rfl); (case o3M => k_is); (case o4M => k_is); (case tM => k_is); (case x1M => k_is); (case x2M => k_is); (case x3M => k_is); (case e1M => k_is); (case e2M => k_is); (case p1M => k_is); (case p2M => k_is); (case yLL => k_is); (case yML => k_is); (case yMM => k_is); (case v0 => k_is); (case v1 => k_is); (case v2 => k_is); (case v3 => k_is); (case z0 => k_is); (case z1 => k_is); (case z2 => k_is); (case z3 => k_is); (case z4 => k_is); (case z5 => k_is); (case z6 => k_is); (case z7 => k_is); (case z8 => k_is); (case z9 => k_is); (case z10 => k_is); (case z11 => k_is); (case z12 => k_is); (case z13 => k_is); (case z14 => k_is); (case z15 => k_is); (case z16 => k_is); (case z17 => k_is)


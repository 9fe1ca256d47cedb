import PyProof.Rows.All
import Wide.All
import OpenK.AllK
import Wide.FinOn
import HandS.ForMost
import HandS.Evl
import KE.GoesZip
import PyProof.EnumMake
import HandS.Strs
import KE.GoesMore
import HandS.IsInst
import HandS.NoneIn
import HandS.Walk
import HandS.Conv
import HandS.TupAny
import HandS.StrMore
import HandS.Base
import HandS.Call
import HandS.List
import HandS.Comp
import HandS.Nested
import HandS.NestedK
import PyProof.StrLawsLast
import PyProof.Cells
import KE.GoesCell
import HandS.WordsDict
import HandS.CallLocal
import HandS.More
import PyProof.ListStr
import PyProof.EqAt
import PyProof.NeKinds
import HandS.Zip0
import HandS.ListItems
import KE.KDictZip
import HandS.Dict
import HandS.Small
import KE.KDictKeyed
import KE.KDictWalk
import KE.KDictCopyH
import HandS.Property
import HandS.Star
import HandS.Replace
import PyProof.Rows.StrLawsPart
import HandS.Exc
import HandS.ExcInit
import HandS.ExcField
import HandS.ExcIs
import HandS.TryOnly
import HandS.TryMany
import HandS.WordsExc
import HandS.ClsMeth
import HandS.MakeKwOnly
import HandS.MakeKw
import HandS.Style
import KE.DataEq
import KE.Datum
import PyProof.ReprReads
import HandS.Lambda
import HandS.EndBits
import HandS.EndTab
import HandS.HeadHook3
import PySem.Challenge.RW_wordskips_k21_whole_searches_by_turns
set_option Elab.async false
set_option linter.all false
set_option maxRecDepth 100000
set_option maxHeartbeats 4000000
namespace ZS
open PySem PySem.Spec PyProof.Rows L2

/-- two texts side by side: a new pair of signs at each turn -/
def ItzS (x y : Str) : It :=
  ⟨fun i _ => i < x.cps.size ∧ i < y.cps.size,
   fun i H v H' => ∃ T c d, v = .ref T ∧ H T = none ∧ H' = upd H T (.tup [.str ⟨#[c]⟩, .str ⟨#[d]⟩]) ∧ x.cps[i]? = some c ∧ y.cps[i]? = some d,
   fun i _ => i = min x.cps.size y.cps.size⟩
theorem drawsS {prog : Program} {w : World} {A : Around} (hh : A.handled = none) (it : Addr) (x : Str) (t : Tok) :
    Draws prog w A it [it] x.cps.size (fun i v => ∃ c u, x.cps[i]? = some c ∧ v = .str ⟨#[c]⟩ u) (fun i h => h.IsStrIter it (strIterType x) x t i) := by
  unfold strIterType
  cases x.cps.all (· < 128)
  · exact Draws.strWide hh it x t
  · exact Draws.strAscii hh it x t
def StZ (x y : Str) (t u : Tok) (z TI TO i1 i2 : Addr) (i : Nat) (h : Heap) : Prop :=
  IsZip h z TI TO .none ∧ IsTupOf2 h TI (.ref i1) (.ref i2) ∧ (∃ a1 a2, IsTupOf2 h TO a1 a2) ∧ h.IsStrIter i1 (strIterType x) x t i ∧ h.IsStrIter i2 (strIterType y) y u i
theorem walkS {prog : Program} {w : World} {A : Around} (hh : A.handled = none) {z TI TO i1 i2 : Addr} (S : ZipSep2 z TI TO i1 i2 [i1] [i2]) (x y : Str) (t u : Tok) :
    WalksT prog w A z (z :: TI :: TO :: ([i1] ++ [i2])) [z, TO, i1, i2] (min x.cps.size y.cps.size)
      (fun i vals => ∃ v1 v2, (∃ c u, x.cps[i]? = some c ∧ v1 = .str ⟨#[c]⟩ u) ∧ (∃ c u, y.cps[i]? = some c ∧ v2 = .str ⟨#[c]⟩ u) ∧ vals = #[v1, v2])
      (StZ x y t u z TI TO i1 i2)
      (fun i T h => IsZip h z TI TO (rawInt T) ∧ IsTupOf2 h TI (.ref i1) (.ref i2) ∧ (∃ a1 a2, IsTupOf2 h TO a1 a2) ∧ h.IsStrIter i1 (strIterType x) x t (i + 1) ∧ h.IsStrIter i2 (strIterType y) y u (i + 1) ∧ T ≠ z ∧ T ≠ TO ∧ T ≠ i1 ∧ T ≠ i2) :=
  WalksT.zipD2 S (drawsS (A := A.in1) hh i1 x t) (drawsS (A := A.in1) hh i2 y u)
theorem fp5 {z TI TO i1 i2 c : Addr} (h : c ∈ [z, TI, TO, i1, i2]) : c = z ∨ c = TI ∨ c = TO ∨ c = i1 ∨ c = i2 := by simpa using h
theorem turn_zipS {P : Program} {w : World} {K : PySem.W.Frag} {elts : List Expr} {kk : Nat} {tpos : Pos} {z TI TO i1 i2 : Addr} (S : ZipSep2 z TI TO i1 i2 [i1] [i2]) (x y : Str) (t u : Tok) :
    Turn P w K (.Tuple elts kk tpos) (ItzS x y) [z, TI, TO, i1, i2] z (StZ x y t u z TI TO i1 i2) where
  mem := List.mem_cons_self
  obj := fun i h st c hc => by
    obtain ⟨q1, q2, ⟨a1, a2, q3⟩, ⟨o1, e1, _, d1⟩, ⟨o2, e2, _, d2⟩⟩ := st
    rcases fp5 hc with q | q | q | q | q
    all_goals subst q
    · exact ⟨_, q1, fun v q => nomatch q⟩
    · exact ⟨_, q2, fun v q => nomatch q⟩
    · exact ⟨_, q3, fun v q => nomatch q⟩
    · exact ⟨o1, e1, fun v q => by rw [d1] at q; cases q⟩
    · exact ⟨o2, e2, fun v q => by rw [d2] at q; cases q⟩
  keep := fun i h h' st k => by
    obtain ⟨q1, q2, ⟨a1, a2, q3⟩, ⟨o1, e1, r1⟩, ⟨o2, e2, r2⟩⟩ := st
    exact ⟨k z (by simp) _ q1, k TI (by simp) _ q2, ⟨a1, a2, k TO (by simp) _ q3⟩, ⟨o1, k i1 (by simp) _ e1, r1⟩, ⟨o2, k i2 (by simp) _ e2, r2⟩⟩
  item := by
    intro X hP hw hK hc i pins s σ H E I hf st hg
    subst hP hw hK
    have W := walkS (prog := X.prog) (w := X.w) (A := X.A) (I.ok.hd hc) S x y t u
    have hlt : i < min x.cps.size y.cps.size := by
      have h1 := hg.1
      have h2 := hg.2
      omega
    refine W.item i s _ _ hlt st fun T vals h' tk hv hT hIs hm hk => ?_
    refine ⟨.ref T, rfl, ?_⟩
    refine W.go elts kk tpos i T { s with heap := h', toks := tk } _ _ hm fun h2 st2 hk2 => ?_
    obtain ⟨v1, v2, ⟨c, u1, hc1, rfl⟩, ⟨d, u2, hd1, rfl⟩, rfl⟩ := hv
    have ap : T ∉ [z, TO, i1, i2] := W.apart i T h' hm
    have up : ∀ b o, b ∉ [z, TO, i1, i2] → s.heap.get? b = some o → h2.get? b = some o := fun b o hb e => hk2 b o hb (hk b o hb e)
    have hT2 : h2.IsTuple T #[.str ⟨#[c]⟩ u1, .str ⟨#[d]⟩ u2] := hIs.at fun o e => hk2 T o ap e
    obtain ⟨oT, eT, cT, nT, dT⟩ := hT2
    have new : ObjOk X.prog X.w (upd H T (.tup [.str ⟨#[c]⟩, .str ⟨#[d]⟩])) h2 T (.tup [.str ⟨#[c]⟩, .str ⟨#[d]⟩]) :=
      ⟨by show 2 ≤ sizeLine; decide, [.str ⟨#[c]⟩ u1, .str ⟨#[d]⟩ u2], .cons ⟨u1, rfl⟩ (.cons ⟨u2, rfl⟩ .nil), ⟨oT, eT, cT, nT, dT⟩⟩
    have sub : ∀ b, b ∉ [z, TI, TO, i1, i2] → b ∉ [z, TO, i1, i2] := fun b hb hb2 => hb (by
      have q : b = z ∨ b = TO ∨ b = i1 ∨ b = i2 := by simpa using hb2
      rcases q with q | q | q | q <;> simp [q])
    have I1 := I.turnedNew (t' := tk) (ch := [z, TI, TO, i1, i2]) (fun b o hb e => up b o (sub b hb) e) hf hT new
    refine ⟨.ref T, _, I1, rfl, ⟨T, c, d, rfl, I.hok.fresh hT, rfl, hc1, hd1⟩, st2, fun b hb => ?_⟩
    have hlb : b < s.heap.objs.size := by
      obtain ⟨q1, q2, ⟨a1, a2, q3⟩, ⟨o1, e1, r1⟩, ⟨o2, e2, r2⟩⟩ := st
      rcases fp5 hb with q | q | q | q | q
      · rw [q]; exact Heap.lt_size q1
      · rw [q]; exact Heap.lt_size q2
      · rw [q]; exact Heap.lt_size q3
      · rw [q]; exact Heap.lt_size e1
      · rw [q]; exact Heap.lt_size e2
    rw [upd_ne (show b ≠ T from fun e => absurd hT (by rw [← e]; exact Nat.not_le.mpr hlb))]
    exact (hf b hb).1
  done := by
    intro X hP hw hK hc i pins s σ H E I hf st hg
    subst hP hw hK
    have W := walkS (prog := X.prog) (w := X.w) (A := X.A) (I.ok.hd hc) S x y t u
    have hg : i = min x.cps.size y.cps.size := hg
    subst hg
    refine W.done s _ _ st fun h' tk hk => ⟨rfl, ?_⟩
    refine I.turnedL (t' := tk) (ch := [z, TI, TO, i1, i2]) (fun b o hb e => hk b o (fun hb2 => hb ?_) e) hf
    have q : b = z ∨ b = TO ∨ b = i1 ∨ b = i2 := by simpa using hb2
    rcases q with q | q | q | q <;> simp [q]
  self := fun A i s Q E st h => wpAny_pyIter_zip st.1 h

abbrev g1 (h : Heap) (x : Str) (t : Tok) : Heap := h.push { cls := .type (strIterType x), data := .fields #[.str x t, .int 0 0] }
abbrev g3 (h : Heap) (x y : Str) (t u : Tok) : Heap := (g1 (g1 h x t) y u).push { cls := .type "tuple", data := .seq #[.ref h.objs.size, .ref (g1 h x t).objs.size] }
abbrev g4 (h : Heap) (x y : Str) (t u : Tok) : Heap := (g3 h x y t u).push { cls := .type "tuple", data := .seq #[.none, .none] }
abbrev g5 (h : Heap) (x y : Str) (t u : Tok) : Heap := (g4 h x y t u).push { cls := .type "zip", data := .fields #[.none, .bool false, .bool false, .ref (g1 (g1 h x t) y u).objs.size, .ref (g3 h x y t u).objs.size] }
theorem meets_zipS (x y : Str) (t u : Tok) :
    Meets (Builtin.«zip.__new__» ⟨[.type "zip", .str x t, .str y u], []⟩) (fun _ R s => R (.ok (.ret (.ref (g4 s.heap x y t u).objs.size))) { s with heap := g5 s.heap x y t u }) :=
  .of_wp fun prog w A R s h => by
    obtain ⟨hp, gg, d, tk, os⟩ := s
    have hsub := sub_zip
    wp_walk using wpAny_pyIter_strU
    exact ⟨_, rfl, h⟩
theorem call_zipS {prog : Program} {w : World} {A : Around} {E : Value → Shared → Prop} {s : Shared} {x y : Str} {t u : Tok} {Q : Value → Shared → Prop}
    (h : ∀ h', StZ x y t u (s.heap.objs.size + 4) (s.heap.objs.size + 2) (s.heap.objs.size + 3) s.heap.objs.size (s.heap.objs.size + 1) 0 h' → (∀ c o, s.heap.get? c = some o → h'.get? c = some o) → Q (.ref (s.heap.objs.size + 4)) { s with heap := h' }) :
    wpAny (model prog w) A (call (.type "zip") [.str x t, .str y u]) Q E s := by
  refine callType_new F.called_zip (by decide) (F.typeCall_zip_2 _ _) (F.newCall_zip_2 _ _) (fun obj => F.args_object_init_3 obj _ _) F.entry_zip_new (meets_zipS x y t u) ?_
  have n1 : (g1 s.heap x t).objs.size = s.heap.objs.size + 1 := Heap.size_push ..
  have n2 : (g1 (g1 s.heap x t) y u).objs.size = s.heap.objs.size + 2 := by rw [Heap.size_push, n1]
  have n3 : (g3 s.heap x y t u).objs.size = s.heap.objs.size + 3 := by rw [Heap.size_push, n2]
  have n4 : (g4 s.heap x y t u).objs.size = s.heap.objs.size + 4 := by rw [Heap.size_push, n3]
  have k5 : (g5 s.heap x y t u).get? (g4 s.heap x y t u).objs.size = some _ := Heap.get?_push_size _ rfl
  have k4 : (g5 s.heap x y t u).get? (g3 s.heap x y t u).objs.size = some _ := Heap.get?_push_of_some _ (Heap.get?_push_size _ rfl)
  have k3 : (g5 s.heap x y t u).get? (g1 (g1 s.heap x t) y u).objs.size = some _ := Heap.get?_push_of_some _ (Heap.get?_push_of_some _ (Heap.get?_push_size _ rfl))
  have k2 : (g5 s.heap x y t u).get? (g1 s.heap x t).objs.size = some _ := Heap.get?_push_of_some _ (Heap.get?_push_of_some _ (Heap.get?_push_of_some _ (Heap.get?_push_size _ rfl)))
  have k1 : (g5 s.heap x y t u).get? s.heap.objs.size = some _ := Heap.get?_push_of_some _ (Heap.get?_push_of_some _ (Heap.get?_push_of_some _ (Heap.get?_push_of_some _ (Heap.get?_push_size _ rfl))))
  show _ ∧ _
  rw [n2, n3, n4] at k5
  rw [n1, n2] at k3
  rw [n3] at k4
  rw [n1] at k2
  rw [n4]
  exact ⟨⟨_, k5, rfl⟩, h _ ⟨k5, k3, ⟨_, _, k4⟩, ⟨_, k1, rfl, rfl⟩, ⟨_, k2, rfl, rfl⟩⟩ fun c o e =>
    Heap.get?_push_of_some _ (Heap.get?_push_of_some _ (Heap.get?_push_of_some _ (Heap.get?_push_of_some _ (Heap.get?_push_of_some _ e))))⟩
theorem sepS (n : Nat) : ZipSep2 (n + 4) (n + 2) (n + 3) n (n + 1) [n] [n + 1] := by
  constructor <;> first | omega | (simp <;> omega) | simp
def iZipS (ta : TA) : TI := fun σ H R => ta σ H fun vs H1 => ∃ x y, vs = [.str x, .str y] ∧ R (ItzS x y) H1
theorem pi_zipS {X : Cx} {e e2 : Expr} {ta : TA} {p pos tpos : Pos} {elts : List Expr} {kk : Nat} (hg : Gl X "zip") (hm : X.mg "zip" = none) (ha : PA X [e, e2] ta)
    (hs : starEach [e, e2] X.env = (false, eval e X.env) :: starEach [e2] X.env := by rfl) (hpl : (backTo pos (starEach [e2] X.env)).any (·.1) = false := by rfl) :
    PI X (.Tuple elts kk tpos) (.Call (.Name "zip" p) [e, e2] [] pos) (iZipS ta) := by
  refine ⟨fun pins s σ H R I h => ?_⟩
  refine Call_ (ld_blt I hg hm boot_zip (callWith_type1 (thn (ha.run pos pins s σ H _ I h) fun us s1 ⟨vs, H1, I1, r1, q1⟩ => ?_) hs hpl))
  obtain ⟨x, y, ex, q⟩ := q1
  subst ex
  cases r1 with
  | cons r rr =>
    cases rr with
    | cons r' rr =>
      cases rr
      obtain ⟨t, rfl⟩ := r
      obtain ⟨u, rfl⟩ := r'
      refine call_zipS fun h' st hk => wpAny_pyIter_zip st.1 ?_
      have I2 : Inv X pins σ H1 { s1 with heap := h' } := I1.kept (t' := s1.toks) hk
      refine ⟨s1.heap.objs.size + 4, _, _, _, H1, rfl, I2, turn_zipS (sepS _) x y t u, st, fun c hcm => ?_, q⟩
      have hle : s1.heap.objs.size ≤ c := by
        rcases fp5 hcm with z | z | z | z | z <;> rw [z] <;> first | exact Nat.le_add_right _ _ | exact Nat.le_refl _
      exact I1.fpOk hle (I1.hok.fresh hle)
/-- a comprehension over it -/
theorem lc_zipS {x y : Str} {g : TG} {tt : TT} {te : TE} {vs : List Nat} {σ : L2.St} {H1 : Hp} {D : Addr} {Qd : Hp → Prop} (Pv : Nat → Hp → Prop) (h0 : Pv 0 (upd H1 D (.lst [])))
    (hs : ∀ i c d T H, x.cps[i]? = some c → y.cps[i]? = some d → Pv i H → H T = none → g (.ref T) (wipe σ vs) (upd H T (.tup [.str ⟨#[c]⟩, .str ⟨#[d]⟩])) fun σ2 H2 => wipe σ2 vs = wipe σ vs ∧ tt σ2 H2 fun b H3 =>
      if b = true then te σ2 H3 fun z H4 => ∃ acc, H4 D = some (.lst acc) ∧ acc.length < sizeLine ∧ Pv (i + 1) (upd H4 D (.lst (acc ++ [z]))) else Pv (i + 1) H3) (hd : ∀ H, Pv (min x.cps.size y.cps.size) H → Qd H) :
    ∃ W : Nat → Nat → Hp → Prop, (∃ m, W 0 m (upd H1 D (.lst []))) ∧ ∀ i m H, W i m H →
      ((ItzS x y).stop i H ∧ Qd H) ∨ ((ItzS x y).go i H ∧ ∃ Nx : Hp → Prop, (∀ H', Nx H' → ∃ m', m' < m ∧ W (i + 1) m' H') ∧ ∀ v H', (ItzS x y).yld i H v H' → g v (wipe σ vs) H' fun σ2 H2 => wipe σ2 vs = wipe σ vs ∧ tt σ2 H2 fun b H3 =>
        if b = true then te σ2 H3 fun z H4 => ∃ acc, H4 D = some (.lst acc) ∧ acc.length < sizeLine ∧ Nx (upd H4 D (.lst (acc ++ [z]))) else Nx H3) := by
  refine ⟨fun i m H => i + m = min x.cps.size y.cps.size ∧ Pv i H, ⟨_, Nat.zero_add _, h0⟩, ?_⟩
  rintro i m H ⟨e, p⟩
  by_cases hm : m = 0
  · have e2 : i = min x.cps.size y.cps.size := by omega
    refine .inl ⟨e2, hd H ?_⟩
    rw [← e2]
    exact p
  · refine .inr ⟨⟨by omega, by omega⟩, Pv (i + 1), fun H' p' => ⟨m - 1, by omega, by omega, p'⟩, ?_⟩
    rintro v H' ⟨T, c, d, rfl, hT, rfl, hc, hd'⟩
    exact hs i c d T H hc hd' p hT
theorem op_mulS {X : Cx} : OpR X (binaryOp .Mult) (fun x y H Q => ∃ z n, x = .str z ∧ y = .int n ∧ MulOk z n ∧ Q (.str (Txt.mul z n)) H) := by
  intro pins s σ H x y v u Q I rx ry h
  obtain ⟨z, n, rfl, rfl, hz, q⟩ := h
  obtain ⟨t, rfl⟩ := rx
  obtain ⟨t', rfl⟩ := ry
  exact SB.mul hz (fun t' tk => ⟨.str (Txt.mul z n), H, I.tok _, ⟨_, rfl⟩, q⟩)
end ZS

namespace ST
open PySem PySem.Spec PyProof.Rows L2
/-- how many different ones the first i of a list are -/
def dct (xs : List Str) : Nat → Nat
  | 0 => 0
  | i + 1 => if (xs.take i).any (· == xs.getD i Str.empty) = true then dct xs i else dct xs i + 1
theorem dct_le (xs : List Str) : ∀ i, dct xs i ≤ i
  | 0 => Nat.le_refl _
  | i + 1 => by
    have := dct_le xs i
    unfold dct
    split <;> omega
theorem any_next {xs : List Str} {i : Nat} (hi : i < xs.length) (k : Str) : (xs.take (i + 1)).any (· == k) = ((xs.take i).any (· == k) || decide (k = xs.getD i Str.empty)) := by
  rw [List.take_add_one, List.any_append, List.getElem?_eq_getElem hi, List.getD_eq_getElem?_getD, List.getElem?_eq_getElem hi]
  refine congrArg (fun b => (xs.take i).any (· == k) || b) ?_
  show (xs[i] == k || false) = decide (k = xs[i])
  rw [Bool.or_false]
  by_cases e : k = xs[i]
  · rw [decide_eq_true e, ← e]
    simp
  · rw [decide_eq_false e]
    simpa using fun q : xs[i] = k => e q.symm
section
variable {prog : Program} {w : World} {A : Around} {R : Result → Shared → Prop} {It : Addr} {fp wr : List Addr} {Gn : Array GenState → Array GenState → Prop} {n : Nat} {P : Nat → Value → Prop} {St : Nat → Shared → Prop}
theorem fill (W : WalksS prog w A.in1 It fp wr Gn n P St) (a : Addr) (haf : a ∉ fp) (xs : List Str) (hx : xs.length = n) (hn : n + 1 < scanBound) (hv : ∀ i v, P i v → ∃ t, v = .str (xs.getD i Str.empty) t) :
    ∀ (k i : Nat) (s : Shared), n - i = k → i ≤ n → St i s → s.heap.SetOf (PySem.strKind prog w) a (fun z => (xs.take i).any (· == z)) (dct xs i) →
      (∀ s', Moved (a :: wr) Gn s s' → s'.heap.SetOf (PySem.strKind prog w) a (fun z => (xs.take n).any (· == z)) (dct xs n) → R (.ok (.ret .none)) s') →
      codeAny (model prog w) A (.builtin "set.update.loop" ⟨[.ref a, .ref It], []⟩) R s := by
  have haw : a ∉ wr := fun q => haf (W.sub _ q)
  have up : ∀ b ∈ wr, b ∈ a :: wr := fun b q => List.mem_cons_of_mem _ q
  intro k
  induction k with
  | zero =>
    intro i s hk hi hst hset hR
    obtain rfl : i = n := by omega
    refine codeAny_builtin F.entry_set_update_loop ?_
    rw [Around.under_plainId F.plain_set_update_loop _]
    refine wpAny_bind (W.done s _ _ hst fun s' mv => wpAny_pure (hR s' (mv.mono up) ?_))
    obtain ⟨o, es, ep, tb, ho, rest⟩ := hset
    exact ⟨o, es, ep, tb, mv.heap a _ haw ho, rest⟩
  | succ k ih =>
    intro i s hk hi hst hset hR
    have hlt : i < n := by omega
    refine codeAny_builtin F.entry_set_update_loop ?_
    rw [Around.under_plainId F.plain_set_update_loop _]
    refine wpAny_bind (W.item i s _ _ hlt hst fun v s1 hp st1 mv => ?_)
    obtain ⟨t, rfl⟩ := hv i v hp
    have set1 : s1.heap.SetOf (PySem.strKind prog w) a (fun z => (xs.take i).any (· == z)) (dct xs i) := by
      obtain ⟨o, es, ep, tb, ho, rest⟩ := hset
      exact ⟨o, es, ep, tb, mv.heap a _ haw ho, rest⟩
    refine wpAny_bind (wpAny_holding ?_)
    unfold setAdd
    refine wpAny_holding (wpAny_bind ((PySem.strKind prog w).pyHash (k := xs.getD i Str.empty) (strKind_is _ _ _ _) ?_))
    have room : dct xs i + 1 < scanBound := by
      have := dct_le xs i
      omega
    refine wpAny_setAddHashed_of (knd := PySem.strKind prog w) (s := { s1 with toks := s1.toks + 1 }) (strKind_is _ _ _ _) rfl set1 room fun h2 sb set2 => ?_
    have set3 : h2.SetOf (PySem.strKind prog w) a (fun z => (xs.take (i + 1)).any (· == z)) (dct xs (i + 1)) :=
      SetOf_congr set2 (fun z => (any_next (by omega) z).symm) (by
        show dct xs (i + 1) = _
        unfold dct
        rfl)
    refine wpAny_pure ⟨plainId_quiet F.plain_set_update_loop _, ih (i + 1) _ (by omega) hlt (W.frame _ s1 _ _ st1 (Nat.le_succ _) fun b hb o e => ?_) set3 fun s2 mv2 hS2 => ?_⟩
    · rw [sb.2 b (fun q : b = a => haf (by rw [← q]; exact hb))]
      exact e
    · refine hR s2 (Moved.trans W.gtrans ((mv.mono up).then_heap (Nat.le_succ _) fun b o hb e => ?_) mv2) hS2
      rw [sb.2 b (fun q : b = a => hb (by rw [q]; exact List.mem_cons_self))]
      exact e
end
theorem walkStr {prog : Program} {w : World} {A : Around} (hh : A.handled = none) (it : Addr) (x : Str) (t : Tok) :
    Walks prog w A it [it] [it] x.cps.size (SignAt x) (fun i h => h.IsStrIter it (strIterType x) x t i) := by
  unfold strIterType
  cases x.cps.all (· < 128)
  · exact Walks.strWide hh it x t
  · exact Walks.strAscii hh it x t
def signsOf (x : Str) : List Str := x.cps.toList.map fun c => ⟨#[c]⟩
theorem signsOf_len (x : Str) : (signsOf x).length = x.cps.size := by simp [signsOf]
section
variable {prog : Program} {w : World} {A : Around} {E : Value → Shared → Prop} {s : Shared}
theorem call_set_text {x : Str} {t : Tok} {Q : Value → Shared → Prop} (hh : A.handled = none) (hn : x.cps.size + 1 < scanBound)
    (h : ∀ (h' : Heap) (tk : Nat), h'.SetOf (PySem.strKind prog w) s.heap.objs.size (fun z => ((signsOf x).take x.cps.size).any (· == z)) (dct (signsOf x) x.cps.size) →
      (∀ b o, b < s.heap.objs.size → s.heap.get? b = some o → h'.get? b = some o) → Q (.ref s.heap.objs.size) { s with heap := h', toks := tk }) :
    wpAny (model prog w) A (call (.type "set") [.str x t]) Q E s := by
  obtain ⟨c, tl, hmro⟩ := PySem.F.called_set.mro
  have hmade := PySem.F.called_set.made
  have hsub := PySem.F.called_set.sub
  refine wpAny_call (codeAny_of_tree ?_)
  show wpAny _ _ (callAny (.type "set") _) _ _ _
  refine wpAny_pure ⟨Code.quiet_builtin _ (by decide +kernel), codeAny_builtin PySem.F.entry_type_call ?_⟩
  rw [Around.under_plain (weight_type_call_type "set" [.str x t] []) rfl]
  have x1 := PySem.F.called_set.notType
  have x2 := PySem.F.called_set.canCreate
  have x3 := PySem.F.typeCall_set_1 (.str x t)
  repeat (any_goals (first | assumption | wp_step))
  refine codeAny_mono (code_set_new_1 (.str x t) (E := E) (Q₁ := fun obj s₁ => ∃ led : Bool, obj = .ref s.heap.objs.size ∧ s₁ = { s with heap := s.heap.push { cls := .type "set", dict := none, data := .set #[] 0 (.fresh 0 0 led) } }) fun led => ⟨led, rfl, rfl⟩) fun r s₁ hr => ?_
  cases r with
  | error e => exact hr
  | ok fl =>
    cases fl with
    | ret obj =>
      obtain ⟨led, rfl, rfl⟩ := hr
      obtain ⟨hp, hhp⟩ : ∃ hp, s.heap.push { cls := .type "set", dict := none, data := .set #[] 0 (.fresh 0 0 led) } = hp := ⟨_, rfl⟩
      have y1 : hp.get? s.heap.objs.size = some { cls := .type "set", dict := none, data := .set #[] 0 (.fresh 0 0 led) } := by
        rw [← hhp]
        exact Heap.get?_push_size _ rfl
      have y2 : hp.objs.size = s.heap.objs.size + 1 := by
        rw [← hhp]
        exact Heap.size_push ..
      have y3 : ∀ b o, s.heap.get? b = some o → hp.get? b = some o := fun b o e => by
        rw [← hhp]
        exact Heap.get?_push_of_some _ e
      rw [hhp]
      have hT : Shared.TypeIs { s with heap := hp } (.ref s.heap.objs.size) "set" := ⟨_, y1, rfl⟩
      have y4 := PySem.F.called_set.init.lookup
      have y5 := PySem.F.called_set.init.bind (.ref s.heap.objs.size)
      repeat (any_goals (first | assumption | wp_step))
      refine codeAny_mono (codeAny_call_builtin (R := wants (fun r s₂ => r = .none ∧ ∃ h' tk, s₂ = { s with heap := h', toks := tk } ∧
          h'.SetOf (PySem.strKind prog w) s.heap.objs.size (fun z => ((signsOf x).take x.cps.size).any (· == z)) (dct (signsOf x) x.cps.size) ∧
          (∀ b o, b < s.heap.objs.size → s.heap.get? b = some o → h'.get? b = some o)) E) PySem.F.called_set.init.plain PySem.F.entry_set_init (check_set_init_1 hT ?_)) fun r₂ s₂ hr₂ => ?_
      · have sb1 := PySem.F.sub_str_set
        have sb2 := PySem.F.sub_str_frozenset
        have sb3 : (Value.type "str" == Value.type "dict") = false := by decide
        unfold Builtin.«set.__init__» noKeywords Builtin.Frozenset.updateFrom
        generalize hPI : pyIter = PI
        wp_walk
        subst hPI
        refine wpAny_pyIter_strU ?_
        refine wpAny_bind (wpAny_runValue ?_)
        have hh3 : A.in1.in1.in1.handled = none := by simp [hh]
        have z1 : s.heap.objs.size ∉ [hp.objs.size] := by
          rw [y2]
          simp
        refine fill ((walkStr hh3 _ x t).toS) s.heap.objs.size z1 (signsOf x) (signsOf_len x) hn ?_ (x.cps.size - 0) 0 _ (by omega) (Nat.zero_le _)
          ⟨_, Heap.get?_push_size _ rfl, rfl, rfl⟩ ?_ ?_
        · rintro i v ⟨c, u, hc, rfl⟩
          refine ⟨u, ?_⟩
          unfold signsOf
          rw [List.getD_eq_getElem?_getD, List.getElem?_map, Array.getElem?_toList, hc]
          rfl
        · have z2 : (hp.push { cls := .type (strIterType x), data := .fields #[.str x t, .int 0 0] }).get? s.heap.objs.size = some { cls := .type "set", dict := none, data := .set #[] 0 (.fresh 0 0 led) } := Heap.get?_push_of_some _ y1
          exact SetOf_congr ((setObjOf_fresh (knd := PySem.strKind prog w) led).setOf z2 (by unfold scanBound; omega)) (fun _ => rfl) rfl
        · intro s' mv hS'
          obtain ⟨h', g', d', tk', os'⟩ := s'
          obtain rfl : g' = s.gens := mv.gens
          obtain rfl : d' = s.drawn := mv.drawn
          obtain rfl : os' = s.os := mv.os
          refine wpAny_pure ?_
          show wpAny _ _ (ret Value.none) _ _ _
          refine wpAny_pure ⟨rfl, h', tk', rfl, hS', fun b o hb e => ?_⟩
          refine mv.heap b o ?_ (Heap.get?_push_of_some _ (y3 b o e))
          rw [y2]
          simp only [List.mem_cons, List.not_mem_nil, or_false, not_or]
          exact ⟨Nat.ne_of_lt hb, Nat.ne_of_lt (Nat.lt_succ_of_lt hb)⟩
      · cases r₂ with
        | error e => exact hr₂
        | ok fl₂ =>
          cases fl₂ with
          | ret r =>
            obtain ⟨rfl, h', tk, rfl, hS', hk'⟩ := hr₂
            repeat (any_goals (first | assumption | wp_step))
            exact h _ _ hS' hk'
          | _ => exact hr₂.elim
    | _ => exact hr.elim
end
end ST

namespace EN
open PySem PySem.Spec PyProof.Rows L2
/-! ### len(set(text)) -/
def tLenSetS (ta : TE) : TE := fun σ H Q => ta σ H fun x H1 => ∃ z : Str, x = .str z ∧ z.cps.size < 1000 ∧ Q (.int (ST.dct (ST.signsOf z) z.cps.size)) H1
theorem pe_lenSetS {X : Cx} {a : Expr} {ta : TE} {p p2 q pos : Pos} (hc : X.calm = true) (hg : Gl X "len") (hm : X.mg "len" = none) (hg2 : Gl X "set") (hm2 : X.mg "set" = none) (ha : PE X a ta)
    (na : starEach [a] X.env = (false, eval a X.env) :: starEach [] X.env := by rfl) : PE X (.Call (.Name "len" p) [.Call (.Name "set" p2) [a] [] q] [] pos) (tLenSetS ta) := by
  refine ⟨fun pins s σ H Q I h => Call_ (ld_blt I hg hm PySem.boot_len (callWith_builtin1 (args_cons (Call_ (ld_blt I hg2 hm2 boot_set ?_)) rfl) rfl rfl))⟩
  refine callWith_type1 (args_cons (thn (ha.run pins s σ H _ I h) fun v s1 ⟨x, H1, I1, r1, z, ex, hz, q1⟩ => args_nil ?_) na) na rfl
  subst ex
  obtain ⟨t, rfl⟩ := r1
  refine ST.call_set_text (I1.ok.hd hc) (by unfold scanBound; omega) fun h' tk hS hk => args_nil ?_
  obtain ⟨o, es, ep, t, ho, hex, hd, _, _, _, hf, hn⟩ := hS
  have I2 : Inv X pins σ H1 { s1 with heap := h', toks := tk } := I1.kept fun b o e => hk b o (Heap.lt_size e) e
  have hd2 := ST.dct_le (ST.signsOf z) z.cps.size
  exact call_len_set ho hex hd hf (by rw [hn]; omega) ⟨.int _, H1, I2.tok _, ⟨_, by rw [hn]⟩, q1⟩

/-! ### enumerate over a text, over a tuple -/
def ItS (x : Str) : It := ⟨fun i _ => i < x.cps.size,
  fun i H v H' => ∃ T c, v = .ref T ∧ H T = none ∧ H' = upd H T (.tup [.int (i : Nat), .str ⟨#[c]⟩]) ∧ x.cps[i]? = some c, fun i _ => i = x.cps.size⟩
def ItT (K : PySem.W.Frag) (a : Addr) : It := ⟨fun i H => ∃ (xs : List V) (x : V), SqT K H a xs ∧ xs[i]? = some x,
  fun i H v H' => ∃ T x, v = .ref T ∧ H T = none ∧ H' = upd H T (.tup [.int (i : Nat), x]) ∧ ∀ xs, SqT K H a xs → xs[i]? = some x, fun i H => ∃ xs : List V, SqT K H a xs ∧ i = xs.length⟩
theorem two {e it b : Addr} (h : b ∈ [e, it]) : b = e ∨ b = it := by simpa using h
theorem obj_of {h : Heap} {e it : Addr} {i : Int} {old : Value} (he : IsEnum h e it i old) {o : Obj} (ho : h.get? it = some o) {vs : Array Value} (hd : o.data = .fields vs) : ∀ b ∈ [e, it], ∃ o, h.get? b = some o ∧ ∀ v, o.data ≠ .cell v := fun b hb => by
  rcases two hb with z | z
  · rw [z]; exact ⟨_, he, fun v q => nomatch q⟩
  · rw [z]; exact ⟨o, ho, fun v q => by rw [hd] at q; cases q⟩
theorem turn_enumS {P : Program} {w : World} {K : PySem.W.Frag} {elts : List Expr} {kk : Nat} {tpos : Pos} (x : Str) (t : Tok) (e it : Addr) :
    Turn P w K (.Tuple elts kk tpos) (ItS x) [e, it] e (fun i h => (∃ old, IsEnum h e it ((i : Nat) : Int) old) ∧ h.IsStrIter it (strIterType x) x t i ∧ e ≠ it) where
  mem := List.mem_cons_self
  obj := fun i h st b hb => by
    obtain ⟨⟨old, he⟩, ⟨o, ho, _, hd⟩, _⟩ := st
    exact obj_of he ho hd b hb
  keep := fun i h h' st k => by
    obtain ⟨⟨old, he⟩, ⟨o, ho, r⟩, hne⟩ := st
    exact ⟨⟨old, k e (by simp) _ he⟩, ⟨o, k it (by simp) _ ho, r⟩, hne⟩
  item := by
    intro X hP hw hK hc i pins s σ H E I hf st hg
    subst hP hw hK
    obtain ⟨⟨old, he⟩, hit, hne⟩ := st
    have D := ZS.drawsS (prog := X.prog) (w := X.w) (A := X.A.in1) (I.ok.hd hc) it x t
    have l1 : e < s.heap.objs.size := Heap.lt_size he
    have l2 : it < s.heap.objs.size := by obtain ⟨_, q, _⟩ := hit; exact Heap.lt_size q
    refine wpAny_pyNext_enum_itemD D he hit hg hne (by simpa using hne) fun v h' tk hv ho hit' hT hsz hk => ?_
    obtain ⟨c, u, hcx, rfl⟩ := hv
    refine ⟨_, rfl, wpAny_letOwnedTupleGo_enum (s := { s with heap := h', toks := tk + 1 }) ho fun h2 he2 sb => ?_⟩
    have hT2 : h2.get? s.heap.objs.size = some { cls := .type "tuple", data := .seq #[.int i tk, .str ⟨#[c]⟩ u] } := (sb.2 _ (Nat.ne_of_gt l1)).trans hT
    have new : ObjOk X.prog X.w (upd H s.heap.objs.size (.tup [.int (i : Nat), .str ⟨#[c]⟩])) h2 s.heap.objs.size (.tup [.int (i : Nat), .str ⟨#[c]⟩]) :=
      ⟨by show 2 ≤ sizeLine; decide, [.int i tk, .str ⟨#[c]⟩ u], .cons ⟨_, rfl⟩ (.cons ⟨u, rfl⟩ .nil), ⟨_, hT2, rfl, _, rfl⟩⟩
    have I1 := I.turnedNew (t' := tk + 1) (ch := [e, it]) (fun b ob hb q => (sb.2 b (fun z => hb (by simp [z]))).trans (hk b ob (fun z => hb (by simp [z])) (fun z => hb (by simp [z])) q)) hf (Nat.le_refl _) new
    refine ⟨.ref s.heap.objs.size, _, I1, rfl, ⟨_, c, rfl, I.hok.fresh (Nat.le_refl _), rfl, hcx⟩, ⟨⟨.str ⟨#[c]⟩ u, ?_⟩, ?_, hne⟩, fun b hb => ?_⟩
    · rw [show ((i + 1 : Nat) : Int) = (i : Int) + 1 by omega]
      exact he2
    · obtain ⟨o, q, r⟩ := hit'
      exact ⟨o, (sb.2 it (Ne.symm hne)).trans q, r⟩
    · rw [upd_ne (show b ≠ s.heap.objs.size from fun q => by
        rcases two hb with z | z
        · rw [← q, z] at l1; exact Nat.lt_irrefl _ l1
        · rw [← q, z] at l2; exact Nat.lt_irrefl _ l2)]
      exact (hf b hb).1
  done := by
    intro X hP hw hK hc i pins s σ H E I hf st hg
    subst hP hw hK
    obtain ⟨⟨old, he⟩, hit, hne⟩ := st
    have hg : i = x.cps.size := hg
    subst hg
    have D := ZS.drawsS (prog := X.prog) (w := X.w) (A := X.A.in1) (I.ok.hd hc) it x t
    refine wpAny_pyNext_enum_endD D he hit fun h' eb => ⟨rfl, I.turnedL (t' := s.toks) (ch := [e, it]) (fun b o hb q => eb b o (fun z => hb (by simp [z])) q) hf⟩
  self := fun A i s Q E st h => by
    obtain ⟨⟨_, he⟩, _⟩ := st
    exact wpAny_pyIter_enum he h
theorem turn_enumT {P : Program} {w : World} {K : PySem.W.Frag} {elts : List Expr} {kk : Nat} {tpos : Pos} (a e it : Addr) :
    Turn P w K (.Tuple elts kk tpos) (ItT K a) [e, it] e (fun i h => (∃ old, IsEnum h e it ((i : Nat) : Int) old) ∧ h.IsTupleIter it a i ∧ e ≠ it ∧ a ≠ it ∧ a ≠ e) where
  mem := List.mem_cons_self
  obj := fun i h st b hb => by
    obtain ⟨⟨old, he⟩, ⟨o, ho, _, hd⟩, _⟩ := st
    exact obj_of he ho hd b hb
  keep := fun i h h' st k => by
    obtain ⟨⟨old, he⟩, ⟨o, ho, r⟩, hne⟩ := st
    exact ⟨⟨old, k e (by simp) _ he⟩, ⟨o, k it (by simp) _ ho, r⟩, hne⟩
  item := by
    intro X hP hw hK hc i pins s σ H E I hf st hg
    subst hP hw hK
    obtain ⟨⟨old, he⟩, hit, hne, hai, hae⟩ := st
    obtain ⟨xs, x, hq, hx⟩ := hg
    obtain ⟨its, rv, p, hz⟩ := I.tuple hq
    obtain ⟨u, hu, ru⟩ := rv.get hx
    have hlt : i < its.toArray.size := by
      have := (List.getElem?_eq_some_iff.mp hu).1
      simpa using this
    have D := Draws.tuple (prog := X.prog) (w := X.w) (A := X.A.in1) (I.ok.hd hc) it a hai its.toArray
    have l1 : e < s.heap.objs.size := Heap.lt_size he
    have l2 : it < s.heap.objs.size := by obtain ⟨_, q, _⟩ := hit; exact Heap.lt_size q
    have hef : e ∉ [it, a] := by
      intro q
      rcases two q with z | z
      · exact hne z
      · exact hae z.symm
    refine wpAny_pyNext_enum_itemD D he ⟨hit, p⟩ hlt hne hef fun v h' tk hv ho hit' hT hsz hk => ?_
    obtain rfl : v = u := by
      have q : its.toArray[i]? = some v := hv
      rw [List.getElem?_toArray, hu] at q
      exact (Option.some.inj q).symm
    refine ⟨_, rfl, wpAny_letOwnedTupleGo_enum (s := { s with heap := h', toks := tk + 1 }) ho fun h2 he2 sb => ?_⟩
    have hT2 : h2.get? s.heap.objs.size = some { cls := .type "tuple", data := .seq #[.int i tk, v] } := (sb.2 _ (Nat.ne_of_gt l1)).trans hT
    have new : ObjOk X.prog X.w (upd H s.heap.objs.size (.tup [.int (i : Nat), x])) h2 s.heap.objs.size (.tup [.int (i : Nat), x]) :=
      ⟨by show 2 ≤ sizeLine; decide, [.int i tk, v], .cons ⟨_, rfl⟩ (.cons ru .nil), ⟨_, hT2, rfl, _, rfl⟩⟩
    have I1 := I.turnedNew (t' := tk + 1) (ch := [e, it]) (fun b ob hb q => (sb.2 b (fun z => hb (by simp [z]))).trans (hk b ob (fun z => hb (by simp [z])) (fun z => hb (by simp [z])) q)) hf (Nat.le_refl _) new
    refine ⟨.ref s.heap.objs.size, _, I1, rfl, ⟨_, x, rfl, I.hok.fresh (Nat.le_refl _), rfl, fun ys hy => by rw [I.tuple_inj hy hq]; exact hx⟩, ⟨⟨v, ?_⟩, ?_, hne, hai, hae⟩, fun b hb => ?_⟩
    · rw [show ((i + 1 : Nat) : Int) = (i : Int) + 1 by omega]
      exact he2
    · obtain ⟨o, q, r⟩ := hit'.1
      exact ⟨o, (sb.2 it (Ne.symm hne)).trans q, r⟩
    · rw [upd_ne (show b ≠ s.heap.objs.size from fun q => by
        rcases two hb with z | z
        · rw [← q, z] at l1; exact Nat.lt_irrefl _ l1
        · rw [← q, z] at l2; exact Nat.lt_irrefl _ l2)]
      exact (hf b hb).1
  done := by
    intro X hP hw hK hc i pins s σ H E I hf st hg
    subst hP hw hK
    obtain ⟨⟨old, he⟩, hit, hne, hai, hae⟩ := st
    obtain ⟨xs, hq, hx⟩ := hg
    obtain ⟨its, rv, p, hz⟩ := I.tuple hq
    have D := Draws.tuple (prog := X.prog) (w := X.w) (A := X.A.in1) (I.ok.hd hc) it a hai its.toArray
    have hl := rv.length
    have hn : i = its.toArray.size := by
      rw [List.size_toArray]
      omega
    subst hn
    refine wpAny_pyNext_enum_endD D he ⟨hit, p⟩ fun h' eb => ⟨rfl, I.turnedL (t' := s.toks) (ch := [e, it]) (fun b o hb q => eb b o (fun z => hb (by simp [z])) q) hf⟩
  self := fun A i s Q E st h => by
    obtain ⟨⟨_, he⟩, _⟩ := st
    exact wpAny_pyIter_enum he h
theorem meets_enumT (a : Addr) (xs : Array Value) :
    Meets (Builtin.«enumerate.__new__» ⟨[.type "enumerate", .ref a], []⟩) (fun _ R s => s.heap.IsTuple a xs ∧
      R (.ok (.ret (.ref (s.heap.push { cls := .type "tuple_iterator", data := .fields #[.ref a, .int 0 0] }).objs.size)))
        { s with heap := (s.heap.push { cls := .type "tuple_iterator", data := .fields #[.ref a, .int 0 0] }).push { cls := .type "enumerate", data := .fields #[.none, .bool false, .ref s.heap.objs.size, rawInt 0, .none, .none] } }) :=
  .of_wp fun prog w A R s h => by
    obtain ⟨hp, g, d, tk, os⟩ := s
    obtain ⟨hl, h⟩ := h
    have hsub := sub_enumerate
    have hL : Heap.IsTuple (Shared.heap ⟨hp, g, d, tk, os⟩) a xs := hl
    wp_walk
    refine wpAny_stack_any fun st => wpAny_pure ?_
    split
    · rename_i c _ _ _ _ _
      cases (c == Value.type "enumerate")
      all_goals
        wp_walk using wpAny_pyIter_tuple hL
        exact ⟨_, rfl, h⟩
    · wp_walk using wpAny_pyIter_tuple hL
      exact ⟨_, rfl, h⟩
section
variable {X : Cx}
def iEnumS (ta : TA) : TI := fun σ H R => ta σ H fun vs H1 => ∃ x, vs = [.str x] ∧ R (ItS x) H1
theorem pi_enumS {e : Expr} {ta : TA} {p pos tpos : Pos} {elts : List Expr} {kk : Nat} (hg : Gl X "enumerate") (hm : X.mg "enumerate" = none) (ha : PA X [e] ta) (hs : starEach [e] X.env = [(false, eval e X.env)] := by rfl) :
    PI X (.Tuple elts kk tpos) (.Call (.Name "enumerate" p) [e] [] pos) (iEnumS ta) := by
  refine ⟨fun pins s σ H R I h => Call_ (ld_blt I hg hm boot_enumerate (callWith_type1 (thn (ha.run pos pins s σ H _ I h) fun us s1 ⟨vs, H1, I1, r1, q1⟩ => ?_) hs rfl))⟩
  obtain ⟨x, ex, q⟩ := q1
  subst ex
  cases r1 with
  | cons r rr =>
    cases rr
    obtain ⟨t, rfl⟩ := r
    refine call_enumerate_str fun h' he hit hsz hk => wpAny_pyIter_enum he ?_
    refine ⟨s1.heap.objs.size + 1, _, _, _, H1, rfl, I1.kept (t' := s1.toks) hk, turn_enumS x t (s1.heap.objs.size + 1) s1.heap.objs.size, ⟨⟨.none, he⟩, hit, Nat.succ_ne_self _⟩, fun b hb => ?_, q⟩
    have hle : s1.heap.objs.size ≤ b := by
      rcases two hb with z | z <;> rw [z] <;> first | exact Nat.le_add_right _ _ | exact Nat.le_refl _
    exact I1.fpOk hle (I1.hok.fresh hle)
def iEnumT (K : PySem.W.Frag) (ta : TA) : TI := fun σ H R => ta σ H fun vs H1 => ∃ a xs, vs = [.ref a] ∧ SqT K H1 a xs ∧ R (ItT K a) H1
theorem pi_enumT {e : Expr} {ta : TA} {p pos tpos : Pos} {elts : List Expr} {kk : Nat} (hg : Gl X "enumerate") (hm : X.mg "enumerate" = none) (ha : PA X [e] ta) (hs : starEach [e] X.env = [(false, eval e X.env)] := by rfl) :
    PI X (.Tuple elts kk tpos) (.Call (.Name "enumerate" p) [e] [] pos) (iEnumT X.K ta) := by
  refine ⟨fun pins s σ H R I h => Call_ (ld_blt I hg hm boot_enumerate (callWith_type1 (thn (ha.run pos pins s σ H _ I h) fun us s1 ⟨vs, H1, I1, r1, q1⟩ => ?_) hs rfl))⟩
  obtain ⟨a, xs, ex, hq, q⟩ := q1
  subst ex
  cases r1 with
  | cons r rr =>
    cases rr
    cases r
    obtain ⟨its, rv, p', hz⟩ := I1.tuple hq
    obtain ⟨oa, hoa, _⟩ := id p'
    have la : a < s1.heap.objs.size := Heap.lt_size hoa
    refine callType_new F.called_enumerate (by decide) (F.typeCall_enumerate_1 _) (F.newCall_enumerate_1 _) (fun obj => F.args_object_init_2 obj _) F.entry_enumerate_new (meets_enumT a its.toArray) ⟨p', ?_⟩
    have hz : (s1.heap.push { cls := .type "tuple_iterator", data := .fields #[.ref a, .int 0 0] }).objs.size = s1.heap.objs.size + 1 := Heap.size_push ..
    show _ ∧ _
    rw [hz]
    have g1 := Heap.get?_push_size (s1.heap.push { cls := .type "tuple_iterator", data := .fields #[.ref a, .int 0 0] }) (o := { cls := .type "enumerate", data := .fields #[.none, .bool false, .ref s1.heap.objs.size, rawInt 0, .none, .none] }) rfl
    rw [hz] at g1
    have he : IsEnum ((s1.heap.push { cls := .type "tuple_iterator", data := .fields #[.ref a, .int 0 0] }).push { cls := .type "enumerate", data := .fields #[.none, .bool false, .ref s1.heap.objs.size, rawInt 0, .none, .none] }) (s1.heap.objs.size + 1) s1.heap.objs.size 0 .none := g1
    refine ⟨⟨_, he, rfl⟩, wpAny_pyIter_enum he ?_⟩
    refine ⟨s1.heap.objs.size + 1, _, _, _, H1, rfl, I1.kept (t' := s1.toks) fun b o e => Heap.get?_push_of_some _ (Heap.get?_push_of_some _ e), turn_enumT a (s1.heap.objs.size + 1) s1.heap.objs.size,
      ⟨⟨.none, he⟩, ⟨_, Heap.get?_push_of_some _ (Heap.get?_push_size _ rfl), rfl, rfl⟩, Nat.succ_ne_self _, Nat.ne_of_lt la, Nat.ne_of_lt (Nat.lt_succ_of_lt la)⟩, fun b hb => ?_, q⟩
    have hle : s1.heap.objs.size ≤ b := by
      rcases two hb with z | z <;> rw [z] <;> first | exact Nat.le_add_right _ _ | exact Nat.le_refl _
    exact I1.fpOk hle (I1.hok.fresh hle)
end
/-! ### loops over them -/
theorem for_enumS {x : Str} {g : TG} {tb : TS} {D : Ends} {σ : L2.St} {H : Hp} (Pv : Nat → L2.St → Hp → Prop) (h0 : Pv 0 σ H)
    (hs : ∀ (i c : Nat) (T : Addr) (σ : L2.St) (H : Hp), x.cps[i]? = some c → Pv i σ H → H T = none → g (.ref T) σ (upd H T (.tup [.int (i : Nat), .str ⟨#[c]⟩])) fun σ2 H2 => tb { D with nx := Pv (i + 1), ct := Pv (i + 1), bk := D.nx } σ2 H2)
    (hd : ∀ σ H, Pv x.cps.size σ H → D.nx σ H) :
    ∃ W : Nat → Nat → L2.St → Hp → Prop, (∃ m, W 0 m σ H) ∧ ∀ i m σ H, W i m σ H →
      ((ItS x).stop i H ∧ D.nx σ H) ∨ ((ItS x).go i H ∧ ∃ N : L2.St → Hp → Prop, (∀ σ' H', N σ' H' → ∃ m', m' < m ∧ W (i + 1) m' σ' H') ∧ ∀ v H', (ItS x).yld i H v H' → g v σ H' fun σ2 H2 => tb { D with nx := N, ct := N, bk := D.nx } σ2 H2) := by
  refine ⟨fun i m σ H => i + m = x.cps.size ∧ Pv i σ H, ⟨_, Nat.zero_add _, h0⟩, ?_⟩
  rintro i m σ H ⟨e, p⟩
  by_cases hm : m = 0
  · have e2 : i = x.cps.size := by omega
    refine .inl ⟨e2, hd σ H ?_⟩
    rw [← e2]
    exact p
  · refine .inr ⟨show i < x.cps.size by omega, Pv (i + 1), fun σ' H' p' => ⟨m - 1, by omega, by omega, p'⟩, ?_⟩
    rintro v H' ⟨T, c, rfl, hT, rfl, hc⟩
    exact hs i c T σ H hc p hT
theorem for_enumT {K : PySem.W.Frag} {a : Addr} {xs : List V} {g : TG} {tb : TS} {D : Ends} {σ : L2.St} {H : Hp} (Pv : Nat → L2.St → Hp → Prop) (h0 : Pv 0 σ H) (hq : ∀ i σ H, Pv i σ H → SqT K H a xs)
    (hs : ∀ (i : Nat) (x : V) (T : Addr) (σ : L2.St) (H : Hp), xs[i]? = some x → Pv i σ H → H T = none → g (.ref T) σ (upd H T (.tup [.int (i : Nat), x])) fun σ2 H2 => tb { D with nx := Pv (i + 1), ct := Pv (i + 1), bk := D.nx } σ2 H2)
    (hd : ∀ σ H, Pv xs.length σ H → D.nx σ H) :
    ∃ W : Nat → Nat → L2.St → Hp → Prop, (∃ m, W 0 m σ H) ∧ ∀ i m σ H, W i m σ H →
      ((ItT K a).stop i H ∧ D.nx σ H) ∨ ((ItT K a).go i H ∧ ∃ N : L2.St → Hp → Prop, (∀ σ' H', N σ' H' → ∃ m', m' < m ∧ W (i + 1) m' σ' H') ∧ ∀ v H', (ItT K a).yld i H v H' → g v σ H' fun σ2 H2 => tb { D with nx := N, ct := N, bk := D.nx } σ2 H2) := by
  refine ⟨fun i m σ H => i + m = xs.length ∧ Pv i σ H, ⟨_, Nat.zero_add _, h0⟩, ?_⟩
  rintro i m σ H ⟨e, p⟩
  by_cases hm : m = 0
  · have e2 : i = xs.length := by omega
    refine .inl ⟨⟨xs, hq i σ H p, e2⟩, hd σ H ?_⟩
    rw [← e2]
    exact p
  · have hi : i < xs.length := by omega
    refine .inr ⟨⟨xs, xs[i], hq i σ H p, List.getElem?_eq_getElem hi⟩, Pv (i + 1), fun σ' H' p' => ⟨m - 1, by omega, by omega, p'⟩, ?_⟩
    rintro v H' ⟨T, x, rfl, hT, rfl, hx⟩
    exact hs i x T σ H (hx xs (hq i σ H p)) p hT
theorem for_enumL {K : PySem.W.Frag} {a : Addr} {xs : List V} {g : TG} {tb : TS} {D : Ends} {σ : L2.St} {H : Hp} (Pv : Nat → L2.St → Hp → Prop) (h0 : Pv 0 σ H) (hq : ∀ i σ H, Pv i σ H → SqL K H a xs)
    (hs : ∀ (i : Nat) (x : V) (T : Addr) (σ : L2.St) (H : Hp), xs[i]? = some x → Pv i σ H → H T = none → g (.ref T) σ (upd H T (.tup [.int (i : Nat), x])) fun σ2 H2 => tb { D with nx := Pv (i + 1), ct := Pv (i + 1), bk := D.nx } σ2 H2)
    (hd : ∀ σ H, Pv xs.length σ H → D.nx σ H) :
    ∃ W : Nat → Nat → L2.St → Hp → Prop, (∃ m, W 0 m σ H) ∧ ∀ i m σ H, W i m σ H →
      ((Ite K a).stop i H ∧ D.nx σ H) ∨ ((Ite K a).go i H ∧ ∃ N : L2.St → Hp → Prop, (∀ σ' H', N σ' H' → ∃ m', m' < m ∧ W (i + 1) m' σ' H') ∧ ∀ v H', (Ite K a).yld i H v H' → g v σ H' fun σ2 H2 => tb { D with nx := N, ct := N, bk := D.nx } σ2 H2) := by
  refine ⟨fun i m σ H => i + m = xs.length ∧ Pv i σ H, ⟨_, Nat.zero_add _, h0⟩, ?_⟩
  rintro i m σ H ⟨e, p⟩
  by_cases hm : m = 0
  · have e2 : i = xs.length := by omega
    refine .inl ⟨⟨xs, hq i σ H p, by omega⟩, hd σ H ?_⟩
    rw [← e2]
    exact p
  · have hi : i < xs.length := by omega
    refine .inr ⟨⟨xs, xs[i], hq i σ H p, List.getElem?_eq_getElem hi⟩, Pv (i + 1), fun σ' H' p' => ⟨m - 1, by omega, by omega, p'⟩, ?_⟩
    rintro v H' ⟨T, x, rfl, hT, rfl, hx⟩
    exact hs i x T σ H (hx xs (hq i σ H p)) p hT
end EN

namespace TR
open PySem PySem.Spec PyProof.Rows L2 Evl
/-- a list or a tuple of these -/
def ob (k : Bool) (xs : List V) : HO := if k = true then .tup xs else .lst xs
theorem ob_seq {K : PySem.W.Frag} {H : Hp} {a : Addr} {k : Bool} {xs : List V} (h : H a = some (ob k xs)) : SqL K H a xs ∨ SqT K H a xs := by
  cases k
  · exact .inl (sq_of h)
  · exact .inr (st_of h)
theorem ob_list {K : PySem.W.Frag} {H : Hp} {a : Addr} {k : Bool} {xs : List V} (h : H a = some (ob k xs)) : TyX K H (.ref a) (if k = true then .type "tuple" else .type "list") := by
  cases k
  · exact .base (.lst h)
  · exact .base (.tup h)
theorem ob_ne {k : Bool} {xs : List V} {kvs : List (Key × V)} : ob k xs ≠ .dK kvs := by
  cases k <;> intro h <;> cases h
section
variable {X : Cx} {pos : Pos}
/-- a, b, .. = a list or a tuple of that length -/
def gSeq (K : PySem.W.Frag) (n : Nat) (t : TGs) : TG := fun v σ H Q => gUnl K n t v σ H Q ∨ gTup K n t v σ H Q
theorem pg_seq {es : List Expr} {k : Nat} {t : TGs} {n : Nat} (hc : X.calm = true) (h : PGs X es t)
    (hn : (assignEach es X.env).length = n := by rfl) (hst : (assignEach es X.env).findIdx? (·.1) = none := by rfl) : PG X (.Tuple es k pos) (gSeq X.K n t) := by
  refine ⟨fun pins s σ H v u Q I r hw => ?_⟩
  rcases hw with hw | hw
  · exact (pg_unl hc h hn hst).run pins s σ H v u Q I r hw
  · exact (pg_tup hc h hn hst).run pins s σ H v u Q I r hw
theorem gSeq_of {K : PySem.W.Frag} {n : Nat} {t : TGs} {H : Hp} {a : Addr} {k : Bool} {xs : List V} {σ : L2.St} {Q : L2.St → Hp → Prop} (h : H a = some (ob k xs)) (hl : xs.length = n) (q : t xs σ H Q) : gSeq K n t (.ref a) σ H Q := by
  cases k
  · exact .inl ⟨a, xs, rfl, sq_of h, hl, q⟩
  · exact .inr ⟨a, xs, rfl, st_of h, hl, q⟩
/-- a walk over either -/
def iSeq (K : PySem.W.Frag) (te : TE) : TI := fun σ H R => iList K te σ H R ∨ iTup K te σ H R
theorem pi_seq {tg e : Expr} {te : TE} (he : PE X e te) : PI X tg e (iSeq X.K te) := by
  refine ⟨fun pins s σ H R I h => ?_⟩
  rcases h with h | h
  · exact (pi_list he).run pins s σ H R I h
  · exact (pi_tup he).run pins s σ H R I h
def iEnumQ (K : PySem.W.Frag) (ta : TA) : TI := fun σ H R => iEnum K ta σ H R ∨ EN.iEnumT K ta σ H R
theorem pi_enumQ {e : Expr} {ta : TA} {p tpos : Pos} {elts : List Expr} {kk : Nat} (hg : Gl X "enumerate") (hm : X.mg "enumerate" = none) (ha : PA X [e] ta) (hs : starEach [e] X.env = [(false, eval e X.env)] := by rfl) :
    PI X (.Tuple elts kk tpos) (.Call (.Name "enumerate" p) [e] [] pos) (iEnumQ X.K ta) := by
  refine ⟨fun pins s σ H R I h => ?_⟩
  rcases h with h | h
  · exact (pi_enum hg hm ha hs).run pins s σ H R I h
  · exact (EN.pi_enumT hg hm ha hs).run pins s σ H R I h
theorem ix_at {K : PySem.W.Frag} {H : Hp} {a : Addr} {k : Bool} {xs : List V} {i : Int} {v : V} {Q : VK} (h : H a = some (ob k xs)) (hi : atI xs i = some v) (q : Q v H) : rIx K (.ref a) (.int i) H Q := by
  cases k
  · exact .inl ⟨a, xs, i, v, rfl, rfl, sq_of h, hi, q⟩
  · exact .inr (.inl ⟨a, xs, i, v, rfl, rfl, st_of h, hi, q⟩)
end
/-! ### trees -/
mutual
inductive Tr where
  | go (s q : Nat) : Tr
  | tell (n : Nat) (t : Tr) : Tr
  | read (p : Nat) (ts : Trs) : Tr
inductive Trs where
  | nil : Trs
  | cons (t : Tr) (r : Trs) : Trs
end
def Trs.list : Trs → List Tr
  | .nil => []
  | .cons t r => t :: r.list
mutual
def Tr.size : Tr → Nat
  | .go _ _ => 1
  | .tell _ t => t.size + 1
  | .read _ ts => ts.size + 1
def Trs.size : Trs → Nat
  | .nil => 0
  | .cons t r => t.size + r.size
end
mutual
def Tr.depth : Tr → Nat
  | .go _ _ => 1
  | .tell _ t => t.depth + 1
  | .read _ ts => ts.depth + 1
def Trs.depth : Trs → Nat
  | .nil => 0
  | .cons t r => max t.depth r.depth
end
/-! as described, for so many letters, this width, so many states -/
mutual
def Tr.ok (l w n : Nat) : Tr → Prop
  | .go s q => 1 ≤ s ∧ s ≤ w + 1 ∧ q < n
  | .tell k t => k ≤ 2 ∧ t.ok l w n
  | .read p ts => p ≤ w ∧ ts.list.length = l ∧ ts.ok l w n
def Trs.ok (l w n : Nat) : Trs → Prop
  | .nil => True
  | .cons t r => t.ok l w n ∧ r.ok l w n
end
/-- the trees within -/
def Tr.kids : Tr → List Tr
  | .go _ _ => []
  | .tell _ t => [t]
  | .read _ ts => ts.list
/-! how a tree stands in memory, of lists or of tuples -/
mutual
inductive TA (k : Bool) (H : Hp) : V → Tr → Prop
  | go {a : Addr} {s q : Nat} : H a = some (ob k [.str "go", .int (s : Nat), .int (q : Nat)]) → TA k H (.ref a) (.go s q)
  | tell {a : Addr} {n : Nat} {v : V} {t : Tr} : H a = some (ob k [.str "tell", .int (n : Nat), v]) → TA k H v t → TA k H (.ref a) (.tell n t)
  | read {a b : Addr} {p : Nat} {vs : List V} {ts : Trs} : H a = some (ob k [.str "read", .int (p : Nat), .ref b]) → H b = some (ob k vs) → TAs k H vs ts → TA k H (.ref a) (.read p ts)
inductive TAs (k : Bool) (H : Hp) : List V → Trs → Prop
  | nil : TAs k H [] .nil
  | cons {v : V} {vs : List V} {t : Tr} {r : Trs} : TA k H v t → TAs k H vs r → TAs k H (v :: vs) (.cons t r)
end
mutual
theorem TA.ex {k : Bool} {H H' : Hp} (e : Ex H H') : ∀ {t : Tr} {v : V}, TA k H v t → TA k H' v t
  | _, _, .go h => .go (e _ _ h)
  | _, _, .tell h r => .tell (e _ _ h) (TA.ex e r)
  | _, _, .read h1 h2 r => .read (e _ _ h1) (e _ _ h2) (TAs.ex e r)
theorem TAs.ex {k : Bool} {H H' : Hp} (e : Ex H H') : ∀ {ts : Trs} {vs : List V}, TAs k H vs ts → TAs k H' vs ts
  | _, _, .nil => .nil
  | _, _, .cons h r => .cons (TA.ex e h) (TAs.ex e r)
end
/-- a list of trees as it stands -/
inductive Kids (k : Bool) (H : Hp) : List V → List Tr → Prop
  | nil : Kids k H [] []
  | cons {v : V} {vs : List V} {t : Tr} {r : List Tr} : TA k H v t → Kids k H vs r → Kids k H (v :: vs) (t :: r)
theorem TAs.kids {k : Bool} {H : Hp} : ∀ {ts : Trs} {vs : List V}, TAs k H vs ts → Kids k H vs ts.list
  | _, _, .nil => .nil
  | _, _, .cons h r => .cons h r.kids
theorem Kids.ex {k : Bool} {H H' : Hp} (e : Ex H H') : ∀ {vs : List V} {ts : List Tr}, Kids k H vs ts → Kids k H' vs ts
  | _, _, .nil => .nil
  | _, _, .cons h r => .cons (h.ex e) (Kids.ex e r)
theorem Kids.len {k : Bool} {H : Hp} : ∀ {vs : List V} {ts : List Tr}, Kids k H vs ts → vs.length = ts.length
  | _, _, .nil => rfl
  | _, _, .cons _ r => by rw [List.length_cons, List.length_cons, r.len]
theorem Kids.get {k : Bool} {H : Hp} : ∀ {vs : List V} {ts : List Tr} {i : Nat} {x : V}, Kids k H vs ts → vs[i]? = some x → ∃ t, ts[i]? = some t ∧ TA k H x t
  | _, _, _, _, .nil, h => by cases h
  | _, _, 0, _, .cons (t := t) h1 _, h => ⟨t, rfl, by rw [← Option.some.inj h]; exact h1⟩
  | _, _, i + 1, _, .cons _ r, h => Kids.get (i := i) r h
theorem Kids.snoc {k : Bool} {H : Hp} {v : V} {t : Tr} (h : TA k H v t) : ∀ {vs : List V} {ts : List Tr}, Kids k H vs ts → Kids k H (vs ++ [v]) (ts ++ [t])
  | _, _, .nil => .cons h .nil
  | _, _, .cons h1 r => .cons h1 (Kids.snoc h r)
theorem Kids.app {k : Bool} {H : Hp} : ∀ {vs : List V} {ts : List Tr} {us : List V} {rs : List Tr}, Kids k H vs ts → Kids k H us rs → Kids k H (vs ++ us) (ts ++ rs)
  | _, _, _, _, .nil, h => h
  | _, _, _, _, .cons h r, h2 => .cons h (Kids.app r h2)
theorem size_pos : ∀ t : Tr, 1 ≤ t.size
  | .go _ _ => Nat.le_refl 1
  | .tell _ t => by
    show 1 ≤ t.size + 1
    omega
  | .read _ ts => by
    show 1 ≤ ts.size + 1
    omega
def total (ts : List Tr) : Nat := (ts.map Tr.size).sum
theorem Trs.total : ∀ ts : Trs, TR.total ts.list = ts.size
  | .nil => rfl
  | .cons t r => by
    show t.size + TR.total r.list = t.size + r.size
    rw [Trs.total r]
theorem size_kids : ∀ t : Tr, t.size = TR.total t.kids + 1
  | .go _ _ => rfl
  | .tell _ t => rfl
  | .read _ ts => by
    show ts.size + 1 = TR.total ts.list + 1
    rw [Trs.total]
theorem Trs.ok_mem {l w n : Nat} : ∀ {ts : Trs}, ts.ok l w n → ∀ t ∈ ts.list, t.ok l w n
  | .nil, _, _, h => nomatch h
  | .cons t r, h, x, hx => by
    rcases List.mem_cons.mp hx with q | q
    · rw [q]
      exact h.1
    · exact Trs.ok_mem h.2 x q
theorem ok_kids {l w n : Nat} : ∀ {t : Tr}, t.ok l w n → ∀ x ∈ t.kids, x.ok l w n
  | .go _ _, _, _, h => nomatch h
  | .tell _ t, h, x, hx => by
    rw [List.mem_singleton.mp hx]
    exact h.2
  | .read _ ts, h, x, hx => Trs.ok_mem h.2.2 x hx
theorem Trs.depth_mem : ∀ {ts : Trs}, ∀ t ∈ ts.list, t.depth ≤ ts.depth
  | .nil, _, h => nomatch h
  | .cons t r, x, hx => by
    rcases List.mem_cons.mp hx with q | q
    · rw [q]
      exact Nat.le_max_left _ _
    · exact Nat.le_trans (Trs.depth_mem x q) (Nat.le_max_right _ _)
theorem depth_kids : ∀ {t : Tr}, ∀ x ∈ t.kids, x.depth + 1 ≤ t.depth
  | .go _ _, _, h => nomatch h
  | .tell _ t, x, hx => by
    rw [List.mem_singleton.mp hx]
    exact Nat.le_refl _
  | .read _ ts, x, hx => Nat.succ_le_succ (Trs.depth_mem x hx)
end TR

namespace Law
open PySem PySem.Spec PyProof.Rows L2 Evl
def top (i : Nat) : Stmt := PySem.Challenge.pw_wordskips_k21_whole_searches_by_turns.main.body.getD i (.Pass ⟨0, 0, 0, 0⟩)
abbrev s_kept : Stmt := top 11
abbrev N_kept : List Str := ["value", "part", "key"]
theorem sc_kept : FnScope N_kept ["value"] (defScope s_kept) := ⟨rfl, rfl, rfl, by decide +kernel, rfl, by decide +kernel, by decide +kernel⟩
abbrev s_is_list : Stmt := top 13
abbrev N_is_list : List Str := ["value"]
theorem sc_is_list : FnScope N_is_list ["value"] (defScope s_is_list) := ⟨rfl, rfl, rfl, by decide +kernel, rfl, by decide +kernel, by decide +kernel⟩
abbrev s_is_integer : Stmt := top 14
abbrev N_is_integer : List Str := ["value"]
theorem sc_is_integer : FnScope N_is_integer ["value"] (defScope s_is_integer) := ⟨rfl, rfl, rfl, by decide +kernel, rfl, by decide +kernel, by decide +kernel⟩
abbrev s_is_whole : Stmt := top 15
abbrev N_is_whole : List Str := ["value", "low", "high"]
theorem sc_is_whole : FnScope N_is_whole ["value", "low", "high"] (defScope s_is_whole) := ⟨rfl, rfl, rfl, by decide +kernel, rfl, by decide +kernel, by decide +kernel⟩
abbrev s_are_letters : Stmt := top 16
abbrev N_are_letters : List Str := ["value", "sign"]
theorem sc_are_letters : FnScope N_are_letters ["value"] (defScope s_are_letters) := ⟨rfl, rfl, rfl, by decide +kernel, rfl, by decide +kernel, by decide +kernel⟩
abbrev s_wrong_sign : Stmt := top 17
abbrev N_wrong_sign : List Str := ["letters", "text", "place", "sign"]
theorem sc_wrong_sign : FnScope N_wrong_sign ["letters", "text"] (defScope s_wrong_sign) := ⟨rfl, rfl, rfl, by decide +kernel, rfl, by decide +kernel, by decide +kernel⟩
abbrev s_wrong_word : Stmt := top 18
abbrev N_wrong_word : List Str := ["letters", "words", "place", "word"]
theorem sc_wrong_word : FnScope N_wrong_word ["letters", "words"] (defScope s_wrong_word) := ⟨rfl, rfl, rfl, by decide +kernel, rfl, by decide +kernel, by decide +kernel⟩
abbrev s_is_word : Stmt := top 19
abbrev N_is_word : List Str := ["letters", "value"]
theorem sc_is_word : FnScope N_is_word ["letters", "value"] (defScope s_is_word) := ⟨rfl, rfl, rfl, by decide +kernel, rfl, by decide +kernel, by decide +kernel⟩
abbrev s_check_words : Stmt := top 21
abbrev N_check_words : List Str := ["letters", "words", "place"]
theorem sc_check_words : FnScope N_check_words ["letters", "words"] (defScope s_check_words) := ⟨rfl, rfl, rfl, by decide +kernel, rfl, by decide +kernel, by decide +kernel⟩
abbrev s_fits : Stmt := top 22
abbrev N_fits : List Str := ["known", "word", "offset", "signs", "sign", "letter"]
theorem sc_fits : FnScope N_fits ["known", "word", "offset"] (defScope s_fits) := ⟨rfl, rfl, rfl, by decide +kernel, rfl, by decide +kernel, by decide +kernel⟩
abbrev s_slid : Stmt := top 23
abbrev N_slid : List Str := ["known", "by"]
theorem sc_slid : FnScope N_slid ["known", "by"] (defScope s_slid) := ⟨rfl, rfl, rfl, by decide +kernel, rfl, by decide +kernel, by decide +kernel⟩
abbrev s_turns : Stmt := top 26
abbrev N_turns : List Str := ["searcher", "standing", "letters", "state", "begun", "found", "waiting", "head", "number", "rest", "known", "reads", "tells", "letter", "ahead", "behind", "tree"]
theorem sc_turns : FnScope N_turns ["searcher", "standing"] (defScope s_turns) := ⟨rfl, rfl, rfl, by decide +kernel, rfl, by decide +kernel, by decide +kernel⟩
abbrev s_first_wrong : Stmt := top 29
abbrev N_first_wrong : List Str := ["tree", "letters", "width", "states", "waiting", "number", "part", "depth", "inner"]
theorem sc_first_wrong : FnScope N_first_wrong ["tree", "letters", "width", "states"] (defScope s_first_wrong) := ⟨rfl, rfl, rfl, by decide +kernel, rfl, by decide +kernel, by decide +kernel⟩
abbrev s_all_parts : Stmt := top 30
abbrev N_all_parts : List Str := ["tree", "waiting", "found", "part", "inner"]
theorem sc_all_parts : FnScope N_all_parts ["tree"] (defScope s_all_parts) := ⟨rfl, rfl, rfl, by decide +kernel, rfl, by decide +kernel, by decide +kernel⟩
abbrev s_renamed : Stmt := top 31
abbrev N_renamed : List Str := ["tree", "names", "head", "number", "rest", "inner"]
theorem sc_renamed : FnScope N_renamed ["tree", "names"] (defScope s_renamed) := ⟨rfl, rfl, rfl, by decide +kernel, rfl, by decide +kernel, by decide +kernel⟩
abbrev s_followed : Stmt := top 32
abbrev N_followed : List Str := ["tree", "letters", "signs", "reads", "tells", "head", "number", "rest"]
theorem sc_followed : FnScope N_followed ["tree", "letters", "signs"] (defScope s_followed) := ⟨rfl, rfl, rfl, by decide +kernel, rfl, by decide +kernel, by decide +kernel⟩
abbrev s_is_part : Stmt := top 35
abbrev N_is_part : List Str := ["part", "letters", "width", "states", "head", "number", "rest"]
theorem sc_is_part : FnScope N_is_part ["part", "letters", "width", "states"] (defScope s_is_part) := ⟨rfl, rfl, rfl, by decide +kernel, rfl, by decide +kernel, by decide +kernel⟩
abbrev s_within : Stmt := top 36
abbrev N_within : List Str := ["part"]
theorem sc_within : FnScope N_within ["part"] (defScope s_within) := ⟨rfl, rfl, rfl, by decide +kernel, rfl, by decide +kernel, by decide +kernel⟩
abbrev s_made : Stmt := top 51
abbrev N_made : List Str := ["letters", "word", "way", "states_of"]
theorem sc_made : FnScope N_made ["letters", "word", "way"] (defScope s_made) := ⟨rfl, rfl, rfl, by decide +kernel, rfl, by decide +kernel, by decide +kernel⟩
abbrev s_borders : Stmt := top 52
abbrev N_borders : List Str := ["word", "found", "size", "less"]
theorem sc_borders : FnScope N_borders ["word"] (defScope s_borders) := ⟨rfl, rfl, rfl, by decide +kernel, rfl, by decide +kernel, by decide +kernel⟩
abbrev s_period : Stmt := top 53
abbrev N_period : List Str := ["word"]
theorem sc_period : FnScope N_period ["word"] (defScope s_period) := ⟨rfl, rfl, rfl, by decide +kernel, rfl, by decide +kernel, by decide +kernel⟩
abbrev s_steps_down : Stmt := top 54
abbrev N_steps_down : List Str := ["borders", "size", "steps"]
theorem sc_steps_down : FnScope N_steps_down ["borders", "size"] (defScope s_steps_down) := ⟨rfl, rfl, rfl, by decide +kernel, rfl, by decide +kernel, by decide +kernel⟩
abbrev s_reading : Stmt := top 55
abbrev N_reading : List Str := ["letters", "word", "places", "unlike", "end", "tree", "place", "letter"]
theorem sc_reading : FnScope N_reading ["letters", "word", "places", "unlike", "end"] (defScope s_reading) := ⟨rfl, rfl, rfl, by decide +kernel, rfl, by decide +kernel, by decide +kernel⟩
abbrev s_from_left : Stmt := top 56
abbrev N_from_left : List Str := ["letters", "word", "unlike", "size", "border", "end", "state"]
theorem sc_from_left : FnScope N_from_left ["letters", "word", "unlike"] (defScope s_from_left) := ⟨rfl, rfl, rfl, by decide +kernel, rfl, by decide +kernel, by decide +kernel⟩
abbrev s_by_borders : Stmt := top 57
abbrev N_by_borders : List Str := ["letters", "word", "borders"]
theorem sc_by_borders : FnScope N_by_borders ["letters", "word"] (defScope s_by_borders) := ⟨rfl, rfl, rfl, by decide +kernel, rfl, by decide +kernel, by decide +kernel⟩
abbrev s_by_strict_borders : Stmt := top 58
abbrev N_by_strict_borders : List Str := ["letters", "word", "borders", "steps", "step"]
theorem sc_by_strict_borders : FnScope N_by_strict_borders ["letters", "word"] (defScope s_by_strict_borders) := ⟨rfl, rfl, rfl, by decide +kernel, rfl, by decide +kernel, by decide +kernel⟩
abbrev s_by_letters : Stmt := top 59
abbrev N_by_letters : List Str := ["letters", "word", "borders", "steps", "step"]
theorem sc_by_letters : FnScope N_by_letters ["letters", "word"] (defScope s_by_letters) := ⟨rfl, rfl, rfl, by decide +kernel, rfl, by decide +kernel, by decide +kernel⟩
abbrev s_one_from_left : Stmt := top 60
abbrev N_one_from_left : List Str := ["letters", "word", "behind"]
theorem sc_one_from_left : FnScope N_one_from_left ["letters", "word", "behind"] (defScope s_one_from_left) := ⟨rfl, rfl, rfl, by decide +kernel, rfl, by decide +kernel, by decide +kernel⟩
abbrev s_plain : Stmt := top 61
abbrev N_plain : List Str := ["letters", "word"]
theorem sc_plain : FnScope N_plain ["letters", "word"] (defScope s_plain) := ⟨rfl, rfl, rfl, by decide +kernel, rfl, by decide +kernel, by decide +kernel⟩
abbrev s_by_last_letter : Stmt := top 62
abbrev N_by_last_letter : List Str := ["letters", "word", "last", "slides", "letter"]
theorem sc_by_last_letter : FnScope N_by_last_letter ["letters", "word"] (defScope s_by_last_letter) := ⟨rfl, rfl, rfl, by decide +kernel, rfl, by decide +kernel, by decide +kernel⟩
abbrev s_by_letter_behind : Stmt := top 63
abbrev N_by_letter_behind : List Str := ["letters", "word", "size", "slides", "letter"]
theorem sc_by_letter_behind : FnScope N_by_letter_behind ["letters", "word"] (defScope s_by_letter_behind) := ⟨rfl, rfl, rfl, by decide +kernel, rfl, by decide +kernel, by decide +kernel⟩
abbrev s_from_right : Stmt := top 64
abbrev N_from_right : List Str := ["letters", "word", "slide", "least_place", "end", "places"]
theorem sc_from_right : FnScope N_from_right ["letters", "word", "slide", "least_place", "end"] (defScope s_from_right) := ⟨rfl, rfl, rfl, by decide +kernel, rfl, by decide +kernel, by decide +kernel⟩
abbrev s_bad_letter_slide : Stmt := top 65
abbrev N_bad_letter_slide : List Str := ["word", "place", "letter"]
theorem sc_bad_letter_slide : FnScope N_bad_letter_slide ["word", "place", "letter"] (defScope s_bad_letter_slide) := ⟨rfl, rfl, rfl, by decide +kernel, rfl, by decide +kernel, by decide +kernel⟩
abbrev s_good_end_slide : Stmt := top 66
abbrev N_good_end_slide : List Str := ["word", "place", "size", "by", "first", "is_like"]
theorem sc_good_end_slide : FnScope N_good_end_slide ["word", "place"] (defScope s_good_end_slide) := ⟨rfl, rfl, rfl, by decide +kernel, rfl, by decide +kernel, by decide +kernel⟩
abbrev s_by_bad_letter : Stmt := top 67
abbrev N_by_bad_letter : List Str := ["letters", "word"]
theorem sc_by_bad_letter : FnScope N_by_bad_letter ["letters", "word"] (defScope s_by_bad_letter) := ⟨rfl, rfl, rfl, by decide +kernel, rfl, by decide +kernel, by decide +kernel⟩
abbrev s_by_good_end : Stmt := top 68
abbrev N_by_good_end : List Str := ["letters", "word"]
theorem sc_by_good_end : FnScope N_by_good_end ["letters", "word"] (defScope s_by_good_end) := ⟨rfl, rfl, rfl, by decide +kernel, rfl, by decide +kernel, by decide +kernel⟩
abbrev s_by_both_down_to : Stmt := top 69
abbrev N_by_both_down_to : List Str := ["letters", "word", "least_place", "end"]
theorem sc_by_both_down_to : FnScope N_by_both_down_to ["letters", "word", "least_place", "end"] (defScope s_by_both_down_to) := ⟨rfl, rfl, rfl, by decide +kernel, rfl, by decide +kernel, by decide +kernel⟩
abbrev s_by_both : Stmt := top 70
abbrev N_by_both : List Str := ["letters", "word"]
theorem sc_by_both : FnScope N_by_both ["letters", "word"] (defScope s_by_both) := ⟨rfl, rfl, rfl, by decide +kernel, rfl, by decide +kernel, by decide +kernel⟩
abbrev s_by_both_and_known : Stmt := top 71
abbrev N_by_both_and_known : List Str := ["letters", "word", "period", "border", "end", "least_place"]
theorem sc_by_both_and_known : FnScope N_by_both_and_known ["letters", "word"] (defScope s_by_both_and_known) := ⟨rfl, rfl, rfl, by decide +kernel, rfl, by decide +kernel, by decide +kernel⟩
abbrev s_by_all_knowledge : Stmt := top 72
abbrev N_by_all_knowledge : List Str := ["letters", "word", "numbers", "states", "known", "places", "place"]
theorem sc_by_all_knowledge : FnScope N_by_all_knowledge ["letters", "word"] (defScope s_by_all_knowledge) := ⟨rfl, rfl, rfl, by decide +kernel, rfl, by decide +kernel, by decide +kernel⟩
abbrev s_known_tree : Stmt := top 73
abbrev N_known_tree : List Str := ["letters", "word", "known", "places", "numbers", "place", "trees", "letter", "more"]
theorem sc_known_tree : FnScope N_known_tree ["letters", "word", "known", "places", "numbers"] (defScope s_known_tree) := ⟨rfl, rfl, rfl, by decide +kernel, rfl, by decide +kernel, by decide +kernel⟩
abbrev s_known_go : Stmt := top 74
abbrev N_known_go : List Str := ["word", "known", "numbers", "slide", "by", "after"]
theorem sc_known_go : FnScope N_known_go ["word", "known", "numbers"] (defScope s_known_go) := ⟨rfl, rfl, rfl, by decide +kernel, rfl, by decide +kernel, by decide +kernel⟩
abbrev s_trace : Stmt := top 79
abbrev N_trace : List Str := ["searcher", "text", "wrong"]
theorem sc_trace : FnScope N_trace ["searcher", "text"] (defScope s_trace) := ⟨rfl, rfl, rfl, by decide +kernel, rfl, by decide +kernel, by decide +kernel⟩
abbrev s_searched : Stmt := top 80
abbrev N_searched : List Str := ["searcher", "text", "windows", "told", "place", "state", "signs", "reads", "tells", "go", "number", "_", "slide"]
theorem sc_searched : FnScope N_searched ["searcher", "text"] (defScope s_searched) := ⟨rfl, rfl, rfl, by decide +kernel, rfl, by decide +kernel, by decide +kernel⟩
abbrev s_lpen_of : Stmt := top 82
abbrev N_lpen_of : List Str := ["_law_script"]
theorem sc_lpen_of : FnScope N_lpen_of ["_law_script"] (defScope s_lpen_of) := ⟨rfl, rfl, rfl, by decide +kernel, rfl, by decide +kernel, by decide +kernel⟩
abbrev s_ldraw : Stmt := top 83
abbrev N_ldraw : List Str := ["_law_pen", "_law_many", "_law_digit", "_law_place", "_law_size", "_law_told", "_law_blend"]
theorem sc_ldraw : FnScope N_ldraw ["_law_pen", "_law_many"] (defScope s_ldraw) := ⟨rfl, rfl, rfl, by decide +kernel, rfl, by decide +kernel, by decide +kernel⟩
abbrev s_lpick : Stmt := top 84
abbrev N_lpick : List Str := ["_law_pen", "_law_menu"]
theorem sc_lpick : FnScope N_lpick ["_law_pen", "_law_menu"] (defScope s_lpick) := ⟨rfl, rfl, rfl, by decide +kernel, rfl, by decide +kernel, by decide +kernel⟩
abbrev s_lletters_of : Stmt := top 85
abbrev N_lletters_of : List Str := ["_law_pen", "_law_many", "_law_left", "_law_found", "_law_k"]
theorem sc_lletters_of : FnScope N_lletters_of ["_law_pen", "_law_many"] (defScope s_lletters_of) := ⟨rfl, rfl, rfl, by decide +kernel, rfl, by decide +kernel, by decide +kernel⟩
abbrev s_lword_of : Stmt := top 86
abbrev N_lword_of : List Str := ["_law_pen", "_law_letters", "_law_size", "_law_k"]
theorem sc_lword_of : FnScope N_lword_of ["_law_pen", "_law_letters", "_law_size"] (defScope s_lword_of) := ⟨rfl, rfl, rfl, by decide +kernel, rfl, by decide +kernel, by decide +kernel⟩
abbrev s_ltree_of : Stmt := top 87
abbrev N_ltree_of : List Str := ["_law_pen", "_law_letters", "_law_width", "_law_many", "_law_depth", "_law_way", "_law_place", "_law_letter"]
theorem sc_ltree_of : FnScope N_ltree_of ["_law_pen", "_law_letters", "_law_width", "_law_many", "_law_depth"] (defScope s_ltree_of) := ⟨rfl, rfl, rfl, by decide +kernel, rfl, by decide +kernel, by decide +kernel⟩
abbrev s_lbent_tree : Stmt := top 88
abbrev N_lbent_tree : List Str := ["_law_pen", "_law_tree", "_law_width", "_law_many", "_law_chance", "_law_changed", "_law_below", "_law_one", "_law_place"]
theorem sc_lbent_tree : FnScope N_lbent_tree ["_law_pen", "_law_tree", "_law_width", "_law_many", "_law_chance"] (defScope s_lbent_tree) := ⟨rfl, rfl, rfl, by decide +kernel, rfl, by decide +kernel, by decide +kernel⟩
abbrev s_lmatter_of : Stmt := top 89
abbrev N_lmatter_of : List Str := ["_law_pen", "_law_most", "_law_letters", "_law_width", "_law_words", "_law_way", "_law_other", "_law_many", "_law_k", "_law_trees", "_law_tree"]
theorem sc_lmatter_of : FnScope N_lmatter_of ["_law_pen", "_law_most"] (defScope s_lmatter_of) := ⟨rfl, rfl, rfl, by decide +kernel, rfl, by decide +kernel, by decide +kernel⟩
abbrev s_lmade_ways : Stmt := top 90
abbrev N_lmade_ways : List Str := ["_law_found"]
theorem sc_lmade_ways : FnScope N_lmade_ways [] (defScope s_lmade_ways) := ⟨rfl, rfl, rfl, by decide +kernel, rfl, by decide +kernel, by decide +kernel⟩
abbrev s_lsearch : Stmt := top 91
abbrev N_lsearch : List Str := ["_law_letters", "_law_width", "_law_trees", "_law_text", "_law_told", "_law_windows", "_law_place", "_law_state", "_law_turn", "_law_tree", "_law_reads", "_law_slide", "_law_step", "_law_letter"]
theorem sc_lsearch : FnScope N_lsearch ["_law_letters", "_law_width", "_law_trees", "_law_text"] (defScope s_lsearch) := ⟨rfl, rfl, rfl, by decide +kernel, rfl, by decide +kernel, by decide +kernel⟩
abbrev s_lfollows : Stmt := top 92
abbrev N_lfollows : List Str := ["_law_searcher", "_law_letters", "_law_width", "_law_trees", "_law_text", "_law_told", "_law_windows", "_law_run", "_law_one", "_law_standing", "_law_place", "_law_pairs", "_law_spot", "_law_state", "_law_reads", "_law_same", "_law_turn", "_law_at", "_law_number"]
theorem sc_lfollows : FnScope N_lfollows ["_law_searcher", "_law_letters", "_law_width", "_law_trees", "_law_text"] (defScope s_lfollows) := ⟨rfl, rfl, rfl, by decide +kernel, rfl, by decide +kernel, by decide +kernel⟩
abbrev s_law : Stmt := top 93
abbrev N_law : List Str := ["_law_script", "_law_pen", "_law_turn", "_law_letters", "_law_words", "_law_trees", "_law_searcher", "_law_k", "_law_size", "_law_text", "_law_j"]
theorem sc_law : FnScope N_law ["_law_script"] (defScope s_law) := ⟨rfl, rfl, rfl, by decide +kernel, rfl, by decide +kernel, by decide +kernel⟩
abbrev s_BadLetters_init : Stmt := inClass (top 3) 0
abbrev N_BadLetters_init : List Str := ["self", "letters"]
theorem sc_BadLetters_init : FnScope N_BadLetters_init ["self", "letters"] (defScope s_BadLetters_init) := ⟨rfl, rfl, rfl, by decide +kernel, rfl, by decide +kernel, by decide +kernel⟩
abbrev s_BadWords_init : Stmt := inClass (top 4) 0
abbrev N_BadWords_init : List Str := ["self", "place"]
theorem sc_BadWords_init : FnScope N_BadWords_init ["self", "place"] (defScope s_BadWords_init) := ⟨rfl, rfl, rfl, by decide +kernel, rfl, by decide +kernel, by decide +kernel⟩
abbrev s_BadWay_init : Stmt := inClass (top 10) 0
abbrev N_BadWay_init : List Str := ["self", "way"]
theorem sc_BadWay_init : FnScope N_BadWay_init ["self", "way"] (defScope s_BadWay_init) := ⟨rfl, rfl, rfl, by decide +kernel, rfl, by decide +kernel, by decide +kernel⟩
abbrev s_Turn_init : Stmt := inClass (top 25) 0
abbrev N_Turn_init : List Str := ["self", "reads", "tells", "known", "slide", "after"]
theorem sc_Turn_init : FnScope N_Turn_init ["self", "reads", "tells", "known", "slide", "after"] (defScope s_Turn_init) := ⟨rfl, rfl, rfl, by decide +kernel, rfl, by decide +kernel, by decide +kernel⟩
abbrev s_Turn_is_cut : Stmt := inClass (top 25) 1
abbrev N_Turn_is_cut : List Str := ["self"]
theorem sc_Turn_is_cut : FnScope N_Turn_is_cut ["self"] (defScope s_Turn_is_cut) := ⟨rfl, rfl, rfl, by decide +kernel, rfl, by decide +kernel, by decide +kernel⟩
abbrev s_Searcher_init : Stmt := inClass (top 45) 0
abbrev N_Searcher_init : List Str := ["self", "letters", "width", "states", "many", "state", "tree", "node", "nodes", "same"]
theorem sc_Searcher_init : FnScope N_Searcher_init ["self", "letters", "width", "states"] (defScope s_Searcher_init) := ⟨rfl, rfl, rfl, by decide +kernel, rfl, by decide +kernel, by decide +kernel⟩
abbrev s_Trace_init : Stmt := inClass (top 78) 0
abbrev N_Trace_init : List Str := ["self", "windows", "told", "_", "reads"]
theorem sc_Trace_init : FnScope N_Trace_init ["self", "windows", "told"] (defScope s_Trace_init) := ⟨rfl, rfl, rfl, by decide +kernel, rfl, by decide +kernel, by decide +kernel⟩

/-! ### the pen -/
def penK (c : Addr) (op lf : Int) : List (Key × V) := [(.inr "cells", .ref c), (.inr "begun", .int op), (.inr "left", .int lf)]
structure PenI where
  d : Addr
  c : Addr
  ns : List Int
def PenAt (p : PenI) (H0 H : Hp) (n : Nat) : Prop := Ex H0 H ∧ H0 p.d = none ∧ H0 p.c = some (.lst (p.ns.map V.int)) ∧ p.ns.length ≤ 63 ∧
  ∃ (op : Nat) (lf : Int), op ≤ n ∧ H p.d = some (.dK (penK p.c op lf))
theorem PenAt.ex {p : PenI} {H0 H H1 : Hp} {n : Nat} (P : PenAt p H0 H n) (e : Ex H H1) : PenAt p H0 H1 n := by
  obtain ⟨e0, h0, hc, hl, op, lf, ho, hd⟩ := P
  exact ⟨e0.trans e, h0, hc, hl, op, lf, ho, e p.d _ hd⟩
theorem PenAt.le {p : PenI} {H0 H : Hp} {n m : Nat} (P : PenAt p H0 H n) (h : n ≤ m) : PenAt p H0 H m := by
  obtain ⟨e0, h0, hc, hl, op, lf, ho, hd⟩ := P
  exact ⟨e0, h0, hc, hl, op, lf, Nat.le_trans ho h, hd⟩
theorem PenAt.dict {p : PenI} {H0 H : Hp} {n : Nat} (P : PenAt p H0 H n) : ∃ kvs, H p.d = some (.dK kvs) := by
  obtain ⟨_, _, _, _, op, lf, _, h⟩ := P
  exact ⟨_, h⟩
theorem PenAt.lst_ne {p : PenI} {H0 H : Hp} {a : Addr} {n : Nat} {xs : List V} (P : PenAt p H0 H n) (h : H a = some (.lst xs)) : a ≠ p.d := by
  obtain ⟨kvs, h2⟩ := P.dict
  exact ne_of h h2 (by intro z; cases z)
/-- an object made meanwhile may change -/
theorem PenAt.upd {p : PenI} {H0 H : Hp} {a : Addr} {n : Nat} {o : HO} (P : PenAt p H0 H n) (h : H0 a = none) (hd : a ≠ p.d) : PenAt p H0 (upd H a o) n := by
  obtain ⟨e0, h0, hc, hl, op, lf, ho, hd'⟩ := P
  exact ⟨e0.mut h, h0, hc, hl, op, lf, ho, by rw [upd_ne hd.symm]; exact hd'⟩
/-- one more object kept, and let go again -/
theorem PenAt.keep {p : PenI} {H0 H : Hp} {a : Addr} {n : Nat} {o : HO} (P : PenAt p H0 H n) (h : H a = some o) (hd : a ≠ p.d) : PenAt p (L2.upd H0 a o) H n := by
  obtain ⟨e0, h0, hc, r⟩ := P
  refine ⟨fun b u e => ?_, by rw [upd_ne hd.symm]; exact h0, ?_, r⟩
  · by_cases q : b = a
    · subst q
      rw [upd_same] at e
      rw [h, e]
    · rw [upd_ne q] at e
      exact e0 b u e
  · by_cases q : p.c = a
    · have e2 := e0 _ _ hc
      rw [q, h] at e2
      rw [q, upd_same, e2]
    · rw [upd_ne q]
      exact hc
theorem PenAt.drop {p : PenI} {H0 H H' : Hp} {a : Addr} {n m : Nat} {o : HO} (P : PenAt p H0 H n) (h : H a = some o) (P' : PenAt p (L2.upd H0 a o) H' m) : PenAt p H0 H' m := by
  refine ⟨fun b u e => ?_, P.2.1, P.2.2.1, P'.2.2.2⟩
  by_cases q : b = a
  · subst q
    have e2 := P.1 _ _ e
    rw [h] at e2
    exact P'.1 _ _ (by rw [upd_same, e2])
  · exact P'.1 _ _ (by rw [upd_ne q]; exact e)
theorem cells_opened : ¬ (("cells" : Str) = "begun") := by decide +kernel
theorem cells_left : ¬ (("cells" : Str) = "left") := by decide +kernel
theorem opened_left : ¬ (("begun" : Str) = "left") := by decide +kernel
theorem get_cells (c : Addr) (op lf : Int) : valV (penK c op lf) (.inr "cells") = some (.ref c) := by
  unfold valV penK
  rw [List.find?_cons_of_pos (by simp)]
  rfl
theorem get_opened (c : Addr) (op lf : Int) : valV (penK c op lf) (.inr "begun") = some (.int op) := by
  unfold valV penK
  rw [List.find?_cons_of_neg (by simpa using cells_opened), List.find?_cons_of_pos (by simp)]
  rfl
theorem get_left (c : Addr) (op lf : Int) : valV (penK c op lf) (.inr "left") = some (.int lf) := by
  unfold valV penK
  rw [List.find?_cons_of_neg (by simpa using cells_left), List.find?_cons_of_neg (by simpa using opened_left), List.find?_cons_of_pos (by simp)]
  rfl
theorem put_opened (c : Addr) (op lf x : Int) : putK (penK c op lf) (.inr "begun") (.int x) = penK c x lf := by
  unfold putK penK
  simp [cells_opened, opened_left, cells_left, Ne.symm opened_left]
theorem put_left (c : Addr) (op lf x : Int) : putK (penK c op lf) (.inr "left") (.int x) = penK c op x := by
  unfold putK penK
  simp [cells_opened, opened_left, cells_left]
theorem dget_of {H : Hp} {d : Addr} {kvs : List (Key × V)} {k : Str} {v : V} (e : H d = some (.dK kvs)) (h : valV kvs (.inr k) = some v) : DGet H d (.str k) (some v) := by
  rw [← h]
  exact DGet.k (k := .inr k) e
theorem dput_of {H : Hp} {d : Addr} {kvs kvs' : List (Key × V)} {k : Str} {v : V} (e : H d = some (.dK kvs)) (hl : kvs.length < 100) (h : putK kvs (.inr k) v = kvs') : DPut H d (.str k) v (upd H d (.dK kvs')) := by
  rw [← h]
  exact DPut.k (k := .inr k) e (Nat.lt_of_lt_of_le hl (by decide))

/-! ### lists of ints as data -/
theorem lay_ints : ∀ ns : List Int, PyData.canLayAll0 (ns.map PyData.int) = true
  | [] => rfl
  | n :: r => by
    show (PyData.canLay0 (.int n) && PyData.canLayAll0 (r.map PyData.int)) = true
    rw [lay_ints r]
    rfl
theorem depth_ints : ∀ ns : List Int, PyData.depthAll (ns.map PyData.int) = 0
  | [] => rfl
  | n :: r => by
    show max (PyData.depth (.int n)) (PyData.depthAll (r.map PyData.int)) = 0
    rw [depth_ints r]
    rfl
theorem shaped_ints (ns : List Int) : SeqAt.shaped (.list (ns.map PyData.int)) = true := by
  unfold SeqAt.shaped
  have e1 : (PyData.list (ns.map PyData.int)).canLay0 = true := lay_ints ns
  have e2 : (PyData.list (ns.map PyData.int)).depth = 1 := by
    show PyData.depthAll (ns.map PyData.int) + 1 = 1
    rw [depth_ints]
  rw [e1, e2]
  rfl
theorem dp_ints {K : PySem.W.Frag} {H : Hp} : ∀ ns : List Int, DpAll K H (ns.map V.int) (ns.map PyData.int)
  | [] => .nil
  | n :: r => .cons (.int n) (dp_ints r)
theorem eqv_nil (ns : List Int) : PyData.eqv (.list (ns.map PyData.int)) (.list []) = ns.isEmpty := by
  cases ns <;> rfl

/-! ### what is known of a def that is called -/
structure Kn (P : Program) (w : World) (K : PySem.W.Frag) (mg : Str → Option Value) (base : Heap) (x : Str) (ps : List Str) (k : Nat) (sp : Sp) where
  f : Addr
  fd : FuncData
  ok : FnOk P w K mg base CX0 k f fd ps sp
  g : mg x = some (.ref f)
  kp : PySem.W.keepIn K (.ref f) = true
  b : Binds K fd ps []
theorem cut2 {A : Prop} {N : L2.St → Hp → Prop} (Pv : L2.St → Hp → Prop) (hA : (∀ σ' H', Pv σ' H' → N σ' H') → A) (rest : ∀ σ' H', Pv σ' H' → N σ' H') : A := hA rest
theorem st_eq {t : L2.St → Hp → Prop} {σ σ' : L2.St} {H : Hp} (e : σ = σ') (h : t σ' H) : t σ H := e ▸ h
structure Tx (mg : Str → Option Value) where
  len : mg "len" = none
  int : mg "int" = none
  bool : mg "bool" = none
  abs : mg "abs" = none
  min : mg "min" = none
  list : mg "list" = none
  all : mg "all" = none
  any : mg "any" = none
  range : mg "range" = none
  isinstance : mg "isinstance" = none
  str : mg "str" = none
  set : mg "set" = none
  tuple : mg "tuple" = none
  dict : mg "dict" = none
  enumerate : mg "enumerate" = none
  sum : mg "sum" = none
  sorted : mg "sorted" = none
  zip : mg "zip" = none
  reversed : mg "reversed" = none
  max : mg "max" = none
  k_DEEPEST : Tok
  m_DEEPEST : mg "DEEPEST" = some (.int 40 k_DEEPEST)
  k_MOST_WIDTH : Tok
  m_MOST_WIDTH : mg "MOST_WIDTH" = some (.int 8 k_MOST_WIDTH)
  k_MOST_STATES : Tok
  m_MOST_STATES : mg "MOST_STATES" = some (.int 64 k_MOST_STATES)
  k_MOST_NODES : Tok
  m_MOST_NODES : mg "MOST_NODES" = some (.int 3000 k_MOST_NODES)
  k_MOST_LETTERS : Tok
  m_MOST_LETTERS : mg "MOST_LETTERS" = some (.int 5000 k_MOST_LETTERS)

theorem cutI {A : Prop} {N : Int → Prop} (hA : (∀ x, N x) → A) (rest : ∀ x, N x) : A := hA rest
def spPen (K : PySem.W.Frag) : Sp := fun vs H Q _ => ∃ (a : Addr) (ns : List Int), vs = [.ref a] ∧ SqL K H a (ns.map V.int) ∧ ns.length ≤ 63 ∧ ∀ p H0 H', Ex H H0 → PenAt p H0 H' 0 → Q (.ref p.d) H'
def spDraw : Sp := fun vs H Q _ => ∃ (p : PenI) (H0 : Hp) (n : Nat) (m : Int), vs = [.ref p.d, .int m] ∧ PenAt p H0 H n ∧ n < 1000000 ∧ 0 < m ∧ m < 10000000 ∧ ∀ H' r, PenAt p H0 H' (n + 1) → 0 ≤ r → r < m → Q (.int r) H'

section
variable {P : Program} {w : World} {K : PySem.W.Frag} {mg : Str → Option Value} {base : Heap}
theorem ok_pen {f : Addr} {fd : FuncData} (F : Fun K "_law_pen_of" "_law_pen_of" s_lpen_of f fd) (T : Tx mg) : FnOk P w K mg base CX0 1 f fd ["_law_script"] (spPen K) := by
  refine F.ok sc_lpen_of (fun vs H Q E h => ?_) (fun cdv A outer s H vs Q E hr h => ?_)
  · obtain ⟨a, ns, rfl, _⟩ := h
    rfl
  · obtain ⟨a, ns, rfl, hS, hl, q⟩ := h
    refine ⟨_, (pss_one (ps_ret (pe_disp (pps_cons pe_str (pe_callTy call_list_of (by rfl) T.list PyProof.Rows.boot_list (pa_cons (pe_slice sl_list (pv 0) po_none (po_some pe_int)) pa_nil)) (pps_cons pe_str pe_int (pps_cons pe_str pe_int pps_nil))) (by rfl) (by rfl) (fun z => by cases z) (by decide)))), ?_⟩
    intro d hd
    have e1 : Ex H (upd H d (.dK [])) := Ex.new hd
    refine ⟨.ref a, rfl, 63, rfl, a, _, rfl, ex_l e1 hS, fun c hc => ?_⟩
    have e2 := e1.trans (Ex.new (o := .lst (cutV (ns.map V.int) none (some 63))) hc)
    refine ⟨c, _, rfl, .inl (.inl (.inl upd_same)), fun c2 hc2 => ?_⟩
    have e3 := e2.trans (Ex.new (o := .lst (cutV (ns.map V.int) none (some 63))) hc2)
    have ncd : c ≠ d := fun z => by rw [z, upd_same] at hc; cases hc
    have nc2c : c2 ≠ c := fun z => by rw [z, upd_same] at hc2; cases hc2
    have nc2d : c2 ≠ d := fun z => by rw [z, upd_ne ncd.symm, upd_same] at hc2; cases hc2
    refine ⟨by rw [upd_ne nc2d.symm, upd_ne ncd.symm, upd_same], penK c2 0 0, rfl, (by show 3 ≤ 15; decide), ?_⟩
    have em : mergeK [] (penK c2 0 0) = penK c2 0 0 := by
      unfold mergeK penK
      simp [putK, cells_opened, opened_left, cells_left]
    rw [em]
    have el : ((cutV (ns.map V.int) none (some 63)) : List V) = ((ns.drop (HT.sIx ns.length 0 none)).take (HT.sIx ns.length ns.length (some 63) - HT.sIx ns.length 0 none)).map V.int := by
      unfold cutV
      rw [List.length_map, List.map_take, List.map_drop]
    have hn2 : H c2 = none := by
      rw [upd_ne nc2c, upd_ne nc2d] at hc2
      exact hc2
    refine q ⟨d, c2, (ns.drop (HT.sIx ns.length 0 none)).take (HT.sIx ns.length ns.length (some 63) - HT.sIx ns.length 0 none)⟩ (upd H c2 (.lst (cutV (ns.map V.int) none (some 63)))) _ (Ex.new hn2) ⟨fun b u e => ?_, ?_, ?_, ?_, 0, 0, Nat.le_refl _, upd_same⟩
    · have nbd : b ≠ d := fun z => by
        rw [z, upd_ne nc2d.symm, hd] at e
        cases e
      rw [upd_ne nbd]
      by_cases z : b = c2
      · subst z
        rw [upd_same] at e ⊢
        exact e
      · rw [upd_ne z] at e ⊢
        exact (e1.trans (Ex.new hc)) _ _ e
    · exact (upd_ne nc2d.symm).trans hd
    · show upd H c2 _ c2 = _
      rw [upd_same, el]
    · rw [List.length_take, List.length_drop]
      omega
theorem ok_draw {f : Addr} {fd : FuncData} (F : Fun K "_law_draw" "_law_draw" s_ldraw f fd) (T : Tx mg) : FnOk P w K mg base CX0 1 f fd ["_law_pen", "_law_many"] spDraw := by
  refine F.ok sc_ldraw (fun vs H Q E h => ?_) (fun cdv A outer s H vs Q E hr h => ?_)
  · obtain ⟨p, H0, n, m, rfl, _⟩ := h
    rfl
  · obtain ⟨⟨d, c, ns⟩, H0, n, m, rfl, ⟨e0, h0, hc0, hl, op, lf, ho, hd⟩, hn, hm0, hm1, q⟩ := h
    have hc : H c = some (.lst (ns.map V.int)) := e0 _ _ hc0
    dsimp only at h0 hl hd q ⊢
    have ncd : c ≠ d := ne_of hc hd (by intro z; cases z)
    have fin : ∀ (o2 : Nat) (l2 : Int) (H' : Hp), Ex H0 H' → H' c = some (.lst (ns.map V.int)) → H' d = some (.dK (penK c o2 l2)) → o2 ≤ n + 1 → PenAt ⟨d, c, ns⟩ H0 H' (n + 1) :=
      fun o2 l2 H' x1 x2 x3 x4 => ⟨x1, h0, hc0, hl, o2, l2, x4, x3⟩
    refine ⟨_, (pss_cons (ps_if (pt_cmpR op_gt (pe_dget (hu_of hr) (pv 0) pe_str (fun _ _ => rfl)) pe_int (nomark _)) (pss_cons (ps_set (i := 2) sc_ldraw.nd rfl (Or.inl rfl) (pe_op op_mod (pe_callTy call_int1 (by rfl) T.int PyProof.Rows.boot_int (pa_cons (pe_dget (hu_of hr) (pv 0) pe_str (fun _ _ => rfl)) pa_nil)) (pv 1)))
      (pss_cons (ps_dput (hu_of hr) (pv 0) pe_str (pe_op op_fdivN (pe_dget (hu_of hr) (pv 0) pe_str (fun _ _ => rfl)) (pv 1)) rfl)
      (pss_one (ps_ret (pv 2))))) pss_nil)
      (pss_cons (ps_par (i := 3) (j := 4) (by rfl) sc_ldraw.nd rfl rfl (by decide) rfl rfl (pa_cons (pe_dget (hu_of hr) (pv 0) pe_str (fun _ _ => rfl)) (pa_cons (pe_callB call_len_seq (by rfl) T.len PySem.boot_len (pa_cons (pe_dget (hu_of hr) (pv 0) pe_str (fun _ _ => rfl)) pa_nil)) pa_nil)) (by rfl))
      (pss_cons (ps_dput (hu_of hr) (pv 0) pe_str (pe_op op_add (pv 3) pe_int) rfl)
      (pss_cons (ps_set (i := 5) sc_ldraw.nd rfl (Or.inl rfl) (pe_ifExp (pt_cmpR op_gt (pv 4) pe_int (nomark _)) (pe_ix ix_list (pe_dget (hu_of hr) (pv 0) pe_str (fun _ _ => rfl)) (pe_op op_mod (pe_callTy call_int1 (by rfl) T.int PyProof.Rows.boot_int (pa_cons (pv 3) pa_nil)) (pv 4)) (fun _ _ => rfl)) (pe_op op_add (pe_op op_mul pe_int (pv 3)) pe_int)))
      (pss_cons (ps_if (PW.pt (pw_and (pt_cmpR op_lt (pv 3) (pv 4) (nomark _)) (pw_and1 (pt_cmpR op_ge (pe_callB call_abs (by rfl) T.abs (by decide +kernel) (pa_cons (pv 5) pa_nil)) (pe_op op_pow pe_int pe_int) (nomark _))))) (pss_cons (ps_dput (hu_of hr) (pv 0) pe_str (pe_op op_fdivN (pe_op op_sub (pe_callB call_abs (by rfl) T.abs (by decide +kernel) (pa_cons (pv 5) pa_nil)) (pe_op op_pow pe_int pe_int)) (pv 1)) rfl)
      (pss_one (ps_ret (pe_op op_mod (pe_callTy call_int1 (by rfl) T.int PyProof.Rows.boot_int (pa_cons (pe_op op_sub (pe_callB call_abs (by rfl) T.abs (by decide +kernel) (pa_cons (pv 5) pa_nil)) (pe_op op_pow pe_int pe_int)) pa_nil)) (pv 1))))) pss_nil)
      (pss_cons (ps_set (i := 6) sc_ldraw.nd rfl (Or.inl rfl) (pe_op op_mod (pe_callTy call_int1 (by rfl) T.int PyProof.Rows.boot_int (pa_cons (pe_op op_add (pe_op op_add (pe_op op_mul (pe_op op_mod (pe_callTy call_int1 (by rfl) T.int PyProof.Rows.boot_int (pa_cons (pv 5) pa_nil)) pe_int) pe_int) (pe_op op_mul (pe_op op_mul pe_int (pv 3)) (pv 3))) pe_int) pa_nil)) pe_int))
      (pss_cons (ps_set (i := 6) sc_ldraw.nd rfl (Or.inl rfl) (pe_op op_mod (pe_callTy call_int1 (by rfl) T.int PyProof.Rows.boot_int (pa_cons (pe_op op_add (pe_op op_add (pe_op op_add (pe_op op_mul (pv 6) (pv 6)) (pe_op op_mul pe_int (pv 6))) (pe_op op_mul pe_int (pv 3))) pe_int) pa_nil)) pe_int))
      (pss_one (ps_ret (pe_op op_mod (pe_callTy call_int1 (by rfl) T.int PyProof.Rows.boot_int (pa_cons (pe_op op_fdivN (pe_op op_mod (pe_callTy call_int1 (by rfl) T.int PyProof.Rows.boot_int (pa_cons (pe_op op_mul (pv 6) (pe_op op_add (pv 6) pe_int)) pa_nil)) pe_int) pe_int) pa_nil)) (pv 1))))))))))), ?_⟩
    refine ⟨_, rfl, d, .int lf, rfl, dget_of hd (get_left _ _ _), _, _, rfl, rfl, _, rfl, ite2 (fun hp => ?_) (fun hp => ?_)⟩
    · refine ⟨_, rfl, d, .int lf, rfl, dget_of hd (get_left _ _ _), .inl ⟨_, rfl, ?_⟩⟩
      refine ⟨_, rfl, _, _, rfl, rfl, hm0, ?_⟩
      refine ⟨_, rfl, d, .int lf, rfl, dget_of hd (get_left _ _ _), _, rfl, _, _, rfl, rfl, ⟨by omega, by omega⟩, ?_⟩
      refine ⟨_, rfl, d, _, rfl, dput_of hd (by show 3 < 100; decide) (put_left _ _ _ _), ?_⟩
      refine ⟨_, rfl, ?_⟩
      exact q _ _ (fin op _ _ (e0.mut h0) (by rw [upd_ne ncd]; exact hc) upd_same (by omega)) (Int.emod_nonneg _ (by omega)) (Int.emod_lt_of_pos _ hm0)
    · refine ⟨_, rfl, d, _, rfl, dget_of hd (get_opened _ _ _), _, rfl, d, _, rfl, dget_of hd (get_cells _ _ _), c, _, rfl, .inl (sq_of hc), _, _, rfl, ?_⟩
      refine ⟨_, rfl, _, _, rfl, rfl, _, rfl, d, _, rfl, dput_of hd (by show 3 < 100; decide) (put_opened _ _ _ _), ?_⟩
      have x1 : Ex H0 (upd H d (.dK (penK c ((op : Int) + 1) lf))) := e0.mut h0
      have hc1 : (upd H d (.dK (penK c ((op : Int) + 1) lf))) c = some (.lst (ns.map V.int)) := by
        rw [upd_ne ncd]
        exact hc
      have hd1 : (upd H d (.dK (penK c ((op : Int) + 1) lf))) d = some (.dK (penK c ((op + 1 : Nat) : Int) lf)) := upd_same
      generalize (upd H d (.dK (penK c ((op : Int) + 1) lf))) = H1 at x1 hc1 hd1 ⊢
      refine' cutI (fun rest => ?_) ?_
      rotate_left
      · refine ⟨_, rfl, _, _, rfl, rfl, _, rfl, ite2 (fun hs => ?_) (fun hs => ?_)⟩
        · have hL : (0 : Int) < ((ns.map V.int).length : Int) := of_decide_eq_true hs
          obtain ⟨i, hi⟩ : ∃ i : Nat, (op : Int) % ((ns.map V.int).length : Int) = (i : Int) := ⟨((op : Int) % ((ns.map V.int).length : Int)).toNat, (Int.toNat_of_nonneg (Int.emod_nonneg _ (by omega))).symm⟩
          have hi2 : i < ns.length := by
            have := Int.emod_lt_of_pos (op : Int) hL
            rw [hi, List.length_map] at this
            omega
          have hat : atI (ns.map V.int) ((op : Int) % ((ns.map V.int).length : Int)) = some (V.int ns[i]) := by
            rw [hi]
            exact atI_nat (by rw [List.getElem?_map, List.getElem?_eq_getElem hi2]; rfl)
          refine ⟨_, rfl, d, _, rfl, dget_of hd1 (get_cells _ _ _), _, rfl, .inl ⟨_, rfl, _, rfl, _, _, rfl, rfl, hL, c, _, _, _, rfl, rfl, sq_of hc1, hat, ?_⟩⟩
          generalize ns[i] = x
          exact rest x
        · refine ⟨_, rfl, _, _, rfl, rfl, .inl ⟨by decide, by decide⟩, _, _, rfl, rfl, ?_⟩
          exact rest _
      · intro x
        dsimp only [gName]
        refine q_when (b := decide ((op : Int) < ((ns.map V.int).length : Int)) && decide ((10 : Int) ^ (18 : Int).toNat ≤ (if x < 0 then -x else x)))
          (et_and (fun H4 e4 Q4 q4 => ?_) (fun _ H4 e4 Q4 q4 => ?_)) (fun hb H3 e3 => ?_) (fun hb H3 e3 => ?_)
        · exact ⟨_, rfl, _, rfl, _, _, rfl, rfl, _, rfl, q4 _ (Ex.refl _)⟩
        · exact ⟨_, rfl, _, rfl, _, _, rfl, rfl, ⟨by decide, by decide, by decide⟩, _, _, rfl, rfl, _, rfl, q4 _ (Ex.refl _)⟩
        · have x3 := x1.trans e3
          refine ⟨_, rfl, _, rfl, _, _, rfl, rfl, ⟨by decide, by decide, by decide⟩, _, _, rfl, rfl, _, rfl, _, _, rfl, rfl, ⟨by omega, by omega⟩, ?_⟩
          refine ⟨_, rfl, d, _, rfl, dput_of (e3 _ _ hd1) (by show 3 < 100; decide) (put_left _ _ _ _), ?_⟩
          refine ⟨_, rfl, _, rfl, _, _, rfl, rfl, ⟨by decide, by decide, by decide⟩, _, _, rfl, rfl, .inl ⟨_, rfl, _, rfl, _, _, rfl, rfl, hm0, ?_⟩⟩
          exact q _ _ (fin _ _ _ (x3.mut h0) (by rw [upd_ne ncd]; exact e3 _ _ hc1) upd_same (by omega)) (Int.emod_nonneg _ (by omega)) (Int.emod_lt_of_pos _ hm0)
        · have x3 := x1.trans e3
          have b1 : (0 : Int) ≤ x % 4294967279 := Int.emod_nonneg _ (by decide)
          have b2 : x % 4294967279 < 4294967279 := Int.emod_lt_of_pos _ (by decide)
          refine ⟨_, rfl, .inl ⟨_, rfl, _, _, rfl, rfl, (by show (0 : Int) < _; decide), _, _, rfl, rfl, .inr ⟨by decide, by decide⟩, ?_⟩⟩
          refine ⟨_, rfl, _, _, rfl, rfl, .inl ⟨by decide, by decide⟩, _, rfl, _, _, rfl, rfl, .inr ⟨by omega, by omega⟩, _, _, rfl, rfl, ?_⟩
          refine ⟨_, _, rfl, rfl, .inl ⟨_, rfl, _, _, rfl, rfl, (by show (0 : Int) < _; decide), ?_⟩⟩
          generalize hy : (x % 4294967279 * 50923 + 31249 * (op : Int) * (op : Int) + 977) % 4294967291 = y
          have b3 : 0 ≤ y := by rw [← hy]; exact Int.emod_nonneg _ (by decide)
          have b4 : y < 4294967291 := by rw [← hy]; exact Int.emod_lt_of_pos _ (by decide)
          refine ⟨_, rfl, _, rfl, _, _, rfl, rfl, .inl ⟨by omega, by omega⟩, _, rfl, _, _, rfl, rfl, .inl ⟨by decide, by decide⟩, _, _, rfl, rfl, ?_⟩
          refine ⟨_, rfl, _, _, rfl, rfl, .inl ⟨by decide, by decide⟩, _, _, rfl, rfl, _, _, rfl, rfl, .inl ⟨_, rfl, _, _, rfl, rfl, (by show (0 : Int) < _; decide), ?_⟩⟩
          generalize hz : (y * y + 70001 * y + 41 * (op : Int) + 13) % 4294967231 = z
          have b5 : 0 ≤ z := by rw [← hz]; exact Int.emod_nonneg _ (by decide)
          have b6 : z < 4294967231 := by rw [← hz]; exact Int.emod_lt_of_pos _ (by decide)
          refine ⟨_, rfl, _, rfl, _, _, rfl, rfl, _, _, rfl, rfl, .inl ⟨by omega, by omega⟩, .inl ⟨_, rfl, _, _, rfl, rfl, (by show (0 : Int) < _; decide), _, _, rfl, rfl, ⟨by decide, by decide⟩, .inl ⟨_, rfl, _, rfl, _, _, rfl, rfl, hm0, ?_⟩⟩⟩
          exact q _ _ (fin _ _ _ x3 (e3 _ _ hc1) (e3 _ _ hd1) (by omega)) (Int.emod_nonneg _ (by omega)) (Int.emod_lt_of_pos _ hm0)
end
end Law

namespace Law
open PySem PySem.Spec PyProof.Rows L2 Evl
theorem sz_le {n : Nat} (h : n < 1000) : n ≤ sizeLine := Nat.le_trans (Nat.le_of_lt h) (by decide)
theorem at_draw {α : Type} {xs : List α} {r : Int} (h0 : 0 ≤ r) (h1 : r < (xs.length : Int)) : ∃ v, v ∈ xs ∧ atI xs r = some v := by
  obtain ⟨j, rfl⟩ : ∃ j : Nat, r = (j : Int) := ⟨r.toNat, (Int.toNat_of_nonneg h0).symm⟩
  have hj : j < xs.length := by omega
  exact ⟨xs[j], List.getElem_mem hj, atI_nat (List.getElem?_eq_getElem hj)⟩
def spPickS : Sp := fun vs H Q _ => ∃ (p : PenI) (H0 : Hp) (n : Nat) (z : Str), vs = [.ref p.d, .str z] ∧ PenAt p H0 H n ∧ n < 1000000 ∧ 0 < z.length ∧ z.length < 1000 ∧ ∀ H' c, PenAt p H0 H' (n + 1) → c ∈ z.cps.toList → Q (.str ⟨#[c]⟩) H'
def spPickL : Sp := fun vs H Q _ => ∃ (p : PenI) (H0 : Hp) (a : Addr) (n : Nat) (xs : List V), vs = [.ref p.d, .ref a] ∧ PenAt p H0 H n ∧ n < 1000000 ∧ H a = some (.lst xs) ∧ 0 < xs.length ∧ xs.length < 1000 ∧ ∀ H' v, PenAt p H0 H' (n + 1) → v ∈ xs → Q v H'
section
variable {P : Program} {w : World} {K : PySem.W.Frag} {mg : Str → Option Value} {base : Heap}
theorem ok_pickS {f : Addr} {fd : FuncData} (F : Fun K "_law_pick" "_law_pick" s_lpick f fd) (T : Tx mg) (c_ldraw : Kn P w K mg base "_law_draw" ["_law_pen", "_law_many"] 1 spDraw) : FnOk P w K mg base CX0 2 f fd ["_law_pen", "_law_menu"] spPickS := by
  refine F.ok sc_lpick (fun vs H Q E h => ?_) (fun cdv A outer s H vs Q E hr h => ?_)
  · obtain ⟨p, H0, n, z, rfl, _⟩ := h
    rfl
  · obtain ⟨p, H0, n, z, rfl, P0, hn, hz0, hz1, q⟩ := h
    have ez : z.length = z.cps.toList.length := by simp [Str.length]
    refine ⟨_, (pss_one (ps_ret (pe_ix ix_str (pv 1) (pe_call c_ldraw.ok (hr.mono (by decide)) (by rfl) c_ldraw.g c_ldraw.kp c_ldraw.b .nil pass0 (pa_cons (pv 0) (pa_cons (pe_callB call_len_str (by rfl) T.len PySem.boot_len (pa_cons (pv 1) pa_nil)) pa_nil))) (fun _ _ => rfl)))), ?_⟩
    refine ⟨_, rfl, _, rfl, _, rfl, z, rfl, sz_le hz1, p, H0, n, _, rfl, P0, hn, by omega, by omega, fun H' r P1 r0 r1 => ?_⟩
    obtain ⟨c, hc, ha⟩ := at_draw (xs := z.cps.toList) r0 (by rw [← ez]; exact r1)
    exact ⟨z, r, c, rfl, rfl, sz_le hz1, ha, q _ _ P1 hc⟩
theorem ok_pickL {f : Addr} {fd : FuncData} (F : Fun K "_law_pick" "_law_pick" s_lpick f fd) (T : Tx mg) (c_ldraw : Kn P w K mg base "_law_draw" ["_law_pen", "_law_many"] 1 spDraw) : FnOk P w K mg base CX0 2 f fd ["_law_pen", "_law_menu"] spPickL := by
  refine F.ok sc_lpick (fun vs H Q E h => ?_) (fun cdv A outer s H vs Q E hr h => ?_)
  · obtain ⟨p, H0, a, n, xs, rfl, _⟩ := h
    rfl
  · obtain ⟨p, H0, a, n, xs, rfl, P0, hn, hx, hz0, hz1, q⟩ := h
    refine ⟨_, (pss_one (ps_ret (pe_ix ix_list (pv 1) (pe_call c_ldraw.ok (hr.mono (by decide)) (by rfl) c_ldraw.g c_ldraw.kp c_ldraw.b .nil pass0 (pa_cons (pv 0) (pa_cons (pe_callB call_len_seq (by rfl) T.len PySem.boot_len (pa_cons (pv 1) pa_nil)) pa_nil))) (fun _ _ => rfl)))), ?_⟩
    refine ⟨_, rfl, _, rfl, _, rfl, a, xs, rfl, .inl (sq_of hx), p, upd H0 a (.lst xs), n, _, rfl, P0.keep hx (P0.lst_ne hx), hn, by omega, by omega, fun H' r P1 r0 r1 => ?_⟩
    obtain ⟨v, hv, ha⟩ := at_draw (xs := xs) r0 r1
    exact ⟨a, xs, r, v, rfl, rfl, sq_of (P1.1 _ _ upd_same), ha, q _ _ (P0.drop hx P1) hv⟩
end
end Law

namespace Law
open PySem PySem.Spec PyProof.Rows L2 Evl
def sg (c : Nat) : Str := ⟨#[c]⟩
def tx (l : List Nat) : Str := ⟨l.toArray⟩
theorem tx_len (l : List Nat) : (tx l).length = l.length := by simp [tx, Str.length]
theorem tx_list (l : List Nat) : (tx l).cps.toList = l := rfl
theorem tx_of (z : Str) : tx z.cps.toList = z := TL.ext_tl rfl
theorem sg_len (c : Nat) : (sg c).length = 1 := rfl
theorem joinL_nil : ∀ cs : List Nat, TL.joinL [] (cs.map fun c => [c]) = cs
  | [] => rfl
  | [c] => rfl
  | c :: d :: r => by
    show [c] ++ ([] ++ TL.joinL [] ((d :: r).map fun c => [c])) = c :: d :: r
    rw [joinL_nil (d :: r)]
    rfl
theorem join_sg (cs : List Nat) : Txt.join (Str.ofString "") (cs.map sg) = tx cs := by
  refine TL.ext_tl ?_
  rw [TL.join_eq, TL.tl_join, List.map_map, show TL.tl (Str.ofString "") = [] by decide +kernel]
  exact joinL_nil cs
theorem join_size (cs : List Nat) : ((cs.map sg).map (·.length)).sum = cs.length := by
  induction cs with
  | nil => rfl
  | cons c r ih =>
    show 1 + ((r.map sg).map (·.length)).sum = r.length + 1
    rw [ih, Nat.add_comm]
/-- the signs joined -/
theorem join_done {K : PySem.W.Frag} {H : Hp} {D : Addr} {cs : List Nat} {Q : VK} (hD : H D = some (.lst ((cs.map sg).map V.str))) (hl : cs.length ≤ 1000000) (q : Q (.str (tx cs)) H) :
    ∃ (a : Str) (p : Addr), ∃ ys : List Str, V.str (Str.ofString "") = .str a ∧ [V.ref D] = [.ref p] ∧ (SqL K H p (ys.map V.str) ∨ SqT K H p (ys.map V.str)) ∧ (ys.map (·.length)).sum + ys.length * a.length ≤ 16777216 ∧ Q (.str (Txt.join a ys)) H := by
  refine ⟨_, D, cs.map sg, rfl, rfl, .inl (sq_of hD), ?_, ?_⟩
  · rw [join_size, show (Str.ofString "").length = 0 from rfl]
    omega
  · rw [join_sg]
    exact q
def lets (f p n : Nat) : List Nat := (List.range n).map fun k => 97 + (f + p * k) % 26
def paces : List Nat := [1, 3, 5, 7, 9, 11, 15, 17, 19, 21, 23, 25]
def spLetters : Sp := fun vs H Q _ => ∃ (p : PenI) (H0 : Hp) (n : Nat), vs = [.ref p.d] ∧ PenAt p H0 H n ∧ n < 900000 ∧ ∀ H' f q m, PenAt p H0 H' (n + 3) → f < 26 → q ∈ paces → 2 ≤ m → m ≤ 4 → Q (.str (tx (lets f q m))) H'
theorem abc_at (r : Int) : ∃ c, atI (Str.ofString "abcdefghijklmnopqrstuvwxyz").cps.toList (r % 26) = some c ∧ c = 97 + (r % 26).toNat := by
  have h0 : 0 ≤ r % 26 := Int.emod_nonneg _ (by decide)
  have h1 : r % 26 < 26 := Int.emod_lt_of_pos _ (by decide)
  generalize hi : (r % 26) = i at h0 h1
  obtain ⟨j, rfl⟩ : ∃ j : Nat, i = (j : Int) := ⟨i.toNat, (Int.toNat_of_nonneg h0).symm⟩
  have hj : j < 26 := by omega
  have key : ∀ j : Nat, j < 26 → (Str.ofString "abcdefghijklmnopqrstuvwxyz").cps.toList[j]? = some (97 + j) := by decide +kernel
  exact ⟨97 + j, atI_nat (key j hj), by simp⟩
theorem paces_le : ∀ x ∈ paces, x ≤ 25 := by decide
theorem lets_succ (f p n : Nat) : lets f p (n + 1) = lets f p n ++ [97 + (f + p * n) % 26] := by
  unfold lets
  rw [List.range_succ, List.map_append]
  rfl
theorem lets_len (f p n : Nat) : (lets f p n).length = n := by
  unfold lets
  rw [List.length_map, List.length_range]
theorem sg_snoc (cs : List Nat) (c : Nat) : ((cs.map sg).map V.str) ++ [.str (sg c)] = ((cs ++ [c]).map sg).map V.str := by
  rw [List.map_append, List.map_append]
  rfl
theorem fresh0 {p : PenI} {H0 H : Hp} {n : Nat} {a : Addr} (P : PenAt p H0 H n) (h : H a = none) : H0 a = none := fresh_back P.1 h
theorem fresh_ne {p : PenI} {H0 H : Hp} {n : Nat} {a : Addr} (P : PenAt p H0 H n) (h : H a = none) : a ≠ p.d := by
  obtain ⟨kvs, h2⟩ := P.dict
  intro e
  rw [e, h2] at h
  cases h
end Law

/-! trees of lists and tuples, as it comes at each place (the Bool says nothing) -/
namespace TR
open PySem PySem.Spec L2 Evl
mutual
inductive TX (k : Bool) (H : Hp) : V → Tr → Prop
  | go {j : Bool} {a : Addr} {s q : Nat} : H a = some (ob j [.str "go", .int (s : Nat), .int (q : Nat)]) → TX k H (.ref a) (.go s q)
  | tell {j : Bool} {a : Addr} {n : Nat} {v : V} {t : Tr} : H a = some (ob j [.str "tell", .int (n : Nat), v]) → TX k H v t → TX k H (.ref a) (.tell n t)
  | read {j j2 : Bool} {a b : Addr} {p : Nat} {vs : List V} {ts : Trs} : H a = some (ob j [.str "read", .int (p : Nat), .ref b]) → H b = some (ob j2 vs) → TXs k H vs ts → TX k H (.ref a) (.read p ts)
inductive TXs (k : Bool) (H : Hp) : List V → Trs → Prop
  | nil : TXs k H [] .nil
  | cons {v : V} {vs : List V} {t : Tr} {r : Trs} : TX k H v t → TXs k H vs r → TXs k H (v :: vs) (.cons t r)
end
mutual
theorem TX.ex {k : Bool} {H H' : Hp} (e : Ex H H') : ∀ {t : Tr} {v : V}, TX k H v t → TX k H' v t
  | _, _, .go h => .go (e _ _ h)
  | _, _, .tell h r => .tell (e _ _ h) (TX.ex e r)
  | _, _, .read h1 h2 r => .read (e _ _ h1) (e _ _ h2) (TXs.ex e r)
theorem TXs.ex {k : Bool} {H H' : Hp} (e : Ex H H') : ∀ {ts : Trs} {vs : List V}, TXs k H vs ts → TXs k H' vs ts
  | _, _, .nil => .nil
  | _, _, .cons h r => .cons (TX.ex e h) (TXs.ex e r)
end
inductive KidX (k : Bool) (H : Hp) : List V → List Tr → Prop
  | nil : KidX k H [] []
  | cons {v : V} {vs : List V} {t : Tr} {r : List Tr} : TX k H v t → KidX k H vs r → KidX k H (v :: vs) (t :: r)
theorem TXs.kids {k : Bool} {H : Hp} : ∀ {ts : Trs} {vs : List V}, TXs k H vs ts → KidX k H vs ts.list
  | _, _, .nil => .nil
  | _, _, .cons h r => .cons h r.kids
theorem KidX.ex {k : Bool} {H H' : Hp} (e : Ex H H') : ∀ {vs : List V} {ts : List Tr}, KidX k H vs ts → KidX k H' vs ts
  | _, _, .nil => .nil
  | _, _, .cons h r => .cons (h.ex e) (KidX.ex e r)
theorem KidX.len {k : Bool} {H : Hp} : ∀ {vs : List V} {ts : List Tr}, KidX k H vs ts → vs.length = ts.length
  | _, _, .nil => rfl
  | _, _, .cons _ r => by rw [List.length_cons, List.length_cons, r.len]
theorem KidX.get {k : Bool} {H : Hp} : ∀ {vs : List V} {ts : List Tr} {i : Nat} {x : V}, KidX k H vs ts → vs[i]? = some x → ∃ t, ts[i]? = some t ∧ TX k H x t
  | _, _, _, _, .nil, h => by cases h
  | _, _, 0, _, .cons (t := t) h1 _, h => ⟨t, rfl, by rw [← Option.some.inj h]; exact h1⟩
  | _, _, i + 1, _, .cons _ r, h => KidX.get (i := i) r h
theorem KidX.snoc {k : Bool} {H : Hp} {v : V} {t : Tr} (h : TX k H v t) : ∀ {vs : List V} {ts : List Tr}, KidX k H vs ts → KidX k H (vs ++ [v]) (ts ++ [t])
  | _, _, .nil => .cons h .nil
  | _, _, .cons h1 r => .cons h1 (KidX.snoc h r)
theorem KidX.app {k : Bool} {H : Hp} : ∀ {vs : List V} {ts : List Tr} {us : List V} {rs : List Tr}, KidX k H vs ts → KidX k H us rs → KidX k H (vs ++ us) (ts ++ rs)
  | _, _, _, _, .nil, h => h
  | _, _, _, _, .cons h r, h2 => .cons h (KidX.app r h2)
theorem KidX.last {k : Bool} {H : Hp} : ∀ {vs : List V} {ts : List Tr}, KidX k H vs ts → vs ≠ [] → ∃ us v rs t, vs = us ++ [v] ∧ ts = rs ++ [t] ∧ KidX k H us rs ∧ TX k H v t
  | _, _, .nil, h => absurd rfl h
  | _, _, .cons (v := v) (t := t) h .nil, _ => ⟨[], v, [], t, rfl, rfl, .nil, h⟩
  | _, _, .cons (v := v) (t := t) h (.cons a1 a2), _ => by
    obtain ⟨us, v', rs, t', e1, e2, s, b1⟩ := KidX.last (.cons a1 a2) (by intro q; cases q)
    exact ⟨v :: us, v', t :: rs, t', by rw [e1]; rfl, by rw [e2]; rfl, .cons h s, b1⟩
theorem KidX.rev {k : Bool} {H : Hp} : ∀ {vs : List V} {ts : List Tr}, KidX k H vs ts → KidX k H vs.reverse ts.reverse
  | _, _, .nil => .nil
  | _, _, .cons h r => by
    rw [List.reverse_cons, List.reverse_cons]
    exact r.rev.snoc h
theorem KidX.txs {k : Bool} {H : Hp} : ∀ {ts : Trs} {vs : List V}, KidX k H vs ts.list → TXs k H vs ts
  | .nil, _, .nil => .nil
  | .cons _ _, _, .cons h r => .cons h (KidX.txs r)
end TR

namespace Law
open PySem PySem.Spec PyProof.Rows L2 Evl TR
theorem fold_app (l : List (Array Nat)) : ∀ a : Array Nat, (l.foldl (· ++ ·) a).toList = a.toList ++ (l.map Array.toList).flatten := by
  induction l with
  | nil => intro a; simp
  | cons x r ih =>
    intro a
    rw [List.foldl_cons, ih, List.map_cons, List.flatten_cons, Array.toList_append, List.append_assoc]
theorem mul_tx (l : List Nat) {n : Int} (h : 1 ≤ n) : Txt.mul (tx l) n = tx (List.replicate n.toNat l).flatten := by
  refine TL.ext_tl ?_
  unfold Txt.mul
  rw [if_neg (by omega)]
  by_cases q : (n == 1 || (tx l).length == 0) = true
  · rw [if_pos q]
    rw [Bool.or_eq_true, beq_iff_eq, beq_iff_eq] at q
    rcases q with q | q
    · subst q
      show l = (List.replicate 1 l).flatten
      simp
    · rw [tx_len] at q
      have e : l = [] := List.length_eq_zero_iff.mp q
      subst e
      show ([] : List Nat) = (List.replicate n.toNat []).flatten
      simp
  · rw [if_neg q]
    show (List.foldl (· ++ ·) #[] (List.replicate n.toNat (tx l).cps)).toList = (List.replicate n.toNat l).flatten
    rw [fold_app, List.map_replicate]
    rfl
theorem rep_len (n : Nat) (l : List Nat) : (List.replicate n l).flatten.length = n * l.length := by
  induction n with
  | zero => simp
  | succ k ih => rw [List.replicate_succ, List.flatten_cons, List.length_append, ih, Nat.succ_mul, Nat.add_comm]
theorem cut_to (l : List Nat) (k : Nat) : cutS (tx l) none (some (k : Int)) = tx (l.take k) := by
  refine TL.ext_tl ?_
  show (List.take _ (List.drop _ l)) = l.take k
  rw [HT.sIx_none, HT.sIx_nat, tx_len, Nat.sub_zero, List.drop_zero]
  rw [List.take_eq_take_iff]
  omega
theorem cut_from (l : List Nat) (k : Nat) : cutS (tx l) (some (k : Int)) none = tx (l.drop k) := by
  refine TL.ext_tl ?_
  show (List.take _ (List.drop _ l)) = l.drop k
  rw [HT.sIx_none, HT.sIx_nat, tx_len]
  by_cases h : k ≤ l.length
  · rw [Nat.min_eq_left h, List.take_of_length_le (by rw [List.length_drop]; omega)]
  · rw [Nat.min_eq_right (by omega), Nat.sub_self, List.take_zero, List.drop_eq_nil_of_le (by omega)]
theorem cut_mid (l : List Nat) (a b : Nat) : cutS (tx l) (some (a : Int)) (some ((a : Int) + (b : Int))) = tx ((l.drop a).take b) := by
  refine TL.ext_tl ?_
  show (List.take _ (List.drop _ l)) = (l.drop a).take b
  rw [show (a : Int) + (b : Int) = ((a + b : Nat) : Int) by omega, HT.sIx_nat, HT.sIx_nat, tx_len]
  by_cases h : a ≤ l.length
  · rw [Nat.min_eq_left h, List.take_eq_take_iff, List.length_drop]
    omega
  · have x1 : min a l.length = l.length := by omega
    have x2 : min (a + b) l.length = l.length := by omega
    rw [x1, x2, List.drop_length, List.drop_eq_nil_of_le (show l.length ≤ a by omega), List.take_nil, List.take_nil]
theorem join_bound (cs : List Nat) (h : cs.length ≤ 1000000) : ((cs.map sg).map (·.length)).sum + (cs.map sg).length * (Str.ofString "").length ≤ 16777216 := by
  rw [join_size, show (Str.ofString "").length = 0 from rfl]
  omega
theorem tx_le {l : List Nat} (h : l.length < 1000) : (tx l).length ≤ sizeLine := by
  rw [tx_len]
  exact sz_le h
theorem sg_tx (c : Nat) : sg c = tx [c] := rfl
theorem mem_rep {n : Nat} {l : List Nat} {c : Nat} (h : c ∈ (List.replicate n l).flatten) : c ∈ l := by
  obtain ⟨m, hm, hc⟩ := List.mem_flatten.mp h
  rw [List.eq_of_mem_replicate hm] at hc
  exact hc
theorem tx_app (l m : List Nat) : tx l ++ tx m = tx (l ++ m) := by
  refine TL.ext_tl ?_
  rw [TL.tl_append]
  rfl
theorem sgs_of (l : List Nat) : ST.signsOf (tx l) = l.map sg := rfl
theorem tx_size (l : List Nat) : (tx l).cps.size = l.length := by simp [tx]
theorem tx_at {l : List Nat} {i c : Nat} (h : (tx l).cps[i]? = some c) : l[i]? = some c := by
  rw [← h]
  simp [tx]
theorem sg_inj2 {c d : Nat} (h : sg c = sg d) : c = d := by
  have h2 : (sg c).cps.toList = (sg d).cps.toList := by rw [h]
  exact List.head_eq_of_cons_eq h2
theorem dct_nodup {l : List Nat} (h : l.Nodup) : ∀ i, i ≤ l.length → ST.dct (l.map sg) i = i
  | 0, _ => rfl
  | i + 1, hi => by
    have ih := dct_nodup h i (by omega)
    unfold ST.dct
    have hno : (((l.map sg).take i).any (· == (l.map sg).getD i Str.empty)) = false := by
      rw [Bool.eq_false_iff]
      intro q
      rw [List.any_eq_true] at q
      obtain ⟨x, hx, he⟩ := q
      rw [beq_iff_eq] at he
      have hi2 : i < l.length := by omega
      have e1 : (l.map sg).getD i Str.empty = sg l[i] := by
        rw [List.getD_eq_getElem?_getD, List.getElem?_map, List.getElem?_eq_getElem hi2]
        rfl
      rw [e1] at he
      obtain ⟨j, hj, ej⟩ := List.mem_iff_getElem.mp hx
      rw [List.length_take, List.length_map] at hj
      have ej2 : sg (l[j]'(by omega)) = x := by
        rw [← ej, List.getElem_take, List.getElem_map]
      have e2 : l[j]'(by omega) = l[i] := sg_inj2 (ej2.trans he)
      exact List.pairwise_iff_getElem.mp h j i (by omega) hi2 (by omega) e2
    rw [hno]
    show (if false = true then _ else _) = i + 1
    rw [if_neg (by decide), ih]
/-- letters: two to four different small ones -/
structure LG (l : List Nat) : Prop where
  lo : 2 ≤ l.length
  hi : l.length ≤ 4
  az : ∀ c ∈ l, 97 ≤ c ∧ c ≤ 122
  nd : l.Nodup
theorem lets_good {f p m : Nat} (hf : f < 26) (hp : p ∈ paces) (h1 : 2 ≤ m) (h2 : m ≤ 4) : LG (lets f p m) := by
  refine ⟨by rw [lets_len]; exact h1, by rw [lets_len]; exact h2, fun c hc => ?_, ?_⟩
  · unfold lets at hc
    obtain ⟨k, _, rfl⟩ := List.mem_map.mp hc
    omega
  · have key : ∀ f : Nat, f < 26 → ∀ p ∈ paces, (lets f p 2).Nodup ∧ (lets f p 3).Nodup ∧ (lets f p 4).Nodup := by decide +kernel
    obtain ⟨a, b, c⟩ := key f hf p hp
    have hm : m = 2 ∨ m = 3 ∨ m = 4 := by omega
    rcases hm with rfl | rfl | rfl <;> assumption
def spAreL : Sp := fun vs H Q _ => ∃ L : List Nat, vs = [.str (tx L)] ∧ LG L ∧ ∀ H', Ex H H' → Q (.bl true) H'
theorem kit_lt {K : PySem.W.Frag} : PySem.W.kitAny K (.type "list") [.type "list", .type "tuple"] = some true :=
  kitAny_cons (b := true) (kit_ty (by decide +kernel)) (fun h => by cases h) fun _ => rfl
theorem kit_tt {K : PySem.W.Frag} : PySem.W.kitAny K (.type "tuple") [.type "list", .type "tuple"] = some true :=
  kitAny_cons (b := false) (kit_ty (by decide +kernel)) (fun _ => kitAny_cons (b := true) (kit_ty (by decide +kernel)) (fun h => by cases h) fun _ => rfl) fun h => by cases h
theorem kit_ss {K : PySem.W.Frag} : PySem.W.kitOne K (.type "str") (.type "str") = some true := kit_ty (by decide +kernel)
theorem kit_ii {K : PySem.W.Frag} : PySem.W.kitOne K (.type "int") (.type "int") = some true := kit_ty (by decide +kernel)
theorem kit_ib {K : PySem.W.Frag} : PySem.W.kitOne K (.type "int") (.type "bool") = some false := kit_ty (by decide +kernel)
def spIsQ : Sp := fun vs H Q _ => ∃ (a : Addr) (k : Bool) (xs : List V), vs = [.ref a] ∧ H a = some (ob k xs) ∧ ∀ H', Ex H H' → Q (.bl true) H'
def spIsInt : Sp := fun vs H Q _ => ∃ v : Int, vs = [.int v] ∧ ∀ H', Ex H H' → Q (.bl true) H'
def spWhole : Sp := fun vs H Q _ => ∃ v lo hi : Int, vs = [.int v, .int lo, .int hi] ∧ lo ≤ v ∧ v ≤ hi ∧ ∀ H', Ex H H' → Q (.bl true) H'
def spIsPart : Sp := fun vs H Q _ => ∃ (t : Tr) (v : V) (k : Bool) (L : List Nat) (w n : Nat), vs = [v, .str (tx L), .int (w : Int), .int (n : Int)] ∧ TX k H v t ∧ t.ok L.length w n ∧ L.length ≤ 10 ∧ ∀ H', Ex H H' → Q (.bl true) H'
def spWithin : Sp := fun vs H Q _ => ∃ (t : Tr) (v : V) (k : Bool) (H0 : Hp), vs = [v] ∧ TX k H0 v t ∧ Ex H0 H ∧ ∀ r H' us, Ex H H' → H r = none → H' r = some (.lst us) → KidX k H0 us t.kids → Q (.ref r) H'
theorem go_ne_read : ¬ (V.str (Str.ofString "go") = V.str (Str.ofString "read")) := fun h => absurd (V.str.inj h) (by decide +kernel)
theorem go_ne_tell : ¬ (V.str (Str.ofString "go") = V.str (Str.ofString "tell")) := fun h => absurd (V.str.inj h) (by decide +kernel)
theorem tell_ne_read : ¬ (V.str (Str.ofString "tell") = V.str (Str.ofString "read")) := fun h => absurd (V.str.inj h) (by decide +kernel)
theorem tell_ne_go : ¬ (V.str (Str.ofString "tell") = V.str (Str.ofString "go")) := fun h => absurd (V.str.inj h) (by decide +kernel)
theorem read_ne_go : ¬ (V.str (Str.ofString "read") = V.str (Str.ofString "go")) := fun h => absurd (V.str.inj h) (by decide +kernel)
theorem read_ne_tell : ¬ (V.str (Str.ofString "read") = V.str (Str.ofString "tell")) := fun h => absurd (V.str.inj h) (by decide +kernel)
theorem iteD {c A B : Prop} [Decidable c] (hc : c) (h : A) : if decide c = true then A else B := by
  rw [if_pos (decide_eq_true hc)]
  exact h
theorem iteDn {c A B : Prop} [Decidable c] (hc : ¬ c) (h : B) : if decide c = true then A else B := by
  rw [if_neg (by rw [decide_eq_true_eq]; exact hc)]
  exact h
section
variable {P : Program} {w : World} {K : PySem.W.Frag} {mg : Str → Option Value} {base : Heap}
theorem ok_isQ {f : Addr} {fd : FuncData} (F : Fun K "is_list" "is_list" s_is_list f fd) (T : Tx mg) : FnOk P w K mg base CX0 1 f fd ["value"] spIsQ := by
  refine F.ok sc_is_list (fun vs H Q E h => ?_) (fun cdv A outer s H vs Q E hr h => ?_)
  · obtain ⟨a, k, xs, rfl, _⟩ := h
    rfl
  · obtain ⟨a, k, xs, rfl, ha, q⟩ := h
    refine ⟨_, (pss_one (ps_ret (pe_callB call_isiT (by rfl) T.isinstance PyProof.Rows.boot_isinstance (pa_cons (pv 0) (pa_cons (pe_tup (pa_cons (pe_bltn (v := .ty "list") (by rfl) T.list PyProof.Rows.boot_list rfl) (pa_cons (pe_bltn (v := .ty "tuple") (by rfl) T.tuple PyProof.Rows.boot_tuple rfl) pa_nil))) pa_nil))))), ?_⟩
    refine ⟨_, rfl, by show 2 ≤ sizeLine; decide, fun t ht => ?_⟩
    cases k
    · exact ⟨_, t, _, _, _, true, rfl, upd_same, .cons (.ty _) (.cons (.ty _) .nil), .base (.lst (Ex.new ht _ _ ha)), kit_lt, q _ (Ex.new ht)⟩
    · exact ⟨_, t, _, _, _, true, rfl, upd_same, .cons (.ty _) (.cons (.ty _) .nil), .base (.tup (Ex.new ht _ _ ha)), kit_tt, q _ (Ex.new ht)⟩
theorem ok_integer {f : Addr} {fd : FuncData} (F : Fun K "is_integer" "is_integer" s_is_integer f fd) (T : Tx mg) : FnOk P w K mg base CX0 1 f fd ["value"] spIsInt := by
  refine F.ok sc_is_integer (fun vs H Q E h => ?_) (fun cdv A outer s H vs Q E hr h => ?_)
  · obtain ⟨v, rfl, _⟩ := h
    rfl
  · obtain ⟨v, rfl, q⟩ := h
    refine ⟨_, (pss_one (ps_ret (pe_and (pe_callB call_isi (by rfl) T.isinstance PyProof.Rows.boot_isinstance (pa_cons (pv 0) (pa_cons (pe_bltn (v := .ty "int") (by rfl) T.int PyProof.Rows.boot_int rfl) pa_nil))) (pe_one (pe_not (pe_callB call_isi (by rfl) T.isinstance PyProof.Rows.boot_isinstance (pa_cons (pv 0) (pa_cons (pe_bltn (v := .ty "bool") (by rfl) T.bool PyProof.Rows.boot_bool rfl) pa_nil)))))))), ?_⟩
    refine ⟨_, rfl, _, _, _, _, true, rfl, .ty _, .base (.int _), kit_ii, true, rfl, ?_⟩
    exact ⟨_, rfl, _, _, _, _, false, rfl, .ty _, .base (.int _), kit_ib, false, rfl, q H (Ex.refl _)⟩
theorem ok_whole {f : Addr} {fd : FuncData} (F : Fun K "is_whole" "is_whole" s_is_whole f fd) (T : Tx mg) (c_is_integer : Kn P w K mg base "is_integer" ["value"] 1 spIsInt) : FnOk P w K mg base CX0 2 f fd ["value", "low", "high"] spWhole := by
  refine F.ok sc_is_whole (fun vs H Q E h => ?_) (fun cdv A outer s H vs Q E hr h => ?_)
  · obtain ⟨v, lo, hi, rfl, _⟩ := h
    rfl
  · obtain ⟨v, lo, hi, rfl, h1, h2, q⟩ := h
    refine ⟨_, (pss_one (ps_ret (pe_and (pe_call c_is_integer.ok (hr.mono (by decide)) (by rfl) c_is_integer.g c_is_integer.kp c_is_integer.b .nil pass0 (pa_cons (pv 0) pa_nil)) (pe_one (pe_chain op_le op_le (pv 1) (pv 0) (pv 2)))))), ?_⟩
    refine ⟨_, rfl, v, rfl, fun H' e => ⟨true, rfl, ?_⟩⟩
    refine ⟨_, rfl, _, rfl, _, _, rfl, rfl, _, rfl, iteD h1 ⟨_, rfl, _, _, rfl, rfl, ?_⟩⟩
    have q2 := q H' e
    show Q (V.bl (decide (v ≤ hi))) H'
    rw [decide_eq_true h2]
    exact q2
theorem le_a {c : Nat} (h : 97 ≤ c) : (!decide ((sg c).cps.toList < (Str.ofString "a").cps.toList)) = true := by
  rw [show (Str.ofString "a").cps.toList = [97] by decide +kernel, show (sg c).cps.toList = [c] from rfl]
  rw [decide_eq_false]
  · rfl
  · intro q
    rw [List.cons_lt_cons_iff] at q
    rcases q with q | ⟨_, q⟩
    · omega
    · exact absurd q (by simp)
theorem le_z {c : Nat} (h : c ≤ 122) : (!decide ((Str.ofString "z").cps.toList < (sg c).cps.toList)) = true := by
  rw [show (Str.ofString "z").cps.toList = [122] by decide +kernel, show (sg c).cps.toList = [c] from rfl]
  rw [decide_eq_false]
  · rfl
  · intro q
    rw [List.cons_lt_cons_iff] at q
    rcases q with q | ⟨_, q⟩
    · omega
    · exact absurd q (by simp)
theorem lc_str {x : Str} {g : TG} {tt : TT} {te : TE} {vs : List Nat} {σ : L2.St} {H1 : Hp} {D : Addr} {Qd : Hp → Prop} (Pv : Nat → Hp → Prop) (h0 : Pv 0 (upd H1 D (.lst [])))
    (hs : ∀ i c H, x.cps[i]? = some c → Pv i H → g (.str ⟨#[c]⟩) (wipe σ vs) H fun σ2 H2 => wipe σ2 vs = wipe σ vs ∧ tt σ2 H2 fun b H3 =>
      if b = true then te σ2 H3 fun z H4 => ∃ acc, H4 D = some (.lst acc) ∧ acc.length < sizeLine ∧ Pv (i + 1) (upd H4 D (.lst (acc ++ [z]))) else Pv (i + 1) H3) (hd : ∀ H, Pv x.cps.size H → Qd H) :
    ∃ W : Nat → Nat → Hp → Prop, (∃ m, W 0 m (upd H1 D (.lst []))) ∧ ∀ i m H, W i m H →
      ((Its x).stop i H ∧ Qd H) ∨ ((Its x).go i H ∧ ∃ Nx : Hp → Prop, (∀ H', Nx H' → ∃ m', m' < m ∧ W (i + 1) m' H') ∧ ∀ v H', (Its x).yld i H v H' → g v (wipe σ vs) H' fun σ2 H2 => wipe σ2 vs = wipe σ vs ∧ tt σ2 H2 fun b H3 =>
        if b = true then te σ2 H3 fun z H4 => ∃ acc, H4 D = some (.lst acc) ∧ acc.length < sizeLine ∧ Nx (upd H4 D (.lst (acc ++ [z]))) else Nx H3) := by
  refine ⟨fun i m H => i + m = x.cps.size ∧ Pv i H, ⟨_, Nat.zero_add _, h0⟩, ?_⟩
  rintro i m H ⟨e, p⟩
  by_cases hm : m = 0
  · have e2 : i = x.cps.size := by omega
    refine .inl ⟨by show x.cps.size ≤ i; omega, hd H ?_⟩
    rw [← e2]
    exact p
  · refine .inr ⟨by show i < x.cps.size; omega, Pv (i + 1), fun H' p' => ⟨m - 1, by omega, by omega, p'⟩, ?_⟩
    rintro v H' ⟨rfl, c, hc, rfl⟩
    exact hs i c _ hc p
theorem bl_snoc' (bs : List Bool) (b : Bool) : bs.map V.bl ++ [.bl b] = (bs ++ [b]).map V.bl := by
  rw [List.map_append]
  rfl
theorem all_yes (n : Nat) : (List.replicate n true).all id = true := by
  rw [List.all_eq_true]
  intro x hx
  rw [List.eq_of_mem_replicate hx]
  rfl
theorem ok_areL {f : Addr} {fd : FuncData} (F : Fun K "are_letters" "are_letters" s_are_letters f fd) (T : Tx mg) : FnOk P w K mg base CX0 1 f fd ["value"] spAreL := by
  refine F.ok sc_are_letters (fun vs H Q E h => ?_) (fun cdv A outer s H vs Q E hr h => ?_)
  · obtain ⟨L, rfl, _⟩ := h
    rfl
  · obtain ⟨L, rfl, hL, q⟩ := h
    have h1 := hL.lo
    have h2 := hL.hi
    refine ⟨_, (pss_cons (ps_if (PW.pt (pw_or (pt_not (pt_val (pe_callB call_isi (by rfl) T.isinstance PyProof.Rows.boot_isinstance (pa_cons (pv 0) (pa_cons (pe_bltn (v := .ty "str") (by rfl) T.str PyProof.Rows.boot_str rfl) pa_nil))))) (pw_or1 (pt_not (pt_chain op_le op_le pe_int (pe_callB call_len_str (by rfl) T.len PySem.boot_len (pa_cons (pv 0) pa_nil)) pe_int))))) (pss_one (ps_ret pe_bl)) pss_nil)
      (pss_one (ps_ret (pe_and (pe_callB (cr_all rfl) (by rfl) T.all PyProof.Rows.boot_all (pa_cons (pe_lc (own := [("sign", 1)]) (g := gName 1) (tt := tYes) rfl sc_are_letters.nd (pi_str (pv 0)) (blkOk_by (N := N_are_letters) (sc := defScope s_are_letters) (by decide +kernel)) (fun _ _ _ _ _ => (pg_name (i := 1) sc_are_letters.nd rfl (Or.inl rfl))) (fun _ _ _ _ _ => pts_nil) (fun _ _ _ _ _ => (pe_chain op_le_str op_le_str pe_str (pv 1) pe_str))) pa_nil)) (pe_one (pe_cmpR op_eq (EN.pe_lenSetS rfl (by rfl) T.len (by rfl) T.set (pv 0)) (pe_callB call_len_str (by rfl) T.len PySem.boot_len (pa_cons (pv 0) pa_nil)) (nomark _))))))), ?_⟩
    refine ⟨_, rfl, _, _, _, _, true, rfl, .ty _, .base (.str _), kit_ss, true, rfl, ?_⟩
    refine ⟨_, rfl, _, rfl, tx_le (by omega), _, _, rfl, rfl, _, rfl, ite2 (fun _ => ?_) (fun hn => absurd (decide_eq_true (by rw [tx_len]; omega)) hn)⟩
    refine ⟨_, _, rfl, rfl, _, rfl, ite2 (fun hb => ?_) (fun _ => ?_)⟩
    · rw [tx_len, decide_eq_true (by omega)] at hb
      cases hb
    refine ⟨_, rfl, _, rfl, fun D hD => ?_⟩
    refine lc_str (x := tx L) (fun i H' => Ex H H' ∧ H' D = some (.lst ((List.replicate i true).map V.bl))) ⟨Ex.new hD, upd_same⟩ (fun i c H' hic hw => ?_) (fun H' hw => ?_)
    · obtain ⟨e, hl⟩ := hw
      have hc := tx_at hic
      have az := hL.az c (List.mem_of_getElem? hc)
      have hi := (List.getElem?_eq_some_iff.mp hc).1
      refine ⟨rfl, _, rfl, _, _, rfl, rfl, _, rfl, ite2 (fun _ => ?_) (fun hn => absurd (le_a az.1) hn)⟩
      refine ⟨_, _, rfl, rfl, _, hl, ?_, e.mut hD, ?_⟩
      · rw [List.length_map, List.length_replicate]
        exact sz_lt (by omega)
      · rw [upd_same]
        refine congrArg (fun l => some (HO.lst l)) ?_
        show (List.replicate i true).map V.bl ++ [V.bl (!decide ((Str.ofString "z").cps.toList < (sg c).cps.toList))] = _
        rw [le_z az.2, bl_snoc', List.replicate_succ']
    · obtain ⟨e, hl⟩ := hw
      refine ⟨D, _, rfl, sq_of hl, _, rfl, ?_⟩
      rw [all_yes]
      refine ⟨_, rfl, _, rfl, by rw [tx_size]; omega, _, rfl, _, rfl, tx_le (by omega), rfl, ?_⟩
      have e2 : decide (V.int ((ST.dct (ST.signsOf (tx L)) (tx L).cps.size : Nat) : Int) = V.int (((tx L).length : Nat) : Int)) = true := decide_eq_true (by
        rw [sgs_of, tx_size, dct_nodup hL.nd _ (Nat.le_refl _), tx_len])
      show Q (V.bl (decide (V.int ((ST.dct (ST.signsOf (tx L)) (tx L).cps.size : Nat) : Int) = V.int (((tx L).length : Nat) : Int)))) H'
      rw [e2]
      exact q _ e
theorem ok_ispart {f : Addr} {fd : FuncData} (F : Fun K "_is_part" "_is_part" s_is_part f fd) (T : Tx mg) (c_is_list : Kn P w K mg base "is_list" ["value"] 1 spIsQ)
    (c_is_whole : Kn P w K mg base "is_whole" ["value", "low", "high"] 2 spWhole) : FnOk P w K mg base CX0 3 f fd ["part", "letters", "width", "states"] spIsPart := by
  refine F.ok sc_is_part (fun vs H Q E h => ?_) (fun cdv A outer s H vs Q E hr h => ?_)
  · obtain ⟨t, v, k, L, wd, n, rfl, _⟩ := h
    rfl
  · obtain ⟨t, v, k, L, wd, n, rfl, hT, hok, hL, q⟩ := h
    refine ⟨_, (pss_cons (ps_if (PW.pt (pw_or (pt_not (pt_val (pe_call c_is_list.ok (hr.mono (by decide)) (by rfl) c_is_list.g c_is_list.kp c_is_list.b .nil pass0 (pa_cons (pv 0) pa_nil)))) (pw_or1 (pt_cmpR op_ne (pe_callB call_len_seq (by rfl) T.len PySem.boot_len (pa_cons (pv 0) pa_nil)) pe_int (nomark _))))) (pss_one (ps_ret pe_bl)) pss_nil)
      (pss_cons (ps_asg (pv 0) (TR.pg_seq (by rfl) (pgs_cons (pg_name (i := 4) sc_is_part.nd rfl (Or.inl rfl)) (pgs_cons (pg_name (i := 5) sc_is_part.nd rfl (Or.inl rfl)) (pgs_cons (pg_name (i := 6) sc_is_part.nd rfl (Or.inl rfl)) pgs_nil)))))
      (pss_cons (ps_if (pt_cmpR op_eq (pv 4) pe_str (nomark _)) (pss_one (ps_ret (pe_and (pe_call c_is_whole.ok (hr.mono (by decide)) (by rfl) c_is_whole.g c_is_whole.kp c_is_whole.b .nil pass0 (pa_cons (pv 5) (pa_cons pe_int (pa_cons (pv 2) pa_nil)))) (pe_and (pe_call c_is_list.ok (hr.mono (by decide)) (by rfl) c_is_list.g c_is_list.kp c_is_list.b .nil pass0 (pa_cons (pv 6) pa_nil)) (pe_one (pe_cmpR op_eq (pe_callB call_len_seq (by rfl) T.len PySem.boot_len (pa_cons (pv 6) pa_nil)) (pe_callB call_len_str (by rfl) T.len PySem.boot_len (pa_cons (pv 1) pa_nil)) (nomark _))))))) pss_nil)
      (pss_cons (ps_if (pt_cmpR op_eq (pv 4) pe_str (nomark _)) (pss_one (ps_ret (pe_call c_is_whole.ok (hr.mono (by decide)) (by rfl) c_is_whole.g c_is_whole.kp c_is_whole.b .nil pass0 (pa_cons (pv 5) (pa_cons pe_int (pa_cons pe_int pa_nil)))))) pss_nil)
      (pss_cons (ps_if (pt_cmpR op_eq (pv 4) pe_str (nomark _)) (pss_one (ps_ret (pe_and (pe_call c_is_whole.ok (hr.mono (by decide)) (by rfl) c_is_whole.g c_is_whole.kp c_is_whole.b .nil pass0 (pa_cons (pv 5) (pa_cons pe_int (pa_cons (pe_op op_add (pv 2) pe_int) pa_nil)))) (pe_one (pe_call c_is_whole.ok (hr.mono (by decide)) (by rfl) c_is_whole.g c_is_whole.kp c_is_whole.b .nil pass0 (pa_cons (pv 6) (pa_cons pe_int (pa_cons (pe_op op_sub (pv 3) pe_int) pa_nil)))))))) pss_nil)
      (pss_one (ps_ret pe_bl))))))), ?_⟩
    cases hT with
    | @go j a s' q' h =>
      obtain ⟨o1, o2, o3⟩ := hok
      refine ⟨_, rfl, a, j, _, rfl, h, fun H1 e1 => ⟨true, rfl, ?_⟩⟩
      refine ⟨_, rfl, a, _, rfl, ob_seq (e1 _ _ h), rfl, _, rfl, iteNS rfl ?_⟩
      refine ⟨_, rfl, gSeq_of (e1 _ _ h) rfl ⟨_, _, rfl, _, _, rfl, _, _, rfl, rfl, ?_⟩⟩
      refine ⟨_, rfl, rfl, _, rfl, iteDn go_ne_read ?_⟩
      refine ⟨_, rfl, rfl, _, rfl, iteDn go_ne_tell ?_⟩
      refine ⟨_, rfl, rfl, _, rfl, iteD rfl ?_⟩
      refine ⟨_, rfl, _, rfl, _, _, rfl, rfl, _, _, _, rfl, by omega, by omega, fun H2 e2 => ⟨true, rfl, ?_⟩⟩
      exact ⟨_, rfl, _, rfl, _, _, rfl, rfl, _, _, _, rfl, by omega, by omega, fun H3 e3 => q _ ((e1.trans e2).trans e3)⟩
    | @tell j a n' v' t' h r =>
      obtain ⟨o1, o2⟩ := hok
      refine ⟨_, rfl, a, j, _, rfl, h, fun H1 e1 => ⟨true, rfl, ?_⟩⟩
      refine ⟨_, rfl, a, _, rfl, ob_seq (e1 _ _ h), rfl, _, rfl, iteNS rfl ?_⟩
      refine ⟨_, rfl, gSeq_of (e1 _ _ h) rfl ⟨_, _, rfl, _, _, rfl, _, _, rfl, rfl, ?_⟩⟩
      refine ⟨_, rfl, rfl, _, rfl, iteDn tell_ne_read ?_⟩
      refine ⟨_, rfl, rfl, _, rfl, iteD rfl ?_⟩
      exact ⟨_, rfl, _, _, _, rfl, by omega, by omega, fun H2 e2 => q _ (e1.trans e2)⟩
    | @read j k2 a b p' us ts h hb r =>
      obtain ⟨o1, o2, o3⟩ := hok
      have lk := r.kids.len
      refine ⟨_, rfl, a, j, _, rfl, h, fun H1 e1 => ⟨true, rfl, ?_⟩⟩
      refine ⟨_, rfl, a, _, rfl, ob_seq (e1 _ _ h), rfl, _, rfl, iteNS rfl ?_⟩
      refine ⟨_, rfl, gSeq_of (e1 _ _ h) rfl ⟨_, _, rfl, _, _, rfl, _, _, rfl, rfl, ?_⟩⟩
      refine ⟨_, rfl, rfl, _, rfl, iteD rfl ?_⟩
      refine ⟨_, rfl, _, rfl, _, _, _, rfl, by omega, by omega, fun H2 e2 => ⟨true, rfl, ?_⟩⟩
      have e12 := e1.trans e2
      refine ⟨_, rfl, b, k2, _, rfl, e12 _ _ hb, fun H3 e3 => ⟨true, rfl, ?_⟩⟩
      have e13 := e12.trans e3
      refine ⟨_, rfl, b, _, rfl, ob_seq (e13 _ _ hb), _, rfl, _, rfl, tx_le (by omega), rfl, ?_⟩
      have ee : decide (V.int ((us.length : Nat) : Int) = V.int (((tx L).length : Nat) : Int)) = true := decide_eq_true (by rw [tx_len, lk, o2])
      show Q (V.bl (decide (V.int ((us.length : Nat) : Int) = V.int (((tx L).length : Nat) : Int)))) _
      rw [ee]
      exact q _ e13
theorem ok_within {f : Addr} {fd : FuncData} (F : Fun K "_within" "_within" s_within f fd) (T : Tx mg) : FnOk P w K mg base CX0 1 f fd ["part"] spWithin := by
  refine F.ok sc_within (fun vs H Q E h => ?_) (fun cdv A outer s H vs Q E hr h => ?_)
  · obtain ⟨t, v, k, H0, rfl, _⟩ := h
    rfl
  · obtain ⟨t, v, k, H0, rfl, hT, e0, q⟩ := h
    refine ⟨_, (pss_cons (ps_if (pt_cmpR op_eq (pe_ix ix_seq (pv 0) pe_int (fun _ _ => rfl)) pe_str (nomark _)) (pss_one (ps_ret (pe_callTy call_list_of (by rfl) T.list PyProof.Rows.boot_list (pa_cons (pe_ix ix_seq (pv 0) pe_int (fun _ _ => rfl)) pa_nil)))) pss_nil)
      (pss_cons (ps_if (pt_cmpR op_eq (pe_ix ix_seq (pv 0) pe_int (fun _ _ => rfl)) pe_str (nomark _)) (pss_one (ps_ret (pe_lst (pa_cons (pe_ix ix_seq (pv 0) pe_int (fun _ _ => rfl)) pa_nil)))) pss_nil)
      (pss_one (ps_ret (pe_lst pa_nil))))), ?_⟩
    cases hT with
    | @go j a s' q' h =>
      refine ⟨_, rfl, ix_at (e0 _ _ h) (atI_nat (j := 0) rfl) ⟨rfl, _, rfl, iteDn go_ne_read ?_⟩⟩
      refine ⟨_, rfl, ix_at (e0 _ _ h) (atI_nat (j := 0) rfl) ⟨rfl, _, rfl, iteDn go_ne_tell ?_⟩⟩
      exact ⟨Nat.zero_le _, fun r hr => q r _ _ (Ex.new hr) hr upd_same .nil⟩
    | @tell j a n' v' t' h r0 =>
      refine ⟨_, rfl, ix_at (e0 _ _ h) (atI_nat (j := 0) rfl) ⟨rfl, _, rfl, iteDn tell_ne_read ?_⟩⟩
      refine ⟨_, rfl, ix_at (e0 _ _ h) (atI_nat (j := 0) rfl) ⟨rfl, _, rfl, iteD rfl ?_⟩⟩
      exact ⟨_, rfl, ix_at (e0 _ _ h) (atI_nat (j := 2) rfl) ⟨by show 1 ≤ sizeLine; decide, fun r hr => q r _ _ (Ex.new hr) hr upd_same (.cons r0 .nil)⟩⟩
    | @read j k2 a b p' us ts h hb r0 =>
      refine ⟨_, rfl, ix_at (e0 _ _ h) (atI_nat (j := 0) rfl) ⟨rfl, _, rfl, iteD rfl ?_⟩⟩
      exact ⟨_, rfl, ix_at (e0 _ _ h) (atI_nat (j := 2) rfl) ⟨b, _, rfl, ob_seq (e0 _ _ hb), fun r hr => q r _ _ (Ex.new hr) hr upd_same r0.kids⟩⟩
end
end Law

namespace Law
open PySem PySem.Spec PyProof.Rows L2 Evl TR
/-! ### the waiting ones -/
inductive Stk (k : Bool) (H0 H : Hp) : List V → List (Tr × Nat) → Prop
  | nil : Stk k H0 H [] []
  | cons {r : Addr} {v : V} {t : Tr} {d : Nat} {vs : List V} {ps : List (Tr × Nat)} : H r = some (.tup [v, .int (d : Nat)]) → TX k H0 v t → Stk k H0 H vs ps → Stk k H0 H (.ref r :: vs) ((t, d) :: ps)
theorem Stk.ex {k : Bool} {H0 H H' : Hp} (e : Ex H H') : ∀ {vs : List V} {ps : List (Tr × Nat)}, Stk k H0 H vs ps → Stk k H0 H' vs ps
  | _, _, .nil => .nil
  | _, _, .cons h1 h2 r => .cons (e _ _ h1) h2 (Stk.ex e r)
theorem Stk.len {k : Bool} {H0 H : Hp} : ∀ {vs : List V} {ps : List (Tr × Nat)}, Stk k H0 H vs ps → vs.length = ps.length
  | _, _, .nil => rfl
  | _, _, .cons _ _ r => by rw [List.length_cons, List.length_cons, r.len]
theorem Stk.app {k : Bool} {H0 H : Hp} : ∀ {vs : List V} {ps : List (Tr × Nat)} {us : List V} {qs : List (Tr × Nat)}, Stk k H0 H vs ps → Stk k H0 H us qs → Stk k H0 H (vs ++ us) (ps ++ qs)
  | _, _, _, _, .nil, h => h
  | _, _, _, _, .cons h1 h2 r, h => .cons h1 h2 (Stk.app r h)
theorem Stk.upd {k : Bool} {H0 H : Hp} {a : Addr} {o : HO} : ∀ {vs : List V} {ps : List (Tr × Nat)}, Stk k H0 H vs ps → (∀ xs, H a ≠ some (.tup xs)) → Stk k H0 (L2.upd H a o) vs ps
  | _, _, .nil, _ => .nil
  | _, _, .cons (r := r) h1 h2 r1, hn => .cons (by rw [upd_ne (fun q : r = a => hn _ (by rw [← q]; exact h1))]; exact h1) h2 (Stk.upd r1 hn)
theorem Stk.last {k : Bool} {H0 H : Hp} : ∀ {vs : List V} {ps : List (Tr × Nat)}, Stk k H0 H vs ps → vs ≠ [] →
    ∃ us r v t d qs, vs = us ++ [.ref r] ∧ ps = qs ++ [(t, d)] ∧ Stk k H0 H us qs ∧ H r = some (.tup [v, .int (d : Nat)]) ∧ TX k H0 v t
  | _, _, .nil, h => absurd rfl h
  | _, _, .cons (r := r) (v := v) (t := t) (d := d) h1 h2 .nil, _ => ⟨[], r, v, t, d, [], rfl, rfl, .nil, h1, h2⟩
  | _, _, .cons (r := r) (v := v) (t := t) (d := d) h1 h2 (.cons a1 a2 a3), _ => by
    obtain ⟨us, r', v', t', d', qs, e1, e2, s, b1, b2⟩ := Stk.last (.cons a1 a2 a3) (by intro q; cases q)
    exact ⟨.ref r :: us, r', v', t', d', (t, d) :: qs, by rw [e1]; rfl, by rw [e2]; rfl, .cons h1 h2 s, b1, b2⟩
def tot (ps : List (Tr × Nat)) : Nat := (ps.map fun p => p.1.size).sum
theorem tot_app (ps qs : List (Tr × Nat)) : tot (ps ++ qs) = tot ps + tot qs := by
  unfold tot
  rw [List.map_append, List.sum_append]
theorem tot_kids (ts : List Tr) (d : Nat) : tot (ts.map fun t => (t, d)) = total ts := by
  unfold tot total
  rw [List.map_map]
  rfl
theorem total_rev (ts : List Tr) : total ts.reverse = total ts := by
  unfold total
  rw [List.map_reverse, List.sum_reverse]
theorem len_tot : ∀ ps : List (Tr × Nat), ps.length ≤ tot ps
  | [] => Nat.zero_le _
  | p :: r => by
    have h1 := len_tot r
    have h2 := size_pos p.1
    show r.length + 1 ≤ p.1.size + tot r
    omega
def spFW : Sp := fun vs H Q _ => ∃ (t : Tr) (v : V) (k : Bool) (L : List Nat) (w n : Nat), vs = [v, .str (tx L), .int (w : Int), .int (n : Int)] ∧ TX k H v t ∧ t.ok L.length w n ∧ L.length ≤ 10 ∧ t.depth ≤ 40 ∧ t.size ≤ 10000 ∧ ∀ H', Ex H H' → Q .non H'
theorem pop_last {α : Type} (us : List α) (x : α) : (us ++ [x])[(us ++ [x]).length - 1]? = some x := by
  rw [List.length_append]
  simp
theorem take_next' {α : Type} {l : List α} {i : Nat} {x : α} (h : l[i]? = some x) : l.take (i + 1) = l.take i ++ [x] := by
  rw [List.take_add_one, h]
  rfl
theorem rev_get {α : Type} {l : List α} {i : Nat} {x : α} (h : l[l.length - 1 - i]? = some x) (hi : i < l.length) : l.reverse[i]? = some x := by
  rw [List.getElem?_reverse hi]
  exact h
section
variable {P : Program} {w : World} {K : PySem.W.Frag} {mg : Str → Option Value} {base : Heap}
theorem ok_fw {f : Addr} {fd : FuncData} (F : Fun K "first_wrong" "first_wrong" s_first_wrong f fd) (T : Tx mg) (c_is_part : Kn P w K mg base "_is_part" ["part", "letters", "width", "states"] 3 spIsPart)
    (c_within : Kn P w K mg base "_within" ["part"] 1 spWithin) : FnOk P w K mg base CX0 4 f fd ["tree", "letters", "width", "states"] spFW := by
  refine F.ok sc_first_wrong (fun vs H Q E h => ?_) (fun cdv A outer s H vs Q E hr h => ?_)
  · obtain ⟨t, v, k, L, wd, n, rfl, _⟩ := h
    rfl
  · obtain ⟨t, v, k, L, wd, n, rfl, hT, hok, hL, hdp, hsz, q⟩ := h
    refine ⟨_, (pss_cons (ps_set (i := 4) sc_first_wrong.nd rfl (Or.inl rfl) (pe_lst (pa_cons (pe_tup (pa_cons (pv 0) (pa_cons pe_int pa_nil))) pa_nil)))
      (pss_cons (ps_set (i := 5) sc_first_wrong.nd rfl (Or.inl rfl) pe_int)
      (pss_cons (ps_while PassesOwn.never (pt_truth (pv 4) (by intro _; rfl)) (pss_cons (ps_asg (pe_bm0 PySem.F.plainAttrs_list PySem.F.slot_list_pop PySem.F.type_list_pop mt_pop (pv 4)) (pg_tup (by rfl) (pgs_cons (pg_name (i := 6) sc_first_wrong.nd rfl (Or.inl rfl)) (pgs_cons (pg_name (i := 7) sc_first_wrong.nd rfl (Or.inr rfl)) pgs_nil))))
      (pss_cons (ps_if (PW.pt (pw_or (pt_cmpR op_gt (pv 7) (pe_glob (v := .int 40) rfl T.m_DEEPEST ⟨_, rfl⟩) (nomark _)) (pw_or1 (pt_not (pt_val (pe_call c_is_part.ok (hr.mono (by decide)) (by rfl) c_is_part.g c_is_part.kp c_is_part.b .nil pass0 (pa_cons (pv 6) (pa_cons (pv 1) (pa_cons (pv 2) (pa_cons (pv 3) pa_nil)))))))))) (pss_one (ps_ret (pv 5))) pss_nil)
      (pss_cons (ps_expr (pe_bm PySem.F.plainAttrs_list PySem.F.slot_list_extend PySem.F.type_list_extend mt_extend (pv 4) (pa_cons (pe_lc (own := [("inner", 8)]) (g := gName 8) (tt := tYes) rfl sc_first_wrong.nd (pi_reversed (by rfl) T.reversed (pa_cons (pe_call c_within.ok (hr.mono (by decide)) (by rfl) c_within.g c_within.kp c_within.b .nil pass0 (pa_cons (pv 6) pa_nil)) pa_nil)) (blkOk_by (N := N_first_wrong) (sc := defScope s_first_wrong) (by decide +kernel)) (fun _ _ _ _ _ => (pg_name (i := 8) sc_first_wrong.nd rfl (Or.inl rfl))) (fun _ _ _ _ _ => pts_nil) (fun _ _ _ _ _ => (pe_tup (pa_cons (pv 8) (pa_cons (pe_op op_add (pv 7) pe_int) pa_nil))))) pa_nil)))
      (pss_one (ps_aug (i := 5) sc_first_wrong.nd rfl (Or.inl rfl) pe_int ip_add))))))
      (pss_one (ps_ret pe_non))))), ?_⟩
    refine ⟨_, rfl, by show 2 ≤ sizeLine; decide, fun t1 ht1 => ⟨by show 1 ≤ sizeLine; decide, fun l hl => ?_⟩⟩
    have hl0 : H l = none := fresh_back (Ex.new ht1) hl
    have e1 := (Ex.new (o := .tup [v, .int 1]) ht1).trans (Ex.new (o := .lst [V.ref t1]) hl)
    refine ⟨fun m σ H' => ∃ (st : List V) (ps : List (Tr × Nat)) (nm : Int) (y6 y7 y8 : Option V), σ = [some v, some (.str (tx L)), some (.int (wd : Int)), some (.int (n : Int)), some (.ref l), some (.int nm), y6, y7, y8] ∧
        Ex H H' ∧ H' l = some (.lst st) ∧ Stk k H H' st ps ∧ (∀ p ∈ ps, p.1.ok L.length wd n ∧ p.2 + p.1.depth ≤ 41) ∧ m = tot ps ∧ m ≤ 10000,
      ⟨t.size, [.ref t1], [(t, 1)], 0, none, none, none, rfl, e1, upd_same, .cons (Ex.new hl _ _ upd_same) hT .nil, fun p hp => ?_, ?_, hsz⟩, fun m σ H' hw => ?_⟩
    · rw [List.mem_singleton.mp hp]
      exact ⟨hok, by show 1 + t.depth ≤ 41; omega⟩
    · show t.size = t.size + 0
      rfl
    obtain ⟨st, ps, nm, y6, y7, y8, rfl, e2, hst, S, hall, hm, hm2⟩ := hw
    refine ⟨_, rfl, !st.isEmpty, .inl ⟨st, sq_of hst, rfl⟩, ?_⟩
    cases st with
    | nil =>
      refine iteF ?_
      exact q _ e2
    | cons s0 srest =>
      refine iteT ?_
      obtain ⟨us, r, pv_, pt, d, qs, eS, eP, S', hr, hTA⟩ := S.last (by intro z; cases z)
      rw [eS] at hst
      rw [eP] at hm hall
      have hpt := hall (pt, d) (List.mem_append_right _ List.mem_cons_self)
      have hpt2 : d + pt.depth ≤ 41 := hpt.2
      have dpos : 1 ≤ pt.depth := by
        cases pt
        · exact Nat.le_refl 1
        · exact Nat.succ_le_succ (Nat.zero_le _)
        · exact Nat.succ_le_succ (Nat.zero_le _)
      have hm3 : m = tot qs + pt.size := by
        rw [hm, tot_app]
        rfl
      have nrl : r ≠ l := fun z => by
        rw [z, hst] at hr
        cases hr
      refine ⟨fun σ2 H2 => ∃ m', m' < m ∧ ∃ (st : List V) (ps : List (Tr × Nat)) (nm : Int) (y6 y7 y8 : Option V), σ2 = [some v, some (.str (tx L)), some (.int (wd : Int)), some (.int (n : Int)), some (.ref l), some (.int nm), y6, y7, y8] ∧
        Ex H H2 ∧ H2 l = some (.lst st) ∧ Stk k H H2 st ps ∧ (∀ p ∈ ps, p.1.ok L.length wd n ∧ p.2 + p.1.depth ≤ 41) ∧ m' = tot ps ∧ m' ≤ 10000, fun σ2 H2 h => h, ?_⟩
      refine ⟨_, rfl, .inl ⟨rfl, _, sq_of hst⟩, l, _, _, rfl, rfl, hst, pop_last _ _, ?_⟩
      rw [List.dropLast_concat]
      have e3 : Ex H (L2.upd H' l (.lst us)) := e2.mut hl0
      have hl3 : (L2.upd H' l (.lst us)) l = some (.lst us) := upd_same
      have hr3 : (L2.upd H' l (.lst us)) r = some (.tup [pv_, .int (d : Nat)]) := by
        rw [upd_ne nrl]
        exact hr
      have S3 := S'.upd (a := l) (o := .lst us) fun xs hh => by
        rw [hst] at hh
        cases hh
      generalize (L2.upd H' l (.lst us)) = H3 at e3 hl3 hr3 S3 ⊢
      refine ⟨r, _, rfl, st_of hr3, rfl, _, _, rfl, _, _, rfl, rfl, ?_⟩
      refine ⟨_, rfl, _, _, rfl, rfl, _, rfl, iteDn (by omega) ?_⟩
      refine ⟨_, rfl, _, rfl, _, rfl, _, rfl, pt, pv_, k, L, wd, n, rfl, hTA.ex e3, hpt.1, hL, fun H4 e4 => ⟨true, rfl, ?_⟩⟩
      have e34 := e3.trans e4
      refine ⟨_, rfl, .inl ⟨rfl, _, sq_of (e4 _ _ hl3)⟩, ?_⟩
      refine ⟨_, rfl, pt, pv_, k, H, rfl, hTA, e34, fun r2 H5 ks e5 hr2 hks KK => ?_⟩
      have e35 := e34.trans e5
      have lks := KK.len
      refine ⟨r2, ks, rfl, sq_of hks, fun D hD => ?_⟩
      refine lc_it (walk_rev (K := K) (a := r2) (xs := ks)) (fun i H6 => Ex H5 H6 ∧ ∃ zs, H6 D = some (.lst zs) ∧ Stk k H H6 zs ((pt.kids.reverse.take i).map fun x => (x, d + 1))) ⟨Ex.new hD, [], upd_same, .nil⟩ (fun i H6 _ hw => sq_of (hw.1 _ _ hks)) (fun i x H6 H7 hi hw hy => ?_) (fun H6 hw => ?_)
      · obtain ⟨e6, zs, hzs, Z⟩ := hw
        obtain ⟨rfl, hx⟩ := hy
        obtain ⟨kt, hkt, hka⟩ := KK.get hx
        have hi2 : i < pt.kids.length := by omega
        have hkt2 : pt.kids.reverse[i]? = some kt := rev_get (by rw [← lks]; exact hkt) hi2
        have lz := Z.len
        refine ⟨rfl, _, rfl, _, rfl, _, _, rfl, rfl, by show 2 ≤ sizeLine; decide, fun q2 hq2 => ?_⟩
        have nDq : D ≠ q2 := fun z => by
          rw [z, hq2] at hzs
          cases hzs
        refine ⟨zs, Ex.new hq2 _ _ hzs, ?_, (e6.trans (Ex.new hq2)).mut hD, zs ++ [.ref q2], upd_same, ?_⟩
        · have : zs.length ≤ i := by
            rw [lz, List.length_map, List.length_take]
            exact Nat.min_le_left _ _
          have l2 := KK.len
          have l3 : pt.kids.length ≤ total pt.kids := by
            have := len_tot (pt.kids.map fun x => (x, 0))
            rw [List.length_map, tot_kids] at this
            exact this
          have l4 := size_kids pt
          exact sz_lt (by omega)
        · rw [take_next' hkt2, List.map_append]
          refine Stk.upd ((Z.ex (Ex.new hq2)).app (.cons upd_same hka .nil)) fun xs hh => ?_
          rw [upd_ne nDq, hzs] at hh
          cases hh
      · obtain ⟨e6, zs, hzs, Z⟩ := hw
        rw [lks, ← List.length_reverse, List.take_length] at Z
        have e46 := e5.trans e6
        have lz := Z.len
        have lu := S3.len
        rw [List.length_map, List.length_reverse] at lz
        have l3 : pt.kids.length ≤ total pt.kids := by
          have := len_tot (pt.kids.map fun x => (x, 0))
          rw [List.length_map, tot_kids] at this
          exact this
        have l4 := size_kids pt
        have l5 := len_tot qs
        have hl6 : H6 l = some (.lst us) := e46 _ _ (e4 _ _ hl3)
        refine ⟨l, D, us, zs, rfl, rfl, hl6, hzs, sz_of (by omega), ?_⟩
        refine ⟨_, rfl, _, _, rfl, rfl, tot (qs ++ pt.kids.reverse.map fun x => (x, d + 1)), ?_, us ++ zs, qs ++ pt.kids.reverse.map fun x => (x, d + 1), nm + 1, _, _, _, rfl, (e35.trans e6).mut hl0, upd_same, ?_, fun p hp => ?_, rfl, ?_⟩
        · rw [tot_app, tot_kids, total_rev]
          omega
        · refine Stk.upd ((S3.ex (e4.trans e46)).app Z) fun xs hh => ?_
          rw [hl6] at hh
          cases hh
        · rcases List.mem_append.mp hp with h | h
          · exact hall p (List.mem_append_left _ h)
          · obtain ⟨x, hx, rfl⟩ := List.mem_map.mp h
            have hx2 := List.mem_reverse.mp hx
            have hd := depth_kids x hx2
            exact ⟨ok_kids hpt.1 x hx2, by show d + 1 + x.depth ≤ 41; omega⟩
        · rw [tot_app, tot_kids, total_rev]
          omega
end
end Law

namespace TR
open PySem PySem.Spec L2 Evl
theorem Kids.last {k : Bool} {H : Hp} : ∀ {vs : List V} {ts : List Tr}, Kids k H vs ts → vs ≠ [] → ∃ us v rs t, vs = us ++ [v] ∧ ts = rs ++ [t] ∧ Kids k H us rs ∧ TA k H v t
  | _, _, .nil, h => absurd rfl h
  | _, _, .cons (v := v) (t := t) h .nil, _ => ⟨[], v, [], t, rfl, rfl, .nil, h⟩
  | _, _, .cons (v := v) (t := t) h (.cons a1 a2), _ => by
    obtain ⟨us, v', rs, t', e1, e2, s, b1⟩ := Kids.last (.cons a1 a2) (by intro q; cases q)
    exact ⟨v :: us, v', t :: rs, t', by rw [e1]; rfl, by rw [e2]; rfl, .cons h s, b1⟩
theorem Kids.rev {k : Bool} {H : Hp} : ∀ {vs : List V} {ts : List Tr}, Kids k H vs ts → Kids k H vs.reverse ts.reverse
  | _, _, .nil => .nil
  | _, _, .cons h r => by
    rw [List.reverse_cons, List.reverse_cons]
    exact r.rev.snoc h
/-! ### trees of tuples do not change with a list -/
mutual
theorem TA.upd {H : Hp} {a : Addr} {o : HO} (hn : ∀ xs, H a ≠ some (.tup xs)) : ∀ {t : Tr} {v : V}, TA true H v t → TA true (L2.upd H a o) v t
  | _, _, .go (a := r) h => .go (by rw [upd_ne (fun q : r = a => hn _ (by rw [← q]; exact h))]; exact h)
  | _, _, .tell (a := r) h r1 => .tell (by rw [upd_ne (fun q : r = a => hn _ (by rw [← q]; exact h))]; exact h) (TA.upd hn r1)
  | _, _, .read (a := r) (b := b) h hb r1 => .read (by rw [upd_ne (fun q : r = a => hn _ (by rw [← q]; exact h))]; exact h) (by rw [upd_ne (fun q : b = a => hn _ (by rw [← q]; exact hb))]; exact hb) (TAs.upd hn r1)
theorem TAs.upd {H : Hp} {a : Addr} {o : HO} (hn : ∀ xs, H a ≠ some (.tup xs)) : ∀ {ts : Trs} {vs : List V}, TAs true H vs ts → TAs true (L2.upd H a o) vs ts
  | _, _, .nil => .nil
  | _, _, .cons h r => .cons (TA.upd hn h) (TAs.upd hn r)
end
theorem Kids.upd {H : Hp} {a : Addr} {o : HO} (hn : ∀ xs, H a ≠ some (.tup xs)) : ∀ {vs : List V} {ts : List Tr}, Kids true H vs ts → Kids true (L2.upd H a o) vs ts
  | _, _, .nil => .nil
  | _, _, .cons h r => .cons (h.upd hn) (Kids.upd hn r)
theorem Kids.tas {k : Bool} {H : Hp} : ∀ {ts : Trs} {vs : List V}, Kids k H vs ts.list → TAs k H vs ts
  | .nil, _, .nil => .nil
  | .cons _ _, _, .cons h r => .cons h (Kids.tas r)
end TR
namespace Law
open PySem PySem.Spec PyProof.Rows L2 Evl TR
theorem total_app (ts us : List Tr) : total (ts ++ us) = total ts + total us := by
  unfold total
  rw [List.map_append, List.sum_append]
theorem len_total (ts : List Tr) : ts.length ≤ total ts := by
  have := len_tot (ts.map fun x => (x, 0))
  rw [List.length_map, tot_kids] at this
  exact this
def spAll : Sp := fun vs H Q _ => ∃ (t : Tr) (v : V) (k : Bool), vs = [v] ∧ TX k H v t ∧ t.size ≤ 10000 ∧ ∀ r H' us, Ex H H' → H r = none → H' r = some (.lst us) → us.length = t.size → Q (.ref r) H'
theorem size_mem {t : Tr} : ∀ {ts : List Tr}, t ∈ ts → t.size ≤ total ts
  | x :: r, h => by
    rcases List.mem_cons.mp h with q | q
    · rw [q]
      exact Nat.le_add_right _ _
    · exact Nat.le_trans (size_mem q) (Nat.le_add_left _ _)
/-- names that leave the states as they are -/
def Same1 (xs : List V) (n : Nat) : Prop := ∀ q : Nat, q < n → atI xs (q : Int) = some (.int (q : Nat))
def spRen (d : Nat) : Sp := fun vs H Q _ => ∃ (t : Tr) (v : V) (k : Bool) (l w n : Nat) (an : Addr) (xs : List V), vs = [v, .ref an] ∧ TX k H v t ∧ t.ok l w n ∧ H an = some (.lst xs) ∧ Same1 xs n ∧ t.depth ≤ d ∧ t.size ≤ 10000 ∧ ∀ H' v', Ex H H' → TA true H' v' t → Q v' H'
section
variable {P : Program} {w : World} {K : PySem.W.Frag} {mg : Str → Option Value} {base : Heap}
theorem ok_all {f : Addr} {fd : FuncData} (F : Fun K "all_parts" "all_parts" s_all_parts f fd) (T : Tx mg) (c_within : Kn P w K mg base "_within" ["part"] 1 spWithin) : FnOk P w K mg base CX0 2 f fd ["tree"] spAll := by
  refine F.ok sc_all_parts (fun vs H Q E h => ?_) (fun cdv A outer s H vs Q E hr h => ?_)
  · obtain ⟨t, v, k, rfl, _⟩ := h
    rfl
  · obtain ⟨t, v, k, rfl, hT, hsz, q⟩ := h
    refine ⟨_, (pss_cons (ps_set (i := 1) sc_all_parts.nd rfl (Or.inl rfl) (pe_lst (pa_cons (pv 0) pa_nil)))
      (pss_cons (ps_set (i := 2) sc_all_parts.nd rfl (Or.inl rfl) (pe_lst pa_nil))
      (pss_cons (ps_while PassesOwn.never (pt_truth (pv 1) (by intro _; rfl)) (pss_cons (ps_set (i := 3) sc_all_parts.nd rfl (Or.inl rfl) (pe_bm0 PySem.F.plainAttrs_list PySem.F.slot_list_pop PySem.F.type_list_pop mt_pop (pv 1)))
      (pss_cons (ps_expr (pe_bm PySem.F.plainAttrs_list PySem.F.slot_list_append PySem.F.type_list_append mt_append (pv 2) (pa_cons (pv 3) pa_nil)))
      (pss_one (ps_expr (pe_bm PySem.F.plainAttrs_list PySem.F.slot_list_extend PySem.F.type_list_extend mt_extend (pv 1) (pa_cons (pe_lc (own := [("inner", 4)]) (g := gName 4) (tt := tYes) rfl sc_all_parts.nd (pi_reversed (by rfl) T.reversed (pa_cons (pe_call c_within.ok (hr.mono (by decide)) (by rfl) c_within.g c_within.kp c_within.b .nil pass0 (pa_cons (pv 3) pa_nil)) pa_nil)) (blkOk_by (N := N_all_parts) (sc := defScope s_all_parts) (by decide +kernel)) (fun _ _ _ _ _ => (pg_name (i := 4) sc_all_parts.nd rfl (Or.inl rfl))) (fun _ _ _ _ _ => pts_nil) (fun _ _ _ _ _ => (pv 4))) pa_nil)))))))
      (pss_one (ps_ret (pv 2)))))), ?_⟩
    refine ⟨_, rfl, by show 1 ≤ sizeLine; decide, fun l1 hl1 => ?_⟩
    have e0 := Ex.new (o := .lst [v]) hl1
    refine ⟨Nat.zero_le _, fun l2 hl2 => ?_⟩
    have hl20 : H l2 = none := fresh_back e0 hl2
    have e1 := e0.trans (Ex.new (o := .lst []) hl2)
    have n12 : l1 ≠ l2 := fun z => by
      rw [← z, upd_same] at hl2
      cases hl2
    refine ⟨fun m σ H' => ∃ (st : List V) (ts : List Tr) (fs : List V) (y3 y4 : Option V), σ = [some v, some (.ref l1), some (.ref l2), y3, y4] ∧ Ex H H' ∧ H' l1 = some (.lst st) ∧ KidX k H st ts ∧ H' l2 = some (.lst fs) ∧ fs.length + total ts = t.size ∧ m = total ts,
      ⟨t.size, [v], [t], [], none, none, rfl, e1, Ex.new hl2 _ _ upd_same, .cons hT .nil, upd_same, by show 0 + (t.size + 0) = t.size; omega, rfl⟩, fun m σ H' hw => ?_⟩
    obtain ⟨st, ts, fs, y3, y4, rfl, e2, hst, KK, hfs, hsum, hm⟩ := hw
    refine ⟨_, rfl, !st.isEmpty, .inl ⟨st, sq_of hst, rfl⟩, ?_⟩
    cases st with
    | nil =>
      refine iteF ?_
      cases KK
      exact ⟨_, rfl, q l2 _ fs e2 hl20 hfs hsum⟩
    | cons s0 srest =>
      refine iteT ?_
      obtain ⟨us, x, rs, pt, eS, eP, K', hTA⟩ := KK.last (by intro z; cases z)
      rw [eS] at hst
      subst eP
      rw [total_app, show total [pt] = pt.size from Nat.add_zero _] at hsum hm
      have hk := size_kids pt
      refine ⟨fun σ2 H2 => ∃ m', m' < m ∧ ∃ (st : List V) (ts : List Tr) (fs : List V) (y3 y4 : Option V), σ2 = [some v, some (.ref l1), some (.ref l2), y3, y4] ∧ Ex H H2 ∧ H2 l1 = some (.lst st) ∧ KidX k H st ts ∧ H2 l2 = some (.lst fs) ∧ fs.length + total ts = t.size ∧ m' = total ts, fun σ2 H2 h => h, ?_⟩
      refine ⟨_, rfl, .inl ⟨rfl, _, sq_of hst⟩, l1, _, _, rfl, rfl, hst, pop_last _ _, ?_⟩
      rw [List.dropLast_concat]
      have e3 : Ex H (L2.upd H' l1 (.lst us)) := e2.mut hl1
      have hl3 : (L2.upd H' l1 (.lst us)) l1 = some (.lst us) := upd_same
      have hf3 : (L2.upd H' l1 (.lst us)) l2 = some (.lst fs) := by
        rw [upd_ne n12.symm]
        exact hfs
      generalize (L2.upd H' l1 (.lst us)) = H3 at e3 hl3 hf3 ⊢
      refine ⟨_, rfl, .inl ⟨rfl, _, sq_of hf3⟩, _, rfl, l2, _, _, rfl, rfl, hf3, sz_lt (by omega), ?_⟩
      have e4 : Ex H (L2.upd H3 l2 (.lst (fs ++ [x]))) := e3.mut hl20
      have hl4 : (L2.upd H3 l2 (.lst (fs ++ [x]))) l1 = some (.lst us) := by
        rw [upd_ne n12]
        exact hl3
      have hf4 : (L2.upd H3 l2 (.lst (fs ++ [x]))) l2 = some (.lst (fs ++ [x])) := upd_same
      generalize (L2.upd H3 l2 (.lst (fs ++ [x]))) = H4 at e4 hl4 hf4 ⊢
      refine ⟨_, rfl, .inl ⟨rfl, _, sq_of hl4⟩, ?_⟩
      refine ⟨_, rfl, pt, x, k, H, rfl, hTA, e4, fun r2 H5 ks e5 hr2 hks KX => ?_⟩
      have lks := KX.len
      have ltk := len_total pt.kids
      refine ⟨r2, ks, rfl, sq_of hks, fun D hD => ?_⟩
      refine lc_it (walk_rev (K := K) (a := r2) (xs := ks)) (fun i H6 => Ex H5 H6 ∧ H6 D = some (.lst (ks.reverse.take i))) ⟨Ex.new hD, upd_same⟩ (fun i H6 _ hw => sq_of (hw.1 _ _ hks)) (fun i z H6 H7 hi hw hy => ?_) (fun H6 hw => ?_)
      · obtain ⟨e6, hz⟩ := hw
        obtain ⟨rfl, hx⟩ := hy
        refine ⟨rfl, _, rfl, _, hz, ?_, e6.mut hD, ?_⟩
        · rw [List.length_take]
          exact sz_lt (by omega)
        · rw [upd_same, take_next' (rev_get hx hi)]
      · obtain ⟨e6, hz⟩ := hw
        rw [← List.length_reverse, List.take_length] at hz
        have hl6 := e6 _ _ (e5 _ _ hl4)
        have lu := K'.len
        have ltr := len_total rs
        refine ⟨l1, D, us, ks.reverse, rfl, rfl, hl6, hz, sz_of (by rw [List.length_reverse]; omega), ?_⟩
        refine ⟨total (rs ++ pt.kids.reverse), by rw [total_app, total_rev]; omega, us ++ ks.reverse, rs ++ pt.kids.reverse, fs ++ [x], _, _, rfl, ((e4.trans e5).trans e6).mut hl1, upd_same, K'.app KX.rev, ?_, ?_, rfl⟩
        · rw [upd_ne n12.symm]
          exact e6 _ _ (e5 _ _ hf4)
        · rw [List.length_append, total_app, total_rev]
          show fs.length + 1 + _ = _
          omega
theorem ok_ren0 {f : Addr} {fd : FuncData} (F : Fun K "renamed" "renamed" s_renamed f fd) (T : Tx mg) (g : mg "renamed" = some (.ref f)) (b : Binds K fd ["tree", "names"] []) : ∀ d : Nat, FnOk P w K mg base CX0 (d + 1) f fd ["tree", "names"] (spRen d)
  | 0 => by
    refine F.ok sc_renamed (fun vs H Q E h => ?_) (fun cdv A outer s H vs Q E hr h => ?_)
    · obtain ⟨t, v, k, l, wd, n, an, xs, rfl, _⟩ := h
      rfl
    · obtain ⟨t, v, k, l, wd, n, an, xs, rfl, hT, hok, han, hS, hd, hsz, q⟩ := h
      exfalso
      cases t
      · exact absurd hd (by show ¬ (1 ≤ 0); omega)
      · exact absurd hd (by show ¬ (_ + 1 ≤ 0); omega)
      · exact absurd hd (by show ¬ (_ + 1 ≤ 0); omega)
  | d + 1 => by
    have c_renamed : Kn P w K mg base "renamed" ["tree", "names"] (d + 1) (spRen d) := ⟨f, fd, ok_ren0 F T g b d, g, F.kp, b⟩
    refine F.ok sc_renamed (fun vs H Q E h => ?_) (fun cdv A outer s H vs Q E hr h => ?_)
    · obtain ⟨t, v, k, l, wd, n, an, xs, rfl, _⟩ := h
      rfl
    · obtain ⟨t, v, k, l, wd, n, an, xs, rfl, hT, hok, han, hS, hd, hsz, q⟩ := h
      refine ⟨_, (pss_cons (ps_asg (pv 0) (TR.pg_seq (by rfl) (pgs_cons (pg_name (i := 2) sc_renamed.nd rfl (Or.inl rfl)) (pgs_cons (pg_name (i := 3) sc_renamed.nd rfl (Or.inl rfl)) (pgs_cons (pg_name (i := 4) sc_renamed.nd rfl (Or.inl rfl)) pgs_nil)))))
      (pss_cons (ps_if (pt_cmpR op_eq (pv 2) pe_str (nomark _)) (pss_one (ps_ret (pe_tup (pa_cons (pv 2) (pa_cons (pv 3) (pa_cons (pe_ix ix_list (pv 1) (pv 4) (fun _ _ => rfl)) pa_nil)))))) pss_nil)
      (pss_cons (ps_if (pt_cmpR op_eq (pv 2) pe_str (nomark _)) (pss_one (ps_ret (pe_tup (pa_cons (pv 2) (pa_cons (pv 3) (pa_cons (pe_call c_renamed.ok (hr.mono (by omega)) (by rfl) c_renamed.g c_renamed.kp c_renamed.b .nil pass0 (pa_cons (pv 4) (pa_cons (pv 1) pa_nil))) pa_nil)))))) pss_nil)
      (pss_one (ps_ret (pe_tup (pa_cons (pv 2) (pa_cons (pv 3) (pa_cons (pe_callTy call_tuple_of (by rfl) T.tuple PyProof.Rows.boot_tuple (pa_cons (pe_lc (own := [("inner", 5)]) (g := gName 5) (tt := tYes) rfl sc_renamed.nd (TR.pi_seq (pv 4)) (blkOk_by (N := N_renamed) (sc := defScope s_renamed) (by decide +kernel)) (fun _ _ _ _ _ => (pg_name (i := 5) sc_renamed.nd rfl (Or.inl rfl))) (fun _ _ _ _ _ => pts_nil) (fun _ _ _ _ _ => (pe_call c_renamed.ok (hr.mono (by omega)) (by rfl) c_renamed.g c_renamed.kp c_renamed.b .nil pass0 (pa_cons (pv 5) (pa_cons (pv 1) pa_nil))))) pa_nil)) pa_nil))))))))), ?_⟩
      cases hT with
      | @go j a s' q' h =>
        refine ⟨_, rfl, gSeq_of h rfl ⟨_, _, rfl, _, _, rfl, _, _, rfl, rfl, ?_⟩⟩
        refine ⟨_, rfl, rfl, _, rfl, iteD rfl ?_⟩
        exact ⟨_, rfl, _, rfl, _, rfl, _, rfl, an, _, _, _, rfl, rfl, sq_of han, hS _ hok.2.2, by show 3 ≤ sizeLine; decide, fun r hr2 => q _ _ (Ex.new hr2) (.go upd_same)⟩
      | @tell j a n' v' t' h r0 =>
        have hd' : t'.depth ≤ d := by
          have : t'.depth + 1 ≤ d + 1 := hd
          omega
        have hs' : t'.size ≤ 10000 := by
          have : t'.size + 1 ≤ 10000 := hsz
          omega
        refine ⟨_, rfl, gSeq_of h rfl ⟨_, _, rfl, _, _, rfl, _, _, rfl, rfl, ?_⟩⟩
        refine ⟨_, rfl, rfl, _, rfl, iteDn tell_ne_go ?_⟩
        refine ⟨_, rfl, rfl, _, rfl, iteD rfl ?_⟩
        refine ⟨_, rfl, _, rfl, _, rfl, _, rfl, t', v', k, l, wd, n, an, xs, rfl, r0, hok.2, han, hS, hd', hs', fun H1 v1 e1 hv1 => ⟨by show 3 ≤ sizeLine; decide, fun r hr2 => ?_⟩⟩
        exact q _ _ (e1.trans (Ex.new hr2)) (.tell upd_same (hv1.ex (Ex.new hr2)))
      | @read j k2 a b' p' us ts h hb r0 =>
        have hd' : ts.depth ≤ d := by
          have : ts.depth + 1 ≤ d + 1 := hd
          omega
        have hs' : ts.size ≤ 9999 := by
          have : ts.size + 1 ≤ 10000 := hsz
          omega
        have KK := r0.kids
        have lks := KK.len
        have ltk := len_total ts.list
        rw [Trs.total] at ltk
        refine ⟨_, rfl, gSeq_of h rfl ⟨_, _, rfl, _, _, rfl, _, _, rfl, rfl, ?_⟩⟩
        refine ⟨_, rfl, rfl, _, rfl, iteDn read_ne_go ?_⟩
        refine ⟨_, rfl, rfl, _, rfl, iteDn read_ne_tell ?_⟩
        refine ⟨_, rfl, _, rfl, ?_⟩
        cases k2
        · refine .inl ⟨_, rfl, b', rfl, ⟨us, sq_of hb⟩, fun D hD => lc_it (walk_list (K := K) (a := b') (xs := us)) (fun i H6 => Ex H H6 ∧ ∃ zs, H6 D = some (.lst zs) ∧ Kids true H6 zs (ts.list.take i)) ⟨Ex.new hD, [], upd_same, .nil⟩ (fun i H6 _ hw => sq_of (hw.1 _ _ hb)) (fun i x H6 H7 hi hw hy => ?_) (fun H6 hw => ?_)⟩
          · obtain ⟨e6, zs, hz, Z⟩ := hw
            obtain ⟨rfl, hx⟩ := hy
            obtain ⟨kt, hkt, hka⟩ := KK.get hx
            have mem := List.mem_of_getElem? hkt
            have dk := Trs.depth_mem kt mem
            have sk : kt.size ≤ ts.size := by
              have h1 := size_mem mem
              rw [Trs.total] at h1
              exact h1
            have lz := Z.len
            rw [List.length_take] at lz
            refine ⟨rfl, _, rfl, _, rfl, kt, x, _, l, wd, n, an, xs, rfl, hka.ex e6, Trs.ok_mem hok.2.2 kt mem, e6 _ _ han, hS, by omega, by omega, fun H8 v8 e8 hv8 => ?_⟩
            refine ⟨zs, e8 _ _ hz, sz_lt (by omega), (e6.trans e8).mut hD, zs ++ [v8], upd_same, ?_⟩
            rw [take_next' hkt]
            refine Kids.upd (fun ys hh => ?_) ((Z.ex e8).snoc hv8)
            rw [e8 _ _ hz] at hh
            cases hh
          · obtain ⟨e6, zs, hz, Z⟩ := hw
            rw [lks, List.take_length] at Z
            refine ⟨D, zs, rfl, .inl ⟨sq_of hz, fun t2 ht2 => ⟨by show 3 ≤ sizeLine; decide, fun r hr2 => ?_⟩⟩⟩
            exact q _ _ ((e6.trans (Ex.new ht2)).trans (Ex.new hr2)) (.read upd_same (Ex.new hr2 _ _ upd_same) ((Z.ex ((Ex.new ht2).trans (Ex.new hr2))).tas))
        · refine .inr ⟨_, rfl, b', rfl, ⟨us, st_of hb⟩, fun D hD => lc_it (walk_tup (K := K) (a := b') (xs := us)) (fun i H6 => Ex H H6 ∧ ∃ zs, H6 D = some (.lst zs) ∧ Kids true H6 zs (ts.list.take i)) ⟨Ex.new hD, [], upd_same, .nil⟩ (fun i H6 _ hw => st_of (hw.1 _ _ hb)) (fun i x H6 H7 hi hw hy => ?_) (fun H6 hw => ?_)⟩
          · obtain ⟨e6, zs, hz, Z⟩ := hw
            obtain ⟨rfl, hx⟩ := hy
            obtain ⟨kt, hkt, hka⟩ := KK.get hx
            have mem := List.mem_of_getElem? hkt
            have dk := Trs.depth_mem kt mem
            have sk : kt.size ≤ ts.size := by
              have h1 := size_mem mem
              rw [Trs.total] at h1
              exact h1
            have lz := Z.len
            rw [List.length_take] at lz
            refine ⟨rfl, _, rfl, _, rfl, kt, x, _, l, wd, n, an, xs, rfl, hka.ex e6, Trs.ok_mem hok.2.2 kt mem, e6 _ _ han, hS, by omega, by omega, fun H8 v8 e8 hv8 => ?_⟩
            refine ⟨zs, e8 _ _ hz, sz_lt (by omega), (e6.trans e8).mut hD, zs ++ [v8], upd_same, ?_⟩
            rw [take_next' hkt]
            refine Kids.upd (fun ys hh => ?_) ((Z.ex e8).snoc hv8)
            rw [e8 _ _ hz] at hh
            cases hh
          · obtain ⟨e6, zs, hz, Z⟩ := hw
            rw [lks, List.take_length] at Z
            refine ⟨D, zs, rfl, .inl ⟨sq_of hz, fun t2 ht2 => ⟨by show 3 ≤ sizeLine; decide, fun r hr2 => ?_⟩⟩⟩
            exact q _ _ ((e6.trans (Ex.new ht2)).trans (Ex.new hr2)) (.read upd_same (Ex.new hr2 _ _ upd_same) ((Z.ex ((Ex.new ht2).trans (Ex.new hr2))).tas))
end
end Law

namespace TR
open PySem PySem.Spec L2 Evl
def rLenQ (K : PySem.W.Frag) : List V → Hp → VK → Prop := fun xs H Q => ∃ p ys, xs = [.ref p] ∧ (SqL K H p ys ∨ SqT K H p ys) ∧ Q (.int ys.length) H
end TR
namespace Law
open PySem PySem.Spec PyProof.Rows L2 Evl TR
abbrev lcR (g : TG) (tt : TT) (tl : TE) (vs : List Nat) (σ : L2.St) (Q : Addr → Hp → Prop) : It → Hp → Prop := fun J H1 => ∀ D, H1 D = none → ∃ W : Nat → Nat → Hp → Prop, (∃ m, W 0 m (upd H1 D (.lst []))) ∧ ∀ i m H, W i m H →
  (J.stop i H ∧ Q D H) ∨ (J.go i H ∧ ∃ Nx : Hp → Prop, (∀ H', Nx H' → ∃ m', m' < m ∧ W (i + 1) m' H') ∧ ∀ x H', J.yld i H x H' → g x (wipe σ vs) H' fun σ2 H2 => wipe σ2 vs = wipe σ vs ∧ tt σ2 H2 fun b H3 =>
    if b = true then tl σ2 H3 fun y H4 => ∃ acc, H4 D = some (.lst acc) ∧ acc.length < sizeLine ∧ Nx (upd H4 D (.lst (acc ++ [y]))) else Nx H3)
/-- a walk over a list or a tuple, in a comprehension -/
theorem lcq {K : PySem.W.Frag} {te tl : TE} {g : TG} {tt : TT} {vs : List Nat} {σ : L2.St} {H : Hp} {Q : Addr → Hp → Prop} {a : Addr} {k : Bool} {xs : List V} (h : H a = some (ob k xs)) (hv : ∀ R : VK, R (.ref a) H → te σ H R) (Pv : Addr → Nat → Hp → Prop)
    (h0 : ∀ D, H D = none → Pv D 0 (upd H D (.lst []))) (hk : ∀ D i H', H D = none → Pv D i H' → Ex H H')
    (hs : ∀ D i x H', H D = none → xs[i]? = some x → Pv D i H' → g x (wipe σ vs) H' fun σ2 H2 => wipe σ2 vs = wipe σ vs ∧ tt σ2 H2 fun b H3 =>
      if b = true then tl σ2 H3 fun y H4 => ∃ acc, H4 D = some (.lst acc) ∧ acc.length < sizeLine ∧ Pv D (i + 1) (upd H4 D (.lst (acc ++ [y]))) else Pv D (i + 1) H3)
    (hd : ∀ D H', H D = none → Pv D xs.length H' → Q D H') : iList K te σ H (lcR g tt tl vs σ Q) ∨ iTup K te σ H (lcR g tt tl vs σ Q) := by
  cases k
  · exact .inl (hv _ ⟨a, rfl, ⟨xs, sq_of h⟩, fun D hD => lc_list (Pv D) (h0 D hD) (fun i H' _ p => sq_of (hk D i H' hD p _ _ h)) (fun i x H' hx p => hs D i x H' hD hx p) (fun H' p => hd D H' hD p)⟩)
  · exact .inr (hv _ ⟨a, rfl, ⟨xs, st_of h⟩, fun D hD => lc_tup (Pv D) (h0 D hD) (fun i H' _ p => st_of (hk D i H' hD p _ _ h)) (fun i x H' hx p => hs D i x H' hD hx p) (fun H' p => hd D H' hD p)⟩)
/-- .. in a loop over enumerate -/
theorem forq {K : PySem.W.Frag} {ta : TA} {g : TG} {tb : TS} {D : Ends} {σ : L2.St} {H : Hp} {a : Addr} {k : Bool} {xs : List V} (h : H a = some (ob k xs)) (hv : ∀ R : List V → Hp → Prop, R [.ref a] H → ta σ H R) (Pv : Nat → L2.St → Hp → Prop) (h0 : Pv 0 σ H)
    (hk : ∀ i σ H', Pv i σ H' → Ex H H')
    (hs : ∀ (i : Nat) (x : V) (T : Addr) (σ : L2.St) (H : Hp), xs[i]? = some x → Pv i σ H → H T = none → g (.ref T) σ (upd H T (.tup [.int (i : Nat), x])) fun σ2 H2 => tb { D with nx := Pv (i + 1), ct := Pv (i + 1), bk := D.nx } σ2 H2)
    (hd : ∀ σ H, Pv xs.length σ H → D.nx σ H) : tFor (iEnumQ K ta) g tb D σ H := by
  cases k
  · exact .inl (hv _ ⟨a, xs, rfl, sq_of h, EN.for_enumL Pv h0 (fun i σ H' p => sq_of (hk i σ H' p _ _ h)) hs hd⟩)
  · exact .inr (hv _ ⟨a, xs, rfl, st_of h, EN.for_enumT Pv h0 (fun i σ H' p => st_of (hk i σ H' p _ _ h)) hs hd⟩)
/-- what of the text the class has -/
structure SC (K : PySem.W.Frag) (C : Addr) : Prop where
  cl : Cls K C
  nl : NoAttr K C "letters"
  nw : NoAttr K C "width"
  ns : NoAttr K C "states"
  nn : NoAttr K C "nodes"
def sFs (l w s n : V) : List (Str × V) := [("letters", l), ("width", w), ("states", s), ("nodes", n)]
theorem putF4 (l w s n : V) : putF "nodes" n (putF "states" s (putF "width" w (putF "letters" l []))) = sFs l w s n := by
  have a1 : ¬ (("letters" : Str) = "width") := by decide +kernel
  have a2 : ¬ (("letters" : Str) = "states") := by decide +kernel
  have a3 : ¬ (("letters" : Str) = "nodes") := by decide +kernel
  have a4 : ¬ (("width" : Str) = "states") := by decide +kernel
  have a5 : ¬ (("width" : Str) = "nodes") := by decide +kernel
  have a6 : ¬ (("states" : Str) = "nodes") := by decide +kernel
  simp [putF, sFs, a1, a2, a3, a4, a5, a6]
/-- a searcher: its letters, its width, its trees -/
structure SObj (C : Addr) (H : Hp) (o : Addr) (L : List Nat) (w : Nat) (ts : List Tr) : Prop where
  ex : ∃ (dx st : Addr) (us : List V), H o = some (.ins C dx (sFs (.str (tx L)) (.int (w : Int)) (.ref st) (.int (total ts : Nat)))) ∧ H st = some (.tup us) ∧ Kids true H us ts
theorem sum_sizes : ∀ ts : List Tr, (ts.map fun t => (t.size : Int)).sum = ((total ts : Nat) : Int)
  | [] => rfl
  | t :: r => by
    rw [List.map_cons, List.sum_cons, sum_sizes r]
    show _ = (((t.size + total r : Nat)) : Int)
    omega
def spInit (C : Addr) : Sp := fun vs H Q _ => ∃ (o dx sa : Addr) (L : List Nat) (w : Nat) (kt k : Bool) (xs : List V) (ts : List Tr) (H0 : Hp), vs = [.ref o, .str (tx L), .int (w : Int), .ref sa] ∧ Ex H0 H ∧ H0 o = none ∧ H o = some (.ins C dx []) ∧ H0 sa = some (ob kt xs) ∧ KidX k H0 xs ts ∧ LG L ∧ 1 ≤ w ∧ w ≤ 8 ∧ 1 ≤ ts.length ∧ ts.length ≤ 64 ∧ (∀ t ∈ ts, t.ok L.length w ts.length ∧ t.depth ≤ 40) ∧ total ts ≤ 3000 ∧ ∀ H', Ex H0 H' → SObj C H' o L w ts → Q .non H'
theorem same_rg (n : Nat) : Same1 (rgV 0 (n : Int)) n := by
  intro q hq
  unfold rgV
  rw [show (((n : Int) - 0).toNat) = n by omega]
  refine atI_nat ?_
  rw [List.getElem?_map, List.getElem?_range hq]
  show some (V.int (0 + (q : Int))) = _
  rw [Int.zero_add]
section
variable {P : Program} {w : World} {K : PySem.W.Frag} {mg : Str → Option Value} {base : Heap}
theorem ok_init {f C : Addr} {fd : FuncData} (F : Fun K "__init__" "Searcher.__init__" s_Searcher_init f fd) (T : Tx mg) (S : SC K C) (c_are_letters : Kn P w K mg base "are_letters" ["value"] 1 spAreL)
    (c_is_whole : Kn P w K mg base "is_whole" ["value", "low", "high"] 2 spWhole) (c_is_list : Kn P w K mg base "is_list" ["value"] 1 spIsQ) (c_first_wrong : Kn P w K mg base "first_wrong" ["tree", "letters", "width", "states"] 4 spFW)
    (c_all_parts : Kn P w K mg base "all_parts" ["tree"] 2 spAll) (c_renamed : Kn P w K mg base "renamed" ["tree", "names"] 41 (spRen 40)) : FnOk P w K mg base CX0 42 f fd ["self", "letters", "width", "states"] (spInit C) := by
  refine F.ok sc_Searcher_init (fun vs H Q E h => ?_) (fun cdv A outer s H vs Q E hr h => ?_)
  · obtain ⟨o, dx, sa, L, wd, kt, k, xs, ts, H0, rfl, _⟩ := h
    rfl
  · obtain ⟨o, dx, sa, L, wd, kt, k, xs, ts, H0, rfl, e0, ho0, ho, hsa, KK, hL, w1, w8, n1, n64, hall, htot, q⟩ := h
    have lks := KK.len
    have hL2 := hL.hi
    refine ⟨_, (pss_cons (ps_if (pt_not (pt_val (pe_call c_are_letters.ok (hr.mono (by decide)) (by rfl) c_are_letters.g c_are_letters.kp c_are_letters.b .nil pass0 (pa_cons (pv 1) pa_nil)))) (pss_one ps_never) pss_nil)
      (pss_cons (ps_if (pt_not (pt_val (pe_call c_is_whole.ok (hr.mono (by decide)) (by rfl) c_is_whole.g c_is_whole.kp c_is_whole.b .nil pass0 (pa_cons (pv 2) (pa_cons pe_int (pa_cons (pe_glob (v := .int 8) rfl T.m_MOST_WIDTH ⟨_, rfl⟩) pa_nil)))))) (pss_one ps_never) pss_nil)
      (pss_cons (ps_set (i := 4) sc_Searcher_init.nd rfl (Or.inl rfl) (pe_ifExp (pt_val (pe_call c_is_list.ok (hr.mono (by decide)) (by rfl) c_is_list.g c_is_list.kp c_is_list.b .nil pass0 (pa_cons (pv 3) pa_nil))) (pe_callB call_len_seq (by rfl) T.len PySem.boot_len (pa_cons (pv 3) pa_nil)) pe_int))
      (pss_cons (ps_if (pt_not (pt_chain op_le op_le pe_int (pv 4) (pe_glob (v := .int 64) rfl T.m_MOST_STATES ⟨_, rfl⟩))) (pss_one ps_never) pss_nil)
      (pss_cons (ps_for PassesOwn.never rfl (TR.pi_enumQ (by rfl) T.enumerate (pa_cons (pv 3) pa_nil)) (pg_tup (by rfl) (pgs_cons (pg_name (i := 5) sc_Searcher_init.nd rfl (Or.inl rfl)) (pgs_cons (pg_name (i := 6) sc_Searcher_init.nd rfl (Or.inl rfl)) pgs_nil))) (pss_cons (ps_set (i := 7) sc_Searcher_init.nd rfl (Or.inl rfl) (pe_call c_first_wrong.ok (hr.mono (by decide)) (by rfl) c_first_wrong.g c_first_wrong.kp c_first_wrong.b .nil pass0 (pa_cons (pv 6) (pa_cons (pv 1) (pa_cons (pv 2) (pa_cons (pv 4) pa_nil))))))
      (pss_one (ps_if (pt_cmpR op_notN (pv 7) pe_non (nomark _)) (pss_one ps_never) pss_nil))))
      (pss_cons (ps_set (i := 8) sc_Searcher_init.nd rfl (Or.inl rfl) (pe_callB (cr_sum rfl) (by rfl) T.sum (by decide +kernel) (pa_cons (pe_lc (own := [("tree", 6)]) (g := gName 6) (tt := tYes) rfl sc_Searcher_init.nd (TR.pi_seq (pv 3)) (blkOk_by (N := N_Searcher_init) (sc := defScope s_Searcher_init) (by decide +kernel)) (fun _ _ _ _ _ => (pg_name (i := 6) sc_Searcher_init.nd rfl (Or.inl rfl))) (fun _ _ _ _ _ => pts_nil) (fun _ _ _ _ _ => (pe_callB (show CallR _ _ (TR.rLenQ K) from call_len_seq) (by rfl) T.len PySem.boot_len (pa_cons (pe_call c_all_parts.ok (hr.mono (by decide)) (by rfl) c_all_parts.g c_all_parts.kp c_all_parts.b .nil pass0 (pa_cons (pv 6) pa_nil)) pa_nil)))) pa_nil)))
      (pss_cons (ps_if (pt_cmpR op_gt (pv 8) (pe_glob (v := .int 3000) rfl T.m_MOST_NODES ⟨_, rfl⟩) (nomark _)) (pss_one ps_never) pss_nil)
      (pss_cons (ps_set (i := 9) sc_Searcher_init.nd rfl (Or.inr rfl) (pe_listRg rfl (by rfl) T.list (prg_1 (by rfl) T.range (pv 4))))
      (pss_cons (ps_fld (pv 0) (pv 1) rfl)
      (pss_cons (ps_fld (pv 0) (pv 2) rfl)
      (pss_cons (ps_fld (pv 0) (pe_callTy call_tuple_of (by rfl) T.tuple PyProof.Rows.boot_tuple (pa_cons (pe_lc (own := [("tree", 6)]) (g := gName 6) (tt := tYes) rfl sc_Searcher_init.nd (TR.pi_seq (pv 3)) (blkOk_by (N := N_Searcher_init) (sc := defScope s_Searcher_init) (by decide +kernel)) (fun _ _ _ _ _ => (pg_name (i := 6) sc_Searcher_init.nd rfl (Or.inl rfl))) (fun _ _ _ _ _ => pts_nil) (fun _ _ _ _ _ => (pe_call c_renamed.ok (hr.mono (by decide)) (by rfl) c_renamed.g c_renamed.kp c_renamed.b .nil pass0 (pa_cons (pv 6) (pa_cons (pv 9) pa_nil))))) pa_nil)) rfl)
      (pss_one (ps_fld (pv 0) (pv 8) rfl))))))))))))), ?_⟩
    refine ⟨_, rfl, L, rfl, hL, fun H1 e1 => ⟨true, rfl, ?_⟩⟩
    refine ⟨_, rfl, _, _, _, rfl, by omega, by omega, fun H2 e2 => ⟨true, rfl, ?_⟩⟩
    have e3 := e1.trans e2
    have hs2 := e3 _ _ (e0 _ _ hsa)
    refine ⟨_, rfl, sa, kt, xs, rfl, hs2, fun H3 e4 => ⟨true, rfl, ?_⟩⟩
    have hs3 := e4 _ _ hs2
    refine ⟨_, rfl, sa, _, rfl, ob_seq hs3, ?_⟩
    refine ⟨_, rfl, _, _, rfl, rfl, _, rfl, iteD (by omega) ⟨_, _, rfl, rfl, _, rfl, ite2 (fun hb => ?_) (fun _ => ?_)⟩⟩
    · rw [decide_eq_true (by omega)] at hb
      cases hb
    have e5 := e3.trans e4
    have e6 := e0.trans e5
    refine forq hs3 (fun R h => ⟨_, rfl, h⟩) (fun i σ H' => ∃ y5 y6 y7 : Option V, σ = [some (.ref o), some (.str (tx L)), some (.int (wd : Int)), some (.ref sa), some (.int (xs.length : Nat)), y5, y6, y7, none, none] ∧ Ex H3 H') ⟨none, none, none, rfl, Ex.refl _⟩ (fun i σ H' p => by obtain ⟨_, _, _, _, e⟩ := p; exact e) (fun i x T' σ H' hx p hT => ?_) (fun σ H' p => ?_)
    · obtain ⟨y5, y6, y7, rfl, e7⟩ := p
      have e8 := e7.trans (Ex.new (o := .tup [.int (i : Nat), x]) hT)
      obtain ⟨t, ht, hta⟩ := KK.get hx
      have mem := List.mem_of_getElem? ht
      obtain ⟨tok, tdp⟩ := hall t mem
      have tsz := size_mem mem
      refine ⟨T', _, rfl, .inl (.inl upd_same), rfl, _, _, rfl, _, _, rfl, rfl, ?_⟩
      refine ⟨_, rfl, _, rfl, _, rfl, _, rfl, t, x, k, L, wd, ts.length, by rw [lks]; rfl, hta.ex (e6.trans e8), tok, by omega, tdp, by omega, fun H4 e9 => ?_⟩
      refine ⟨_, rfl, rfl, _, rfl, ite2 (fun hb => by cases hb) (fun _ => ?_)⟩
      exact ⟨_, _, _, rfl, e8.trans e9⟩
    obtain ⟨y5, y6, y7, rfl, e7⟩ := p
    have hs4 := e7 _ _ hs3
    have e8 := e6.trans e7
    refine lcq hs4 (fun R h => ⟨_, rfl, h⟩) (fun D i H'' => Ex H' H'' ∧ H'' D = some (.lst (((ts.take i).map fun t => (t.size : Int)).map V.int))) (fun D hD => ⟨Ex.new hD, upd_same⟩) (fun D i H'' _ p => p.1) (fun D i x H'' hD hx p => ?_) (fun D H'' hD p => ?_)
    · obtain ⟨e9, hz⟩ := p
      obtain ⟨t, ht, hta⟩ := KK.get hx
      have mem := List.mem_of_getElem? ht
      have tsz := size_mem mem
      have hi := (List.getElem?_eq_some_iff.mp ht).1
      refine ⟨rfl, _, rfl, t, x, k, rfl, hta.ex (e8.trans e9), by omega, fun r H5 us e10 hr hus hl => ?_⟩
      refine ⟨r, us, rfl, .inl (sq_of hus), _, e10 _ _ hz, ?_, (e9.trans e10).mut hD, ?_⟩
      · rw [List.length_map, List.length_map, List.length_take]
        exact sz_lt (by omega)
      · rw [upd_same, take_next' ht, List.map_append, List.map_append, hl]
        rfl
    obtain ⟨e9, hz⟩ := p
    rw [lks, List.take_length] at hz
    refine ⟨D, _, rfl, sq_of hz, ?_⟩
    rw [sum_sizes]
    refine ⟨_, rfl, _, _, rfl, rfl, _, rfl, ite2 (fun hb => absurd (of_decide_eq_true hb) (by omega)) (fun _ => ?_)⟩
    refine ⟨_, rfl, _, rfl, RgOk.of_le (by omega) (by omega) (by omega) (by omega), fun an han => ?_⟩
    have eA := (e8.trans e9).trans (Ex.new (o := .lst (rgV 0 (xs.length : Int))) han)
    have hoA := ((((e5.trans e7).trans e9).trans (Ex.new (o := .lst (rgV 0 (xs.length : Int))) han)) _ _ ho)
    have hanA : (upd H'' an (.lst (rgV 0 (xs.length : Int)))) an = some (.lst (rgV 0 (xs.length : Int))) := upd_same
    generalize (upd H'' an (.lst (rgV 0 (xs.length : Int)))) = HA at eA hoA hanA ⊢
    have nao : an ≠ o := ne_of hanA hoA (by intro z; cases z)
    refine ⟨_, rfl, _, rfl, o, C, dx, _, rfl, hoA, S.cl, S.nl, by show 0 < 1000; decide, ?_⟩
    have eB := eA.mut (o := .ins C dx (putF "letters" (.str (tx L)) [])) ho0
    have hoB : (upd HA o (.ins C dx (putF "letters" (.str (tx L)) []))) o = _ := upd_same
    have hanB := (upd_ne (H := HA) (o := .ins C dx (putF "letters" (.str (tx L)) [])) nao).trans hanA
    generalize (upd HA o (.ins C dx (putF "letters" (.str (tx L)) []))) = HB at eB hoB hanB ⊢
    refine ⟨_, rfl, _, rfl, o, C, dx, _, rfl, hoB, S.cl, S.nw, by show 1 < 1000; decide, ?_⟩
    generalize hf2 : putF "width" (.int (wd : Int)) (putF "letters" (.str (tx L)) []) = f2
    have lf2 : f2.length < 1000 := by
      rw [← hf2]
      show 2 < 1000
      decide
    have eC := eB.mut (o := .ins C dx f2) ho0
    have hoC : (upd HB o (.ins C dx f2)) o = _ := upd_same
    have hanC := (upd_ne (H := HB) (o := .ins C dx f2) nao).trans hanB
    generalize (upd HB o (.ins C dx f2)) = HC at eC hoC hanC ⊢
    refine lcq (eC _ _ hsa) (fun R h => ⟨_, rfl, h⟩) (fun D i H'' => Ex HC H'' ∧ ∃ zs, H'' D = some (.lst zs) ∧ Kids true H'' zs (ts.take i)) (fun D hD => ⟨Ex.new hD, [], upd_same, .nil⟩) (fun D i H'' _ p => p.1) (fun D i x H'' hD hx p => ?_) (fun D H'' hD p => ?_)
    · obtain ⟨e9, zs, hz, Z⟩ := p
      obtain ⟨t, ht, hta⟩ := KK.get hx
      have mem := List.mem_of_getElem? ht
      obtain ⟨tok, tdp⟩ := hall t mem
      have tsz := size_mem mem
      have lz := Z.len
      rw [List.length_take] at lz
      refine ⟨rfl, _, rfl, _, rfl, t, x, k, L.length, wd, ts.length, an, _, rfl, hta.ex (eC.trans e9), tok, e9 _ _ hanC, ?_, tdp, by omega, fun H8 v8 e10 hv8 => ?_⟩
      · rw [← lks]
        exact same_rg _
      refine ⟨zs, e10 _ _ hz, sz_lt (by omega), (e9.trans e10).mut hD, zs ++ [v8], upd_same, ?_⟩
      rw [take_next' ht]
      refine Kids.upd (fun ys hh => ?_) ((Z.ex e10).snoc hv8)
      rw [e10 _ _ hz] at hh
      cases hh
    obtain ⟨e9, zs, hz, Z⟩ := p
    rw [lks, List.take_length] at Z
    refine ⟨D, zs, rfl, .inl ⟨sq_of hz, fun t2 ht2 => ?_⟩⟩
    have e10 := e9.trans (Ex.new (o := .tup zs) ht2)
    have hoD := e10 _ _ hoC
    have ZD := Z.ex (Ex.new (o := .tup zs) ht2)
    have ht3 : (upd H'' t2 (.tup zs)) t2 = some (.tup zs) := upd_same
    have eD := eC.trans e10
    generalize (upd H'' t2 (.tup zs)) = HD at hoD ZD ht3 eD ⊢
    have nto : t2 ≠ o := ne_of ht3 hoD (by intro z; cases z)
    refine ⟨_, rfl, o, C, dx, _, rfl, hoD, S.cl, S.ns, lf2, ?_⟩
    refine ⟨_, rfl, _, rfl, o, C, dx, _, rfl, upd_same, S.cl, S.nn, ?_, ?_⟩
    · rw [← hf2]
      show 3 < 1000
      decide
    refine q _ ((eD.mut ho0).mut ho0) ⟨dx, t2, zs, ?_, ?_, ?_⟩
    · rw [upd_same, ← hf2, putF4]
    · rw [upd_ne nto, upd_ne nto]
      exact ht3
    · refine Kids.upd (fun ys hh => ?_) (Kids.upd (fun ys hh => ?_) ZD)
      · rw [upd_same] at hh
        cases hh
      · rw [hoD] at hh
        cases hh
end
end Law

namespace Law
open PySem PySem.Spec PyProof.Rows L2 Evl TR
def nV (ns : List Nat) : List V := ns.map fun q => .int (q : Nat)
theorem nV_len (ns : List Nat) : (nV ns).length = ns.length := List.length_map ..
def iN (c : List Nat) : List Int := c.map fun q : Nat => (q : Int)
theorem nV_iN (c : List Nat) : nV c = (iN c).map V.int := by
  unfold nV iN
  rw [List.map_map]
  rfl
theorem filt_max {p : Nat → Bool} : ∀ {n m : Nat}, m ∈ (List.range n).filter p → (∀ y ∈ (List.range n).filter p, y ≤ m) → ((List.range n).filter p).getLast? = some m
  | 0, m, h, _ => by simp at h
  | n + 1, m, h, k => by
    rw [List.range_succ, List.filter_append] at h k ⊢
    by_cases e : p n = true
    · have e1 : [n].filter p = [n] := by simp [e]
      rw [e1] at h k ⊢
      rw [List.getLast?_append]
      have h1 := k n (by simp)
      rcases List.mem_append.mp h with z | z
      · have := List.mem_range.mp ((List.mem_filter.mp z).1)
        omega
      · rw [List.mem_singleton.mp z]
        rfl
    · have e1 : [n].filter p = [] := by simp [e]
      rw [e1, List.append_nil] at h k ⊢
      exact filt_max h k
/-- whether the word's first n letters end with its first l -/
def ends (w : List Nat) (n l : Nat) : Bool := Txt.endswith (tx (w.take n)) (tx (w.take l))
/-- the border of the first n letters -/
def brd (w : List Nat) (n : Nat) : Int := match ((List.range n).filter fun l => ends w n l).getLast? with
  | some l => (l : Nat)
  | none => -1
theorem ends_0 (w : List Nat) (n : Nat) : ends w n 0 = true := by
  unfold ends Txt.endswith PySem.Builtin.Str.subAt
  have e : tx (w.take 0) = ⟨#[]⟩ := rfl
  rw [e]
  simp [Str.length]
theorem brd_max {w : List Nat} {n : Nat} {m : Int} (hm : m ∈ iN ((List.range n).filter fun l => ends w n l)) (hl : ∀ y, y ∈ iN ((List.range n).filter fun l => ends w n l) → y ≤ m) : m = brd w n := by
  obtain ⟨k, hk, rfl⟩ := List.mem_map.mp hm
  have := filt_max hk fun y hy => Int.ofNat_le.mp (hl (y : Int) (List.mem_map.mpr ⟨y, hy, rfl⟩))
  unfold brd
  rw [this]
theorem brd_0 (w : List Nat) : brd w 0 = -1 := rfl
theorem brd_lt {w : List Nat} {n : Nat} : brd w n < n ∧ (0 < n → 0 ≤ brd w n) ∧ -1 ≤ brd w n := by
  unfold brd
  cases e : ((List.range n).filter fun l => ends w n l).getLast? with
  | none =>
    refine ⟨by show (-1 : Int) < n; omega, fun h => ?_, by show (-1 : Int) ≤ -1; omega⟩
    have h2 := List.getLast?_eq_none_iff.mp e
    have h3 : 0 ∈ (List.range n).filter fun l => ends w n l := List.mem_filter.mpr ⟨List.mem_range.mpr h, ends_0 w n⟩
    rw [h2] at h3
    cases h3
  | some l =>
    have h1 := List.mem_of_getLast? e
    have h2 := List.mem_range.mp ((List.mem_filter.mp h1).1)
    exact ⟨by show (l : Int) < n; omega, fun _ => by show (0 : Int) ≤ (l : Int); omega, by show (-1 : Int) ≤ (l : Int); omega⟩
def brdV (w : List Nat) (m : Nat) : List V := (List.range m).map fun n => V.int (brd w n)
theorem brdV_len (w : List Nat) (m : Nat) : (brdV w m).length = m := by
  unfold brdV
  rw [List.length_map, List.length_range]
theorem brdV_at {w : List Nat} {m n : Nat} (h : n < m) : (brdV w m)[n]? = some (.int (brd w n)) := by
  unfold brdV
  rw [List.getElem?_map, List.getElem?_range h]
  rfl
theorem brdV_next (w : List Nat) (m : Nat) : brdV w (m + 1) = brdV w m ++ [.int (brd w m)] := by
  unfold brdV
  rw [List.range_succ, List.map_append]
  rfl
def spBrd : Sp := fun vs H Q _ => ∃ w : List Nat, vs = [.str (tx w)] ∧ w.length ≤ 100 ∧ ∀ r H', Ex H H' → H r = none → H' r = some (.lst (brdV w (w.length + 1))) → Q (.ref r) H'
section
variable {P : Program} {w : World} {K : PySem.W.Frag} {mg : Str → Option Value} {base : Heap}
theorem ok_brd {f : Addr} {fd : FuncData} (F : Fun K "_borders" "_borders" s_borders f fd) (T : Tx mg) : FnOk P w K mg base CX0 1 f fd ["word"] spBrd := by
  refine F.ok sc_borders (fun vs H Q E h => ?_) (fun cdv A outer s H vs Q E hr h => ?_)
  · obtain ⟨W, rfl, _⟩ := h
    rfl
  · obtain ⟨W, rfl, hl, q⟩ := h
    refine ⟨_, (pss_cons (ps_set (i := 1) sc_borders.nd rfl (Or.inl rfl) (pe_lst (pa_cons (pe_un un_neg pe_int) pa_nil)))
      (pss_cons (ps_for PassesOwn.never rfl (pi_range2 (by rfl) T.range (pa_cons pe_int (pa_cons (pe_op op_add (pe_callB call_len_str (by rfl) T.len PySem.boot_len (pa_cons (pv 0) pa_nil)) pe_int) pa_nil))) (pg_name (i := 2) sc_borders.nd rfl (Or.inr rfl)) (pss_one (ps_expr (pe_bm PySem.F.plainAttrs_list PySem.F.slot_list_append PySem.F.type_list_append mt_append (pv 1) (pa_cons (pe_callB (cr_max rfl) (by rfl) T.max (by decide +kernel) (pa_cons (pe_lc (own := [("less", 3)]) (g := gName 3) rfl sc_borders.nd (pi_range1 (by rfl) T.range (pa_cons (pv 2) pa_nil)) (blkOk_by (N := N_borders) (sc := defScope s_borders) (by decide +kernel)) (fun _ _ _ _ _ => (pg_name (i := 3) sc_borders.nd rfl (Or.inl rfl))) (fun _ _ _ _ _ => (pts_one (pt_val (pe_m1 PySem.F.slot_str_endswith PySem.F.type_str_endswith mt_endswith (pe_slice sl_str (pv 0) po_none (po_some (pv 2))) (pe_slice sl_str (pv 0) po_none (po_some (pv 3))))))) (fun _ _ _ _ _ => (pv 3))) pa_nil)) pa_nil)))))
      (pss_one (ps_ret (pv 1))))), ?_⟩
    refine ⟨1, rfl, by show 1 ≤ sizeLine; decide, fun l hl0 => ?_⟩
    have e1 : Ex H (L2.upd H l (.lst [.int (-1)])) := Ex.new hl0
    have h1 : (L2.upd H l (.lst [.int (-1)])) l = some (.lst (brdV W 1)) := upd_same
    have h1' : (L2.upd H l (.lst [(fun i : Int => V.int (-i)) 1])) l = some (.lst (brdV W 1)) := h1
    have e1' : Ex H (L2.upd H l (.lst [(fun i : Int => V.int (-i)) 1])) := e1
    generalize (L2.upd H l (.lst [(fun i : Int => V.int (-i)) 1])) = H1 at e1' h1' ⊢
    clear h1 e1
    refine ⟨_, rfl, _, rfl, tx_le (by omega), _, _, rfl, rfl, _, _, rfl, ⟨by omega, by omega, by rw [tx_len]; omega, by rw [tx_len]; omega⟩, ?_⟩
    rw [tx_len, show (((W.length : Int) + 1) - 1).toNat = W.length by omega]
    refine for_range (lo := 1) (n := W.length) (fun i σ H' => ∃ (y2 y3 : Option V), σ = [some (.str (tx W)), some (.ref l), y2, y3] ∧ Ex H H' ∧ H' l = some (.lst (brdV W (i + 1)))) ⟨none, none, rfl, e1', h1'⟩ (fun i σ H' hi hw => ?_) (fun σ H' hw => ?_)
    · obtain ⟨y2, y3, rfl, e2, h2⟩ := hw
      have ei : (1 : Int) + (i : Int) = ((i + 1 : Nat) : Int) := by omega
      rw [ei]
      refine ⟨_, rfl, .inl ⟨rfl, _, sq_of h2⟩, _, rfl, _, rfl, by omega, by omega, fun D hD => ?_⟩
      rw [Int.toNat_natCast]
      refine lc_range (lo := 0) (n := i + 1) (fun j H'' => Ex H' H'' ∧ H'' D = some (.lst (nV ((List.range j).filter fun l => ends W (i + 1) l)))) ⟨Ex.new hD, upd_same⟩ (fun j H'' hj hw => ?_) (fun H'' hw => ?_)
      · obtain ⟨e3, hd⟩ := hw
        rw [Int.zero_add]
        refine ⟨rfl, _, rfl, ?_⟩
        dsimp only [tNoPart]
        refine ⟨_, rfl, _, rfl, _, rfl, tx_le (by omega), ⟨_, rfl⟩, _, rfl, ?_⟩
        dsimp only [tNoPart]
        refine ⟨_, rfl, _, rfl, _, rfl, tx_le (by omega), _, _, rfl, rfl, _, rfl, ?_⟩
        rw [cut_to, cut_to]
        have fs : (List.range (j + 1)).filter (fun l => ends W (i + 1) l) = (List.range j).filter (fun l => ends W (i + 1) l) ++ if ends W (i + 1) j = true then [j] else [] := by
          rw [List.range_succ, List.filter_append]
          by_cases e : ends W (i + 1) j = true
          · rw [if_pos e]
            simp [e]
          · rw [if_neg e]
            simp [e]
        have fl := List.length_filter_le (fun l => ends W (i + 1) l) (List.range j)
        rw [List.length_range] at fl
        show if ends W (i + 1) j = true then _ else _
        by_cases e : ends W (i + 1) j = true
        · rw [if_pos e]
          refine ⟨_, rfl, _, hd, sz_lt (by rw [nV_len]; omega), e3.mut hD, ?_⟩
          rw [upd_same, fs, if_pos e]
          unfold nV
          rw [List.map_append]
          rfl
        · rw [if_neg e]
          refine ⟨e3, ?_⟩
          rw [hd, fs, if_neg e, List.append_nil]
      · obtain ⟨e3, hd⟩ := hw
        refine ⟨D, iN ((List.range (i + 1)).filter fun l => ends W (i + 1) l), rfl, by rw [← nV_iN]; exact sq_of hd, ?_, fun m hm hx => ?_⟩
        · unfold iN
          rw [List.length_map]
          exact List.length_pos_of_mem (List.mem_filter.mpr ⟨List.mem_range.mpr (Nat.succ_pos i), ends_0 W (i + 1)⟩)
        · rw [brd_max hm hx]
          refine ⟨l, _, _, rfl, rfl, e3 _ _ h2, sz_lt (by rw [brdV_len]; omega), ?_⟩
          refine ⟨_, _, rfl, (e2.trans e3).mut hl0, ?_⟩
          rw [upd_same, brdV_next W (i + 1)]
    · obtain ⟨y2, y3, rfl, e2, h2⟩ := hw
      exact ⟨_, rfl, q l H' e2 hl0 h2⟩
end
end Law

/-! a def made within a def, handed on as a value: its captured cells stand in the heap while it is lent -/
namespace NV
open PySem PySem.Spec PyProof.Rows L2 NdefX LamX
/-- a cell, the very object -/
def CellO (c : Addr) (o : Obj) : HO := .ext fun h => h.get? c = some o
theorem cellO_ok {P : Program} {w : World} {H : Hp} {h : Heap} {c : Addr} {o : Obj} (e : h.get? c = some o) : ObjOk P w H h c (CellO c o) :=
  ⟨e, ⟨o, e⟩, fun _ _ h1 st => st _ h1⟩
/-- the heaps are alike but for things known by themselves alone -/
def Alike (H H' : Hp) : Prop := ∀ b, H' b = H b ∨ (∃ φ, H b = some (.ext φ)) ∨ H b = none
theorem obj_alike {P : Program} {w : World} {H H' : Hp} {h : Heap} (al : Alike H H') : ∀ {a : Addr} {o : HO}, ObjOk P w H h a o → ObjOk P w H' h a o := by
  have keep : ∀ {b : Addr} {o : HO}, H b = some o → (∀ φ, o ≠ .ext φ) → H' b = some o := by
    intro b o e n
    rcases al b with q | ⟨φ, q⟩ | q
    · rw [q, e]
    · rw [e] at q
      exact absurd (Option.some.inj q) (n φ)
    · rw [e] at q
      cases q
  intro a o
  induction o with
  | dT kvs =>
    rintro ⟨h1, h2, xs, h3, h4⟩
    exact ⟨h1, h2, xs, Paired.mapP h3 fun p q z => ⟨z.1, keep z.2.1 (fun φ e => by cases e), z.2.2⟩, h4⟩
  | ins C dx fs =>
    rintro ⟨h1, h2⟩
    exact ⟨keep h1 (fun φ e => by cases e), h2⟩
  | frz o u ih =>
    rintro ⟨h1, h2⟩
    exact ⟨h1, ih h2⟩
  | _ => exact id
/-- what is lent: the cells' own objects -/
structure Lent where
  cs : List Addr
  ob : Addr → Obj
noncomputable def lend (l : Lent) (H : Hp) : Hp := fun b => if b ∈ l.cs then some (CellO b (l.ob b)) else H b
def drop (cs : List Addr) (H : Hp) : Hp := fun b => if b ∈ cs then none else H b
theorem lend_in {l : Lent} {H : Hp} {b : Addr} (h : b ∈ l.cs) : lend l H b = some (CellO b (l.ob b)) := if_pos h
theorem lend_out {l : Lent} {H : Hp} {b : Addr} (h : b ∉ l.cs) : lend l H b = H b := if_neg h
theorem drop_in {cs : List Addr} {H : Hp} {b : Addr} (h : b ∈ cs) : drop cs H b = none := if_pos h
theorem drop_out {cs : List Addr} {H : Hp} {b : Addr} (h : b ∉ cs) : drop cs H b = H b := if_neg h
theorem hok_lend {P : Program} {w : World} {H : Hp} {h : Heap} {l : Lent} (ok : HOk P w H h) (fr : ∀ b ∈ l.cs, H b = none) (ob : ∀ b ∈ l.cs, h.get? b = some (l.ob b)) : HOk P w (lend l H) h := fun a o e => by
  by_cases q : a ∈ l.cs
  · rw [lend_in q] at e
    cases e
    exact cellO_ok (ob a q)
  · rw [lend_out q] at e
    refine obj_alike (fun b => ?_) (ok a o e)
    by_cases q2 : b ∈ l.cs
    · exact .inr (.inr (fr b q2))
    · exact .inl (lend_out q2)
theorem hok_drop {P : Program} {w : World} {H : Hp} {h : Heap} {cs : List Addr} (ok : HOk P w H h) (is : ∀ b ∈ cs, ∃ φ, H b = some (.ext φ)) : HOk P w (drop cs H) h := fun a o e => by
  by_cases q : a ∈ cs
  · rw [drop_in q] at e
    cases e
  · rw [drop_out q] at e
    refine obj_alike (fun b => ?_) (ok a o e)
    by_cases q2 : b ∈ cs
    · exact .inr (.inl (is b q2))
    · exact .inl (drop_out q2)
/-- the cells of a function hold these values, told by the heap -/
structure CellsV (H : Hp) (cl : List (Str × Addr)) (fr : List Str) (ws : List V) : Prop where
  len : ws.length = fr.length
  inj : ∀ x y c, cl.lookup x = some c → cl.lookup y = some c → x = y
  all : ∀ y c, cl.lookup y = some c → ∃ o v, H c = some (CellO c o) ∧ o.data = .cell v
  has : ∀ (i : Nat) (y : Str) (v : V), fr[i]? = some y → ws[i]? = some v → ∃ c o u, cl.lookup y = some c ∧ H c = some (CellO c o) ∧ o.data = .cell (some u) ∧ RelV v u
theorem CellsV.ex {H H' : Hp} {cl : List (Str × Addr)} {fr : List Str} {ws : List V} (C : CellsV H cl fr ws) (e : ∀ b o, H b = some o → H' b = some o) : CellsV H' cl fr ws :=
  ⟨C.len, C.inj, fun y c h => by
    obtain ⟨o, v, h1, h2⟩ := C.all y c h
    exact ⟨o, v, e _ _ h1, h2⟩, fun i y v h1 h2 => by
    obtain ⟨c, o, u, k1, k2, k3, k4⟩ := C.has i y v h1 h2
    exact ⟨c, o, u, k1, e _ _ k2, k3, k4⟩⟩
def cells (cl : List (Str × Addr)) : List Addr := cl.filterMap fun p => cl.lookup p.1
theorem cells_mem {cl : List (Str × Addr)} {c : Addr} : c ∈ cells cl ↔ ∃ y, cl.lookup y = some c := by
  unfold cells
  rw [List.mem_filterMap]
  constructor
  · rintro ⟨p, _, h⟩
    exact ⟨p.1, h⟩
  · rintro ⟨y, h⟩
    have : ∀ (l : List (Str × Addr)) (y : Str) (c : Addr), l.lookup y = some c → ∃ p ∈ l, p.1 = y := by
      intro l
      induction l with
      | nil => intro y c h; cases h
      | cons p r ih =>
        intro y c h
        rw [List.lookup_cons] at h
        split at h
        · rename_i q
          exact ⟨p, List.mem_cons_self, (eq_of_beq q).symm⟩
        · obtain ⟨q, h1, h2⟩ := ih y c h
          exact ⟨q, List.mem_cons_of_mem _ h1, h2⟩
    obtain ⟨p, hp, e⟩ := this cl y c h
    exact ⟨p, hp, by rw [e]; exact h⟩
/-- .. as NdefX asks it, the cells taken away -/
theorem CellsV.at_ {P : Program} {w : World} {H : Hp} {h : Heap} {cl : List (Str × Addr)} {fr : List Str} {ws : List V} (C : CellsV H cl fr ws) (ok : HOk P w H h) : CellsAt cl fr (ws.map some) h (drop (cells cl) H) := by
  have get : ∀ {c : Addr} {o : Obj}, H c = some (CellO c o) → h.get? c = some o := fun e => (ok _ _ e).1
  refine ⟨by rw [List.length_map]; exact C.len, fun y c e => ⟨drop_in (cells_mem.mpr ⟨y, e⟩), ?_⟩, C.inj, fun i y e => ?_⟩
  · obtain ⟨o, v, h1, h2⟩ := C.all y c e
    exact ⟨v, o, get h1, h2⟩
  · have hi : i < ws.length := by rw [C.len]; exact (List.getElem?_eq_some_iff.mp e).1
    obtain ⟨c, o, u, k1, k2, k3, k4⟩ := C.has i y ws[i] e (List.getElem?_eq_getElem hi)
    refine ⟨c, k1, fun v hv => ⟨u, ?_, o, get k2, k3⟩⟩
    rw [List.getElem?_map, List.getElem?_eq_getElem hi] at hv
    have : ws[i] = v := by
      injection hv with hv
      injection hv
    rw [← this]
    exact k4
section
variable {P : Program} {w : World} {K : PySem.W.Frag} {mg : Str → Option Value} {base : Heap} {A : Around} {outer : List Env} {s : Shared} {H : Hp}
theorem env_drop {cs : List Addr} (e : Env0 P w K mg base A outer s H) (is : ∀ b ∈ cs, ∃ φ, H b = some (.ext φ)) : Env0 P w K mg base A outer s (drop cs H) := by
  have n : ∀ b, H b = none → drop cs H b = none := fun b h => by
    by_cases q : b ∈ cs
    · exact drop_in q
    · rw [drop_out q]; exact h
  exact ⟨e.frames, e.mod, fun b o h => ⟨(e.bs b o h).1, n b (e.bs b o h).2⟩, e.bsz, e.funs, fun b hb => n b (e.frf b hb), hok_drop e.hok is, e.bare⟩
/-- a call while the cells are taken away, and behind it -/
theorem ce_back {cs : List Addr} {Q : VK} {u : Value} {s' : Shared} (e : Env0 P w K mg base A outer s H) (l : Lent) (hcs : l.cs = cs) (is : ∀ b ∈ cs, H b = some (CellO b (l.ob b)))
    (c : CE outer P w (drop cs H) s (fun v H2 => (∀ b ∈ cs, H2 b = none) → Q v (lend l H2)) u s') : CE outer P w H s Q u s' := by
  subst hcs
  obtain ⟨v, H2, os, bare, un, hok, r, q⟩ := c
  have raw : ∀ b ∈ l.cs, s.heap.get? b = some (l.ob b) := fun b hb => (e.hok b _ (is b hb)).1
  have nfr : ∀ b ∈ l.cs, b ∉ frs outer := fun b hb z => by
    have h1 := is b hb
    rw [e.frf b z] at h1
    cases h1
  have n : ∀ b, H b = none → b ∉ l.cs ∧ drop l.cs H b = none := fun b h => by
    have q : b ∉ l.cs := fun q => by
      have := is b q
      rw [h] at this
      cases this
    exact ⟨q, by rw [drop_out q]; exact h⟩
  have raw' : ∀ b ∈ l.cs, s'.heap.get? b = some (l.ob b) := fun b hb => un.keep b _ (raw b hb) (drop_in hb) (nfr b hb) (by simp)
  have fre : ∀ b ∈ l.cs, H2 b = none := fun b hb => un.free b _ (raw b hb) (drop_in hb) (by simp)
  have lo : ∀ {b : Addr} {o : HO}, H b = some o → (∀ φ, o ≠ .ext φ) → b ∉ l.cs := fun {b o} h k q => by
    have := is b q
    rw [h] at this
    exact k _ (Option.some.inj this)
  refine ⟨v, lend l H2, os, bare, ⟨fun b o h k f x => un.keep b o h (n b k).2 f x, fun b o h k f x => un.slot b o h (n b k).2 f x, fun b o h k x => ?_, un.there, fun b xs h => ?_, fun b o u h => ?_, fun b ps h => ?_⟩, hok_lend hok fre raw', r, q fre⟩
  · rw [lend_out (n b k).1]
    exact un.free b o h (n b k).2 x
  · have q := lo h (fun φ z => by cases z)
    rw [lend_out q]
    exact un.tups b xs (by rw [drop_out q]; exact h)
  · have q := lo h (fun φ z => by cases z)
    rw [lend_out q]
    exact un.frzs b o u (by rw [drop_out q]; exact h)
  · have q := lo h (fun φ z => by cases z)
    rw [lend_out q]
    exact un.tbls b ps (by rw [drop_out q]; exact h)
end
/-- a value that may be called: n arguments, what is asked of them, what comes back -/
structure Gv (P : Program) (w : World) (K : PySem.W.Frag) (mg : Str → Option Value) (base : Heap) (k : Nat) (H : Hp) (f : Addr) (n : Nat) (pre : List V → Prop) (R : List V → Hp → V → Prop) : Prop where
  mono : ∀ vs H H' v, (∀ b o, H b = some o → H' b = some o) → R vs H v → R vs H' v
  ex : ∃ (F : NF) (fr ps : List Str) (ws : List V) (hp : Hp → Prop), H f = some (FnO f F) ∧ H F.c = some (CodeO F.c F.qual) ∧ CellsV H F.cl fr ws ∧ ps.length = n ∧ hp (drop (cells F.cl) H) ∧ (∀ H H', (∀ b o, H b = some o → H' b = some o) → hp H → hp H') ∧
    NOk P w K mg base C8.CX0 k f F ps fr (fun ws' vs H Q _ => ws' = ws.map some ∧ vs.length = n ∧ pre vs ∧ hp H ∧ ∀ v H', (∀ b o, H b = some o → H' b = some o) → R vs H' v → Q v H')
theorem Gv.up {P : Program} {w : World} {K : PySem.W.Frag} {mg : Str → Option Value} {base : Heap} {k : Nat} {H H' : Hp} {f : Addr} {n : Nat} {pre : List V → Prop} {R : List V → Hp → V → Prop} (g : Gv P w K mg base k H f n pre R) (e : ∀ b o, H b = some o → H' b = some o) : Gv P w K mg base k H' f n pre R := by
  obtain ⟨mono, F, fr, ps, ws, hp, h1, hc1, h2, h3, h4, h5, h6⟩ := g
  refine ⟨mono, F, fr, ps, ws, hp, e _ _ h1, e _ _ hc1, h2.ex e, h3, h5 _ _ (fun b o hb => ?_) h4, h5, h6⟩
  by_cases q : b ∈ cells F.cl
  · rw [drop_in q] at hb
    cases hb
  · rw [drop_out q] at hb ⊢
    exact e _ _ hb
def tCallV (P : Program) (w : World) (K : PySem.W.Frag) (mg : Str → Option Value) (base : Heap) (k n i : Nat) (t : TA) : TE := fun σ H Q => ∃ f pre R, σ[i]? = some (some (.ref f)) ∧ Gv P w K mg base k H f n pre R ∧
  t σ H fun vs H1 => Gv P w K mg base k H1 f n pre R ∧ vs.length = n ∧ pre vs ∧ ∀ v H', (∀ b o, H1 b = some o → H' b = some o) → R vs H' v → Q v H'
section
variable {X : Cx} {P : Program} {w : World} {K : PySem.W.Frag} {mg : Str → Option Value} {base : Heap} {k j n i : Nat} {x : Str} {t : TA} {e : Expr} {es : List Expr} {p pos : Pos}
theorem run_v {pins : List (Addr × Obj)} {σ : L2.St} {H : Hp} {s : Shared} {Q : VK} {f : Addr} {pre : List V → Prop} {R : List V → Hp → V → Prop} {us : List Value} {vs : List V} (g : Gv X.prog X.w X.K X.mg X.base k H f n pre R) (hr : Room j X.A) (hk : k ≤ j) (I : Inv X pins σ H s)
    (r : Vals vs us) (hl : vs.length = n) (hpre : pre vs) (q : ∀ v H', (∀ b o, H b = some o → H' b = some o) → R vs H' v → Q v H') : wpAny (model X.prog X.w) X.A (call (.ref f) us) (EP X pins σ Q) X.xe s := by
  obtain ⟨mono, F, fr, ps, ws, hp, h1, hc1, h2, h3, h4, h5, h6⟩ := g
  have all : ∀ b ∈ cells F.cl, ∃ o v, H b = some (CellO b o) ∧ o.data = .cell v := fun b hb => by
    obtain ⟨y, hy⟩ := cells_mem.mp hb
    exact h2.all y b hy
  have is : ∀ b ∈ cells F.cl, ∃ φ, H b = some (.ext φ) := fun b hb => by
    obtain ⟨o, _, h, _⟩ := all b hb
    exact ⟨_, h⟩
  have nf : f ∉ cells F.cl := fun hb => by
    obtain ⟨o, v, h, hd⟩ := all f hb
    have e1 : s.heap.get? f = some o := (I.hok f _ h).1
    obtain ⟨od, sl, doc, pm, ctv, e2⟩ := fnO_at I.hok h1
    rw [e1] at e2
    cases e2
    cases hd
  have nc : F.c ∉ cells F.cl := fun hb => by
    obtain ⟨o, v, h, hd⟩ := all F.c hb
    have e1 : s.heap.get? F.c = some o := (I.hok F.c _ h).1
    obtain ⟨c0, oc, fs, t0, e0, e2, e3, _⟩ := codeO_at I.hok hc1
    cases e0
    rw [e1] at e2
    cases e2
    rw [hd] at e3
    cases e3
  have hex : ∀ b, ∃ o : Obj, b ∈ cells F.cl → H b = some (CellO b o) := fun b => by
    by_cases hb : b ∈ cells F.cl
    · obtain ⟨o, _, h, _⟩ := all b hb
      exact ⟨o, fun _ => h⟩
    · exact ⟨{ cls := .none, data := .fields #[] }, fun z => absurd z hb⟩
  let l : Lent := ⟨cells F.cl, fun b => Classical.choose (hex b)⟩
  have hob : ∀ b ∈ cells F.cl, H b = some (CellO b (l.ob b)) := fun b hb => Classical.choose_spec (hex b) hb
  have rn := h6.run X.A X.stack s (drop (cells F.cl) H) us vs (ws.map some) (fun v H2 => (∀ b ∈ cells F.cl, H2 b = none) → Q v (lend l H2)) C8.E0 (hr.mono hk) (env_drop I.env0 is) (by rw [drop_out nf]; exact h1) (by rw [drop_out nc]; exact hc1) (h2.at_ I.hok) r
    ⟨rfl, hl, hpre, h4, fun v H' e hR hn => by
      have eL : ∀ b o, H' b = some o → lend l H' b = some o := fun b o hb => by
        by_cases qq : b ∈ cells F.cl
        · rw [hn b qq] at hb
          cases hb
        · rw [lend_out qq]
          exact hb
      refine q v _ (fun b o hb => ?_) (mono _ _ _ _ eL hR)
      by_cases qq : b ∈ cells F.cl
      · rw [lend_in qq, ← hob b qq]
        exact hb
      · rw [lend_out qq]
        exact e b o (by rw [drop_out qq]; exact hb)⟩
  refine wpAny_call (codeAny_mono rn fun r s' hq => ?_)
  cases r with
  | error e => exact (show False from hq).elim
  | ok fl =>
    cases fl with
    | ret u => exact I.after (ce_back I.env0 l rfl hob hq)
    | next => exact False.elim hq
    | brk => exact False.elim hq
    | cont => exact False.elim hq
/-- f(..), f a name that holds such a value -/
theorem pe_callV (hP : X.prog = P) (hw : X.w = w) (hK : X.K = K) (hmg : X.mg = mg) (hbase : X.base = base) (hr : Room j X.A) (hk : k ≤ j) (hN : X.N[i]? = some x) (hv : Vis X.env.scope x) (ha : PA X (e :: es) t)
    (hd : (x == ("__debug__" : Str)) = false := by decide) (hcd : (x == ("__classdict__" : Str)) = false := by decide)
    (he : starEach (e :: es) X.env = (false, eval e X.env) :: starEach es X.env := by rfl) (hpl : (backTo pos (starEach es X.env)).any (·.1) = false := by rfl) :
    PE X (.Call (.Name x p) (e :: es) [] pos) (tCallV P w K mg base k n i t) := by
  subst hP hw hK hmg hbase
  refine ⟨fun pins s σ H Q I h => ?_⟩
  obtain ⟨f, pre, R, hs, g, ht⟩ := h
  have hf : ∃ F, H f = some (FnO f F) := by
    obtain ⟨_, F, _, _, _, _, h1, _⟩ := g
    exact ⟨F, h1⟩
  obtain ⟨F0, hf⟩ := hf
  refine wpAny_Call_Name_kw (thn ((pe_var (pos := p) hN hv hd hcd).run pins s σ H (fun v H1 => v = .ref f ∧ H1 = H) I ⟨.ref f, hs, rfl, rfl⟩) fun u s1 ⟨v, H1, I1, r1, q1⟩ => ?_)
  obtain ⟨ev, eH⟩ := q1
  subst ev
  rw [eH] at I1
  obtain rfl : u = Value.ref f := r1
  refine PySem.W.callWith_F (first := []) (fnAt_of I1 hf) (thn (ha.run pos pins s1 σ H _ I1 ht) fun us s2 ⟨vs, H2, I2, r, g2, hl, hpre, q⟩ => ⟨?_, ?_⟩) he hpl
  · obtain ⟨_, F, _, _, _, _, h1, _⟩ := g2
    exact fnAt_of I2 h1
  · show wpAny _ _ (call (.ref f) us) _ _ _
    exact run_v g2 hr hk I2 r hl hpre q
/-- g(.., f, ..): a def's own def f is handed on, its cells are lent meanwhile -/
def tCallL (cl : List (Str × Addr)) (fr : List Str) (js : List Nat) (sp : Sp) (t : TA) : TE := fun σ H Q => t σ H fun vs H1 => ∃ ws : List V, js.map (slotAt σ) = ws.map some ∧ ∀ H2, (∀ b o, H1 b = some o → H2 b = some o) → CellsV H2 cl fr ws → (∀ b ∈ cells cl, H1 b = none) →
  sp (vs ++ []) H2 (fun v H3 => ExtN H2 H3 ∧ Q v (drop (cells cl) H3)) C8.E0
theorem pe_callL {cl : List (Str × Addr)} {fr : List Str} {js : List Nat} {f : Addr} {fd : FuncData} {ps : List Str} {sp : Sp} (Fn : FnOk X.prog X.w X.K X.mg X.base C8.CX0 k f fd ps sp) (hr : Room k X.A) (hg : Gl X x) (hm : X.mg x = some (.ref f)) (hk : PySem.W.keepIn X.K (.ref f) = true) (hb : Binds X.K fd ps [])
    (cp : X.Ok → Caps X cl fr js) (hfn : ∀ y, X.fn y = true) (ha : PA X (e :: es) t) (hdb : (x == ("__debug__" : Str)) = false := by decide) (he : starEach (e :: es) X.env = (false, eval e X.env) :: starEach es X.env := by rfl) (hpl : (backTo pos (starEach es X.env)).any (·.1) = false := by rfl) :
    PE X (.Call (.Name x p) (e :: es) [] pos) (tCallL cl fr js sp t) := by
  refine ⟨fun pins s σ H Q I h => ?_⟩
  refine wpAny_Call_Name_kw (ld_glob I hg hm ?_ hdb)
  refine PySem.W.callWith_K (h₀ := X.base) I.ok.mod.kin hk (thn (ha.run pos pins s σ H _ I h) fun us s1 ⟨vs, H1, I1, r, ws, hws, q⟩ => ⟨I1.kIn, ?_⟩) he hpl
  have cap := cp I1.ok
  have C := cells_of I1 cap
  rw [hws] at C
  have raw0 : ∀ b, ∃ o : Obj, b ∈ cells cl → s1.heap.get? b = some o ∧ ∃ v, o.data = .cell v := fun b => by
    by_cases hb : b ∈ cells cl
    · obtain ⟨y, hy⟩ := cells_mem.mp hb
      obtain ⟨_, v, o, h1, h2⟩ := C.all y b hy
      exact ⟨o, fun _ => ⟨h1, v, h2⟩⟩
    · exact ⟨{ cls := .none, data := .fields #[] }, fun z => absurd z hb⟩
  let l : Lent := ⟨cells cl, fun b => Classical.choose (raw0 b)⟩
  have raw : ∀ b ∈ cells cl, s1.heap.get? b = some (l.ob b) ∧ ∃ v, (l.ob b).data = .cell v := fun b hb => Classical.choose_spec (raw0 b) hb
  have nob : ∀ b ∈ cells cl, H1 b = none := fun b hb => by
    obtain ⟨y, hy⟩ := cells_mem.mp hb
    exact (C.all y b hy).1
  have big : ∀ b ∈ cells cl, X.s_0.heap.objs.size ≤ b := fun b hb => by
    obtain ⟨y, hy⟩ := cells_mem.mp hb
    exact I1.ok.cab y b (hfn y) (cap.sub y b hy)
  have small : ∀ b, (∃ o, X.s_0.heap.get? b = some o) → b ∉ cells cl := fun b ⟨o, ho⟩ hb => absurd (Heap.lt_size ho) (Nat.not_lt.mpr (big b hb))
  have nstk : ∀ b ∈ frs X.stack, b ∉ cells cl := by
    have out : ∀ b ∈ frs X.outer, b ∉ cells cl := fun b hb => by
      obtain ⟨_, o, ho, _⟩ := I1.ok.funs.mem hb
      exact small b ⟨o, ho⟩
    rcases I1.ok.stk with e1 | ⟨e1, e2⟩
    · rw [e1]
      exact out
    · rw [e1]
      intro b hb
      unfold frs at hb
      rw [List.filterMap_cons, e2] at hb
      rcases List.mem_cons.mp hb with z | z
      · intro hc
        rw [z] at hc
        obtain ⟨h1, v, h2⟩ := raw _ hc
        obtain ⟨m, ⟨o, es, ep, ho, hd, _⟩, _⟩ := I1.loc
        rw [h1] at ho
        cases ho
        rw [h2] at hd
        cases hd
      · exact out b z
  have e0 := I1.env0
  have okL : HOk X.prog X.w (lend l H1) s1.heap := hok_lend I1.hok nob fun b hb => (raw b hb).1
  have n2 : ∀ b, H1 b = none → b ∉ cells cl → lend l H1 b = none := fun b h1 h2 => by
    rw [lend_out h2]
    exact h1
  have envL : Env0 X.prog X.w X.K X.mg X.base X.A X.stack s1 (lend l H1) :=
    ⟨e0.frames, e0.mod, fun b o hb => ⟨(e0.bs b o hb).1, n2 b (e0.bs b o hb).2 (small b ⟨o, (I1.ok.bs b o hb).1⟩)⟩, e0.bsz, e0.funs, fun b hb => n2 b (e0.frf b hb) (nstk b hb), okL, e0.bare⟩
  have eL : ∀ b o, H1 b = some o → lend l H1 b = some o := fun b o hb => by
    rw [lend_out (fun z => by rw [nob b z] at hb; cases hb)]
    exact hb
  have CV : CellsV (lend l H1) cl fr ws := ⟨by have := C.len; rwa [List.length_map] at this, C.inj, fun y c hy => by
    have hc := cells_mem.mpr ⟨y, hy⟩
    obtain ⟨_, v, h2⟩ := raw c hc
    exact ⟨_, v, lend_in hc, h2⟩, fun i y v hy hv => by
    obtain ⟨c, h1, h2⟩ := C.has i y hy
    obtain ⟨u, h3, o, h4, h5⟩ := h2 v (by rw [List.getElem?_map, hv]; rfl)
    have hc := cells_mem.mpr ⟨y, h1⟩
    have h6 := (raw c hc).1
    rw [h4] at h6
    cases h6
    exact ⟨c, _, u, h1, lend_in hc, h5, h3⟩⟩
  have sq := q (lend l H1) eL CV nob
  have r2 : Vals (vs ++ []) (us ++ []) := r.append .nil
  have hl : (us ++ []).length = ps.length := by rw [← r2.length]; exact Fn.len _ _ _ _ sq
  refine wpAny_call (codeAny_mono (Fn.run X.A X.stack s1 (lend l H1) ⟨us, []⟩ (us ++ []) (vs ++ []) _ C8.E0 hr envL (hb s1 us I1.kIn hl) r2 sq) fun r s' hq => ?_)
  cases r with
  | error e => exact (show False from hq).elim
  | ok fl =>
    cases fl with
    | ret u =>
      obtain ⟨v, H3, os, bare, un, hok, rv, e23, qv⟩ := hq
      have at3 : ∀ b ∈ cells cl, H3 b = some (CellO b (l.ob b)) := fun b hb => e23 b _ (lend_in (l := l) hb) (fun ps z => by cases z)
      have lo : ∀ {b : Addr} {o : HO}, H1 b = some o → b ∉ cells cl := fun {b o} h z => by
        rw [nob b z] at h
        cases h
      refine I1.after ⟨v, drop (cells cl) H3, os, bare, ⟨fun b o h k f x => ?_, fun b o h k f x => ?_, fun b o h k x => ?_, un.there, fun b xs h => ?_, fun b o u h => ?_, fun b ps h => ?_⟩, hok_drop hok fun b hb => ⟨_, at3 b hb⟩, rv, qv⟩
      · by_cases qq : b ∈ cells cl
        · have h1 := (raw b qq).1
          rw [h] at h1
          rw [h1]
          exact (hok b _ (at3 b qq)).1
        · exact un.keep b o h (n2 b k qq) f x
      · exact un.slot b o h (n2 b k (nstk b f)) f x
      · by_cases qq : b ∈ cells cl
        · exact drop_in qq
        · rw [drop_out qq]
          exact un.free b o h (n2 b k qq) x
      · rw [drop_out (lo h)]
        exact un.tups b xs (eL b _ h)
      · rw [drop_out (lo h)]
        exact un.frzs b o u (eL b _ h)
      · rw [drop_out (lo h)]
        exact un.tbls b ps (eL b _ h)
    | next => exact False.elim hq
    | brk => exact False.elim hq
    | cont => exact False.elim hq
end
end NV

namespace TR
open PySem PySem.Spec L2 Evl
mutual
theorem TA.tx {k k' : Bool} {H : Hp} : ∀ {t : Tr} {v : V}, TA k H v t → TX k' H v t
  | _, _, .go h => .go h
  | _, _, .tell h r => .tell h (TA.tx r)
  | _, _, .read h hb r => .read h hb (TAs.tx r)
theorem TAs.tx {k k' : Bool} {H : Hp} : ∀ {ts : Trs} {vs : List V}, TAs k H vs ts → TXs k' H vs ts
  | _, _, .nil => .nil
  | _, _, .cons h r => .cons (TA.tx h) (TAs.tx r)
end
/-- what can't change of a heap, beside a base -/
def fz (B H : Hp) : Hp := fun a => match H a with
  | some (.tup xs) => some (.tup xs)
  | some (.ins C d fs) => some (.ins C d fs)
  | _ => B a
theorem fz_tup {B H : Hp} {a : Addr} {xs : List V} (h : H a = some (.tup xs)) : fz B H a = some (.tup xs) := by
  unfold fz
  rw [h]
theorem fz_ins {B H : Hp} {a C d : Addr} {fs : List (Str × V)} (h : H a = some (.ins C d fs)) : fz B H a = some (.ins C d fs) := by
  unfold fz
  rw [h]
theorem fz_lst {B H : Hp} {a : Addr} {xs : List V} (h : H a = some (.lst xs)) : fz B H a = B a := by
  unfold fz
  rw [h]
theorem fz_dk {B H : Hp} {a : Addr} {xs : List (Key × V)} (h : H a = some (.dK xs)) : fz B H a = B a := by
  unfold fz
  rw [h]
theorem fz_sub {B H : Hp} (e : Ex B H) : Ex B (fz B H) := fun a o h => by
  have h2 := e _ _ h
  unfold fz
  rw [h2]
  cases o <;> first | rfl | exact h
theorem fz_sup {B H : Hp} (e : Ex B H) : Ex (fz B H) H := fun a o h => by
  unfold fz at h
  split at h
  · next q => rw [q, ← h]
  · next q => rw [q, ← h]
  · exact e _ _ h
mutual
theorem TA.fz {B H : Hp} : ∀ {t : Tr} {v : V}, TA true H v t → TA true (TR.fz B H) v t
  | _, _, .go h => .go (fz_tup h)
  | _, _, .tell h r => .tell (fz_tup h) (TA.fz r)
  | _, _, .read h hb r => .read (fz_tup h) (fz_tup hb) (TAs.fz r)
theorem TAs.fz {B H : Hp} : ∀ {ts : Trs} {vs : List V}, TAs true H vs ts → TAs true (TR.fz B H) vs ts
  | _, _, .nil => .nil
  | _, _, .cons h r => .cons (TA.fz h) (TAs.fz r)
end
/-- trees of tuples alone, or of an older heap -/
inductive EK (B H : Hp) : List V → List Tr → Prop
  | nil : EK B H [] []
  | cons {v : V} {t : Tr} {vs : List V} {ts : List Tr} : TA true H v t ∨ TX true B v t → EK B H vs ts → EK B H (v :: vs) (t :: ts)
theorem EK.snoc {B H : Hp} {vs : List V} {ts : List Tr} (h : EK B H vs ts) {v : V} {t : Tr} (k : TA true H v t ∨ TX true B v t) : EK B H (vs ++ [v]) (ts ++ [t]) := by
  induction h with
  | nil => exact .cons k .nil
  | cons a _ ih => exact .cons a ih
theorem EK.ex {B H H' : Hp} {vs : List V} {ts : List Tr} (h : EK B H vs ts) (e : Ex H H') : EK B H' vs ts := by
  induction h with
  | nil => exact .nil
  | cons a _ ih => exact .cons (a.imp (fun z => z.ex e) id) ih
theorem EK.upd {B H : Hp} {vs : List V} {ts : List Tr} {D : Addr} {o : HO} (h : EK B H vs ts) (hn : ∀ xs, H D ≠ some (.tup xs)) : EK B (L2.upd H D o) vs ts := by
  induction h with
  | nil => exact .nil
  | cons a _ ih => exact .cons (a.imp (fun z => z.upd hn) id) ih
theorem EK.kid {B H : Hp} {vs : List V} {ts : List Tr} (h : EK B H vs ts) (e : Ex B H) : KidX true H vs ts := by
  induction h with
  | nil => exact .nil
  | cons a _ ih => exact .cons (a.elim (fun z => z.tx) fun z => z.ex e) ih
theorem EK.lift {B H : Hp} {D : Addr} {o : HO} {vs : List V} {ts : List Tr} (h : EK B H vs ts) (hD : fz B H D = none) (e : Ex B (fz B H)) : KidX true (L2.upd (fz B H) D o) vs ts := by
  induction h with
  | nil => exact .nil
  | cons a _ ih => exact .cons (a.elim (fun z => (z.fz.ex (Ex.new hD)).tx) fun z => z.ex (e.trans (Ex.new hD))) ih
theorem EK.len {B H : Hp} {vs : List V} {ts : List Tr} (h : EK B H vs ts) : vs.length = ts.length := by
  induction h with
  | nil => rfl
  | cons _ _ ih => rw [List.length_cons, List.length_cons, ih]
def Trs.of : List Tr → Trs
  | [] => .nil
  | t :: r => .cons t (Trs.of r)
theorem Trs.of_list : ∀ l : List Tr, (Trs.of l).list = l
  | [] => rfl
  | t :: r => congrArg (t :: ·) (Trs.of_list r)
/-- the tree that reads the places -/
def rdg (L W : List Nat) (U : Nat → Nat → Tr) (e : Tr) : List Nat → Tr
  | [] => e
  | p :: r => .read p (Trs.of (L.map fun c => if W[p]? = some c then rdg L W U e r else U p c))
end TR
namespace Law
open PySem PySem.Spec PyProof.Rows L2 Evl TR
def preU (L W : List Nat) (vs : List V) : Prop := ∃ p c : Nat, vs = [.int (p : Nat), .str (sg c)] ∧ p < W.length ∧ c ∈ L
def RU (L W : List Nat) (U : Nat → Nat → Tr) (H0 : Hp) (vs : List V) (H : Hp) (v : V) : Prop := ∀ p c : Nat, vs = [.int (p : Nat), .str (sg c)] → TA true H v (U p c) ∨ TX true H0 v (U p c)
/-- what is made: B grows to B', no list of H is touched -/
structure Grows (B H B' H' : Hp) : Prop where
  b : Ex B B'
  h : Ex H H'
  s : Ex B' H'
  l : ∀ b xs, H b = some (.lst xs) → B' b = B b
  nt : (∀ b ps, B b ≠ some (.tbl ps)) → ∀ b ps, B' b ≠ some (.tbl ps)
theorem fz_nt {B H : Hp} (h : ∀ b ps, B b ≠ some (.tbl ps)) : ∀ b ps, fz B H b ≠ some (.tbl ps) := fun b ps z => by
  unfold fz at z
  split at z
  · cases z
  · cases z
  · exact h b ps z
theorem Grows.refl {B H : Hp} (e : Ex B H) : Grows B H B H := ⟨Ex.refl _, Ex.refl _, e, fun _ _ _ => rfl, id⟩
theorem Grows.trans {B H B' H' B2 H2 : Hp} (g : Grows B H B' H') (k : Grows B' H' B2 H2) : Grows B H B2 H2 :=
  ⟨g.b.trans k.b, g.h.trans k.h, k.s, fun b xs h => by rw [k.l b xs (g.h _ _ h), g.l b xs h], fun n => k.nt (g.nt n)⟩
/-- a list is finished -/
theorem Grows.done {B H H' : Hp} {D : Addr} {zs : List V} (e : Ex B H) (hD : H D = none) (e2 : Ex H H') (hz : H' D = some (.lst zs)) : Grows B H (L2.upd (fz B H') D (.lst zs)) H' := by
  have bD : fz B H' D = none := by
    rw [fz_lst hz]
    exact fresh_back e hD
  refine ⟨(fz_sub (e.trans e2)).trans (Ex.new bD), e2, fun b o h => ?_, fun b xs h => ?_, fun n b ps z => ?_⟩
  · by_cases q : b = D
    · rw [q, upd_same] at h
      rw [q, hz]
      exact h
    · rw [upd_ne q] at h
      exact fz_sup (e.trans e2) b o h
  · have q : b ≠ D := fun z => by
      rw [z, hD] at h
      cases h
    rw [upd_ne q, fz_lst (e2 _ _ h)]
  · by_cases q : b = D
    · rw [q, upd_same] at z
      cases z
    · rw [upd_ne q] at z
      exact fz_nt n b ps z
/-- only tuples are made -/
theorem Grows.tups {B H H' : Hp} (e : Ex B H) (e2 : Ex H H') : Grows B H (fz B H') H' :=
  ⟨fz_sub (e.trans e2), e2, fz_sup (e.trans e2), fun b xs h => fz_lst (e2 _ _ h), fun n => fz_nt n⟩
def spRdg (P : Program) (w : World) (K : PySem.W.Frag) (mg : Str → Option Value) (base : Heap) : Sp := fun vs H Q _ => ∃ (L W ps : List Nat) (pl f : Addr) (ve : V) (e : Tr) (U : Nat → Nat → Tr) (H0 B : Hp), vs = [.str (tx L), .str (tx W), .ref pl, .ref f, ve] ∧ H pl = some (.lst (nV ps)) ∧ (∀ p ∈ ps, p < W.length) ∧ L.length ≤ 10 ∧ W.length ≤ 100 ∧ Ex H0 B ∧ Ex B H ∧ TX true B ve e ∧
  NV.Gv P w K mg base 9 H f 2 (preU L W) (RU L W U H0) ∧ ∀ B' H' v, Grows B H B' H' → TX true B' v (rdg L W U e ps) → Q v H'
section
variable {P : Program} {w : World} {K : PySem.W.Frag} {mg : Str → Option Value} {base : Heap}
theorem ok_rdg {f : Addr} {fd : FuncData} (F : Fun K "_reading" "_reading" s_reading f fd) (T : Tx mg) : FnOk P w K mg base CX0 10 f fd ["letters", "word", "places", "unlike", "end"] (spRdg P w K mg base) := by
  refine F.ok sc_reading (fun vs H Q E h => ?_) (fun cdv A outer s H vs Q E hr h => ?_)
  · obtain ⟨L, W, ps, pl, f, ve, e, U, H0, B, rfl, _⟩ := h
    rfl
  · obtain ⟨L, W, ps, pl, fu, ve, e, U, H0, B, rfl, hpl, hps, hL, hW, e0, eB, hT, g, q⟩ := h
    refine ⟨_, (pss_cons (ps_set (i := 5) sc_reading.nd rfl (Or.inr rfl) (pv 4))
      (pss_cons (ps_for PassesOwn.never rfl (pi_reversed (by rfl) T.reversed (pa_cons (pv 2) pa_nil)) (pg_name (i := 6) sc_reading.nd rfl (Or.inr rfl)) (pss_one (ps_set (i := 5) sc_reading.nd rfl (Or.inr rfl) (pe_tup (pa_cons pe_str (pa_cons (pv 6) (pa_cons (pe_lc (own := [("letter", 7)]) (g := gName 7) (tt := tYes) rfl sc_reading.nd (pi_str (pv 0)) (blkOk_by (N := N_reading) (sc := defScope s_reading) (by decide +kernel)) (fun _ _ _ _ _ => (pg_name (i := 7) sc_reading.nd rfl (Or.inl rfl))) (fun _ _ _ _ _ => pts_nil) (fun _ _ _ _ _ => (pe_ifExp (pt_cmpR op_eq (pv 7) (pe_ix ix_str (pv 1) (pv 6) (fun _ _ => rfl)) (nomark _)) (pv 5) (NV.pe_callV (P := P) (w := w) (K := K) (mg := mg) (base := base) (k := 9) (j := 9) (n := 2) (i := 3) rfl rfl rfl rfl rfl (hr.mono (by decide)) (Nat.le_refl _) rfl (by first | exact Or.inl rfl | exact Or.inr (Or.inl rfl) | exact Or.inr (Or.inr rfl)) (pa_cons (pv 6) (pa_cons (pv 7) pa_nil)))))) pa_nil)))))))
      (pss_one (ps_ret (pv 5))))), ?_⟩
    have lnp := nV_len ps
    refine ⟨_, rfl, _, rfl, pl, _, rfl, sq_of hpl, ?_⟩
    refine for_it (walk_rev (K := K) (a := pl) (xs := nV ps)) (fun i σ H' => ∃ (B' : Hp) (v : V) (y6 y7 : Option V), σ = [some (.str (tx L)), some (.str (tx W)), some (.ref pl), some (.ref fu), some ve, some v, y6, y7] ∧ Grows B H B' H' ∧ TX true B' v (rdg L W U e (ps.drop (ps.length - i)))) ⟨B, ve, none, none, rfl, Grows.refl eB, by rw [Nat.sub_zero, List.drop_length]; exact hT⟩ (fun i σ H' _ hw => by
      obtain ⟨_, _, _, _, _, ex, _⟩ := hw
      exact sq_of (ex.h _ _ hpl)) (fun i x σ H' H'' hi hw hy => ?_) (fun σ H' hw => ?_)
    · obtain ⟨B', v, y6, y7, rfl, gw, hv⟩ := hw
      have e1 := gw.h
      obtain ⟨rfl, hx⟩ := hy
      rw [lnp] at hi hx
      have hj : ps.length - 1 - i < ps.length := by omega
      obtain ⟨p, hp⟩ : ∃ p, ps[ps.length - 1 - i]? = some p := ⟨_, List.getElem?_eq_getElem hj⟩
      rw [show (nV ps)[ps.length - 1 - i]? = (ps[ps.length - 1 - i]?).map (fun q : Nat => V.int (q : Nat)) from List.getElem?_map .., hp] at hx
      cases hx
      have hpw := hps p (List.mem_of_getElem? hp)
      have hdr : ps.drop (ps.length - (i + 1)) = p :: ps.drop (ps.length - i) := by
        obtain ⟨hk, ek⟩ := List.getElem?_eq_some_iff.mp hp
        have e2 : ps.length - (i + 1) = ps.length - 1 - i := by omega
        rw [e2, List.drop_eq_getElem_cons hk, ek]
        congr 2
        omega
      obtain ⟨wp, hwp⟩ : ∃ wp, W[p]? = some wp := ⟨_, List.getElem?_eq_getElem hpw⟩
      refine ⟨_, rfl, _, rfl, _, rfl, fun D hD => ?_⟩
      have gU := g.up e1
      refine lc_str (x := tx L) (fun i' H6 => ∃ zs, Ex H'' H6 ∧ H6 D = some (.lst zs) ∧ EK B' H6 zs ((L.take i').map fun c => if W[p]? = some c then rdg L W U e (ps.drop (ps.length - i)) else U p c)) ⟨[], Ex.new hD, upd_same, .nil⟩ (fun i' c H6 hic hw => ?_) (fun H6 hw => ?_)
      · obtain ⟨zs, e6, hz, Z⟩ := hw
        have hcL := tx_at hic
        have hi' := (List.getElem?_eq_some_iff.mp hcL).1
        have lz := Z.len
        rw [List.length_map, List.length_take] at lz
        have put : ∀ (H7 : Hp) (v7 : V), Ex H6 H7 → (TA true H7 v7 (if W[p]? = some c then rdg L W U e (ps.drop (ps.length - i)) else U p c) ∨ TX true B' v7 (if W[p]? = some c then rdg L W U e (ps.drop (ps.length - i)) else U p c)) →
            ∃ acc, H7 D = some (.lst acc) ∧ acc.length < sizeLine ∧ ∃ zs, Ex H'' (L2.upd H7 D (.lst (acc ++ [v7]))) ∧ (L2.upd H7 D (.lst (acc ++ [v7]))) D = some (.lst zs) ∧ EK B' (L2.upd H7 D (.lst (acc ++ [v7]))) zs ((L.take (i' + 1)).map fun c => if W[p]? = some c then rdg L W U e (ps.drop (ps.length - i)) else U p c) := by
          intro H7 v7 e7 h7
          refine ⟨zs, e7 _ _ hz, sz_lt (by omega), zs ++ [v7], (e6.trans e7).mut hD, upd_same, ?_⟩
          rw [take_next' hcL, List.map_append]
          refine EK.upd ((Z.ex e7).snoc h7) fun xs hh => ?_
          rw [e7 _ _ hz] at hh
          cases hh
        refine ⟨rfl, _, rfl, _, rfl, _, rfl, _, _, wp, rfl, rfl, tx_le (by omega), atI_nat (j := p) (by rw [tx_list]; exact hwp), rfl, _, rfl, ?_⟩
        by_cases hc : c = wp
        · refine iteD (by rw [hc]) ?_
          have hcw : W[p]? = some c := by rw [hc]; exact hwp
          exact ⟨v, rfl, put H6 v (Ex.refl _) (.inr (by rw [if_pos hcw]; exact hv))⟩
        · refine iteDn (fun z => hc (by injection z with z; injection z with z; injection z with z; injection z)) ?_
          have hcw : ¬ W[p]? = some c := fun z => hc (by rw [hwp] at z; injection z with z; exact z.symm)
          refine ⟨fu, preU L W, RU L W U H0, rfl, gU.up e6, _, rfl, _, rfl, gU.up e6, rfl, ⟨p, c, rfl, hpw, List.mem_of_getElem? hcL⟩, fun v7 H7 e7 hR => ?_⟩
          refine put H7 v7 e7 ?_
          rw [if_neg hcw]
          exact (hR p c rfl).imp id fun z => z.ex (e0.trans gw.b)
      · obtain ⟨zs, e6, hz, Z⟩ := hw
        rw [tx_size, List.take_length] at Z
        refine ⟨by show 3 ≤ sizeLine; decide, fun r hr2 => ?_⟩
        have e7 := e6.trans (Ex.new (o := .tup [.str "read", .int (p : Nat), .ref D]) hr2)
        have hz7 : (L2.upd H6 r (.tup [.str "read", .int (p : Nat), .ref D])) D = some (.lst zs) := Ex.new hr2 _ _ hz
        have hr7 : (L2.upd H6 r (.tup [.str "read", .int (p : Nat), .ref D])) r = some (.tup [.str "read", .int (p : Nat), .ref D]) := upd_same
        have Z7 := Z.ex (Ex.new (o := .tup [.str "read", .int (p : Nat), .ref D]) hr2)
        generalize hH7 : (L2.upd H6 r (.tup [.str "read", .int (p : Nat), .ref D])) = H7 at e7 hz7 hr7 Z7
        have gw2 := Grows.done gw.s hD e7 hz7
        refine ⟨_, _, _, _, rfl, gw.trans gw2, ?_⟩
        rw [hdr]
        show TX true _ _ (.read p (Trs.of _))
        have nrD : r ≠ D := fun z => by
          rw [z, hz] at hr2
          cases hr2
        have bD : fz B' H7 D = none := by
          rw [fz_lst hz7]
          exact fresh_back gw.s hD
        refine .read (j := true) (j2 := false) (by rw [upd_ne nrD]; exact fz_tup hr7) upd_same ?_
        refine KidX.txs ?_
        rw [Trs.of_list]
        exact Z7.lift bD (fz_sub (gw.s.trans e7))
    · obtain ⟨B', v, y6, y7, rfl, gw, hv⟩ := hw
      rw [lnp, Nat.sub_self, List.drop_zero] at hv
      exact ⟨_, rfl, q _ _ _ gw hv⟩
end
end Law

namespace Law
open PySem PySem.Spec PyProof.Rows L2 Evl TR
/-- a list made meanwhile changes -/
theorem Grows.put {B H B' H' : Hp} {D : Addr} {o : HO} (g : Grows B H B' H') (hD : H D = none) (bD : B' D = none) : Grows B H B' (L2.upd H' D o) :=
  ⟨g.b, g.h.mut hD, fun b u h => by
    rw [upd_ne (fun z => by rw [z, bD] at h; cases h)]
    exact g.s _ _ h, g.l, g.nt⟩
/-- .. and is finished -/
theorem Grows.fin {B H B' H' : Hp} {D : Addr} {zs : List V} (g : Grows B H B' H') (hD : H D = none) (bD : B' D = none) (hz : H' D = some (.lst zs)) : Grows B H (L2.upd (fz B' H') D (.lst zs)) H' := by
  have fD : fz B' H' D = none := by
    rw [fz_lst hz]
    exact bD
  refine ⟨(g.b.trans (fz_sub g.s)).trans (Ex.new fD), g.h, fun b o h => ?_, fun b xs h => ?_, fun n b ps z => ?_⟩
  · by_cases q : b = D
    · rw [q, upd_same] at h
      rw [q, hz]
      exact h
    · rw [upd_ne q] at h
      exact fz_sup g.s b o h
  · have q : b ≠ D := fun z => by
      rw [z, hD] at h
      cases h
    rw [upd_ne q, fz_lst (g.h _ _ h)]
    exact g.l b xs h
  · by_cases q : b = D
    · rw [q, upd_same] at z
      cases z
    · rw [upd_ne q] at z
      exact fz_nt (g.nt n) b ps z
theorem rg_nV (st n : Nat) (h : st ≤ n) : rgV (st : Int) (n : Int) = nV (List.range' st (n - st)) := by
  unfold rgV nV
  rw [show ((n : Int) - (st : Int)).toNat = n - st by omega, List.range'_eq_map_range, List.map_map]
  refine List.map_congr_left fun i _ => ?_
  show V.int ((st : Int) + (i : Int)) = V.int ((st + i : Nat) : Int)
  congr 1
/-- the end of a search from the left -/
def endL (W : List Nat) : Tr := .tell 0 (.go (W.length - (brd W W.length).toNat) (brd W W.length).toNat)
def fromL (L W : List Nat) (U : Nat → Nat → Tr) : List Tr := (List.range W.length).map fun st => rdg L W U (endL W) (List.range' st (W.length - st))
theorem fromL_at {L W : List Nat} {U : Nat → Nat → Tr} {i : Nat} (h : i < W.length) : (fromL L W U)[i]? = some (rdg L W U (endL W) (List.range' i (W.length - i))) := by
  unfold fromL
  rw [List.getElem?_map, List.getElem?_range h]
  rfl
theorem fromL_len (L W : List Nat) (U : Nat → Nat → Tr) : (fromL L W U).length = W.length := by
  unfold fromL
  rw [List.length_map, List.length_range]
def spFL (P : Program) (w : World) (K : PySem.W.Frag) (mg : Str → Option Value) (base : Heap) : Sp := fun vs H Q _ => ∃ (L W : List Nat) (f : Addr) (U : Nat → Nat → Tr) (H0 B : Hp), vs = [.str (tx L), .str (tx W), .ref f] ∧ L.length ≤ 10 ∧ 1 ≤ W.length ∧ W.length ≤ 100 ∧ Ex H0 B ∧ Ex B H ∧
  NV.Gv P w K mg base 9 H f 2 (preU L W) (RU L W U H0) ∧ ∀ B' H' r us, Grows B H B' H' → B' r = some (.lst us) → KidX true B' us (fromL L W U) → Q (.ref r) H'
section
variable {P : Program} {w : World} {K : PySem.W.Frag} {mg : Str → Option Value} {base : Heap}
theorem ok_fl {f : Addr} {fd : FuncData} (F : Fun K "_from_left" "_from_left" s_from_left f fd) (T : Tx mg) (c_borders : Kn P w K mg base "_borders" ["word"] 1 spBrd) (c_reading : Kn P w K mg base "_reading" ["letters", "word", "places", "unlike", "end"] 10 (spRdg P w K mg base)) : FnOk P w K mg base CX0 11 f fd ["letters", "word", "unlike"] (spFL P w K mg base) := by
  refine F.ok sc_from_left (fun vs H Q E h => ?_) (fun cdv A outer s H vs Q E hr h => ?_)
  · obtain ⟨L, W, f, U, H0, B, rfl, _⟩ := h
    rfl
  · obtain ⟨L, W, fu, U, H0, B, rfl, hL, w1, hW, e0, eB, g, q⟩ := h
    refine ⟨_, (pss_cons (ps_set (i := 3) sc_from_left.nd rfl (Or.inr rfl) (pe_callB call_len_str (by rfl) T.len PySem.boot_len (pa_cons (pv 1) pa_nil)))
      (pss_cons (ps_set (i := 4) sc_from_left.nd rfl (Or.inl rfl) (pe_ix ix_list (pe_call c_borders.ok (hr.mono (by decide)) (by rfl) c_borders.g c_borders.kp c_borders.b .nil pass0 (pa_cons (pv 1) pa_nil)) (pv 3) (fun _ _ => rfl)))
      (pss_cons (ps_set (i := 5) sc_from_left.nd rfl (Or.inr rfl) (pe_tup (pa_cons pe_str (pa_cons pe_int (pa_cons (pe_tup (pa_cons pe_str (pa_cons (pe_op op_sub (pv 3) (pv 4)) (pa_cons (pv 4) pa_nil)))) pa_nil)))))
      (pss_one (ps_ret (pe_lc (own := [("state", 6)]) (g := gName 6) (tt := tYes) rfl sc_from_left.nd (pi_range1 (by rfl) T.range (pa_cons (pv 3) pa_nil)) (blkOk_by (N := N_from_left) (sc := defScope s_from_left) (by decide +kernel)) (fun _ _ _ _ _ => (pg_name (i := 6) sc_from_left.nd rfl (Or.inl rfl))) (fun _ _ _ _ _ => pts_nil) (fun _ _ _ _ _ => (pe_call c_reading.ok (hr.mono (by decide)) (by rfl) c_reading.g c_reading.kp c_reading.b .nil pass0 (pa_cons (pv 0) (pa_cons (pv 1) (pa_cons (pe_listRg rfl (by rfl) T.list (prg_2 (by rfl) T.range (pv 6) (pv 3))) (pa_cons (pv 2) (pa_cons (pv 5) pa_nil))))))))))))), ?_⟩
    refine ⟨_, rfl, _, rfl, tx_le (by omega), ?_⟩
    rw [tx_len]
    refine ⟨_, rfl, W, rfl, hW, fun bl H1 e1 hb0 hbl => ⟨_, rfl, bl, _, _, _, rfl, rfl, sq_of hbl, atI_nat (brdV_at (Nat.lt_succ_self _)), ?_⟩⟩
    obtain ⟨b1, b2, _⟩ := brd_lt (w := W) (n := W.length)
    obtain ⟨bn, hbn⟩ : ∃ bn : Nat, brd W W.length = (bn : Int) := ⟨(brd W W.length).toNat, (Int.toNat_of_nonneg (b2 (by omega))).symm⟩
    have ebn : (brd W W.length).toNat = bn := by rw [hbn]; rfl
    rw [hbn]
    refine ⟨_, rfl, _, rfl, _, _, rfl, rfl, _, rfl, by show 3 ≤ sizeLine; decide, fun t1 ht1 => ⟨by show 3 ≤ sizeLine; decide, fun t2 ht2 => ?_⟩⟩
    have e1' := e1.trans ((Ex.new (o := .tup [.str "go", .int ((W.length : Int) - (bn : Int)), .int (bn : Int)]) ht1).trans (Ex.new (o := .tup [.str "tell", .int 0, .ref t1]) ht2))
    have g1 : (L2.upd (L2.upd H1 t1 (.tup [.str "go", .int ((W.length : Int) - (bn : Int)), .int (bn : Int)])) t2 (.tup [.str "tell", .int 0, .ref t1])) t1 = some (.tup [.str "go", .int ((W.length : Int) - (bn : Int)), .int (bn : Int)]) := Ex.new ht2 _ _ upd_same
    have g2 : (L2.upd (L2.upd H1 t1 (.tup [.str "go", .int ((W.length : Int) - (bn : Int)), .int (bn : Int)])) t2 (.tup [.str "tell", .int 0, .ref t1])) t2 = some (.tup [.str "tell", .int 0, .ref t1]) := upd_same
    generalize (L2.upd (L2.upd H1 t1 (.tup [.str "go", .int ((W.length : Int) - (bn : Int)), .int (bn : Int)])) t2 (.tup [.str "tell", .int 0, .ref t1])) = G at e1' g1 g2 ⊢
    have gw0 := Grows.tups eB e1'
    have hend : TX true (fz B G) (.ref t2) (endL W) := by
      unfold endL
      rw [ebn]
      refine .tell (j := true) (fz_tup g2) (.go (j := true) ?_)
      rw [fz_tup g1]
      show some (HO.tup [_, V.int _, V.int _]) = some (HO.tup [_, V.int _, V.int _])
      rw [show ((W.length : Int) - (bn : Int)) = ((W.length - bn : Nat) : Int) by omega]
    have gG := g.up e1'
    refine ⟨_, rfl, _, rfl, by omega, by omega, fun D hD => ?_⟩
    rw [Int.toNat_natCast]
    have bD0 : fz B G D = none := fresh_back gw0.s hD
    refine lc_range (lo := 0) (n := W.length) (fun i H' => ∃ (B' : Hp) (zs : List V), Grows (fz B G) G B' H' ∧ B' D = none ∧ H' D = some (.lst zs) ∧ KidX true B' zs ((fromL L W U).take i)) ⟨fz B G, [], (Grows.refl gw0.s).put hD bD0, bD0, upd_same, .nil⟩ (fun i H' hi hw => ?_) (fun H' hw => ?_)
    · obtain ⟨B', zs, gw, bD, hz, Z⟩ := hw
      have lz := Z.len
      rw [List.length_take, fromL_len] at lz
      rw [Int.zero_add]
      refine ⟨rfl, _, rfl, _, rfl, _, rfl, _, rfl, _, _, rfl, rfl, RgOk.of_le (by omega) (by omega) (by omega) (by omega), fun pl hpl => ?_⟩
      rw [rg_nV i W.length (by omega)]
      have e2 := Ex.new (o := .lst (nV (List.range' i (W.length - i)))) hpl
      have gw2 : Grows (fz B G) G B' (L2.upd H' pl (.lst (nV (List.range' i (W.length - i))))) := ⟨gw.b, gw.h.trans e2, gw.s.trans e2, gw.l, gw.nt⟩
      refine ⟨_, rfl, _, rfl, L, W, List.range' i (W.length - i), pl, fu, .ref t2, endL W, U, H0, B', rfl, upd_same, (fun p hp => by
        rw [List.mem_range'_1] at hp
        omega), hL, hW, (e0.trans gw0.b).trans gw.b, gw2.s, hend.ex gw.b, gG.up gw2.h, fun B2 H2 v gw3 hv => ?_⟩
      have hz2 := gw3.h _ _ (e2 _ _ hz)
      have bD2 : B2 D = none := by
        rw [gw3.l D zs (e2 _ _ hz)]
        exact bD
      refine ⟨zs, hz2, sz_lt (by omega), B2, zs ++ [v], (gw2.trans gw3).put hD bD2, bD2, upd_same, ?_⟩
      rw [take_next' (fromL_at hi)]
      exact (Z.ex gw3.b).snoc hv
    · obtain ⟨B', zs, gw, bD, hz, Z⟩ := hw
      rw [← fromL_len L W U, List.take_length] at Z
      have fD : fz B' H' D = none := by
        rw [fz_lst hz]
        exact bD
      exact q _ H' D zs (gw0.trans (gw.fin hD bD hz)) upd_same (Z.ex ((fz_sub gw.s).trans (Ex.new fD)))
end
end Law

namespace Law
open PySem PySem.Spec PyProof.Rows L2 Evl TR NdefX LamX
/-- a def of which the code object is known -/
structure FunC (K : PySem.W.Frag) (x qual : Str) (st : Stmt) (f : Addr) (fd : FuncData) (c : Addr) : Prop where
  ex : ∃ (oc : Value) (od : Option Addr) (kV doc pm : Value) (an : Option Addr) (ct : Value) (osl : Array (Option Value)),
    fd = PySem.W.fnOf x qual (defArgs st) (defBody st) (defScope st) .none kV doc pm an (.ref c) ct ∧ K.lookup f = some ⟨oc, od, .func fd, osl⟩ ∧ PySem.W.codeIn K (.ref c) qual = true
theorem okC {P : Program} {w : World} {K : PySem.W.Frag} {mg : Str → Option Value} {base : Heap} {x qual : Str} {st : Stmt} {f c : Addr} {fd : FuncData} {N ps : List Str} {k : Nat} {sp : Sp} (F : FunC K x qual st f fd c) (S : FnScope N ps (defScope st)) (len : ∀ vs H Q E, sp vs H Q E → vs.length = ps.length)
    (hbody : ∀ (A : Around) (outer : List Env) (s : Shared) (H : Hp) (vs : List V) (Q : VK) (E : XK), Room k (A.deeper (envOfC qual (defScope st) s.heap.objs.size f (.ref c))) → sp vs H Q E →
      ∃ t, PSs (cxOf CX0 P w K mg base N qual (defScope st) f (.ref c) A outer s H E).nox (defBody st) t ∧ t { nx := fun _ H' => Q .non H', rt := Q } (start N vs) H) : FnOk P w K mg base CX0 (k + 1) f fd ps sp := by
  obtain ⟨oc, od, kV, doc, pm, an, ct, osl, rfl, lk, hcd⟩ := F.ex
  refine fn_of lk hcd S len fun A outer s H vs Q E hr hsp => ?_
  obtain ⟨t, h, q⟩ := hbody A outer s H vs Q E hr hsp
  exact ⟨t, h.nox, q⟩
/-- what is made while tables of code objects may grow -/
structure GrowN (T : List NTab) (B H B' H' : Hp) : Prop where
  b : Ex B B'
  h : ExtN H H'
  s : Ex B' H'
  t : TabsN T H'
  n : ∀ b ps, B' b ≠ some (.tbl ps)
def spMk (T : List NTab) (mk : List Nat → List Nat → List Tr) : Sp := fun vs H Q _ => ∃ (L W : List Nat) (B : Hp), vs = [.str (tx L), .str (tx W)] ∧ LG L ∧ 1 ≤ W.length ∧ W.length ≤ 8 ∧ (∀ c ∈ W, c ∈ L) ∧ Ex B H ∧ TabsN T H ∧ (∀ b ps, B b ≠ some (.tbl ps)) ∧
  ∀ B' H' r us, GrowN T B H B' H' → B' r = some (.lst us) → KidX true B' us (mk L W) → Q (.ref r) H'
/-! ### by borders -/
abbrev u_byb : Stmt := (defBody s_by_borders).getD 1 (.Pass ⟨0, 0, 0, 0⟩)
abbrev N_byb : List Str := ["letters", "word", "borders", "unlike"]
theorem sc_byb : FnScope N_byb ["letters", "word"] (defScope s_by_borders) := ⟨rfl, rfl, rfl, by decide +kernel, rfl, by decide +kernel, by decide +kernel⟩
abbrev N_bybU : List Str := ["place", "_", "borders"]
theorem sc_bybU : NScope N_bybU ["place", "_"] ["borders"] (C8.fnScope u_byb) := nscope_by (by decide +kernel)
theorem nd_byb : ndefB (defScope s_by_borders) (C8.fnScope u_byb) ["borders"] = true := by decide +kernel
def U_byb (W : List Nat) (p : Nat) (_ : Nat) : Tr := .go ((p : Int) - brd W p).toNat (brd W p).toNat
section
variable {P : Program} {w : World} {K : PySem.W.Frag} {mg : Str → Option Value} {base : Heap}
theorem nok_byb (T : Tx mg) {f c' bl : Addr} {qn : Str} {cl : List (Str × Addr)} {L W : List Nat} {H0 : Hp} : NOk P w K mg base C8.CX0 9 f (NF.of u_byb "unlike" qn cl c') ["place", "_"] ["borders"]
    (fun ws' vs H Q _ => ws' = [V.ref bl].map some ∧ vs.length = 2 ∧ preU L W vs ∧ H bl = some (.lst (brdV W (W.length + 1))) ∧ ∀ v H', (∀ b o, H b = some o → H' b = some o) → RU L W (U_byb W) H0 vs H' v → Q v H') := by
  refine nok_of (k := 8) sc_bybU (fun doc pm ctv us hl => match us, hl with | [_, _], _ => rfl) (fun ws vs H Q E h => h.2.1) (fun A outer s H vs ws Q E hr hf hc hw h => ?_)
  obtain ⟨rfl, h2, ⟨p, c, rfl, hp, hcL⟩, hbl, q⟩ := h
  refine ⟨_, (pss_one (ps_ret (pe_tup (pa_cons pe_str (pa_cons (pe_op op_sub (pv 0) (pe_ix ix_list (pv 2) (pv 0) (fun _ _ => rfl))) (pa_cons (pe_callB (call_max2 rfl) (by rfl) T.max (by decide +kernel) (pa_cons pe_int (pa_cons (pe_ix ix_list (pv 2) (pv 0) (fun _ _ => rfl)) pa_nil))) pa_nil)))))), ?_⟩
  obtain ⟨b1, b2, b3⟩ := brd_lt (w := W) (n := p)
  refine ⟨_, rfl, _, rfl, _, rfl, bl, _, _, _, rfl, rfl, sq_of hbl, atI_nat (brdV_at (by omega)), _, _, rfl, rfl, _, rfl, _, rfl, bl, _, _, _, rfl, rfl, sq_of hbl, atI_nat (brdV_at (by omega)), _, _, rfl, by show 3 ≤ sizeLine; decide, fun r hr2 => q _ _ (Ex.new hr2) fun p' c' e => ?_⟩
  have ep : p = p' := by
    injection e with e1 _
    injection e1 with e1
    exact Int.ofNat_inj.mp e1
  subst ep
  refine .inl (.go ?_)
  rw [upd_same]
  show some (HO.tup [_, V.int _, V.int _]) = some (HO.tup [_, V.int _, V.int _])
  rw [Int.toNat_of_nonneg (show 0 ≤ (p : Int) - brd W p by omega)]
  have e2 : (if brd W p > 0 then brd W p else 0) = ((brd W p).toNat : Int) := by
    split <;> omega
  rw [e2]
theorem RU.mono {L W : List Nat} {U : Nat → Nat → Tr} {H0 : Hp} (vs : List V) (H H' : Hp) (v : V) (e : ∀ b o, H b = some o → H' b = some o) (h : RU L W U H0 vs H v) : RU L W U H0 vs H' v := fun p c q => (h p c q).imp (fun z => z.ex e) id
theorem TX.of {H H' : Hp} (e : ∀ b k xs, H b = some (ob k xs) → H' b = some (ob k xs)) {k : Bool} : ∀ {t : Tr} {v : V}, TX k H v t → TX k H' v t := by
  intro t v h
  refine TX.rec (motive_1 := fun v t _ => TX k H' v t) (motive_2 := fun vs ts _ => TXs k H' vs ts) ?_ ?_ ?_ ?_ ?_ h
  · intro j a s q h
    exact .go (e _ _ _ h)
  · intro j a n v t h _ ih
    exact .tell (e _ _ _ h) ih
  · intro j j2 a b p vs ts h hb _ ih
    exact .read (e _ _ _ h) (e _ _ _ hb) ih
  · exact .nil
  · intro v vs t r _ _ ih1 ih2
    exact .cons ih1 ih2
theorem KidX.of {H H' : Hp} (e : ∀ b k xs, H b = some (ob k xs) → H' b = some (ob k xs)) {k : Bool} {vs : List V} {ts : List Tr} (h : KidX k H vs ts) : KidX k H' vs ts := by
  induction h with
  | nil => exact .nil
  | cons a _ ih => exact .cons (TX.of e a) ih
/-- behind a call that had a def lent -/
theorem grow_back {T : List NTab} {B H H2 H3 B' H' : Hp} {cs : List Addr} {r : Addr} {us : List V} {ts : List Tr} (eB : Ex B H) (nB : ∀ b ps, B b ≠ some (.tbl ps)) (eN : ExtN H H2) (T2 : TabsN T H2) (cN : ∀ b ∈ cs, H2 b = none) (e3 : Ex H2 H3) (cell : ∀ b ∈ cs, ∃ φ, H3 b = some (.ext φ)) (g : Grows B H3 B' H')
    (hr : B' r = some (.lst us)) (KX : KidX true B' us ts) : GrowN T B H (NV.drop cs B') (NV.drop cs H') ∧ NV.drop cs B' r = some (.lst us) ∧ KidX true (NV.drop cs B') us ts := by
  have k2 : ∀ b o, H2 b = some o → NV.drop cs H' b = some o := fun b o h => by
    have q : b ∉ cs := fun q => by
      rw [cN b q] at h
      cases h
    rw [NV.drop_out q]
    exact g.h _ _ (e3 _ _ h)
  have B2 : Ex B H2 := fun b o h => eN b o (eB _ _ h) fun ps z => nB b ps (by rw [h, z])
  have kb : ∀ b o, B' b = some o → (∀ φ, o ≠ .ext φ) → NV.drop cs B' b = some o := fun b o h n => by
    have q : b ∉ cs := fun q => by
      obtain ⟨φ, hφ⟩ := cell b q
      have h1 := g.s _ _ h
      rw [g.h _ _ hφ] at h1
      exact n φ (Option.some.inj h1).symm
    rw [NV.drop_out q]
    exact h
  refine ⟨⟨fun b o h => ?_, fun b o h n => k2 b o (eN b o h n), fun b o h => ?_, T2.ext k2, fun b ps z => ?_⟩, kb _ _ hr (fun φ z => by cases z), KidX.of (fun b k xs h => kb _ _ h (fun φ z => by cases k <;> cases z)) KX⟩
  · have q : b ∉ cs := fun q => by
      have := B2 b o h
      rw [cN b q] at this
      cases this
    rw [NV.drop_out q]
    exact g.b _ _ h
  · by_cases q : b ∈ cs
    · rw [NV.drop_in q] at h
      cases h
    · rw [NV.drop_out q] at h ⊢
      exact g.s _ _ h
  · by_cases q : b ∈ cs
    · rw [NV.drop_in q] at z
      cases z
    · rw [NV.drop_out q] at z
      exact g.nt nB b ps z
theorem ok_byb {f cd Pt : Addr} {fd : FuncData} (F : FunC K "_by_borders" "_by_borders" s_by_borders f fd cd) (T : Tx mg) (TB : TabB base mg cd Pt) {Tn : List NTab} (hm : (Pt, fun _ _ => ("_by_borders.<locals>.unlike" : Str)) ∈ Tn) (hu : ∀ p ∈ Tn, p.1 = Pt → p.2 = fun _ _ => ("_by_borders.<locals>.unlike" : Str))
    (c_borders : Kn P w K mg base "_borders" ["word"] 1 spBrd) (c_from_left : Kn P w K mg base "_from_left" ["letters", "word", "unlike"] 11 (spFL P w K mg base)) : FnOk P w K mg base CX0 12 f fd ["letters", "word"] (spMk Tn fun L W => fromL L W (U_byb W)) := by
  refine okC F sc_byb (fun vs H Q E h => ?_) (fun A outer s H vs Q E hr h => ?_)
  · obtain ⟨L, W, B, rfl, _⟩ := h
    rfl
  · obtain ⟨L, W, B, rfl, hL, w1, w8, hWL, eB, TN, nB, q⟩ := h
    have hL4 := hL.hi
    refine ⟨_, (pss_cons (ps_set (i := 2) sc_byb.nd rfl (Or.inr rfl) (pe_call c_borders.ok (hr.mono (by decide)) (by rfl) c_borders.g c_borders.kp c_borders.b .nil pass0 (pa_cons (pv 1) pa_nil)))
      (pss_cons (ps_ndefS (st := u_byb) (T := Tn) (i := 3) (nm := fun _ _ => ("_by_borders.<locals>.unlike" : Str)) rfl TB rfl hm (by rfl) hu (ndef_free nd_byb) rfl rfl (by rfl) sc_byb.nd rfl (Or.inl rfl) (Or.inl rfl))
      (pss_one (ps_ret (NV.pe_callL (fr := ["borders"]) (js := [2]) c_from_left.ok (hr.mono (by decide)) (by rfl) c_from_left.g c_from_left.kp c_from_left.b (fun ok => Caps.made (scope := C8.fnScope u_byb) ok (ndef_free nd_byb) (ndef_fr nd_byb) rfl) (fun _ => rfl) (pa_cons (pv 0) (pa_cons (pv 1) (pa_cons (pv 3) pa_nil)))))))), ?_⟩
    refine ⟨_, rfl, W, rfl, by omega, fun bl H1 e1 hb0 hbl => ?_⟩
    refine ⟨TN.ext e1, fun fu c' H2 eN T2 hf0 hfu hco => ?_⟩
    have eN2 : ExtN H H2 := (ExtN.of e1).trans eN
    have hbl2 : H2 bl = some (.lst (brdV W (W.length + 1))) := eN bl _ hbl (fun ps z => by cases z)
    have eB2 : Ex B H2 := fun b o h => eN2 b o (eB _ _ h) fun ps z => nB b ps (by rw [h, z])
    refine ⟨_, rfl, _, rfl, _, rfl, [.ref bl], rfl, fun H3 e3 CV hc => ?_⟩
    have cell : ∀ b ∈ NV.cells (cloFrom (cxOf CX0 P w K mg base N_byb "_by_borders" (defScope s_by_borders) f (.ref cd) A outer s H E).nox.env.cells (C8.fnScope u_byb).names []), ∃ φ, H3 b = some (.ext φ) := fun b hb => by
      obtain ⟨y, hy⟩ := NV.cells_mem.mp hb
      obtain ⟨o, v, h, _⟩ := CV.all y b hy
      exact ⟨_, h⟩
    have nbl : bl ∉ NV.cells (cloFrom (cxOf CX0 P w K mg base N_byb "_by_borders" (defScope s_by_borders) f (.ref cd) A outer s H E).nox.env.cells (C8.fnScope u_byb).names []) := fun hb => by
      have := hc bl hb
      rw [hbl2] at this
      cases this
    refine ⟨L, W, fu, U_byb W, B, B, rfl, by omega, w1, by omega, Ex.refl _, eB2.trans e3, ⟨RU.mono, _, ["borders"], ["place", "_"], [.ref bl], fun H => H bl = some (.lst (brdV W (W.length + 1))), e3 _ _ hfu, e3 _ _ hco, CV, rfl, (NV.drop_out nbl).trans (e3 _ _ hbl2), fun H H' e h => e _ _ h, nok_byb T⟩, fun B' H' r us g hr2 KX => ?_⟩
    obtain ⟨g1, g2, g3⟩ := grow_back eB nB eN2 T2 hc e3 cell g hr2 KX
    exact ⟨ExtN.of g.h, q _ _ _ _ g1 g2 g3⟩
end
end Law

namespace Law
open PySem PySem.Spec PyProof.Rows L2 Evl TR NdefX LamX
/-- border, border of the border .. down to -1 -/
def chnF (W : List Nat) : Nat → Nat → List Int
  | 0, _ => []
  | f + 1, n => brd W n :: if 0 ≤ brd W n then chnF W f (brd W n).toNat else []
def chn (W : List Nat) (n : Nat) : List Int := chnF W (n + 1) n
theorem chnF_fuel {W : List Nat} : ∀ (f g n : Nat), n < f → n < g → chnF W f n = chnF W g n
  | f + 1, g + 1, n, h1, h2 => by
    obtain ⟨b1, _, _⟩ := brd_lt (w := W) (n := n)
    show brd W n :: (if 0 ≤ brd W n then chnF W f _ else []) = brd W n :: (if 0 ≤ brd W n then chnF W g _ else [])
    by_cases e : 0 ≤ brd W n
    · rw [if_pos e, if_pos e, chnF_fuel f g _ (by omega) (by omega)]
    · rw [if_neg e, if_neg e]
def cs (W : List Nat) (x : Int) : List Int := x :: if 0 ≤ x then chn W x.toNat else []
theorem chn_cs (W : List Nat) (n : Nat) : chn W n = cs W (brd W n) := by
  obtain ⟨b1, _, _⟩ := brd_lt (w := W) (n := n)
  show brd W n :: (if 0 ≤ brd W n then chnF W n _ else []) = brd W n :: (if 0 ≤ brd W n then chnF W _ _ else [])
  by_cases e : 0 ≤ brd W n
  · rw [if_pos e, if_pos e, chnF_fuel n _ _ (by omega) (Nat.lt_succ_self _)]
  · rw [if_neg e, if_neg e]
theorem chn_len {W : List Nat} : ∀ (f n : Nat), (chnF W f n).length ≤ f
  | 0, _ => Nat.le_refl _
  | f + 1, n => by
    show (brd W n :: (if 0 ≤ brd W n then chnF W f _ else [])).length ≤ f + 1
    split
    · exact Nat.succ_le_succ (chn_len f _)
    · exact Nat.succ_le_succ (Nat.zero_le _)
/-- all of a chain: below its start, -1 at the end -/
theorem chnF_mem {W : List Nat} : ∀ (f n : Nat), n < f → (∀ x ∈ chnF W f n, x < n ∧ -1 ≤ x) ∧ (-1 : Int) ∈ chnF W f n
  | f + 1, n, h => by
    obtain ⟨b1, b2, b3⟩ := brd_lt (w := W) (n := n)
    show (∀ x ∈ brd W n :: (if 0 ≤ brd W n then chnF W f _ else []), _) ∧ (-1 : Int) ∈ brd W n :: (if 0 ≤ brd W n then chnF W f _ else [])
    by_cases e : 0 ≤ brd W n
    · rw [if_pos e]
      obtain ⟨k1, k2⟩ := chnF_mem (W := W) f (brd W n).toNat (by omega)
      refine ⟨fun x hx => ?_, List.mem_cons_of_mem _ k2⟩
      rcases List.mem_cons.mp hx with z | z
      · rw [z]; exact ⟨b1, b3⟩
      · have := k1 x z
        omega
    · rw [if_neg e]
      have : brd W n = -1 := by omega
      rw [this] at *
      exact ⟨fun x hx => by rw [List.mem_singleton.mp hx]; omega, List.mem_singleton.mpr rfl⟩
def zV (xs : List Int) : List V := xs.map V.int
def spStep : Sp := fun vs H Q _ => ∃ (a : Addr) (W : List Nat) (m n : Nat), vs = [.ref a, .int (n : Nat)] ∧ H a = some (.lst (brdV W m)) ∧ n < m ∧ m ≤ 1000 ∧ ∀ r H', Ex H H' → H r = none → H' r = some (.lst (zV (chn W n))) → Q (.ref r) H'
section
variable {P : Program} {w : World} {K : PySem.W.Frag} {mg : Str → Option Value} {base : Heap}
theorem ok_step {f : Addr} {fd : FuncData} (F : Fun K "_steps_down" "_steps_down" s_steps_down f fd) (T : Tx mg) : FnOk P w K mg base CX0 1 f fd ["borders", "size"] spStep := by
  refine F.ok sc_steps_down (fun vs H Q E h => ?_) (fun cdv A outer s H vs Q E hr h => ?_)
  · obtain ⟨a, W, m, n, rfl, _⟩ := h
    rfl
  · obtain ⟨a, W, m, n, rfl, ha, hn, hm, q⟩ := h
    refine ⟨_, (pss_cons (ps_set (i := 2) sc_steps_down.nd rfl (Or.inl rfl) (pe_lst (pa_cons (pe_ix ix_list (pv 0) (pv 1) (fun _ _ => rfl)) pa_nil)))
      (pss_cons (ps_while PassesOwn.never (pt_cmpR op_ge (pe_ix ix_list (pv 2) (pe_un un_neg pe_int) (fun _ _ => rfl)) pe_int (nomark _)) (pss_one (ps_expr (pe_bm PySem.F.plainAttrs_list PySem.F.slot_list_append PySem.F.type_list_append mt_append (pv 2) (pa_cons (pe_ix ix_list (pv 0) (pe_ix ix_list (pv 2) (pe_un un_neg pe_int) (fun _ _ => rfl)) (fun _ _ => rfl)) pa_nil)))))
      (pss_one (ps_ret (pv 2))))), ?_⟩
    obtain ⟨b1, b2, b3⟩ := brd_lt (w := W) (n := n)
    refine ⟨_, rfl, _, rfl, a, _, _, _, rfl, rfl, sq_of ha, atI_nat (brdV_at hn), by show 1 ≤ sizeLine; decide, fun l hl0 => ?_⟩
    have e1 : Ex H (L2.upd H l (.lst [.int (brd W n)])) := Ex.new hl0
    have h1 : (L2.upd H l (.lst [.int (brd W n)])) l = some (.lst (zV ([] ++ [brd W n]))) := upd_same
    generalize (L2.upd H l (.lst [.int (brd W n)])) = H1 at e1 h1 ⊢
    refine ⟨fun mm σ H' => ∃ (xs : List Int) (x : Int), σ = [some (.ref a), some (.int (n : Nat)), some (.ref l)] ∧ Ex H H' ∧ H' l = some (.lst (zV (xs ++ [x]))) ∧ chn W n = xs ++ cs W x ∧ x < n ∧ -1 ≤ x ∧ mm = (x + 1).toNat, ⟨_, [], brd W n, rfl, e1, h1, chn_cs W n, b1, b3, rfl⟩, fun mm σ H' hw => ?_⟩
    obtain ⟨xs, x, rfl, e2, h2, hc, x1, x2, hmm⟩ := hw
    have hlen := chn_len (W := W) (n + 1) n
    have hxs : xs.length + 1 ≤ n + 1 := by
      have e := congrArg List.length hc
      rw [List.length_append] at e
      have : (cs W x).length ≥ 1 := by
        show (_ :: _).length ≥ 1
        rw [List.length_cons]
        omega
      have h3 : (chn W n).length ≤ n + 1 := hlen
      omega
    have hlast : atI (zV (xs ++ [x])) (-1) = some (.int x) := by
      unfold zV
      rw [List.map_append]
      exact L2.atI_last _ _
    refine ⟨_, rfl, 1, rfl, l, _, _, _, rfl, rfl, sq_of h2, hlast, ?_⟩
    refine ⟨_, _, rfl, rfl, ?_⟩
    by_cases h0 : 0 ≤ x
    · refine ⟨_, rfl, iteD h0 ?_⟩
      have hxn : x.toNat < m := by omega
      obtain ⟨c1, c2, c3⟩ := brd_lt (w := W) (n := x.toNat)
      have hat : atI (brdV W m) x = some (.int (brd W x.toNat)) := by
        have := atI_nat (brdV_at (w := W) hxn)
        rwa [Int.toNat_of_nonneg h0] at this
      refine ⟨fun σ2 H2 => ∃ m', m' < mm ∧ ∃ (xs : List Int) (x : Int), σ2 = [some (.ref a), some (.int (n : Nat)), some (.ref l)] ∧ Ex H H2 ∧ H2 l = some (.lst (zV (xs ++ [x]))) ∧ chn W n = xs ++ cs W x ∧ x < n ∧ -1 ≤ x ∧ m' = (x + 1).toNat, fun σ2 H2 h => h, ?_⟩
      refine ⟨_, rfl, .inl ⟨rfl, _, sq_of h2⟩, _, rfl, _, rfl, 1, rfl, l, _, _, _, rfl, rfl, sq_of h2, hlast, a, _, _, _, rfl, rfl, sq_of (e2 _ _ ha), hat, l, _, _, rfl, rfl, h2, ?_, ?_⟩
      · unfold zV
        rw [List.length_map, List.length_append]
        exact sz_lt (by simp only [List.length_singleton]; omega)
      · refine ⟨(brd W x.toNat + 1).toNat, by omega, xs ++ [x], brd W x.toNat, rfl, e2.mut hl0, ?_, ?_, by omega, c3, rfl⟩
        · rw [upd_same]
          unfold zV
          simp
        · rw [hc]
          have : cs W x = x :: cs W (brd W x.toNat) := by
            show x :: (if 0 ≤ x then chn W x.toNat else []) = _
            rw [if_pos h0, chn_cs]
          rw [this]
          simp
    · refine ⟨_, rfl, iteDn h0 ?_⟩
      refine ⟨_, rfl, q l H' e2 hl0 ?_⟩
      rw [h2, hc]
      have : cs W x = [x] := by
        show x :: (if 0 ≤ x then chn W x.toNat else []) = _
        rw [if_neg h0]
      rw [this]
end
end Law

namespace Law
open PySem PySem.Spec PyProof.Rows L2 Evl TR NdefX LamX
theorem grow_back2 {T : List NTab} {B H G H3 Bx B' H' : Hp} {cs : List Addr} (eBx : Ex B Bx) (xG : Ex Bx G) (nx : ∀ b ps, Bx b ≠ some (.tbl ps)) (eN : ExtN H G) (TG : TabsN T G) (cN : ∀ b ∈ cs, G b = none) (e3 : Ex G H3) (cell : ∀ b ∈ cs, ∃ φ, H3 b = some (.ext φ)) (g : Grows Bx H3 B' H') :
    GrowN T B H (NV.drop cs B') (NV.drop cs H') ∧ ∀ b k xs, B' b = some (ob k xs) → NV.drop cs B' b = some (ob k xs) := by
  have k2 : ∀ b o, G b = some o → NV.drop cs H' b = some o := fun b o h => by
    have q : b ∉ cs := fun q => by
      rw [cN b q] at h
      cases h
    rw [NV.drop_out q]
    exact g.h _ _ (e3 _ _ h)
  have kb : ∀ b o, B' b = some o → (∀ φ, o ≠ .ext φ) → NV.drop cs B' b = some o := fun b o h n => by
    have q : b ∉ cs := fun q => by
      obtain ⟨φ, hφ⟩ := cell b q
      have h1 := g.s _ _ h
      rw [g.h _ _ hφ] at h1
      exact n φ (Option.some.inj h1).symm
    rw [NV.drop_out q]
    exact h
  refine ⟨⟨fun b o h => ?_, fun b o h n => k2 b o (eN b o h n), fun b o h => ?_, TG.ext k2, fun b ps z => ?_⟩, fun b k xs h => kb _ _ h (fun φ z => by cases k <;> cases z)⟩
  · have q : b ∉ cs := fun q => by
      have := xG _ _ (eBx b o h)
      rw [cN b q] at this
      cases this
    rw [NV.drop_out q]
    exact g.b _ _ (eBx _ _ h)
  · by_cases q : b ∈ cs
    · rw [NV.drop_in q] at h
      cases h
    · rw [NV.drop_out q] at h ⊢
      exact g.s _ _ h
  · by_cases q : b ∈ cs
    · rw [NV.drop_in q] at z
      cases z
    · rw [NV.drop_out q] at z
      exact g.nt nx b ps z
/-- one more object -/
theorem GrowN.more {T : List NTab} {B H B' H' : Hp} {l : Addr} {o : HO} (g : GrowN T B H B' H') (hl : H' l = none) (no : ∀ ps, o ≠ .tbl ps) : GrowN T B H (L2.upd B' l o) (L2.upd H' l o) := by
  have bl : B' l = none := fresh_back g.s hl
  refine ⟨g.b.trans (Ex.new bl), fun b u h n => Ex.new hl _ _ (g.h b u h n), fun b u h => ?_, g.t.ext (Ex.new hl), fun b ps z => ?_⟩
  · by_cases q : b = l
    · rw [q, upd_same] at h ⊢
      exact h
    · rw [upd_ne q] at h ⊢
      exact g.s _ _ h
  · by_cases q : b = l
    · rw [q, upd_same] at z
      exact no ps (Option.some.inj z)
    · rw [upd_ne q] at z
      exact g.n b ps z
abbrev u_one : Stmt := (defBody s_one_from_left).getD 0 (.Pass ⟨0, 0, 0, 0⟩)
abbrev N_one : List Str := ["letters", "word", "behind", "unlike"]
theorem sc_one : FnScope N_one ["letters", "word", "behind"] (defScope s_one_from_left) := ⟨rfl, rfl, rfl, by decide +kernel, rfl, by decide +kernel, by decide +kernel⟩
abbrev N_oneU : List Str := ["place", "_", "behind"]
theorem sc_oneU : NScope N_oneU ["place", "_"] ["behind"] (C8.fnScope u_one) := nscope_by (by decide +kernel)
theorem nd_one : ndefB (defScope s_one_from_left) (C8.fnScope u_one) ["behind"] = true := by decide +kernel
/-- one state that reads from the left -/
def oneL (L W : List Nat) (e : Tr) : List Tr := [rdg L W (fun _ _ => e) (.tell 0 e) (List.range' 0 W.length)]
def spOne (T : List NTab) : Sp := fun vs H Q _ => ∃ (L W : List Nat) (vb : V) (e : Tr) (B : Hp), vs = [.str (tx L), .str (tx W), vb] ∧ LG L ∧ 1 ≤ W.length ∧ W.length ≤ 8 ∧ Ex B H ∧ TX true B vb e ∧ TabsN T H ∧ (∀ b ps, B b ≠ some (.tbl ps)) ∧
  ∀ B' H' r us, GrowN T B H B' H' → B' r = some (.lst us) → KidX true B' us (oneL L W e) → Q (.ref r) H'
section
variable {P : Program} {w : World} {K : PySem.W.Frag} {mg : Str → Option Value} {base : Heap}
theorem nok_one {f c' : Addr} {vb : V} {e : Tr} {qn : Str} {cl : List (Str × Addr)} {L W : List Nat} {H0 : Hp} (he : TX true H0 vb e) : NOk P w K mg base C8.CX0 9 f (NF.of u_one "unlike" qn cl c') ["place", "_"] ["behind"]
    (fun ws' vs H Q _ => ws' = [vb].map some ∧ vs.length = 2 ∧ preU L W vs ∧ True ∧ ∀ v H', (∀ b o, H b = some o → H' b = some o) → RU L W (fun _ _ => e) H0 vs H' v → Q v H') := by
  refine nok_of (k := 8) sc_oneU (fun doc pm ctv us hl => match us, hl with | [_, _], _ => rfl) (fun ws vs H Q E h => h.2.1) (fun A outer s H vs ws Q E hr hf hc hw h => ?_)
  obtain ⟨rfl, h2, ⟨p, c, rfl, hp, hcL⟩, _, q⟩ := h
  refine ⟨_, pss_one (ps_ret (pv 2)), ?_⟩
  exact ⟨_, rfl, q _ _ (fun _ _ h => h) fun p' c' _ => .inr he⟩
theorem ok_one {f cd Pt : Addr} {fd : FuncData} (F : FunC K "_one_from_left" "_one_from_left" s_one_from_left f fd cd) (T : Tx mg) (TB : TabB base mg cd Pt) {Tn : List NTab} (hm : (Pt, fun _ _ => ("_one_from_left.<locals>.unlike" : Str)) ∈ Tn) (hu : ∀ p ∈ Tn, p.1 = Pt → p.2 = fun _ _ => ("_one_from_left.<locals>.unlike" : Str))
    (c_reading : Kn P w K mg base "_reading" ["letters", "word", "places", "unlike", "end"] 10 (spRdg P w K mg base)) : FnOk P w K mg base CX0 12 f fd ["letters", "word", "behind"] (spOne Tn) := by
  refine okC F sc_one (fun vs H Q E h => ?_) (fun A outer s H vs Q E hr h => ?_)
  · obtain ⟨L, W, vb, e, B, rfl, _⟩ := h
    rfl
  · obtain ⟨L, W, vb, e, B, rfl, hL, w1, w8, eB, he, TN, nB, q⟩ := h
    have hL4 := hL.hi
    refine ⟨_, (pss_cons (ps_ndefS (st := u_one) (T := Tn) (i := 3) (nm := fun _ _ => ("_one_from_left.<locals>.unlike" : Str)) rfl TB rfl hm (by rfl) hu (ndef_free nd_one) rfl rfl (by rfl) sc_one.nd rfl (Or.inl rfl) (Or.inl rfl))
      (pss_one (ps_ret (pe_lst (pa_cons (NV.pe_callL (fr := ["behind"]) (js := [2]) c_reading.ok (hr.mono (by decide)) (by rfl) c_reading.g c_reading.kp c_reading.b (fun ok => Caps.made (scope := C8.fnScope u_one) ok (ndef_free nd_one) (ndef_fr nd_one) rfl) (fun _ => rfl)
        (pa_cons (pv 0) (pa_cons (pv 1) (pa_cons (pe_listRg rfl (by rfl) T.list (prg_1 (by rfl) T.range (pe_callB call_len_str (by rfl) T.len PySem.boot_len (pa_cons (pv 1) pa_nil)))) (pa_cons (pv 3) (pa_cons (pe_tup (pa_cons pe_str (pa_cons pe_int (pa_cons (pv 2) pa_nil)))) pa_nil)))))) pa_nil))))), ?_⟩
    refine ⟨TN, fun fu c' H2 eN T2 hf0 hfu hco => ?_⟩
    have eB2 : Ex B H2 := fun b o h => eN b o (eB _ _ h) fun ps z => nB b ps (by rw [h, z])
    refine ⟨_, rfl, _, rfl, _, rfl, _, rfl, tx_le (by omega), _, rfl, (by rw [tx_len]; exact RgOk.of_le (by omega) (by omega) (by omega) (by omega)), fun pl hpl => ⟨_, rfl, _, rfl, by show 3 ≤ sizeLine; decide, fun t ht => ?_⟩⟩
    have rg : rgV 0 ((tx W).length : Int) = nV (List.range' 0 W.length) := by
      rw [tx_len]
      exact rg_nV 0 W.length (Nat.zero_le _)
    rw [rg] at ht ⊢
    have x1 : Ex H2 (L2.upd H2 pl (.lst (nV (List.range' 0 W.length)))) := Ex.new hpl
    have x2 := x1.trans (Ex.new (o := .tup [.str "tell", .int 0, vb]) ht)
    have g1 : (L2.upd (L2.upd H2 pl (.lst (nV (List.range' 0 W.length)))) t (.tup [.str "tell", .int 0, vb])) pl = some (.lst (nV (List.range' 0 W.length))) := Ex.new ht _ _ upd_same
    have g2 : (L2.upd (L2.upd H2 pl (.lst (nV (List.range' 0 W.length)))) t (.tup [.str "tell", .int 0, vb])) t = some (.tup [.str "tell", .int 0, vb]) := upd_same
    generalize (L2.upd (L2.upd H2 pl (.lst (nV (List.range' 0 W.length)))) t (.tup [.str "tell", .int 0, vb])) = G at x2 g1 g2 ⊢
    have eBG := eB2.trans x2
    have nx := fz_nt (H := G) nB
    have hend : TX true (fz B G) (.ref t) (.tell 0 e) := .tell (j := true) (fz_tup g2) (he.ex (fz_sub eBG))
    refine ⟨[vb], rfl, fun H3 e3 CV hc => ?_⟩
    have cell : ∀ b ∈ NV.cells (cloFrom (cxOf CX0 P w K mg base N_one "_one_from_left" (defScope s_one_from_left) f (.ref cd) A outer s H E).nox.env.cells (C8.fnScope u_one).names []), ∃ φ, H3 b = some (.ext φ) := fun b hb => by
      obtain ⟨y, hy⟩ := NV.cells_mem.mp hb
      obtain ⟨o, v, h, _⟩ := CV.all y b hy
      exact ⟨_, h⟩
    refine ⟨L, W, List.range' 0 W.length, pl, fu, .ref t, .tell 0 e, fun _ _ => e, B, fz B G, rfl, e3 _ _ g1, (fun p hp => by
      rw [List.mem_range'_1] at hp
      omega), by omega, by omega, fz_sub eBG, (fz_sup eBG).trans e3, hend, ⟨RU.mono, _, ["behind"], ["place", "_"], [vb], fun _ => True, (x2.trans e3) _ _ hfu, (x2.trans e3) _ _ hco, CV, rfl, trivial, fun _ _ _ _ => trivial, nok_one he⟩, fun B' H' v g hv => ?_⟩
    obtain ⟨k1, k2⟩ := grow_back2 (fz_sub eBG) (fz_sup eBG) nx (eN.trans (ExtN.of x2)) (T2.ext x2) hc e3 cell g
    refine ⟨ExtN.of g.h, by show 1 ≤ sizeLine; decide, fun r hr2 => ?_⟩
    refine q _ _ r [v] (k1.more hr2 fun ps z => by cases z) upd_same ?_
    exact .cons ((TX.of k2 hv).ex (Ex.new (fresh_back k1.s hr2))) .nil
end
end Law

namespace Law
open PySem PySem.Spec PyProof.Rows L2 Evl TR NdefX LamX
/-- where the sign stands last among the first p, or -1 -/
def rf (W : List Nat) (p c : Nat) : Int := Txt.rfind (tx (W.take p)) (sg c)
theorem rf_bound (W : List Nat) (p c : Nat) : -1 ≤ rf W p c ∧ rf W p c < p := by
  unfold rf Txt.rfind
  rcases PySem.StrLaws.last_spec (tx (W.take p)) (sg c) with ⟨e, _⟩ | ⟨i, e, h, _⟩
  · rw [e]
    show -1 ≤ (-1 : Int) ∧ (-1 : Int) < p
    omega
  · rw [e]
    have h1 : i + (sg c).length ≤ (tx (W.take p)).length := h.1
    rw [tx_len, sg_len, List.length_take] at h1
    show -1 ≤ (i : Int) ∧ (i : Int) < p
    omega
theorem GrowN.pre {T : List NTab} {B H Bx G B' H' : Hp} (eB : Ex B Bx) (e : ExtN H G) (g : GrowN T Bx G B' H') : GrowN T B H B' H' :=
  ⟨eB.trans g.b, e.trans g.h, g.s, g.t, g.n⟩
theorem kids_up {B G : Hp} {D : Addr} {o : HO} {vs : List V} {ts : List Tr} (h : Kids true G vs ts) (hD : fz B G D = none) : KidX true (L2.upd (fz B G) D o) vs ts := by
  induction h with
  | nil => exact .nil
  | cons a _ ih => exact .cons (a.fz.ex (Ex.new hD)).tx ih
section
variable {P : Program} {w : World} {K : PySem.W.Frag} {mg : Str → Option Value} {base : Heap}
theorem ok_plain {f : Addr} {fd : FuncData} {Tn : List NTab} (F : Fun K "_plain" "_plain" s_plain f fd) (T : Tx mg) (c_one_from_left : Kn P w K mg base "_one_from_left" ["letters", "word", "behind"] 12 (spOne Tn)) : FnOk P w K mg base CX0 13 f fd ["letters", "word"] (spMk Tn fun L W => oneL L W (.go 1 0)) := by
  refine F.ok sc_plain (fun vs H Q E h => ?_) (fun cdv A outer s H vs Q E hr h => ?_)
  · obtain ⟨L, W, B, rfl, _⟩ := h
    rfl
  · obtain ⟨L, W, B, rfl, hL, w1, w8, hWL, eB, TN, nB, q⟩ := h
    refine ⟨_, (pss_one (ps_ret (pe_call c_one_from_left.ok (hr.mono (by decide)) (by rfl) c_one_from_left.g c_one_from_left.kp c_one_from_left.b .nil pass0 (pa_cons (pv 0) (pa_cons (pv 1) (pa_cons (pe_tup (pa_cons pe_str (pa_cons pe_int (pa_cons pe_int pa_nil)))) pa_nil)))))), ?_⟩
    refine ⟨_, rfl, _, rfl, by show 3 ≤ sizeLine; decide, fun t ht => ?_⟩
    have e1 : Ex H (L2.upd H t (.tup [.str "go", .int 1, .int 0])) := Ex.new ht
    have g1 : (L2.upd H t (.tup [.str "go", .int 1, .int 0])) t = some (.tup [.str "go", .int 1, .int 0]) := upd_same
    generalize (L2.upd H t (.tup [.str "go", .int 1, .int 0])) = G at e1 g1 ⊢
    have eBG := eB.trans e1
    refine ⟨L, W, .ref t, .go 1 0, fz B G, rfl, hL, w1, w8, fz_sup eBG, .go (j := true) (fz_tup g1), TN.ext e1, fz_nt nB, fun B' H' r us g hr2 KX => ?_⟩
    exact q _ _ _ _ (g.pre (fz_sub eBG) (ExtN.of e1)) hr2 KX
def spBls : Sp := fun vs H Q _ => ∃ (W : List Nat) (p c : Nat), vs = [.str (tx W), .int (p : Nat), .str (sg c)] ∧ W.length ≤ 100 ∧ Q (.int ((p : Int) - rf W p c)) H
theorem ok_bls {f : Addr} {fd : FuncData} (F : Fun K "_bad_letter_slide" "_bad_letter_slide" s_bad_letter_slide f fd) (T : Tx mg) : FnOk P w K mg base CX0 1 f fd ["word", "place", "letter"] spBls := by
  refine F.ok sc_bad_letter_slide (fun vs H Q E h => ?_) (fun cdv A outer s H vs Q E hr h => ?_)
  · obtain ⟨W, p, c, rfl, _⟩ := h
    rfl
  · obtain ⟨W, p, c, rfl, hl, q⟩ := h
    refine ⟨_, (pss_one (ps_ret (pe_op op_sub (pv 1) (pe_m1 PySem.F.slot_str_rfind PySem.F.type_str_rfind mt_rfind (pe_slice sl_str (pv 0) po_none (po_some (pv 1))) (pv 2))))), ?_⟩
    refine ⟨_, rfl, _, rfl, ?_⟩
    dsimp only [tNoPart]
    refine ⟨_, rfl, _, rfl, _, rfl, tx_le (by omega), ⟨_, rfl⟩, _, rfl, _, _, rfl, rfl, _, _, rfl, rfl, ?_⟩
    rw [cut_to]
    exact q
def lastL (L W : List Nat) : Tr := .read (W.length - 1) (Trs.of (L.map fun c => .go (((W.length - 1 : Nat) : Int) - rf W (W.length - 1) c).toNat 0))
theorem ok_last {f : Addr} {fd : FuncData} {Tn : List NTab} (F : Fun K "_by_last_letter" "_by_last_letter" s_by_last_letter f fd) (T : Tx mg) (c_one_from_left : Kn P w K mg base "_one_from_left" ["letters", "word", "behind"] 12 (spOne Tn)) : FnOk P w K mg base CX0 13 f fd ["letters", "word"] (spMk Tn fun L W => oneL L W (lastL L W)) := by
  refine F.ok sc_by_last_letter (fun vs H Q E h => ?_) (fun cdv A outer s H vs Q E hr h => ?_)
  · obtain ⟨L, W, B, rfl, _⟩ := h
    rfl
  · obtain ⟨L, W, B, rfl, hL, w1, w8, hWL, eB, TN, nB, q⟩ := h
    have hL4 := hL.hi
    refine ⟨_, (pss_cons (ps_set (i := 2) sc_by_last_letter.nd rfl (Or.inr rfl) (pe_op op_sub (pe_callB call_len_str (by rfl) T.len PySem.boot_len (pa_cons (pv 1) pa_nil)) pe_int))
      (pss_cons (ps_setLc (i := 3) (own := [("letter", 4)]) (g := gName 4) (tt := tYes) rfl sc_by_last_letter.nd rfl rfl (sw_true rfl rfl rfl (by decide +kernel)) (pi_str (pv 0)) (blkOk_by (N := N_by_last_letter) (sc := defScope s_by_last_letter) (by decide +kernel)) (fun _ _ _ _ _ => (pg_name (i := 4) sc_by_last_letter.nd rfl (Or.inl rfl))) (fun _ _ _ _ _ => pts_nil) (fun _ _ _ _ _ => (pe_tup (pa_cons pe_str (pa_cons (pe_op op_sub (pv 2) (pe_m1 PySem.F.slot_str_rfind PySem.F.type_str_rfind mt_rfind (pe_slice sl_str (pv 1) po_none (po_some (pv 2))) (pv 4))) (pa_cons pe_int pa_nil))))))
      (pss_one (ps_ret (pe_call c_one_from_left.ok (hr.mono (by decide)) (by rfl) c_one_from_left.g c_one_from_left.kp c_one_from_left.b .nil pass0 (pa_cons (pv 0) (pa_cons (pv 1) (pa_cons (pe_tup (pa_cons pe_str (pa_cons (pv 2) (pa_cons (pv 3) pa_nil)))) pa_nil)))))))), ?_⟩
    refine ⟨_, rfl, _, rfl, tx_le (by omega), _, _, rfl, rfl, ?_⟩
    have el : (((tx W).length : Int) - 1) = ((W.length - 1 : Nat) : Int) := by
      rw [tx_len]
      omega
    dsimp only
    rw [el]
    refine ⟨_, rfl, _, rfl, fun D hD => ?_⟩
    refine lc_str (x := tx L) (fun i H6 => ∃ zs, Ex H H6 ∧ H6 D = some (.lst zs) ∧ Kids true H6 zs ((L.take i).map fun c => .go (((W.length - 1 : Nat) : Int) - rf W (W.length - 1) c).toNat 0)) ⟨[], Ex.new hD, upd_same, .nil⟩ (fun i c H6 hic hw => ?_) (fun H6 hw => ?_)
    · obtain ⟨zs, e6, hz, Z⟩ := hw
      have hcL := tx_at hic
      have hi := (List.getElem?_eq_some_iff.mp hcL).1
      have lz := Z.len
      rw [List.length_map, List.length_take] at lz
      obtain ⟨r1, r2⟩ := rf_bound W (W.length - 1) c
      refine ⟨rfl, _, rfl, _, rfl, ?_⟩
      dsimp only [tNoPart]
      refine ⟨_, rfl, _, rfl, _, rfl, tx_le (by omega), ⟨_, rfl⟩, _, rfl, _, _, rfl, rfl, _, _, rfl, rfl, by show 3 ≤ sizeLine; decide, fun t ht => ?_⟩
      have e7 := Ex.new (o := .tup [.str "go", .int (((W.length - 1 : Nat) : Int) - Txt.rfind (cutS (tx W) none (some ((W.length - 1 : Nat) : Int))) ⟨#[c]⟩), .int 0]) ht
      refine ⟨zs, e7 _ _ hz, sz_lt (by omega), zs ++ [.ref t], (e6.trans e7).mut hD, upd_same, ?_⟩
      rw [take_next' hcL, List.map_append]
      refine Kids.upd (fun ys hh => ?_) ((Z.ex e7).snoc (.go (k := true) ?_))
      · rw [e7 _ _ hz] at hh
        cases hh
      · rw [upd_same, cut_to]
        show some (HO.tup [_, V.int (((W.length - 1 : Nat) : Int) - rf W (W.length - 1) c), _]) = some (HO.tup [_, V.int _, _])
        rw [Int.toNat_of_nonneg (by omega)]
        rfl
    · obtain ⟨zs, e6, hz, Z⟩ := hw
      rw [tx_size, List.take_length] at Z
      refine ⟨_, rfl, _, rfl, _, rfl, _, rfl, by show 3 ≤ sizeLine; decide, fun t ht => ?_⟩
      have e7 := e6.trans (Ex.new (o := .tup [.str "read", .int ((W.length - 1 : Nat) : Int), .ref D]) ht)
      have hz7 : (L2.upd H6 t (.tup [.str "read", .int ((W.length - 1 : Nat) : Int), .ref D])) D = some (.lst zs) := Ex.new ht _ _ hz
      have ht7 : (L2.upd H6 t (.tup [.str "read", .int ((W.length - 1 : Nat) : Int), .ref D])) t = some (.tup [.str "read", .int ((W.length - 1 : Nat) : Int), .ref D]) := upd_same
      have Z7 := Z.ex (Ex.new (o := .tup [.str "read", .int ((W.length - 1 : Nat) : Int), .ref D]) ht)
      generalize (L2.upd H6 t (.tup [.str "read", .int ((W.length - 1 : Nat) : Int), .ref D])) = G at e7 hz7 ht7 Z7 ⊢
      have gw := Grows.done eB hD e7 hz7
      have ntD : t ≠ D := fun z => by
        rw [z, hz7] at ht7
        cases ht7
      have fD : fz B G D = none := by
        rw [fz_lst hz7]
        exact fresh_back eB hD
      refine ⟨L, W, .ref t, lastL L W, L2.upd (fz B G) D (.lst zs), rfl, hL, w1, w8, gw.s, ?_, TN.ext e7, gw.nt nB, fun B' H' r us g hr2 KX => ?_⟩
      · refine .read (j := true) (j2 := false) (by rw [upd_ne ntD]; exact fz_tup ht7) upd_same ?_
        refine KidX.txs ?_
        rw [Trs.of_list]
        exact kids_up Z7 fD
      · exact q _ _ _ _ (g.pre gw.b (ExtN.of e7)) hr2 KX
end
end Law

namespace Law
open PySem PySem.Spec PyProof.Rows L2 Evl TR NdefX LamX
section
variable {P : Program} {w : World} {K : PySem.W.Frag} {mg : Str → Option Value} {base : Heap}
def behL (L W : List Nat) : Tr := .read W.length (Trs.of (L.map fun c => .go (((W.length : Nat) : Int) - rf W W.length c).toNat 0))
theorem ok_beh {f : Addr} {fd : FuncData} {Tn : List NTab} (F : Fun K "_by_letter_behind" "_by_letter_behind" s_by_letter_behind f fd) (T : Tx mg) (c_one_from_left : Kn P w K mg base "_one_from_left" ["letters", "word", "behind"] 12 (spOne Tn)) : FnOk P w K mg base CX0 13 f fd ["letters", "word"] (spMk Tn fun L W => oneL L W (behL L W)) := by
  refine F.ok sc_by_letter_behind (fun vs H Q E h => ?_) (fun cdv A outer s H vs Q E hr h => ?_)
  · obtain ⟨L, W, B, rfl, _⟩ := h
    rfl
  · obtain ⟨L, W, B, rfl, hL, w1, w8, hWL, eB, TN, nB, q⟩ := h
    have hL4 := hL.hi
    refine ⟨_, (pss_cons (ps_set (i := 2) sc_by_letter_behind.nd rfl (Or.inr rfl) (pe_callB call_len_str (by rfl) T.len PySem.boot_len (pa_cons (pv 1) pa_nil)))
      (pss_cons (ps_setLc (i := 3) (own := [("letter", 4)]) (g := gName 4) (tt := tYes) rfl sc_by_letter_behind.nd rfl rfl (sw_true rfl rfl rfl (by decide +kernel)) (pi_str (pv 0)) (blkOk_by (N := N_by_letter_behind) (sc := defScope s_by_letter_behind) (by decide +kernel)) (fun _ _ _ _ _ => (pg_name (i := 4) sc_by_letter_behind.nd rfl (Or.inl rfl))) (fun _ _ _ _ _ => pts_nil) (fun _ _ _ _ _ => (pe_tup (pa_cons pe_str (pa_cons (pe_op op_sub (pv 2) (pe_m1 PySem.F.slot_str_rfind PySem.F.type_str_rfind mt_rfind (pv 1) (pv 4))) (pa_cons pe_int pa_nil))))))
      (pss_one (ps_ret (pe_call c_one_from_left.ok (hr.mono (by decide)) (by rfl) c_one_from_left.g c_one_from_left.kp c_one_from_left.b .nil pass0 (pa_cons (pv 0) (pa_cons (pv 1) (pa_cons (pe_tup (pa_cons pe_str (pa_cons (pv 2) (pa_cons (pv 3) pa_nil)))) pa_nil)))))))), ?_⟩
    refine ⟨_, rfl, _, rfl, tx_le (by omega), ?_⟩
    rw [tx_len]
    refine ⟨_, rfl, _, rfl, fun D hD => ?_⟩
    refine lc_str (x := tx L) (fun i H6 => ∃ zs, Ex H H6 ∧ H6 D = some (.lst zs) ∧ Kids true H6 zs ((L.take i).map fun c => .go (((W.length : Nat) : Int) - rf W W.length c).toNat 0)) ⟨[], Ex.new hD, upd_same, .nil⟩ (fun i c H6 hic hw => ?_) (fun H6 hw => ?_)
    · obtain ⟨zs, e6, hz, Z⟩ := hw
      have hcL := tx_at hic
      have hi := (List.getElem?_eq_some_iff.mp hcL).1
      have lz := Z.len
      rw [List.length_map, List.length_take] at lz
      obtain ⟨r1, r2⟩ := rf_bound W W.length c
      refine ⟨rfl, _, rfl, _, rfl, ⟨_, rfl⟩, _, rfl, _, _, rfl, rfl, _, _, rfl, rfl, by show 3 ≤ sizeLine; decide, fun t ht => ?_⟩
      have e7 := Ex.new (o := .tup [.str "go", .int (((W.length : Nat) : Int) - Txt.rfind (tx W) ⟨#[c]⟩), .int 0]) ht
      refine ⟨zs, e7 _ _ hz, sz_lt (by omega), zs ++ [.ref t], (e6.trans e7).mut hD, upd_same, ?_⟩
      rw [take_next' hcL, List.map_append]
      refine Kids.upd (fun ys hh => ?_) ((Z.ex e7).snoc (.go (k := true) ?_))
      · rw [e7 _ _ hz] at hh
        cases hh
      · rw [upd_same]
        have et : Txt.rfind (tx W) ⟨#[c]⟩ = rf W W.length c := by
          unfold rf
          rw [List.take_length]
          rfl
        rw [et]
        show some (HO.tup [_, V.int (((W.length : Nat) : Int) - rf W W.length c), _]) = some (HO.tup [_, V.int _, _])
        rw [Int.toNat_of_nonneg (by omega)]
        rfl
    · obtain ⟨zs, e6, hz, Z⟩ := hw
      rw [tx_size, List.take_length] at Z
      refine ⟨_, rfl, _, rfl, _, rfl, _, rfl, by show 3 ≤ sizeLine; decide, fun t ht => ?_⟩
      have e7 := e6.trans (Ex.new (o := .tup [.str "read", .int ((W.length : Nat) : Int), .ref D]) ht)
      have hz7 : (L2.upd H6 t (.tup [.str "read", .int ((W.length : Nat) : Int), .ref D])) D = some (.lst zs) := Ex.new ht _ _ hz
      have ht7 : (L2.upd H6 t (.tup [.str "read", .int ((W.length : Nat) : Int), .ref D])) t = some (.tup [.str "read", .int ((W.length : Nat) : Int), .ref D]) := upd_same
      have Z7 := Z.ex (Ex.new (o := .tup [.str "read", .int ((W.length : Nat) : Int), .ref D]) ht)
      generalize (L2.upd H6 t (.tup [.str "read", .int ((W.length : Nat) : Int), .ref D])) = G at e7 hz7 ht7 Z7 ⊢
      have gw := Grows.done eB hD e7 hz7
      have ntD : t ≠ D := fun z => by
        rw [z, hz7] at ht7
        cases ht7
      have fD : fz B G D = none := by
        rw [fz_lst hz7]
        exact fresh_back eB hD
      refine ⟨L, W, .ref t, behL L W, L2.upd (fz B G) D (.lst zs), rfl, hL, w1, w8, gw.s, ?_, TN.ext e7, gw.nt nB, fun B' H' r us g hr2 KX => ?_⟩
      · refine .read (j := true) (j2 := false) (by rw [upd_ne ntD]; exact fz_tup ht7) upd_same ?_
        refine KidX.txs ?_
        rw [Trs.of_list]
        exact kids_up Z7 fD
      · exact q _ _ _ _ (g.pre gw.b (ExtN.of e7)) hr2 KX
end
end Law

namespace Law
open PySem PySem.Spec PyProof.Rows L2 Evl TR NdefX LamX
def spPer : Sp := fun vs H Q _ => ∃ W : List Nat, vs = [.str (tx W)] ∧ W.length ≤ 100 ∧ ∀ H', Ex H H' → Q (.int ((W.length : Int) - brd W W.length)) H'
def firstG (p b : Nat) : Int := if (b : Int) > (p : Int) + 1 then (b : Int) else (p : Int) + 1
/-- whether the word goes on there -/
def gesC (W : List Nat) (p b : Nat) : Bool := decide (V.str (cutS (tx W) (some (firstG p b)) none) = V.str (cutS (tx W) (some (firstG p b - b)) (some ((W.length : Int) - b)))) && (decide ((p : Int) < (b : Int)) || !decide (V.str (sg (W.getD (p - b) 0)) = V.str (sg (W.getD p 0))))
def gesF (c : Nat → Bool) (m : Nat) : Nat → Nat → Nat
  | 0, _ => m
  | f + 1, b => if c b = true then b else gesF c m f (b + 1)
def ges (W : List Nat) (p : Nat) : Nat := gesF (gesC W p) W.length (W.length - 1) 1
theorem gesF_bound {c : Nat → Bool} {m : Nat} : ∀ (f b : Nat), b + f = m → 1 ≤ b → 1 ≤ gesF c m f b ∧ gesF c m f b ≤ m
  | 0, b, h, h1 => by
    show 1 ≤ m ∧ m ≤ m
    omega
  | f + 1, b, h, h1 => by
    show 1 ≤ (if c b = true then b else gesF c m f (b + 1)) ∧ (if c b = true then b else gesF c m f (b + 1)) ≤ m
    split
    · omega
    · exact gesF_bound f (b + 1) (by omega) (by omega)
theorem ges_bound {W : List Nat} {p : Nat} (h : 1 ≤ W.length) : 1 ≤ ges W p ∧ ges W p ≤ W.length := gesF_bound _ _ (by omega) (Nat.le_refl 1)
def spGes : Sp := fun vs H Q _ => ∃ (W : List Nat) (p : Nat), vs = [.str (tx W), .int (p : Nat)] ∧ p < W.length ∧ W.length ≤ 100 ∧ ∀ H', Ex H H' → Q (.int (ges W p : Nat)) H'
theorem iteN' {c A B : Prop} [Decidable c] (hc : ¬ c) (h : A) : if (!decide c) = true then A else B := by
  rw [if_pos (by rw [decide_eq_false hc]; rfl)]
  exact h
theorem iteNn' {c A B : Prop} [Decidable c] (hc : c) (h : B) : if (!decide c) = true then A else B := by
  rw [if_neg (by rw [decide_eq_true hc]; decide)]
  exact h
section
variable {P : Program} {w : World} {K : PySem.W.Frag} {mg : Str → Option Value} {base : Heap}
theorem ok_per {f : Addr} {fd : FuncData} (F : Fun K "_period" "_period" s_period f fd) (T : Tx mg) (c_borders : Kn P w K mg base "_borders" ["word"] 1 spBrd) : FnOk P w K mg base CX0 2 f fd ["word"] spPer := by
  refine F.ok sc_period (fun vs H Q E h => ?_) (fun cdv A outer s H vs Q E hr h => ?_)
  · obtain ⟨W, rfl, _⟩ := h
    rfl
  · obtain ⟨W, rfl, hl, q⟩ := h
    refine ⟨_, (pss_one (ps_ret (pe_op op_sub (pe_callB call_len_str (by rfl) T.len PySem.boot_len (pa_cons (pv 0) pa_nil)) (pe_ix ix_list (pe_call c_borders.ok (hr.mono (by decide)) (by rfl) c_borders.g c_borders.kp c_borders.b .nil pass0 (pa_cons (pv 0) pa_nil)) (pe_callB call_len_str (by rfl) T.len PySem.boot_len (pa_cons (pv 0) pa_nil)) (fun _ _ => rfl))))), ?_⟩
    refine ⟨_, rfl, _, rfl, tx_le (by omega), ?_⟩
    rw [tx_len]
    exact ⟨_, rfl, W, rfl, hl, fun bl H1 e1 _ hbl => ⟨_, rfl, _, rfl, tx_le (by omega), bl, _, _, _, rfl, rfl, sq_of hbl, by rw [tx_len]; exact atI_nat (brdV_at (Nat.lt_succ_self _)), _, _, rfl, rfl, q _ e1⟩⟩
theorem ok_ges {f : Addr} {fd : FuncData} (F : Fun K "_good_end_slide" "_good_end_slide" s_good_end_slide f fd) (T : Tx mg) : FnOk P w K mg base CX0 1 f fd ["word", "place"] spGes := by
  refine F.ok sc_good_end_slide (fun vs H Q E h => ?_) (fun cdv A outer s H vs Q E hr h => ?_)
  · obtain ⟨W, p, rfl, _⟩ := h
    rfl
  · obtain ⟨W, p, rfl, hp, hl, q⟩ := h
    refine ⟨_, (pss_cons (ps_set (i := 2) sc_good_end_slide.nd rfl (Or.inl rfl) (pe_callB call_len_str (by rfl) T.len PySem.boot_len (pa_cons (pv 0) pa_nil)))
      (pss_cons (ps_for PassesOwn.never rfl (pi_range2 (by rfl) T.range (pa_cons pe_int (pa_cons (pv 2) pa_nil))) (pg_name (i := 3) sc_good_end_slide.nd rfl (Or.inl rfl)) (pss_cons (ps_set (i := 4) sc_good_end_slide.nd rfl (Or.inl rfl) (pe_callB (call_max2 rfl) (by rfl) T.max (by decide +kernel) (pa_cons (pe_op op_add (pv 1) pe_int) (pa_cons (pv 3) pa_nil))))
      (pss_cons (ps_set (i := 5) sc_good_end_slide.nd rfl (Or.inl rfl) (pe_cmpR op_eq (pe_slice sl_str (pv 0) (po_some (pv 4)) po_none) (pe_slice sl_str (pv 0) (po_some (pe_op op_sub (pv 4) (pv 3))) (po_some (pe_op op_sub (pv 2) (pv 3)))) (nomark _)))
      (pss_one (ps_if (PW.pt (pw_and (pt_val (pv 5)) (pw_and1 (PW.pt (pw_or (pt_cmpR op_gt (pv 3) (pv 1) (nomark _)) (pw_or1 (pt_cmpR op_ne (pe_ix ix_str (pv 0) (pe_op op_sub (pv 1) (pv 3)) (fun _ _ => rfl)) (pe_ix ix_str (pv 0) (pv 1) (fun _ _ => rfl)) (nomark _)))))))) (pss_one (ps_ret (pv 3))) pss_nil)))))
      (pss_one (ps_ret (pv 2))))), ?_⟩
    refine ⟨_, rfl, _, rfl, tx_le (by omega), ?_⟩
    rw [tx_len]
    refine ⟨_, rfl, _, _, rfl, ⟨by omega, by omega, by omega, by omega⟩, ?_⟩
    rw [show ((W.length : Int) - 1).toNat = W.length - 1 by omega]
    refine for_range (lo := 1) (n := W.length - 1) (fun i σ H' => ∃ (y3 y4 y5 : Option V), σ = [some (.str (tx W)), some (.int (p : Nat)), some (.int (W.length : Nat)), y3, y4, y5] ∧ Ex H H' ∧ gesF (gesC W p) W.length (W.length - 1 - i) (1 + i) = ges W p) ⟨none, none, none, rfl, Ex.refl _, rfl⟩ (fun i σ H' hi hw => ?_) (fun σ H' hw => ?_)
    · obtain ⟨y3, y4, y5, rfl, e1, hg⟩ := hw
      have ei : (1 : Int) + (i : Int) = ((1 + i : Nat) : Int) := by omega
      rw [ei]
      refine ⟨_, rfl, _, _, rfl, rfl, _, rfl, _, _, rfl, ?_⟩
      have ef : (if ((1 + i : Nat) : Int) > (p : Int) + 1 then ((1 + i : Nat) : Int) else (p : Int) + 1) = firstG p (1 + i) := rfl
      dsimp only
      rw [ef]
      have hstep : gesF (gesC W p) W.length (W.length - 1 - i) (1 + i) = if gesC W p (1 + i) = true then 1 + i else gesF (gesC W p) W.length (W.length - 1 - (i + 1)) (1 + i + 1) := by
        obtain ⟨k, hk⟩ : ∃ k, W.length - 1 - i = k + 1 := ⟨W.length - 1 - i - 1, by omega⟩
        rw [hk, show W.length - 1 - (i + 1) = k by omega]
        rfl
      rw [hstep] at hg
      have hgt : ∀ {n : Nat}, n < W.length → atI (tx W).cps.toList (n : Int) = some (W.getD n 0) := fun {n} h => atI_nat (by
        rw [tx_list, List.getElem?_eq_getElem h, List.getD_eq_getElem?_getD, List.getElem?_eq_getElem h]
        rfl)
      refine ⟨_, rfl, _, rfl, _, rfl, ?_⟩
      dsimp only [tNoPart]
      refine ⟨_, rfl, tx_le (by omega), _, rfl, _, rfl, _, rfl, _, _, rfl, rfl, _, rfl, _, rfl, _, rfl, _, _, rfl, rfl, _, rfl, _, rfl, tx_le (by omega), rfl, ?_⟩
      have no : gesC W p (1 + i) = false → Ex H H' ∧ gesF (gesC W p) W.length (W.length - 1 - (i + 1)) (1 + (i + 1)) = ges W p := fun h => by
        rw [h, if_neg (by decide)] at hg
        exact ⟨e1, by rw [show 1 + (i + 1) = 1 + i + 1 by omega]; exact hg⟩
      have yes : gesC W p (1 + i) = true → 1 + i = ges W p := fun h => by
        rw [h, if_pos rfl] at hg
        exact hg
      refine ⟨_, rfl, _, rfl, ?_⟩
      by_cases c1 : V.str (cutS (tx W) (some (firstG p (1 + i))) none) = V.str (cutS (tx W) (some (firstG p (1 + i) - ((1 + i : Nat) : Int))) (some ((W.length : Int) - ((1 + i : Nat) : Int))))
      · refine iteD c1 ?_
        by_cases c2 : (p : Int) < ((1 + i : Nat) : Int)
        · have hc : gesC W p (1 + i) = true := by
            unfold gesC
            rw [decide_eq_true c1, decide_eq_true c2]
            rfl
          refine ⟨_, rfl, _, rfl, _, _, rfl, rfl, _, rfl, iteD c2 ?_⟩
          refine ⟨_, rfl, ?_⟩
          show Q (.int ((1 + i : Nat) : Int)) H'
          rw [yes hc]
          exact q _ e1
        · refine ⟨_, rfl, _, rfl, _, _, rfl, rfl, _, rfl, iteDn c2 ?_⟩
          have ep : (p : Int) - ((1 + i : Nat) : Int) = ((p - (1 + i) : Nat) : Int) := by omega
          refine ⟨_, rfl, _, rfl, _, rfl, _, _, rfl, rfl, _, _, W.getD (p - (1 + i)) 0, rfl, rfl, tx_le (by omega), by rw [ep]; exact hgt (by omega), _, rfl, _, rfl, _, _, W.getD p 0, rfl, rfl, tx_le (by omega), hgt hp, rfl, _, rfl, ?_⟩
          by_cases c3 : V.str (sg (W.getD (p - (1 + i)) 0)) = V.str (sg (W.getD p 0))
          · have hc : gesC W p (1 + i) = false := by
              unfold gesC
              rw [decide_eq_true c1, decide_eq_false c2, decide_eq_true c3]
              rfl
            refine iteNn' c3 ?_
            exact ⟨_, _, _, rfl, no hc⟩
          · have hc : gesC W p (1 + i) = true := by
              unfold gesC
              rw [decide_eq_true c1, decide_eq_false c2, decide_eq_false c3]
              rfl
            refine iteN' c3 ?_
            refine ⟨_, rfl, ?_⟩
            show Q (.int ((1 + i : Nat) : Int)) H'
            rw [yes hc]
            exact q _ e1
      · have hc : gesC W p (1 + i) = false := by
          unfold gesC
          rw [decide_eq_false c1]
          rfl
        refine iteDn c1 ?_
        exact ⟨_, _, _, rfl, no hc⟩
    · obtain ⟨y3, y4, y5, rfl, e1, hg⟩ := hw
      rw [show W.length - 1 - (W.length - 1) = 0 by omega] at hg
      have : W.length = ges W p := hg
      refine ⟨_, rfl, ?_⟩
      show Q (.int (W.length : Nat)) H'
      rw [this]
      exact q _ e1
end
end Law

namespace Law
open PySem PySem.Spec PyProof.Rows L2 Evl TR NdefX LamX
/-- a slide as a value -/
def RS (S : Nat → Nat → Nat) (vs : List V) (_ : Hp) (v : V) : Prop := ∀ p c : Nat, vs = [.int (p : Nat), .str (sg c)] → v = .int (S p c : Nat)
abbrev u_fr : Stmt := (defBody s_from_right).getD 0 (.Pass ⟨0, 0, 0, 0⟩)
abbrev N_fr : List Str := ["letters", "word", "slide", "least_place", "end", "unlike", "places"]
theorem sc_fr : FnScope N_fr ["letters", "word", "slide", "least_place", "end"] (defScope s_from_right) := ⟨rfl, rfl, rfl, by decide +kernel, rfl, by decide +kernel, by decide +kernel⟩
abbrev N_frU : List Str := ["place", "letter", "slide"]
theorem sc_frU : NScope N_frU ["place", "letter"] ["slide"] (C8.fnScope u_fr) := nscope_by (by decide +kernel)
theorem nd_fr : ndefB (defScope s_from_right) (C8.fnScope u_fr) ["slide"] = true := by decide +kernel
/-- the tree that reads from the right down to a place -/
def frT (L W : List Nat) (S : Nat → Nat → Nat) (lp : Nat) (e : Tr) : Tr := rdg L W (fun p c => .go (S p c) 0) (.tell 0 e) (List.range' lp (W.length - lp)).reverse
def spFR (T : List NTab) (P : Program) (w : World) (K : PySem.W.Frag) (mg : Str → Option Value) (base : Heap) : Sp := fun vs H Q _ => ∃ (L W : List Nat) (fs : Addr) (lp : Nat) (ve : V) (e : Tr) (S : Nat → Nat → Nat) (B : Hp), vs = [.str (tx L), .str (tx W), .ref fs, .int (lp : Nat), ve] ∧ L.length ≤ 10 ∧ W.length ≤ 100 ∧ lp ≤ W.length ∧ Ex B H ∧ TX true B ve e ∧ TabsN T H ∧ (∀ b ps, B b ≠ some (.tbl ps)) ∧
  (∀ H', ExtN H H' → NV.Gv P w K mg base 8 H' fs 2 (preU L W) (RS S)) ∧ ∀ B' H' v, GrowN T B H B' H' → (∀ b xs, H b = some (.lst xs) → B' b = B b) → TX true B' v (frT L W S lp e) → Q v H'
section
variable {P : Program} {w : World} {K : PySem.W.Frag} {mg : Str → Option Value} {base : Heap}
theorem nok_fr {f c' fs : Addr} {S : Nat → Nat → Nat} {qn : Str} {cl : List (Str × Addr)} {L W : List Nat} {H0 : Hp} : NOk P w K mg base C8.CX0 9 f (NF.of u_fr "unlike" qn cl c') ["place", "letter"] ["slide"]
    (fun ws' vs H Q _ => ws' = [V.ref fs].map some ∧ vs.length = 2 ∧ preU L W vs ∧ NV.Gv P w K mg base 8 H fs 2 (preU L W) (RS S) ∧ ∀ v H', (∀ b o, H b = some o → H' b = some o) → RU L W (fun p c => .go (S p c) 0) H0 vs H' v → Q v H') := by
  refine nok_of (k := 8) sc_frU (fun doc pm ctv us hl => match us, hl with | [_, _], _ => rfl) (fun ws vs H Q E h => h.2.1) (fun A outer s H vs ws Q E hr hf hc hw h => ?_)
  obtain ⟨rfl, h2, ⟨p, c, rfl, hp, hcL⟩, g, q⟩ := h
  refine ⟨_, pss_one (ps_ret (pe_tup (pa_cons pe_str (pa_cons (NV.pe_callV (P := P) (w := w) (K := K) (mg := mg) (base := base) (k := 8) (j := 8) (n := 2) (i := 2) rfl rfl rfl rfl rfl (hr.mono (by decide)) (Nat.le_refl _) rfl (by first | exact Or.inl rfl | exact Or.inr (Or.inl rfl) | exact Or.inr (Or.inr rfl)) (pa_cons (pv 0) (pa_cons (pv 1) pa_nil))) (pa_cons pe_int pa_nil))))), ?_⟩
  refine ⟨fs, preU L W, RS S, rfl, g, _, rfl, _, rfl, g, rfl, ⟨p, c, rfl, hp, hcL⟩, fun v H' e6 hR => ⟨by show 3 ≤ sizeLine; decide, fun r hr2 => q _ _ (Ex.trans e6 (Ex.new hr2)) fun p' c' e => ?_⟩⟩
  have hv := hR p' c' e
  subst hv
  refine .inl (.go ?_)
  rw [upd_same]
  rfl
theorem ok_fr {f cd Pt : Addr} {fd : FuncData} (F : FunC K "_from_right" "_from_right" s_from_right f fd cd) (T : Tx mg) (TB : TabB base mg cd Pt) {Tn : List NTab} (hm : (Pt, fun _ _ => ("_from_right.<locals>.unlike" : Str)) ∈ Tn) (hu : ∀ p ∈ Tn, p.1 = Pt → p.2 = fun _ _ => ("_from_right.<locals>.unlike" : Str))
    (c_reading : Kn P w K mg base "_reading" ["letters", "word", "places", "unlike", "end"] 10 (spRdg P w K mg base)) : FnOk P w K mg base CX0 11 f fd ["letters", "word", "slide", "least_place", "end"] (spFR Tn P w K mg base) := by
  refine okC F sc_fr (fun vs H Q E h => ?_) (fun A outer s H vs Q E hr h => ?_)
  · obtain ⟨L, W, fs, lp, ve, e, S, B, rfl, _⟩ := h
    rfl
  · obtain ⟨L, W, fs, lp, ve, e, S, B, rfl, hL, hW, hlp, eB, he, TN, nB, gv, q⟩ := h
    refine ⟨_, (pss_cons (ps_ndefS (st := u_fr) (T := Tn) (i := 5) (nm := fun _ _ => ("_from_right.<locals>.unlike" : Str)) rfl TB rfl hm (by rfl) hu (ndef_free nd_fr) rfl rfl (by rfl) sc_fr.nd rfl (Or.inl rfl) (Or.inl rfl))
      (pss_cons (ps_set (i := 6) sc_fr.nd rfl (Or.inl rfl) (pe_listRg rfl (by rfl) T.list (prg_2 (by rfl) T.range (pv 3) (pe_callB call_len_str (by rfl) T.len PySem.boot_len (pa_cons (pv 1) pa_nil)))))
      (pss_cons (ps_expr (pe_bm0 PySem.F.plainAttrs_list PySem.F.slot_list_reverse PySem.F.type_list_reverse mt_reverse (pv 6)))
      (pss_one (ps_ret (NV.pe_callL (fr := ["slide"]) (js := [2]) c_reading.ok (hr.mono (by decide)) (by rfl) c_reading.g c_reading.kp c_reading.b (fun ok => Caps.made (scope := C8.fnScope u_fr) ok (ndef_free nd_fr) (ndef_fr nd_fr) rfl) (fun _ => rfl)
        (pa_cons (pv 0) (pa_cons (pv 1) (pa_cons (pv 6) (pa_cons (pv 5) (pa_cons (pe_tup (pa_cons pe_str (pa_cons pe_int (pa_cons (pv 4) pa_nil)))) pa_nil))))))))))), ?_⟩
    refine ⟨TN, fun fu c' H2 eN T2 hf0 hfu hco => ?_⟩
    have eB2 : Ex B H2 := fun b o h => eN b o (eB _ _ h) fun ps z => nB b ps (by rw [h, z])
    refine ⟨_, rfl, _, rfl, _, rfl, tx_le (by omega), _, _, rfl, rfl, (by rw [tx_len]; exact RgOk.of_le (by omega) (by omega) (by omega) (by omega)), fun pl hpl => ?_⟩
    have rg : rgV (lp : Int) ((tx W).length : Int) = nV (List.range' lp (W.length - lp)) := by
      rw [tx_len]
      exact rg_nV lp W.length hlp
    rw [rg]
    refine ⟨_, rfl, .inl ⟨rfl, _, sq_of upd_same⟩, pl, _, rfl, rfl, upd_same, ?_⟩
    refine ⟨_, rfl, _, rfl, _, rfl, _, rfl, _, rfl, by show 3 ≤ sizeLine; decide, fun t ht => ?_⟩
    rw [show (nV (List.range' lp (W.length - lp))).reverse = nV (List.range' lp (W.length - lp)).reverse by unfold nV; rw [List.map_reverse]] at ht ⊢
    have x1 : Ex H2 (L2.upd (L2.upd H2 pl (.lst (nV (List.range' lp (W.length - lp))))) pl (.lst (nV (List.range' lp (W.length - lp)).reverse))) := (Ex.new hpl).mut hpl
    have g0 : (L2.upd (L2.upd H2 pl (.lst (nV (List.range' lp (W.length - lp))))) pl (.lst (nV (List.range' lp (W.length - lp)).reverse))) pl = some (.lst (nV (List.range' lp (W.length - lp)).reverse)) := upd_same
    generalize (L2.upd (L2.upd H2 pl (.lst (nV (List.range' lp (W.length - lp))))) pl (.lst (nV (List.range' lp (W.length - lp)).reverse))) = G0 at x1 g0 ht ⊢
    have x2 := x1.trans (Ex.new (o := .tup [.str "tell", .int 0, ve]) ht)
    have g1 : (L2.upd G0 t (.tup [.str "tell", .int 0, ve])) pl = some (.lst (nV (List.range' lp (W.length - lp)).reverse)) := Ex.new ht _ _ g0
    have g2 : (L2.upd G0 t (.tup [.str "tell", .int 0, ve])) t = some (.tup [.str "tell", .int 0, ve]) := upd_same
    generalize (L2.upd G0 t (.tup [.str "tell", .int 0, ve])) = G at x2 g1 g2 ⊢
    have eBG := eB2.trans x2
    have nx := fz_nt (H := G) nB
    have hend : TX true (fz B G) (.ref t) (.tell 0 e) := .tell (j := true) (fz_tup g2) (he.ex (fz_sub eBG))
    refine ⟨[.ref fs], rfl, fun H3 e3 CV hc => ?_⟩
    have cell : ∀ b ∈ NV.cells (cloFrom (cxOf CX0 P w K mg base N_fr "_from_right" (defScope s_from_right) f (.ref cd) A outer s H E).nox.env.cells (C8.fnScope u_fr).names []), ∃ φ, H3 b = some (.ext φ) := fun b hb => by
      obtain ⟨y, hy⟩ := NV.cells_mem.mp hb
      obtain ⟨o, v, h, _⟩ := CV.all y b hy
      exact ⟨_, h⟩
    have gG := gv G (eN.trans (ExtN.of x2))
    refine ⟨L, W, (List.range' lp (W.length - lp)).reverse, pl, fu, .ref t, .tell 0 e, fun p c => .go (S p c) 0, B, fz B G, rfl, e3 _ _ g1, (fun p hp => by
      rw [List.mem_reverse, List.mem_range'_1] at hp
      omega), hL, hW, fz_sub eBG, (fz_sup eBG).trans e3, hend, ⟨RU.mono, _, ["slide"], ["place", "letter"], [.ref fs], fun H => NV.Gv P w K mg base 8 H fs 2 (preU L W) (RS S), (x2.trans e3) _ _ hfu, (x2.trans e3) _ _ hco, CV, rfl, gG.up (fun b o h => ?_), fun H H' e h => h.up e, nok_fr⟩, fun B' H' v g hv => ?_⟩
    · have nq : b ∉ NV.cells (cloFrom (cxOf CX0 P w K mg base N_fr "_from_right" (defScope s_from_right) f (.ref cd) A outer s H E).nox.env.cells (C8.fnScope u_fr).names []) := fun z => by
        rw [hc b z] at h
        cases h
      exact (NV.drop_out nq).trans (e3 _ _ h)
    · obtain ⟨k1, k2⟩ := grow_back2 (fz_sub eBG) (fz_sup eBG) nx (eN.trans (ExtN.of x2)) (T2.ext x2) hc e3 cell g
      refine ⟨ExtN.of g.h, q _ _ _ k1 (fun b xs h => ?_) (TX.of k2 hv)⟩
      have h1 : G b = some (.lst xs) := (eN.trans (ExtN.of x2)) _ _ h (fun ps z => by cases z)
      have nq : b ∉ NV.cells (cloFrom (cxOf CX0 P w K mg base N_fr "_from_right" (defScope s_from_right) f (.ref cd) A outer s H E).nox.env.cells (C8.fnScope u_fr).names []) := fun z => by
        rw [hc b z] at h1
        cases h1
      exact (NV.drop_out nq).trans ((g.l b xs (e3 _ _ h1)).trans (fz_lst h1))
end
end Law

namespace Law
open PySem PySem.Spec PyProof.Rows L2 Evl TR NdefX LamX
theorem cell_code {c : Addr} {o : Obj} {v : Option Value} {q : Str} (hd : o.data = .cell v) : NV.CellO c o ≠ CodeO c q := fun z => by
  have hg : (Heap.mk (Array.replicate (c + 1) o) {}).get? c = some o := by
    obtain ⟨a, b, d, e⟩ := o
    obtain rfl : d = .cell v := hd
    unfold Heap.get?
    show (match (Array.replicate (c + 1) (Obj.mk a b (.cell v) e))[c]? with | some ⟨_, _, .freed, _⟩ => none | x => x) = _
    rw [Array.getElem?_replicate, if_pos (Nat.lt_succ_self c)]
  unfold NV.CellO CodeO at z
  injection z with z
  have h := congrFun z (Heap.mk (Array.replicate (c + 1) o) {})
  obtain ⟨oc, vs, t, h1, h2, h3⟩ := h.mp hg
  rw [hg] at h1
  cases h1
  rw [hd] at h2
  cases h2
theorem cellsV_exN {H H' : Hp} {cl : List (Str × Addr)} {fr : List Str} {ws : List V} (C : NV.CellsV H cl fr ws) (e : ExtN H H') : NV.CellsV H' cl fr ws :=
  ⟨C.len, C.inj, fun y c h => by
    obtain ⟨o, v, h1, h2⟩ := C.all y c h
    exact ⟨o, v, e _ _ h1 (fun ps z => by cases z), h2⟩, fun i y v h1 h2 => by
    obtain ⟨c, o, u, k1, k2, k3, k4⟩ := C.has i y v h1 h2
    exact ⟨c, o, u, k1, e _ _ k2 (fun ps z => by cases z), k3, k4⟩⟩
/-- behind a call that had a def lent, and made defs itself -/
theorem grow_back3 {T : List NTab} {B H G H3 Bx B' H' : Hp} {cs : List Addr} (eBx : Ex B Bx) (xG : Ex Bx G) (eN : ExtN H G) (cN : ∀ b ∈ cs, G b = none) (e3 : Ex G H3) (cell : ∀ b ∈ cs, ∃ o v, H3 b = some (NV.CellO b o) ∧ o.data = .cell v) (g : GrowN T Bx H3 B' H') :
    GrowN T B H (NV.drop cs B') (NV.drop cs H') ∧ ∀ b k xs, B' b = some (ob k xs) → NV.drop cs B' b = some (ob k xs) := by
  have kc : ∀ b ∈ cs, ∃ o v, H' b = some (NV.CellO b o) ∧ o.data = .cell v := fun b hb => by
    obtain ⟨o, v, h1, h2⟩ := cell b hb
    exact ⟨o, v, g.h _ _ h1 (fun ps z => by cases z), h2⟩
  have kb : ∀ b o, B' b = some o → (∀ φ, o ≠ .ext φ) → NV.drop cs B' b = some o := fun b o h n => by
    have q : b ∉ cs := fun q => by
      obtain ⟨o2, v, h1, h2⟩ := kc b q
      rw [g.s _ _ h] at h1
      exact n _ (Option.some.inj h1)
    rw [NV.drop_out q]
    exact h
  refine ⟨⟨fun b o h => ?_, fun b o h n => ?_, fun b o h => ?_, fun p hp => ?_, fun b ps z => ?_⟩, fun b k xs h => kb _ _ h (fun φ z => by cases k <;> cases z)⟩
  · have q : b ∉ cs := fun q => by
      have := xG _ _ (eBx b o h)
      rw [cN b q] at this
      cases this
    rw [NV.drop_out q]
    exact g.b _ _ (eBx _ _ h)
  · have h1 := eN b o h n
    have q : b ∉ cs := fun q => by
      rw [cN b q] at h1
      cases h1
    rw [NV.drop_out q]
    exact g.h _ _ (e3 _ _ h1) n
  · by_cases q : b ∈ cs
    · rw [NV.drop_in q] at h
      cases h
    · rw [NV.drop_out q] at h ⊢
      exact g.s _ _ h
  · obtain ⟨ps, h1, h2, h3⟩ := g.t p hp
    have q : p.1 ∉ cs := fun q => by
      obtain ⟨o2, v, k1, k2⟩ := kc _ q
      rw [h1] at k1
      cases k1
    refine ⟨ps, (NV.drop_out q).trans h1, h2, fun pos cv hc => ?_⟩
    obtain ⟨c, e1, e2⟩ := h3 pos cv hc
    refine ⟨c, e1, (NV.drop_out fun q => ?_).trans e2⟩
    obtain ⟨o2, v, k1, k2⟩ := kc _ q
    rw [e2] at k1
    exact cell_code k2 (Option.some.inj k1).symm
  · by_cases q : b ∈ cs
    · rw [NV.drop_in q] at z
      cases z
    · rw [NV.drop_out q] at z
      exact g.n b ps z
/-- the slides -/
def blS (W : List Nat) (p c : Nat) : Nat := ((p : Int) - rf W p c).toNat
def geS (W : List Nat) (p _ : Nat) : Nat := ges W p
def boS (W : List Nat) (p c : Nat) : Nat := (if (ges W p : Int) > (p : Int) - rf W p c then (ges W p : Int) else (p : Int) - rf W p c).toNat
def perN (W : List Nat) : Nat := ((W.length : Int) - brd W W.length).toNat
theorem RS.mono {S : Nat → Nat → Nat} (vs : List V) (H H' : Hp) (v : V) (_ : ∀ b o, H b = some o → H' b = some o) (h : RS S vs H v) : RS S vs H' v := h
theorem sg_inj9 {c d : Nat} (h : sg c = sg d) : c = d := by
  have h2 : (#[c] : Array Nat) = #[d] := congrArg (·.cps) h
  simpa using h2
theorem rs_one {S : Nat → Nat → Nat} {p c : Nat} {H : Hp} {v : V} (h : v = .int (S p c : Nat)) : RS S [.int (p : Nat), .str (sg c)] H v := fun p' c' e => by
  injection e with e1 e2
  injection e2 with e2 _
  injection e1 with e1
  have ep : p = p' := Int.ofNat_inj.mp e1
  have ec : c = c' := by
    injection e2 with e2
    exact sg_inj9 e2
  subst ep ec
  exact h
theorem fnc_ne {c : Addr} {q : Str} (ps : Array Value) : CodeO c q ≠ .tbl ps := fun z => by
  unfold CodeO at z
  cases z

abbrev u_bl : Stmt := (defBody s_by_bad_letter).getD 0 (.Pass ⟨0, 0, 0, 0⟩)
abbrev N_bl : List Str := ["letters", "word", "slide"]
theorem sc_bl : FnScope N_bl ["letters", "word"] (defScope s_by_bad_letter) := ⟨rfl, rfl, rfl, by decide +kernel, rfl, by decide +kernel, by decide +kernel⟩
abbrev N_blS : List Str := ["place", "letter", "word"]
theorem sc_blS : NScope N_blS ["place", "letter"] ["word"] (C8.fnScope u_bl) := nscope_by (by decide +kernel)
theorem nd_bl : ndefB (defScope s_by_bad_letter) (C8.fnScope u_bl) ["word"] = true := by decide +kernel

abbrev u_ge : Stmt := (defBody s_by_good_end).getD 0 (.Pass ⟨0, 0, 0, 0⟩)
abbrev N_ge : List Str := ["letters", "word", "slide"]
theorem sc_ge : FnScope N_ge ["letters", "word"] (defScope s_by_good_end) := ⟨rfl, rfl, rfl, by decide +kernel, rfl, by decide +kernel, by decide +kernel⟩
abbrev N_geS : List Str := ["place", "_", "word"]
theorem sc_geS : NScope N_geS ["place", "_"] ["word"] (C8.fnScope u_ge) := nscope_by (by decide +kernel)
theorem nd_ge : ndefB (defScope s_by_good_end) (C8.fnScope u_ge) ["word"] = true := by decide +kernel

abbrev u_bo : Stmt := (defBody s_by_both_down_to).getD 0 (.Pass ⟨0, 0, 0, 0⟩)
abbrev N_bo : List Str := ["letters", "word", "least_place", "end", "slide"]
theorem sc_bo : FnScope N_bo ["letters", "word", "least_place", "end"] (defScope s_by_both_down_to) := ⟨rfl, rfl, rfl, by decide +kernel, rfl, by decide +kernel, by decide +kernel⟩
abbrev N_boS : List Str := ["place", "letter", "word"]
theorem sc_boS : NScope N_boS ["place", "letter"] ["word"] (C8.fnScope u_bo) := nscope_by (by decide +kernel)
theorem nd_bo : ndefB (defScope s_by_both_down_to) (C8.fnScope u_bo) ["word"] = true := by decide +kernel
theorem per_go {H : Hp} {W : List Nat} {t : Addr} {q : Nat} (h : H t = some (.tup [.str "go", .int ((W.length : Int) - brd W W.length), .int (q : Nat)])) : TX true H (.ref t) (.go (perN W) q) := by
  obtain ⟨b1, b2, b3⟩ := brd_lt (w := W) (n := W.length)
  refine .go (j := true) ?_
  rw [h]
  unfold perN
  show some (HO.tup [_, V.int ((W.length : Int) - brd W W.length), _]) = some (HO.tup [_, V.int _, _])
  rw [Int.toNat_of_nonneg (by omega)]
def spBD (T : List NTab) : Sp := fun vs H Q _ => ∃ (L W : List Nat) (lp : Nat) (ve : V) (e : Tr) (B : Hp), vs = [.str (tx L), .str (tx W), .int (lp : Nat), ve] ∧ L.length ≤ 10 ∧ W.length ≤ 100 ∧ lp ≤ W.length ∧ Ex B H ∧ TX true B ve e ∧ TabsN T H ∧ (∀ b ps, B b ≠ some (.tbl ps)) ∧
  ∀ B' H' v, GrowN T B H B' H' → (∀ b xs, H b = some (.lst xs) → B' b = B b) → TX true B' v (frT L W (boS W) lp e) → Q v H'
section
variable {P : Program} {w : World} {K : PySem.W.Frag} {mg : Str → Option Value} {base : Heap}
theorem nok_bl (T : Tx mg) (c_bad_letter_slide : Kn P w K mg base "_bad_letter_slide" ["word", "place", "letter"] 1 spBls) {f c' : Addr} {qn : Str} {cl : List (Str × Addr)} {L W : List Nat} (hW : W.length ≤ 100) : NOk P w K mg base C8.CX0 8 f (NF.of u_bl "slide" qn cl c') ["place", "letter"] ["word"]
    (fun ws' vs H Q _ => ws' = [V.str (tx W)].map some ∧ vs.length = 2 ∧ preU L W vs ∧ True ∧ ∀ v H', (∀ b o, H b = some o → H' b = some o) → RS (blS W) vs H' v → Q v H') := by
  refine nok_of (k := 7) sc_blS (fun doc pm ctv us hl => match us, hl with | [_, _], _ => rfl) (fun ws vs H Q E h => h.2.1) (fun A outer s H vs ws Q E hr hf hc hw h => ?_)
  obtain ⟨rfl, h2, ⟨p, c, rfl, hp, hcL⟩, _, q⟩ := h
  obtain ⟨r1, r2⟩ := rf_bound W p c
  refine ⟨_, pss_one (ps_ret (pe_call c_bad_letter_slide.ok (hr.mono (by decide)) (by rfl) c_bad_letter_slide.g c_bad_letter_slide.kp c_bad_letter_slide.b .nil pass0 (pa_cons (pv 2) (pa_cons (pv 0) (pa_cons (pv 1) pa_nil))))), ?_⟩
  refine ⟨_, rfl, _, rfl, _, rfl, W, p, c, rfl, hW, q _ _ (fun _ _ h => h) (rs_one ?_)⟩
  unfold blS
  rw [Int.toNat_of_nonneg (by omega)]
theorem nok_ge (T : Tx mg) (c_good_end_slide : Kn P w K mg base "_good_end_slide" ["word", "place"] 1 spGes) {f c' : Addr} {qn : Str} {cl : List (Str × Addr)} {L W : List Nat} (hW : W.length ≤ 100) : NOk P w K mg base C8.CX0 8 f (NF.of u_ge "slide" qn cl c') ["place", "_"] ["word"]
    (fun ws' vs H Q _ => ws' = [V.str (tx W)].map some ∧ vs.length = 2 ∧ preU L W vs ∧ True ∧ ∀ v H', (∀ b o, H b = some o → H' b = some o) → RS (geS W) vs H' v → Q v H') := by
  refine nok_of (k := 7) sc_geS (fun doc pm ctv us hl => match us, hl with | [_, _], _ => rfl) (fun ws vs H Q E h => h.2.1) (fun A outer s H vs ws Q E hr hf hc hw h => ?_)
  obtain ⟨rfl, h2, ⟨p, c, rfl, hp, hcL⟩, _, q⟩ := h
  obtain ⟨r1, r2⟩ := rf_bound W p c
  refine ⟨_, pss_one (ps_ret (pe_call c_good_end_slide.ok (hr.mono (by decide)) (by rfl) c_good_end_slide.g c_good_end_slide.kp c_good_end_slide.b .nil pass0 (pa_cons (pv 2) (pa_cons (pv 0) pa_nil)))), ?_⟩
  exact ⟨_, rfl, _, rfl, W, p, rfl, hp, hW, fun H' e1 => q _ _ e1 (rs_one rfl)⟩
theorem nok_bo (T : Tx mg) (c_bad_letter_slide : Kn P w K mg base "_bad_letter_slide" ["word", "place", "letter"] 1 spBls) (c_good_end_slide : Kn P w K mg base "_good_end_slide" ["word", "place"] 1 spGes) {f c' : Addr} {qn : Str} {cl : List (Str × Addr)} {L W : List Nat} (hW : W.length ≤ 100) : NOk P w K mg base C8.CX0 8 f (NF.of u_bo "slide" qn cl c') ["place", "letter"] ["word"]
    (fun ws' vs H Q _ => ws' = [V.str (tx W)].map some ∧ vs.length = 2 ∧ preU L W vs ∧ True ∧ ∀ v H', (∀ b o, H b = some o → H' b = some o) → RS (boS W) vs H' v → Q v H') := by
  refine nok_of (k := 7) sc_boS (fun doc pm ctv us hl => match us, hl with | [_, _], _ => rfl) (fun ws vs H Q E h => h.2.1) (fun A outer s H vs ws Q E hr hf hc hw h => ?_)
  obtain ⟨rfl, h2, ⟨p, c, rfl, hp, hcL⟩, _, q⟩ := h
  obtain ⟨r1, r2⟩ := rf_bound W p c
  refine ⟨_, pss_one (ps_ret (pe_callB (call_max2 rfl) (by rfl) T.max (by decide +kernel) (pa_cons (pe_call c_bad_letter_slide.ok (hr.mono (by decide)) (by rfl) c_bad_letter_slide.g c_bad_letter_slide.kp c_bad_letter_slide.b .nil pass0 (pa_cons (pv 2) (pa_cons (pv 0) (pa_cons (pv 1) pa_nil)))) (pa_cons (pe_call c_good_end_slide.ok (hr.mono (by decide)) (by rfl) c_good_end_slide.g c_good_end_slide.kp c_good_end_slide.b .nil pass0 (pa_cons (pv 2) (pa_cons (pv 0) pa_nil))) pa_nil)))), ?_⟩
  refine ⟨_, rfl, _, rfl, _, rfl, W, p, c, rfl, hW, _, rfl, _, rfl, W, p, rfl, hp, hW, fun H' e1 => ⟨_, _, rfl, q _ _ e1 (rs_one ?_)⟩⟩
  unfold boS
  rw [Int.toNat_of_nonneg (by split <;> omega)]
theorem ok_bl {f cd Pt : Addr} {fd : FuncData} (F : FunC K "_by_bad_letter" "_by_bad_letter" s_by_bad_letter f fd cd) (T : Tx mg) (TB : TabB base mg cd Pt) {Tn : List NTab} (hm : (Pt, fun _ _ => ("_by_bad_letter.<locals>.slide" : Str)) ∈ Tn) (hu : ∀ p ∈ Tn, p.1 = Pt → p.2 = fun _ _ => ("_by_bad_letter.<locals>.slide" : Str))
    (c_bad_letter_slide : Kn P w K mg base "_bad_letter_slide" ["word", "place", "letter"] 1 spBls) (c_from_right : Kn P w K mg base "_from_right" ["letters", "word", "slide", "least_place", "end"] 11 (spFR Tn P w K mg base)) : FnOk P w K mg base CX0 12 f fd ["letters", "word"] (spMk Tn fun L W => [frT L W (blS W) 0 (.go 1 0)]) := by
  refine okC F sc_bl (fun vs H Q E h => ?_) (fun A outer s H vs Q E hr h => ?_)
  · obtain ⟨L, W, B, rfl, _⟩ := h
    rfl
  · obtain ⟨L, W, B, rfl, hL, w1, w8, hWL, eB, TN, nB, q⟩ := h
    have hL4 := hL.hi
    refine ⟨_, (pss_cons (ps_ndefS (st := u_bl) (T := Tn) (i := 2) (nm := fun _ _ => ("_by_bad_letter.<locals>.slide" : Str)) rfl TB rfl hm (by rfl) hu (ndef_free nd_bl) rfl rfl (by rfl) sc_bl.nd rfl (Or.inl rfl) (Or.inl rfl))
      (pss_one (ps_ret (pe_lst (pa_cons (NV.pe_callL (fr := ["word"]) (js := [1]) c_from_right.ok (hr.mono (by decide)) (by rfl) c_from_right.g c_from_right.kp c_from_right.b (fun ok => Caps.made (scope := C8.fnScope u_bl) ok (ndef_free nd_bl) (ndef_fr nd_bl) rfl) (fun _ => rfl) (pa_cons (pv 0) (pa_cons (pv 1) (pa_cons (pv 2) (pa_cons pe_int (pa_cons (pe_tup (pa_cons pe_str (pa_cons pe_int (pa_cons pe_int pa_nil)))) pa_nil)))))) pa_nil))))), ?_⟩
    refine ⟨TN, fun fu c' H2 eN T2 hf0 hfu hco => ?_⟩
    have eB2 : Ex B H2 := fun b o h => eN b o (eB _ _ h) fun ps z => nB b ps (by rw [h, z])
    refine ⟨_, rfl, _, rfl, _, rfl, by show 3 ≤ sizeLine; decide, fun t ht => ?_⟩
    have x2 : Ex H2 (L2.upd H2 t (.tup [.str "go", .int 1, .int 0])) := Ex.new ht
    have g2 : (L2.upd H2 t (.tup [.str "go", .int 1, .int 0])) t = some (.tup [.str "go", .int 1, .int 0]) := upd_same
    generalize (L2.upd H2 t (.tup [.str "go", .int 1, .int 0])) = G at x2 g2 ⊢
    have eBG := eB2.trans x2
    have hend : TX true (fz B G) (.ref t) (.go 1 0) := .go (j := true) (fz_tup g2)
    refine ⟨[.str (tx W)], rfl, fun H3 e3 CV hc => ?_⟩
    have cell : ∀ b ∈ NV.cells (cloFrom (cxOf CX0 P w K mg base N_bl "_by_bad_letter" (defScope s_by_bad_letter) f (.ref cd) A outer s H E).nox.env.cells (C8.fnScope u_bl).names []), ∃ o v, H3 b = some (NV.CellO b o) ∧ o.data = .cell v := fun b hb => by
      obtain ⟨y, hy⟩ := NV.cells_mem.mp hb
      exact CV.all y b hy
    refine ⟨L, W, fu, 0, .ref t, .go 1 0, blS W, fz B G, rfl, by omega, by omega, Nat.zero_le _, (fz_sup eBG).trans e3, hend, T2.ext (x2.trans e3), fz_nt nB, fun H4 e4 => ⟨RS.mono, _, ["word"], ["place", "letter"], [.str (tx W)], fun _ => True, e4 _ _ ((x2.trans e3) _ _ hfu) fnO_ne, e4 _ _ ((x2.trans e3) _ _ hco) fnc_ne, cellsV_exN CV e4, rfl, trivial, fun _ _ _ _ => trivial, nok_bl T c_bad_letter_slide (by omega)⟩, fun B' H' v g _ hv => ?_⟩
    obtain ⟨k1, k2⟩ := grow_back3 (fz_sub eBG) (fz_sup eBG) (eN.trans (ExtN.of x2)) hc e3 cell g
    refine ⟨g.h, by show 1 ≤ sizeLine; decide, fun r hr2 => ?_⟩
    refine q _ _ r [v] (k1.more hr2 fun ps z => by cases z) upd_same ?_
    exact .cons ((TX.of k2 hv).ex (Ex.new (fresh_back k1.s hr2))) .nil
theorem ok_ge {f cd Pt : Addr} {fd : FuncData} (F : FunC K "_by_good_end" "_by_good_end" s_by_good_end f fd cd) (T : Tx mg) (TB : TabB base mg cd Pt) {Tn : List NTab} (hm : (Pt, fun _ _ => ("_by_good_end.<locals>.slide" : Str)) ∈ Tn) (hu : ∀ p ∈ Tn, p.1 = Pt → p.2 = fun _ _ => ("_by_good_end.<locals>.slide" : Str))
    (c_good_end_slide : Kn P w K mg base "_good_end_slide" ["word", "place"] 1 spGes) (c_period : Kn P w K mg base "_period" ["word"] 2 spPer) (c_from_right : Kn P w K mg base "_from_right" ["letters", "word", "slide", "least_place", "end"] 11 (spFR Tn P w K mg base)) : FnOk P w K mg base CX0 12 f fd ["letters", "word"] (spMk Tn fun L W => [frT L W (geS W) 0 (.go (perN W) 0)]) := by
  refine okC F sc_ge (fun vs H Q E h => ?_) (fun A outer s H vs Q E hr h => ?_)
  · obtain ⟨L, W, B, rfl, _⟩ := h
    rfl
  · obtain ⟨L, W, B, rfl, hL, w1, w8, hWL, eB, TN, nB, q⟩ := h
    have hL4 := hL.hi
    refine ⟨_, (pss_cons (ps_ndefS (st := u_ge) (T := Tn) (i := 2) (nm := fun _ _ => ("_by_good_end.<locals>.slide" : Str)) rfl TB rfl hm (by rfl) hu (ndef_free nd_ge) rfl rfl (by rfl) sc_ge.nd rfl (Or.inl rfl) (Or.inl rfl))
      (pss_one (ps_ret (pe_lst (pa_cons (NV.pe_callL (fr := ["word"]) (js := [1]) c_from_right.ok (hr.mono (by decide)) (by rfl) c_from_right.g c_from_right.kp c_from_right.b (fun ok => Caps.made (scope := C8.fnScope u_ge) ok (ndef_free nd_ge) (ndef_fr nd_ge) rfl) (fun _ => rfl) (pa_cons (pv 0) (pa_cons (pv 1) (pa_cons (pv 2) (pa_cons pe_int (pa_cons (pe_tup (pa_cons pe_str (pa_cons (pe_call c_period.ok (hr.mono (by decide)) (by rfl) c_period.g c_period.kp c_period.b .nil pass0 (pa_cons (pv 1) pa_nil)) (pa_cons pe_int pa_nil)))) pa_nil)))))) pa_nil))))), ?_⟩
    refine ⟨TN, fun fu c' H2 eN T2 hf0 hfu hco => ?_⟩
    have eB2 : Ex B H2 := fun b o h => eN b o (eB _ _ h) fun ps z => nB b ps (by rw [h, z])
    refine ⟨_, rfl, _, rfl, _, rfl, _, rfl, W, rfl, by omega, fun H5 e5 => ⟨by show 3 ≤ sizeLine; decide, fun t ht => ?_⟩⟩
    have x2 : Ex H2 (L2.upd H5 t (.tup [.str "go", .int ((W.length : Int) - brd W W.length), .int 0])) := Ex.trans e5 (Ex.new ht)
    have g2 : (L2.upd H5 t (.tup [.str "go", .int ((W.length : Int) - brd W W.length), .int 0])) t = some (.tup [.str "go", .int ((W.length : Int) - brd W W.length), .int 0]) := upd_same
    generalize (L2.upd H5 t (.tup [.str "go", .int ((W.length : Int) - brd W W.length), .int 0])) = G at x2 g2 ⊢
    have eBG := eB2.trans x2
    have hend : TX true (fz B G) (.ref t) (.go (perN W) 0) := per_go (fz_tup g2)
    refine ⟨[.str (tx W)], rfl, fun H3 e3 CV hc => ?_⟩
    have cell : ∀ b ∈ NV.cells (cloFrom (cxOf CX0 P w K mg base N_ge "_by_good_end" (defScope s_by_good_end) f (.ref cd) A outer s H E).nox.env.cells (C8.fnScope u_ge).names []), ∃ o v, H3 b = some (NV.CellO b o) ∧ o.data = .cell v := fun b hb => by
      obtain ⟨y, hy⟩ := NV.cells_mem.mp hb
      exact CV.all y b hy
    refine ⟨L, W, fu, 0, .ref t, .go (perN W) 0, geS W, fz B G, rfl, by omega, by omega, Nat.zero_le _, (fz_sup eBG).trans e3, hend, T2.ext (x2.trans e3), fz_nt nB, fun H4 e4 => ⟨RS.mono, _, ["word"], ["place", "_"], [.str (tx W)], fun _ => True, e4 _ _ ((x2.trans e3) _ _ hfu) fnO_ne, e4 _ _ ((x2.trans e3) _ _ hco) fnc_ne, cellsV_exN CV e4, rfl, trivial, fun _ _ _ _ => trivial, nok_ge T c_good_end_slide (by omega)⟩, fun B' H' v g _ hv => ?_⟩
    obtain ⟨k1, k2⟩ := grow_back3 (fz_sub eBG) (fz_sup eBG) (eN.trans (ExtN.of x2)) hc e3 cell g
    refine ⟨g.h, by show 1 ≤ sizeLine; decide, fun r hr2 => ?_⟩
    refine q _ _ r [v] (k1.more hr2 fun ps z => by cases z) upd_same ?_
    exact .cons ((TX.of k2 hv).ex (Ex.new (fresh_back k1.s hr2))) .nil
theorem ok_bo {f cd Pt : Addr} {fd : FuncData} (F : FunC K "_by_both_down_to" "_by_both_down_to" s_by_both_down_to f fd cd) (T : Tx mg) (TB : TabB base mg cd Pt) {Tn : List NTab} (hm : (Pt, fun _ _ => ("_by_both_down_to.<locals>.slide" : Str)) ∈ Tn) (hu : ∀ p ∈ Tn, p.1 = Pt → p.2 = fun _ _ => ("_by_both_down_to.<locals>.slide" : Str))
    (c_bad_letter_slide : Kn P w K mg base "_bad_letter_slide" ["word", "place", "letter"] 1 spBls) (c_good_end_slide : Kn P w K mg base "_good_end_slide" ["word", "place"] 1 spGes) (c_from_right : Kn P w K mg base "_from_right" ["letters", "word", "slide", "least_place", "end"] 11 (spFR Tn P w K mg base)) : FnOk P w K mg base CX0 12 f fd ["letters", "word", "least_place", "end"] (spBD Tn) := by
  refine okC F sc_bo (fun vs H Q E h => ?_) (fun A outer s H vs Q E hr h => ?_)
  · obtain ⟨L, W, lp, ve, e, B, rfl, _⟩ := h
    rfl
  · obtain ⟨L, W, lp, ve, e, B, rfl, hL, hW, hlp, eB, he, TN, nB, q⟩ := h
    refine ⟨_, (pss_cons (ps_ndefS (st := u_bo) (T := Tn) (i := 4) (nm := fun _ _ => ("_by_both_down_to.<locals>.slide" : Str)) rfl TB rfl hm (by rfl) hu (ndef_free nd_bo) rfl rfl (by rfl) sc_bo.nd rfl (Or.inl rfl) (Or.inl rfl))
      (pss_one (ps_ret (NV.pe_callL (fr := ["word"]) (js := [1]) c_from_right.ok (hr.mono (by decide)) (by rfl) c_from_right.g c_from_right.kp c_from_right.b (fun ok => Caps.made (scope := C8.fnScope u_bo) ok (ndef_free nd_bo) (ndef_fr nd_bo) rfl) (fun _ => rfl) (pa_cons (pv 0) (pa_cons (pv 1) (pa_cons (pv 4) (pa_cons (pv 2) (pa_cons (pv 3) pa_nil))))))))), ?_⟩
    refine ⟨TN, fun fu c' H2 eN T2 hf0 hfu hco => ?_⟩
    have eB2 : Ex B H2 := fun b o h => eN b o (eB _ _ h) fun ps z => nB b ps (by rw [h, z])
    have x2 : Ex H2 H2 := Ex.refl _
    refine ⟨_, rfl, _, rfl, _, rfl, _, rfl, _, rfl, ?_⟩
    refine ⟨[.str (tx W)], rfl, fun H3 e3 CV hc => ?_⟩
    have cell : ∀ b ∈ NV.cells (cloFrom (cxOf CX0 P w K mg base N_bo "_by_both_down_to" (defScope s_by_both_down_to) f (.ref cd) A outer s H E).nox.env.cells (C8.fnScope u_bo).names []), ∃ o v, H3 b = some (NV.CellO b o) ∧ o.data = .cell v := fun b hb => by
      obtain ⟨y, hy⟩ := NV.cells_mem.mp hb
      exact CV.all y b hy
    refine ⟨L, W, fu, lp, ve, e, boS W, B, rfl, hL, hW, hlp, eB2.trans e3, he, T2.ext e3, nB, fun H4 e4 => ⟨RS.mono, _, ["word"], ["place", "letter"], [.str (tx W)], fun _ => True, e4 _ _ ((x2.trans e3) _ _ hfu) fnO_ne, e4 _ _ ((x2.trans e3) _ _ hco) fnc_ne, cellsV_exN CV e4, rfl, trivial, fun _ _ _ _ => trivial, nok_bo T c_bad_letter_slide c_good_end_slide hW⟩, fun B' H' v g gl hv => ?_⟩
    obtain ⟨k1, k2⟩ := grow_back3 (Ex.refl _) eB2 eN hc e3 cell g
    refine ⟨g.h, q _ _ _ k1 (fun b xs h => ?_) (TX.of k2 hv)⟩
    have h1 : H2 b = some (.lst xs) := eN _ _ h (fun ps z => by cases z)
    have nq : b ∉ NV.cells (cloFrom (cxOf CX0 P w K mg base N_bo "_by_both_down_to" (defScope s_by_both_down_to) f (.ref cd) A outer s H E).nox.env.cells (C8.fnScope u_bo).names []) := fun z => by
      rw [hc b z] at h1
      cases h1
    exact (NV.drop_out nq).trans (gl b xs (e3 _ _ h1))
end
end Law

namespace Law
open PySem PySem.Spec PyProof.Rows L2 Evl TR NdefX LamX
def boL (L W : List Nat) : List Tr := [frT L W (boS W) 0 (.go (perN W) 0)]
/-- both states, each down to its place -/
def knP (W : List Nat) : List Nat := [0, (brd W W.length).toNat]
def knL (L W : List Nat) : List Tr := if brd W W.length = 0 then boL L W else (knP W).map fun lp => frT L W (boS W) lp (.go (perN W) 1)
theorem tabsN_lst {T : List NTab} {H : Hp} {D : Addr} {zs : List V} {o : HO} (t : TabsN T H) (hD : H D = some (.lst zs)) : TabsN T (L2.upd H D o) := fun p hp => by
  obtain ⟨ps, h1, h2, h3⟩ := t p hp
  have q : p.1 ≠ D := fun z => by
    rw [z, hD] at h1
    cases h1
  refine ⟨ps, (upd_ne q).trans h1, h2, fun pos cv hc => ?_⟩
  obtain ⟨c, e1, e2⟩ := h3 pos cv hc
  refine ⟨c, e1, (upd_ne fun z => ?_).trans e2⟩
  rw [z, hD] at e2
  have e3 := Option.some.inj e2
  unfold CodeO at e3
  cases e3
/-- a list under work is changed -/
theorem GrowN.work {T : List NTab} {B H B' H' : Hp} {D : Addr} {zs ys : List V} (g : GrowN T B H B' H') (hD : H D = none) (hz : H' D = some (.lst zs)) (bD : B' D = none) : GrowN T B H B' (L2.upd H' D (.lst ys)) := by
  refine ⟨g.b, fun b o h n => ?_, fun b o h => ?_, tabsN_lst g.t hz, g.n⟩
  · have q : b ≠ D := fun z => by
      rw [z, hD] at h
      cases h
    rw [upd_ne q]
    exact g.h b o h n
  · have q : b ≠ D := fun z => by
      rw [z, bD] at h
      cases h
    rw [upd_ne q]
    exact g.s b o h
section
variable {P : Program} {w : World} {K : PySem.W.Frag} {mg : Str → Option Value} {base : Heap}
theorem ok_both {f : Addr} {fd : FuncData} {Tn : List NTab} (F : Fun K "_by_both" "_by_both" s_by_both f fd) (T : Tx mg) (c_period : Kn P w K mg base "_period" ["word"] 2 spPer) (c_by_both_down_to : Kn P w K mg base "_by_both_down_to" ["letters", "word", "least_place", "end"] 12 (spBD Tn)) : FnOk P w K mg base CX0 13 f fd ["letters", "word"] (spMk Tn boL) := by
  refine F.ok sc_by_both (fun vs H Q E h => ?_) (fun cdv A outer s H vs Q E hr h => ?_)
  · obtain ⟨L, W, B, rfl, _⟩ := h
    rfl
  · obtain ⟨L, W, B, rfl, hL, w1, w8, hWL, eB, TN, nB, q⟩ := h
    have hL4 := hL.hi
    refine ⟨_, (pss_one (ps_ret (pe_lst (pa_cons (pe_call c_by_both_down_to.ok (hr.mono (by decide)) (by rfl) c_by_both_down_to.g c_by_both_down_to.kp c_by_both_down_to.b .nil pass0 (pa_cons (pv 0) (pa_cons (pv 1) (pa_cons pe_int (pa_cons (pe_tup (pa_cons pe_str (pa_cons (pe_call c_period.ok (hr.mono (by decide)) (by rfl) c_period.g c_period.kp c_period.b .nil pass0 (pa_cons (pv 1) pa_nil)) (pa_cons pe_int pa_nil)))) pa_nil))))) pa_nil)))), ?_⟩
    refine ⟨_, rfl, _, rfl, _, rfl, W, rfl, by omega, fun H5 e5 => ⟨by show 3 ≤ sizeLine; decide, fun t ht => ?_⟩⟩
    have x2 : Ex H (L2.upd H5 t (.tup [.str "go", .int ((W.length : Int) - brd W W.length), .int 0])) := Ex.trans e5 (Ex.new ht)
    have g2 : (L2.upd H5 t (.tup [.str "go", .int ((W.length : Int) - brd W W.length), .int 0])) t = some (.tup [.str "go", .int ((W.length : Int) - brd W W.length), .int 0]) := upd_same
    generalize (L2.upd H5 t (.tup [.str "go", .int ((W.length : Int) - brd W W.length), .int 0])) = G at x2 g2 ⊢
    have eBG := eB.trans x2
    have hend : TX true (fz B G) (.ref t) (.go (perN W) 0) := per_go (fz_tup g2)
    refine ⟨L, W, 0, .ref t, .go (perN W) 0, fz B G, rfl, by omega, by omega, Nat.zero_le _, fz_sup eBG, hend, TN.ext x2, fz_nt nB, fun B' H' v g _ hv => ⟨by show 1 ≤ sizeLine; decide, fun r hr2 => ?_⟩⟩
    refine q _ _ r [v] ((g.pre (fz_sub eBG) (ExtN.of x2)).more hr2 fun ps z => by cases z) upd_same ?_
    exact .cons (hv.ex (Ex.new (fresh_back g.s hr2))) .nil
theorem ok_known {f : Addr} {fd : FuncData} {Tn : List NTab} (F : Fun K "_by_both_and_known" "_by_both_and_known" s_by_both_and_known f fd) (T : Tx mg) (c_period : Kn P w K mg base "_period" ["word"] 2 spPer) (c_by_both_down_to : Kn P w K mg base "_by_both_down_to" ["letters", "word", "least_place", "end"] 12 (spBD Tn))
    (c_by_both : Kn P w K mg base "_by_both" ["letters", "word"] 13 (spMk Tn boL)) : FnOk P w K mg base CX0 14 f fd ["letters", "word"] (spMk Tn knL) := by
  refine F.ok sc_by_both_and_known (fun vs H Q E h => ?_) (fun cdv A outer s H vs Q E hr h => ?_)
  · obtain ⟨L, W, B, rfl, _⟩ := h
    rfl
  · obtain ⟨L, W, B, rfl, hL, w1, w8, hWL, eB, TN, nB, q⟩ := h
    have hL4 := hL.hi
    obtain ⟨b1, b2, b3⟩ := brd_lt (w := W) (n := W.length)
    have b2 := b2 (by omega)
    refine ⟨_, (pss_cons (ps_set (i := 2) sc_by_both_and_known.nd rfl (Or.inl rfl) (pe_call c_period.ok (hr.mono (by decide)) (by rfl) c_period.g c_period.kp c_period.b .nil pass0 (pa_cons (pv 1) pa_nil)))
      (pss_cons (ps_set (i := 3) sc_by_both_and_known.nd rfl (Or.inl rfl) (pe_op op_sub (pe_callB call_len_str (by rfl) T.len PySem.boot_len (pa_cons (pv 1) pa_nil)) (pv 2)))
      (pss_cons (ps_if (pt_cmpR op_eq (pv 3) pe_int (nomark _)) (pss_one (ps_ret (pe_call c_by_both.ok (hr.mono (by decide)) (by rfl) c_by_both.g c_by_both.kp c_by_both.b .nil pass0 (pa_cons (pv 0) (pa_cons (pv 1) pa_nil))))) pss_nil)
      (pss_cons (ps_set (i := 4) sc_by_both_and_known.nd rfl (Or.inr rfl) (pe_tup (pa_cons pe_str (pa_cons (pv 2) (pa_cons pe_int pa_nil)))))
      (pss_one (ps_ret (pe_lc (own := [("least_place", 5)]) (g := gName 5) (tt := tYes) rfl sc_by_both_and_known.nd (pi_tup (pe_tup (pa_cons pe_int (pa_cons (pv 3) pa_nil)))) (blkOk_by (N := N_by_both_and_known) (sc := defScope s_by_both_and_known) (by decide +kernel)) (fun _ _ _ _ _ => (pg_name (i := 5) sc_by_both_and_known.nd rfl (Or.inl rfl))) (fun _ _ _ _ _ => pts_nil) (fun _ _ _ _ _ => (pe_call c_by_both_down_to.ok (hr.mono (by decide)) (by rfl) c_by_both_down_to.g c_by_both_down_to.kp c_by_both_down_to.b .nil pass0 (pa_cons (pv 0) (pa_cons (pv 1) (pa_cons (pv 5) (pa_cons (pv 4) pa_nil))))))))))))), ?_⟩
    refine ⟨_, rfl, W, rfl, by omega, fun H5 e5 => ?_⟩
    refine ⟨_, rfl, _, rfl, tx_le (by omega), ?_⟩
    rw [tx_len]
    refine ⟨_, rfl, _, _, rfl, rfl, ?_⟩
    dsimp only
    rw [show (W.length : Int) - ((W.length : Int) - brd W W.length) = ((brd W W.length).toNat : Int) by rw [Int.toNat_of_nonneg b2]; omega]
    refine ⟨_, rfl, rfl, _, rfl, ?_⟩
    by_cases hb : brd W W.length = 0
    · refine iteD (by rw [hb]; rfl) ?_
      refine ⟨_, rfl, _, rfl, L, W, B, rfl, hL, w1, w8, hWL, eB.trans e5, TN.ext e5, nB, fun B' H' r us g hr2 KX => q _ _ _ _ (g.pre (Ex.refl _) (ExtN.of e5)) hr2 ?_⟩
      unfold knL
      rw [if_pos hb]
      exact KX
    · refine iteDn (fun z => hb ?_) ?_
      · injection z with z
        omega
      refine ⟨_, rfl, by show 3 ≤ sizeLine; decide, fun t ht => ?_⟩
      have x2 : Ex H (L2.upd H5 t (.tup [.str "go", .int ((W.length : Int) - brd W W.length), .int 1])) := Ex.trans e5 (Ex.new ht)
      have g2 : (L2.upd H5 t (.tup [.str "go", .int ((W.length : Int) - brd W W.length), .int 1])) t = some (.tup [.str "go", .int ((W.length : Int) - brd W W.length), .int 1]) := upd_same
      generalize (L2.upd H5 t (.tup [.str "go", .int ((W.length : Int) - brd W W.length), .int 1])) = G0 at x2 g2 ⊢
      refine ⟨_, rfl, by show 2 ≤ sizeLine; decide, fun u hu => ?_⟩
      have x3 : Ex H (L2.upd G0 u (.tup (nV (knP W)))) := x2.trans (Ex.new hu)
      have g3 : (L2.upd G0 u (.tup (nV (knP W)))) t = some (.tup [.str "go", .int ((W.length : Int) - brd W W.length), .int 1]) := Ex.new hu _ _ g2
      have g4 : (L2.upd G0 u (.tup (nV (knP W)))) u = some (.tup (nV (knP W))) := upd_same
      show ∃ a, V.ref u = V.ref a ∧ _
      refine ⟨u, rfl, ⟨nV (knP W), st_of g4⟩, fun D hD => ?_⟩
      replace hD : (L2.upd G0 u (.tup (nV (knP W)))) D = none := hD
      show ∃ W' : Nat → Nat → Hp → Prop, (∃ m, W' 0 m (upd (L2.upd G0 u (.tup (nV (knP W)))) D (.lst []))) ∧ _
      generalize (L2.upd G0 u (.tup (nV (knP W)))) = G at x3 g3 g4 hD ⊢
      have hDH : H D = none := fresh_back x3 hD
      have eBG := eB.trans x3
      have hend : TX true (fz B G) (.ref t) (.go (perN W) 1) := per_go (fz_tup g3)
      refine lc_tup (g := gName 5) (tt := tYes) (vs := [5]) (xs := nV (knP W)) (fun i H6 => ∃ B1 zs, GrowN Tn B H B1 H6 ∧ H6 D = some (.lst zs) ∧ B1 D = none ∧ H6 u = some (.tup (nV (knP W))) ∧ TX true B1 (.ref t) (.go (perN W) 1) ∧ KidX true B1 zs (((knP W).take i).map fun lp => frT L W (boS W) lp (.go (perN W) 1)))
        ⟨fz B G, [], ⟨fz_sub eBG, ExtN.of (x3.trans (Ex.new hD)), (fz_sup eBG).trans (Ex.new hD), TN.ext (x3.trans (Ex.new hD)), fz_nt nB⟩, upd_same, fresh_back (fz_sup eBG) hD, Ex.new hD _ _ g4, hend, .nil⟩ (fun i H6 _ hw => ?_) (fun i x H6 hx hw => ?_) (fun H6 hw => ?_)
      · obtain ⟨B1, zs, _, _, _, h6, _⟩ := hw
        exact st_of h6
      · obtain ⟨B1, zs, gr, hz, bD, h6, he, KX⟩ := hw
        obtain ⟨lp, hlp, rfl⟩ : ∃ lp, (knP W)[i]? = some lp ∧ x = .int (lp : Nat) := by
          unfold nV at hx
          rw [List.getElem?_map] at hx
          cases hc : (knP W)[i]? with
          | none => rw [hc] at hx; cases hx
          | some u =>
            rw [hc] at hx
            exact ⟨u, rfl, (Option.some.inj hx).symm⟩
        have hi := (List.getElem?_eq_some_iff.mp hlp).1
        have hi2 : i < 2 := hi
        have lpw : lp ≤ W.length := by
          have hm := List.mem_of_getElem? hlp
          rcases List.mem_cons.mp hm with z | z
          · omega
          · have z := List.mem_singleton.mp z
            omega
        have lz := KX.len
        rw [List.length_map, List.length_take] at lz
        refine ⟨rfl, _, rfl, _, rfl, _, rfl, _, rfl, L, W, lp, .ref t, .go (perN W) 1, B1, rfl, by omega, by omega, lpw, gr.s, he, gr.t, gr.n, fun B2 H7 v k kl hv => ?_⟩
        have hz7 : H7 D = some (.lst zs) := k.h _ _ hz (fun ps z => by cases z)
        have bD2 : B2 D = none := (kl D zs hz).trans bD
        have gr2 : GrowN Tn B H B2 H7 := ⟨gr.b.trans k.b, gr.h.trans k.h, k.s, k.t, k.n⟩
        have nu : u ≠ D := fun z => by
          rw [z, hD] at g4
          cases g4
        refine ⟨zs, hz7, sz_lt (by omega), B2, zs ++ [v], gr2.work hDH hz7 bD2, upd_same, bD2, (upd_ne nu).trans (k.h _ _ h6 (fun ps z => by cases z)), he.ex k.b, ?_⟩
        rw [take_next' hlp, List.map_append]
        exact KidX.snoc hv (KX.ex k.b)
      · obtain ⟨B1, zs, gr, hz, bD, h6, he, KX⟩ := hw
        rw [show (nV (knP W)).length = (knP W).length by unfold nV; rw [List.length_map], List.take_length] at KX
        refine q (L2.upd B1 D (.lst zs)) _ D zs ⟨gr.b.trans (Ex.new bD), gr.h, fun b o h => ?_, gr.t, fun b ps z => ?_⟩ upd_same ?_
        · by_cases qq : b = D
          · rw [qq, upd_same] at h
            rw [qq, hz]
            exact h
          · rw [upd_ne qq] at h
            exact gr.s _ _ h
        · by_cases qq : b = D
          · rw [qq, upd_same] at z
            cases z
          · rw [upd_ne qq] at z
            exact gr.n b ps z
        · unfold knL
          rw [if_neg hb]
          exact KX.ex (Ex.new bD)
end
end Law

/-! a def within a def that has cells of its own, beside those that it captures -/
namespace NV
open PySem PySem.Spec PyProof.Rows L2 NdefX LamX
section
variable {M : Model} {A : Around} {E : Value → Shared → Prop} {s₀ s : Shared} {m cm : Str → Option Value} {env : Env} {cs : List (Str × Addr)}
theorem stLX {n : Str} {v : Value} {Q : Unit → Shared → Prop} (x : InCallC s₀ env.locals m cs cm s) (hk : env.scope.kind = .function) (hl : env.kindOf n = some .local)
    (h : ∀ s', InCallC s₀ env.locals (fun y => if y = n then some v else m y) cs cm s' → Q () s') : wpAny M A (storeName env n v) Q E s := by
  refine wpAny_storeName_local hl x.toInCall.ns (fun h' a b => h _ ?_) (by rw [hk]; rfl)
  obtain ⟨h₁, tk, e⟩ := x.toInCall.same
  refine ⟨⟨⟨h', _, by rw [e]⟩, a, fun c o q => b.extBut c o (Nat.ne_of_lt (Nat.lt_of_lt_of_le (Heap.lt_size q) x.toInCall.fresh)) (x.toInCall.keep c o q), x.toInCall.fresh⟩, fun k c q => ?_, x.apart, x.above⟩
  exact (x.cell k c q).sameBut b (Nat.ne_of_gt (x.above k c (PySem.mem_of_lookup q)))
theorem stCX {n : Str} {c : Addr} {v : Value} {Q : Unit → Shared → Prop} (x : InCallC s₀ env.locals m cs cm s) (hk : env.scope.kind = .function) (hl : env.kindOf n = some .cell) (hc : cs.lookup n = some c) (hc2 : env.cells.lookup n = some c)
    (h : ∀ s', InCallC s₀ env.locals m cs (fun y => if y = n then some v else cm y) s' → Q () s') : wpAny M A (storeName env n v) Q E s := by
  have lt := x.above n c (PySem.mem_of_lookup hc)
  refine wpAny_storeName_cell hk hl hc2 (x.cell n c hc) fun h' a b => h _ ?_
  obtain ⟨h₁, tk, e⟩ := x.toInCall.same
  refine ⟨⟨⟨h', _, by rw [e]⟩, x.toInCall.ns.sameBut b (Nat.ne_of_lt lt), fun d o q => b.extBut d o (Nat.ne_of_lt (Nat.lt_trans (Nat.lt_of_lt_of_le (Heap.lt_size q) x.toInCall.fresh) lt)) (x.toInCall.keep d o q), x.toInCall.fresh⟩, fun k d q => ?_, x.apart, x.above⟩
  by_cases z : k = n
  · subst z
    rw [hc] at q
    cases q
    simpa using a
  · rw [if_neg z]
    exact (x.cell k d q).sameBut b fun e => z (name_of_addr x.apart (PySem.mem_of_lookup q) (e ▸ PySem.mem_of_lookup hc))
theorem bindX (f : Str × Value → PUnit → Sem (ForInStep PUnit)) (hf : ∀ n v u, f (n, v) u = (do storeName env n v; pure (.yield ⟨⟩))) (hk : env.scope.kind = .function) (hcs : ∀ n c, cs.lookup n = some c → env.cells.lookup n = some c) :
    ∀ (binds : List (Str × Value)) (m cm : Str → Option Value) (s : Shared) (Q : PUnit → Shared → Prop), InCallC s₀ env.locals m cs cm s →
      (∀ x ∈ binds, env.kindOf x.1 = some .local ∨ (env.kindOf x.1 = some .cell ∧ ∃ c, cs.lookup x.1 = some c)) →
      (∀ s', InCallC s₀ env.locals (bindL env.kindOf binds m) cs (bindC env.kindOf binds cm) s' → Q ⟨⟩ s') → wpAny M A (forIn binds ⟨⟩ f) Q E s
  | [], m, cm, s, Q, x, _, h => by
    rw [List.forIn_nil]
    exact wpAny_pure (h s x)
  | (n, v) :: r, m, cm, s, Q, x, hb, h => by
    rw [List.forIn_cons, hf]
    have hr := fun y hy => hb y (List.mem_cons_of_mem _ hy)
    rcases hb (n, v) List.mem_cons_self with hl | ⟨hl, c, hc⟩
    · refine wpAny_bind (wpAny_bind (stLX x hk hl fun s' y => wpAny_pure (bindX f hf hk hcs r _ _ s' Q y hr fun s2 z => h s2 ?_)))
      unfold bindL bindC
      rw [if_pos hl, if_pos hl]
      exact z
    · have nl : ¬ env.kindOf n = some .local := by
        rw [hl]
        decide
      refine wpAny_bind (wpAny_bind (stCX x hk hl hc (hcs _ _ hc) fun s' y => wpAny_pure (bindX f hf hk hcs r _ _ s' Q y hr fun s2 z => h s2 ?_)))
      unfold bindL bindC
      rw [if_neg nl, if_neg nl]
      exact z
end
theorem look_app {own cl : List (Str × Addr)} {n : Str} {c : Addr} (h : own.lookup n = some c) : (own ++ cl).lookup n = some c := by
  rw [List.lookup_append, h]
  rfl
theorem look_app2 {own cl : List (Str × Addr)} {n : Str} (h : own.lookup n = none) : (own ++ cl).lookup n = cl.lookup n := by
  rw [List.lookup_append, h]
  rfl
theorem newEnvX {M : Model} {A : Around} {E : Value → Shared → Prop} {s : Shared} {scope : Scope} {globals : Addr} {cl : List (Str × Addr)} {binds : List (Str × Value)} {qual : Str} {func : Option Addr} {code : Value} {builtins : Addr} {Q : Env → Shared → Prop}
    (hk : scope.kind = .function)
    (hb : ∀ x ∈ binds, scope.names.lookup x.1 = some .local ∨ (scope.names.lookup x.1 = some .cell ∧ ∃ c, (cellsFrom (s.heap.objs.size + 1) scope.names []).lookup x.1 = some c))
    (hQ : ∀ env, env = newEnv scope s.heap.objs.size globals (cellsFrom (s.heap.objs.size + 1) scope.names [] ++ cl) qual func code none builtins →
      ∀ s', InCallC s env.locals (bindL env.kindOf binds fun _ => none) (cellsFrom (s.heap.objs.size + 1) scope.names []) (bindC env.kindOf binds fun _ => none) s' → Q env s') :
    wpAny M A (newFunctionEnv scope globals cl binds qual func code none builtins) Q E s := by
  simp only [newFunctionEnv, Option.isSome_none, Bool.false_eq_true, if_false]
  refine wpAny_bind (wpAny_alloc ?_)
  refine wpAny_bind (wpAny_layCells _ (fun name kind cells => by cases q : kind == NameKind.cell <;> simp [q]) _ _ _ _ ?_)
  have ok := cellsFrom_ok scope.names (s.heap.push { cls := .type "frame", data := .dict #[] }) (s.heap.objs.size + 1) [] ⟨fun _ _ z => (nomatch z), List.Pairwise.nil⟩ (by rw [Heap.size_push]; exact Nat.le_refl _)
  rw [Heap.size_push] at ok
  rw [show ({ s with heap := s.heap.push { cls := .type "frame", data := .dict #[] } } : Shared).heap.objs.size = s.heap.objs.size + 1 from Heap.size_push .., cellsFrom_over]
  refine wpAny_bind (bindX (s₀ := s) (env := newEnv scope s.heap.objs.size globals (cellsFrom (s.heap.objs.size + 1) scope.names [] ++ cl) qual func code none builtins) _ (fun _ _ _ => rfl) hk (fun _ _ => look_app) binds (fun _ => none) (fun _ => none) _ _
    ⟨⟨⟨_, _, rfl⟩, (Heap.Ns.new s.heap (.type "frame")).keeps (pushCells_keeps _ _), fun b o e => pushCells_keeps _ _ b o (Heap.get?_push_of_some _ e), Nat.le_refl _⟩, fun n c z => (ok.empty n c (PySem.mem_of_lookup z)).1, ok.apart, fun n c z => (ok.empty n c z).2⟩
    hb fun s' x => wpAny_pure (hQ _ rfl s' x))
theorem own_mem : ∀ (names : List (Str × NameKind)) (n : Nat) (acc : List (Str × Addr)) (y : Str) (c : Addr), (y, c) ∈ cellsFrom n names acc → (y, NameKind.cell) ∈ names ∨ (y, c) ∈ acc
  | [], _, _, _, _, h => .inr h
  | (name, kind) :: r, n, acc, y, c, h => by
    unfold cellsFrom at h
    split at h
    · next k =>
      rcases own_mem r (n + 1) ((name, n) :: acc) y c h with z | z
      · exact .inl (List.mem_cons_of_mem _ z)
      · rcases List.mem_cons.mp z with z | z
        · cases z
          rw [beq_iff_eq] at k
          rw [k]
          exact .inl List.mem_cons_self
        · exact .inr z
    · rcases own_mem r n acc y c h with z | z
      · exact .inl (List.mem_cons_of_mem _ z)
      · exact .inr z
/-- the scope of a def within a def, with cells of its own -/
structure CScope (N ps fr : List Str) (sc : Scope) : Prop where
  kind : sc.kind = .function
  co : sc.isCoroutine = false
  gen : sc.isGenerator = false
  nd : N.Nodup
  pre : N.take (ps.length + fr.length) = ps ++ fr
  par : ∀ x ∈ ps, sc.names.lookup x = some .local ∨ sc.names.lookup x = some .cell
  free : ∀ y ∈ sc.names, y.2 = .free → y.1 ∈ fr
  frk : ∀ x ∈ fr, sc.names.lookup x = some .free
  sep : ∀ x ∈ fr, (x, NameKind.cell) ∉ sc.names
abbrev ownC (F : NF) (L : Addr) : List (Str × Addr) := cellsFrom (L + 1) F.scope.names []
abbrev envC (F : NF) (f L : Addr) : Env := PySem.W.envX F.qual F.scope L f (.ref F.c) (ownC F L ++ F.cl)
/-- the context of its body -/
def ncxC (CX : CXT) (P : Program) (w : World) (K : PySem.W.Frag) (mg : Str → Option Value) (base : Heap) (N : List Str) (F : NF) (f : Addr) (A : Around) (outer : List Env) (s : Shared) (H : Hp) (E : XK) : Cx where
  prog := P
  w := w
  K := K
  mg := mg
  base := base
  A := A.deeper (envC F f s.heap.objs.size)
  N := N
  s_0 := s
  H_0 := H
  env := envC F f s.heap.objs.size
  outer := outer
  stack := envC F f s.heap.objs.size :: outer
  ex := []
  calm := true
  fn := fun _ => false
  pn := []
  xe := fun e s' => wpAny (model P w) (A.deeper (envC F f s.heap.objs.size)) (leaving (envC F f s.heap.objs.size) e) (fun _ s'' => CX outer H s E e s'') (fun e' s'' => CX outer H s E e' s'') s'
section
variable {CX : CXT} {P : Program} {w : World} {K : PySem.W.Frag} {mg : Str → Option Value} {base : Heap} {N ps fr : List Str} {F : NF} {f : Addr} {A : Around} {outer : List Env} {s s1 : Shared} {H : Hp} {E : XK} {us : List Value} {vs : List V} {ws : List (Option V)} {k : Nat} {sp : List (Option V) → Sp}
theorem inv_startC (S : CScope N ps fr F.scope) (hd : A.handled = none) (e0 : Env0 P w K mg base A outer s H) (hl : vs.length = ps.length) (r : Vals vs us) (C : CellsAt F.cl fr ws s.heap H)
    (x : InCallC s s.heap.objs.size (bindL (envC F f s.heap.objs.size).kindOf (ps.zip us) fun _ => none) (ownC F s.heap.objs.size) (bindC (envC F f s.heap.objs.size).kindOf (ps.zip us) fun _ => none) s1) :
    Inv (ncxC CX P w K mg base N F f A outer s H E) [] (startF N vs ws) H s1 := by
  have hpl : ps.length + fr.length ≤ N.length := by
    have q := congrArg List.length S.pre
    rw [List.length_take, List.length_append] at q
    omega
  obtain ⟨h1, tk, rfl, kp⟩ := x.done
  have noA : ∀ b : Addr, b ∉ (ncxC CX P w K mg base N F f A outer s H E).ex := fun b z => absurd (show b ∈ ([] : List Addr) from z) (by simp)
  have cellK : ∀ {c : Addr} {v : Option Value}, s.heap.IsCell c v → h1.IsCell c v := fun {c v} ⟨o, ho, hd⟩ => ⟨o, kp _ _ ho, hd⟩
  have up : ∀ {y c}, (ownC F s.heap.objs.size).lookup y = some c → s.heap.objs.size < c := fun h => x.above _ _ (PySem.mem_of_lookup h)
  have dn : ∀ {y c}, F.cl.lookup y = some c → c < s.heap.objs.size := fun h => by
    obtain ⟨v, o, ho, _⟩ := (C.all _ _ h).2
    exact Heap.lt_size ho
  have two : ∀ {y c}, (ownC F s.heap.objs.size ++ F.cl).lookup y = some c → (ownC F s.heap.objs.size).lookup y = some c ∨ ((ownC F s.heap.objs.size).lookup y = none ∧ F.cl.lookup y = some c) := fun {y c} h => by
    cases q : (ownC F s.heap.objs.size).lookup y with
    | some d => rw [look_app q] at h; cases h; exact .inl rfl
    | none => rw [look_app2 q] at h; exact .inr ⟨rfl, h⟩
  have fre : ∀ {y}, y ∈ fr → (ownC F s.heap.objs.size).lookup y = none := fun {y} hy => by
    cases q : (ownC F s.heap.objs.size).lookup y with
    | none => rfl
    | some d =>
      rcases own_mem _ _ _ _ _ (PySem.mem_of_lookup q) with z | z
      · exact absurd z (S.sep y hy)
      · cases z
  refine ⟨⟨e0.mod, S.kind, rfl, rfl, Nat.le_refl _, fun y z c h1 h2 => ?_, fun y hy => ?_, fun y c z _ => ?_, fun _ => hd, Around.frames_deeper e0.frames, .inr ⟨rfl, rfl⟩, fun b z => absurd z (noA b), e0.bs, e0.bsz, fun b _ _ => noA b,
      fun b z => absurd z (noA b), e0.funs, e0.frf⟩,
    rfl, e0.bare, Un.kept kp, ⟨_, x.toInCall.ns, fun i y v e1 e2 e3 => ?_⟩, fun y c e => ?_, e0.hok.fresh (Nat.le_refl _), fun y c e => ?_, fun q hq => absurd (show q ∈ ([] : List (Addr × Obj)) ++ [] from hq) (by simp), e0.hok.kept kp, ?_⟩
  · rcases two h1 with a | ⟨_, a⟩ <;> rcases two h2 with b | ⟨_, b⟩
    · exact name_of_addr x.apart (PySem.mem_of_lookup a) (PySem.mem_of_lookup b)
    · exact absurd (up a) (Nat.not_lt.mpr (Nat.le_of_lt (dn b)))
    · exact absurd (up b) (Nat.not_lt.mpr (Nat.le_of_lt (dn a)))
    · exact C.inj _ _ _ a b
  · have hy : F.scope.names.lookup y = some .cell ∨ F.scope.names.lookup y = some .free := hy
    rcases hy with hy | hy
    · obtain ⟨c, hc⟩ := cell_has (n := s.heap.objs.size + 1) hy
      exact ⟨c, look_app hc⟩
    · have hf := S.free _ (PySem.mem_of_lookup hy) rfl
      obtain ⟨i, hi⟩ := List.mem_iff_getElem?.mp hf
      obtain ⟨c, hc, _⟩ := C.has i y hi
      exact ⟨c, (look_app2 (fre hf)).trans hc⟩
  · have z : false = true := z
    cases z
  · have e1 : N[i]? = some y := e1
    have clen := C.len
    unfold startF at e2
    by_cases h1 : i < ps.length
    · have hq : (ps ++ fr)[i]? = some y := by
        rw [← S.pre, List.getElem?_take_of_lt (by omega)]
        exact e1
      rw [List.getElem?_append_left h1] at hq
      rw [List.getElem?_append_left (by rw [List.length_map]; omega), List.getElem?_map] at e2
      have ha : vs[i]? = some v := by
        cases e : vs[i]? with
        | none => rw [e] at e2; cases e2
        | some a => rw [e] at e2; cases e2; rfl
      obtain ⟨u, hu, rv⟩ := r.get ha
      have ndP : ps.Nodup := by
        have q := S.nd.sublist (List.take_sublist (ps.length + fr.length) N)
        rw [S.pre] at q
        exact (List.nodup_append.mp q).1
      refine ⟨u, rv, ?_⟩
      rcases S.par y (List.mem_of_getElem? hq) with q | q
      · exact .inl ⟨q, bindL_get ndP hq hu q⟩
      · obtain ⟨c, e⟩ := cell_has (n := s.heap.objs.size + 1) q
        refine .inr ⟨.inl q, c, look_app e, ?_⟩
        have w1 := x.cell y c e
        rw [bindC_get ndP hq hu (by show F.scope.names.lookup y ≠ _; rw [q]; decide)] at w1
        exact w1
    · rw [List.getElem?_append_right (by rw [List.length_map]; omega), List.length_map] at e2
      by_cases h2 : i < ps.length + fr.length
      · have hq : (ps ++ fr)[i]? = some y := by
          rw [← S.pre, List.getElem?_take_of_lt (by omega)]
          exact e1
        rw [List.getElem?_append_right (by omega)] at hq
        rw [List.getElem?_append_left (by omega), hl] at e2
        obtain ⟨c, hc, hv⟩ := C.has (i - ps.length) y hq
        obtain ⟨u, ru, hu⟩ := hv v e2
        have hm := List.mem_of_getElem? hq
        exact ⟨u, ru, .inr ⟨.inr (S.frk y hm), c, (look_app2 (fre hm)).trans hc, cellK hu⟩⟩
      · rw [List.getElem?_append_right (by omega), List.getElem?_replicate] at e2
        split at e2 <;> cases e2
  · rcases two e with a | ⟨_, a⟩
    · exact ⟨_, x.cell _ _ a⟩
    · obtain ⟨v, z⟩ := (C.all y c a).2
      exact ⟨v, cellK z⟩
  · rcases two e with a | ⟨_, a⟩
    · exact e0.hok.fresh (Nat.le_of_lt (up a))
    · exact (C.all y c a).1
  · have clen := C.len
    unfold startF
    show _ = N.length
    rw [List.length_append, List.length_append, List.length_map, List.length_replicate]
    omega
/-- a def within a def, by its body -/
theorem nok_ofC (S : CScope N ps fr F.scope) (hb : ∀ (doc pm ctv : Value) (us : List Value), us.length = ps.length → bindArgs (F.fd doc pm ctv) ⟨us, []⟩ = pure (ps.zip us)) (len : ∀ ws vs H Q E, sp ws vs H Q E → vs.length = ps.length)
    (hbody : ∀ (A : Around) (outer : List Env) (s : Shared) (H : Hp) (vs : List V) (ws : List (Option V)) (Q : VK) (E : XK), Room k (A.deeper (envC F f s.heap.objs.size)) → H f = some (FnO f F) → H F.c = some (CodeO F.c F.qual) → ws.length = fr.length → sp ws vs H Q E →
      ∃ t, PSs (ncxC CX P w K mg base N F f A outer s H E) F.body t ∧ t { nx := fun _ H' => Q .non H', rt := Q } (startF N vs ws) H) :
    NOk P w K mg base CX (k + 1) f F ps fr sp := by
  refine ⟨len, fun A outer s H us vs ws Q E hr e0 hf hc C r hsp => ?_⟩
  have hl := len _ _ _ _ _ hsp
  have lim : s.heap.NoLimit := e0.mod.nolimit.keeps fun b o e => (e0.bs b o e).1
  obtain ⟨od, sl, doc, pm, ctv, ho⟩ := fnO_at e0.hok hf
  refine codeAny_call_function hr.depth ho rfl S.co S.gen rfl (codeO_at e0.hok hc) ?_
  rw [hb doc pm ctv us (by rw [← r.length]; exact hl)]
  refine wpAny_pure (newEnvX S.kind (fun ⟨n, _⟩ hy => ?_) fun env he s1 x => ?_)
  · rcases S.par n (List.of_mem_zip hy).1 with q | q
    · exact .inl q
    · exact .inr ⟨q, cell_has q⟩
  subst he
  refine ⟨lim.keeps x.toInCall.keep, ?_⟩
  show codeAny _ _ (.func F.body (envC F f s.heap.objs.size)) _ _
  refine codeAny_func ?_
  obtain ⟨t, ht, hq⟩ := hbody A outer s H vs ws Q E (hr.deeper _) hf hc C.len hsp
  have I : Inv (ncxC CX P w K mg base N F f A outer s H E) [] (startF N vs ws) H s1 := inv_startC S hr.hd e0 hl r C x
  refine wpAny_mono (ht.run [] _ (startF N vs ws) H _ I hq) (fun fl s' hs => ?_) fun e s' hs => hs
  have fin : ∀ {σ' : L2.St} {H' : Hp} {v : V} {u : Value}, Inv (ncxC CX P w K mg base N F f A outer s H E) [] σ' H' s' → L2.RelV v u → Q v H' → CE outer P w H s Q u s' :=
    fun {σ' H' v u} J rv q => ⟨v, H', J.os, J.bare, J.base, J.hok, rv, q⟩
  cases fl with
  | ret u =>
    obtain ⟨v, σ', H', J, rv, q⟩ := hs
    exact fin J rv q
  | next =>
    obtain ⟨σ', H', J, q⟩ := hs
    exact fin (v := V.non) (u := Value.none) J rfl q
  | brk =>
    obtain ⟨_, _, _, q⟩ := hs
    exact False.elim q
  | cont =>
    obtain ⟨_, _, _, q⟩ := hs
    exact False.elim q
end
end NV

namespace Law
open PySem PySem.Spec PyProof.Rows L2 Evl TR NdefX LamX
abbrev u_sb : Stmt := (defBody s_by_strict_borders).getD 1 (.Pass ⟨0, 0, 0, 0⟩)
abbrev N_sb : List Str := ["letters", "word", "borders", "unlike"]
theorem sc_sb : FnScope N_sb ["letters", "word"] (defScope s_by_strict_borders) := ⟨rfl, rfl, rfl, by decide +kernel, rfl, by decide +kernel, by decide +kernel⟩
abbrev N_sbU : List Str := ["place", "_", "word", "borders", "steps", "step"]
theorem sc_sbU : NV.CScope N_sbU ["place", "_"] ["word", "borders"] (C8.fnScope u_sb) := ⟨rfl, rfl, rfl, by decide +kernel, rfl, by decide +kernel, by decide +kernel, by decide +kernel, by decide +kernel⟩
theorem nd_sb : ndefB (defScope s_by_strict_borders) (C8.fnScope u_sb) ["word", "borders"] = true := by decide +kernel
/-- the first step down at which the test holds -/
def fstS (W : List Nat) (t : Int → Bool) (p : Nat) : Int := ((chn W p).filter t).headD (-1)
theorem fstS_at {W : List Nat} {t : Int → Bool} {p : Nat} (h : t (-1) = true) : ∃ r, (chn W p).filter t = fstS W t p :: r ∧ fstS W t p < p ∧ -1 ≤ fstS W t p := by
  obtain ⟨k1, k2⟩ := chnF_mem (W := W) (p + 1) p (Nat.lt_succ_self p)
  unfold fstS
  cases e : (chn W p).filter t with
  | nil =>
    have : (-1 : Int) ∈ (chn W p).filter t := List.mem_filter.mpr ⟨k2, h⟩
    rw [e] at this
    cases this
  | cons x r =>
    refine ⟨r, rfl, ?_⟩
    have : x ∈ (chn W p).filter t := by
      rw [e]
      exact List.mem_cons_self
    exact k1 x (List.mem_filter.mp this).1
def sbT (W : List Nat) (p : Nat) (x : Int) : Bool := decide (x = -1) || !decide (V.str (sg (W.getD x.toNat 0)) = V.str (sg (W.getD p 0)))
def U_sb (W : List Nat) (p _ : Nat) : Tr := .go ((p : Int) - fstS W (sbT W p) p).toNat (fstS W (sbT W p) p).toNat
section
variable {P : Program} {w : World} {K : PySem.W.Frag} {mg : Str → Option Value} {base : Heap}
theorem nok_sb (T : Tx mg) (c_steps_down : Kn P w K mg base "_steps_down" ["borders", "size"] 1 spStep) {f c' bl : Addr} {qn : Str} {cl : List (Str × Addr)} {L W : List Nat} {H0 : Hp} (hW : W.length ≤ 100) : NOk P w K mg base C8.CX0 9 f (NF.of u_sb "unlike" qn cl c') ["place", "_"] ["word", "borders"]
    (fun ws' vs H Q _ => ws' = [V.str (tx W), V.ref bl].map some ∧ vs.length = 2 ∧ preU L W vs ∧ H bl = some (.lst (brdV W (W.length + 1))) ∧ ∀ v H', (∀ b o, H b = some o → H' b = some o) → RU L W (U_sb W) H0 vs H' v → Q v H') := by
  refine NV.nok_ofC (k := 8) sc_sbU (fun doc pm ctv us hl => match us, hl with | [_, _], _ => rfl) (fun ws vs H Q E h => h.2.1) (fun A outer s H vs ws Q E hr hf hc hw h => ?_)
  obtain ⟨rfl, h2, ⟨p, c, rfl, hp, hcL⟩, hbl, q⟩ := h
  refine ⟨_, (pss_cons (ps_setLc (i := 4) (own := [("step", 5)]) (g := gName 5) rfl sc_sbU.nd rfl rfl (sw_true rfl rfl rfl (by decide +kernel)) (pi_list (pe_call c_steps_down.ok (hr.mono (by decide)) (by rfl) c_steps_down.g c_steps_down.kp c_steps_down.b .nil pass0 (pa_cons (pv 3) (pa_cons (pv 0) pa_nil))))
      (blkOk_by (N := N_sbU) (sc := C8.fnScope u_sb) (by decide +kernel)) (fun _ _ _ _ _ => (pg_name (i := 5) sc_sbU.nd rfl (Or.inl rfl)))
      (fun _ _ _ _ _ => (pts_one (PW.pt (pw_or (pt_cmpR op_eq (pv 5) (pe_un un_neg pe_int) (nomark _)) (pw_or1 (pt_cmpR op_ne (pe_ix ix_str (pv 2) (pv 5) (fun _ _ => rfl)) (pe_ix ix_str (pv 2) (pv 0) (fun _ _ => rfl)) (nomark _)))))))
      (fun _ _ _ _ _ => (pv 5)))
    (pss_one (ps_ret (pe_tup (pa_cons pe_str (pa_cons (pe_op op_sub (pv 0) (pe_ix ix_list (pv 4) pe_int (fun _ _ => rfl))) (pa_cons (pe_callB (call_max2 rfl) (by rfl) T.max (by decide +kernel) (pa_cons pe_int (pa_cons (pe_ix ix_list (pv 4) pe_int (fun _ _ => rfl)) pa_nil))) pa_nil))))))), ?_⟩
  refine ⟨_, rfl, _, rfl, bl, W, W.length + 1, p, rfl, hbl, by omega, by omega, fun sl H1 e1 hs0 hsl => ?_⟩
  refine ⟨sl, rfl, ⟨_, sq_of hsl⟩, fun D hD => ?_⟩
  obtain ⟨k1, k2⟩ := chnF_mem (W := W) (p + 1) p (Nat.lt_succ_self p)
  have kl : (chn W p).length ≤ p + 1 := chn_len _ _
  refine lc_list (g := gName 5) (vs := [5]) (fun i H6 => Ex H1 H6 ∧ H6 D = some (.lst (zV (((chn W p).take i).filter (sbT W p))))) ⟨Ex.new hD, upd_same⟩ (fun i H6 _ hw => sq_of (hw.1 _ _ hsl)) (fun i x H6 hx hw => ?_) (fun H6 hw => ?_)
  · obtain ⟨e6, hz⟩ := hw
    obtain ⟨y, hy, rfl⟩ : ∃ y, (chn W p)[i]? = some y ∧ x = .int y := by
      unfold zV at hx
      rw [List.getElem?_map] at hx
      cases hc : (chn W p)[i]? with
      | none => rw [hc] at hx; cases hx
      | some u =>
        rw [hc] at hx
        exact ⟨u, rfl, (Option.some.inj hx).symm⟩
    have hi := (List.getElem?_eq_some_iff.mp hy).1
    have hm := k1 y (List.mem_of_getElem? hy)
    have ln : (zV (((chn W p).take i).filter (sbT W p))).length ≤ i := by
      unfold zV
      rw [List.length_map]
      exact Nat.le_trans (List.length_filter_le _ _) (by rw [List.length_take]; omega)
    have yes : sbT W p y = true → upd H6 D (.lst (zV (((chn W p).take i).filter (sbT W p)) ++ [.int y])) D = some (.lst (zV (((chn W p).take (i + 1)).filter (sbT W p)))) := fun h => by
      rw [upd_same, take_next' hy, List.filter_append, show [y].filter (sbT W p) = [y] by rw [List.filter_cons_of_pos h]; rfl]
      unfold zV
      rw [List.map_append]
      rfl
    have no : sbT W p y = false → H6 D = some (.lst (zV (((chn W p).take (i + 1)).filter (sbT W p)))) := fun h => by
      rw [take_next' hy, List.filter_append, show [y].filter (sbT W p) = [] by rw [List.filter_cons_of_neg (by rw [h]; decide)]; rfl, List.append_nil]
      exact hz
    refine ⟨rfl, _, rfl, 1, rfl, rfl, _, rfl, ?_⟩
    by_cases c1 : y = -1
    · refine iteD (by rw [c1]) ?_
      refine (if_pos rfl).mpr ?_
      exact ⟨_, rfl, _, hz, sz_lt (by omega), e6.mut hD, yes (by unfold sbT; rw [decide_eq_true c1]; rfl)⟩
    · refine iteDn (fun z => c1 (by injection z)) ?_
      have hgt : ∀ {n : Nat}, n < W.length → atI (tx W).cps.toList (n : Int) = some (W.getD n 0) := fun {n} h => atI_nat (by
        rw [tx_list, List.getElem?_eq_getElem h, List.getD_eq_getElem?_getD, List.getElem?_eq_getElem h]
        rfl)
      have ey : y = ((y.toNat : Nat) : Int) := by rw [Int.toNat_of_nonneg (by omega)]
      refine ⟨_, rfl, _, rfl, _, _, W.getD y.toNat 0, rfl, rfl, tx_le (by omega), by rw [ey]; exact hgt (by omega), _, rfl, _, rfl, _, _, W.getD p 0, rfl, rfl, tx_le (by omega), hgt hp, rfl, _, rfl, ?_⟩
      by_cases c2 : V.str (sg (W.getD y.toNat 0)) = V.str (sg (W.getD p 0))
      · refine iteNn' c2 ?_
        exact ⟨e6, no (by unfold sbT; rw [decide_eq_false c1, decide_eq_true c2]; rfl)⟩
      · refine iteN' c2 ?_
        exact ⟨_, rfl, _, hz, sz_lt (by omega), e6.mut hD, yes (by unfold sbT; rw [decide_eq_false c1, decide_eq_false c2]; rfl)⟩
  · obtain ⟨e6, hz⟩ := hw
    rw [show (zV (chn W p)).length = (chn W p).length by unfold zV; rw [List.length_map], List.take_length] at hz
    obtain ⟨r, er, f1, f2⟩ := fstS_at (W := W) (t := sbT W p) (p := p) (by unfold sbT; rfl)
    rw [er] at hz
    have hat : atI (zV (fstS W (sbT W p) p :: r)) 0 = some (.int (fstS W (sbT W p) p)) := atI_nat (j := 0) rfl
    refine ⟨_, rfl, _, rfl, D, _, _, _, rfl, rfl, sq_of hz, hat, _, _, rfl, rfl, _, rfl, D, _, _, _, rfl, rfl, sq_of hz, hat, _, _, rfl, by show 3 ≤ sizeLine; decide, fun t ht => q _ _ (Ex.trans e1 (Ex.trans e6 (Ex.new ht))) fun p' c' e => ?_⟩
    have ep : p = p' := by
      injection e with e1 _
      injection e1 with e1
      exact Int.ofNat_inj.mp e1
    subst ep
    refine .inl (.go ?_)
    rw [upd_same]
    show some (HO.tup [_, V.int _, V.int _]) = some (HO.tup [_, V.int _, V.int _])
    rw [Int.toNat_of_nonneg (show 0 ≤ (p : Int) - fstS W (sbT W p) p by omega)]
    have e2 : (if fstS W (sbT W p) p > 0 then fstS W (sbT W p) p else 0) = ((fstS W (sbT W p) p).toNat : Int) := by
      split <;> omega
    rw [e2]
theorem ok_sb {f cd Pt : Addr} {fd : FuncData} (F : FunC K "_by_strict_borders" "_by_strict_borders" s_by_strict_borders f fd cd) (T : Tx mg) (TB : TabB base mg cd Pt) {Tn : List NTab} (hm : (Pt, fun _ _ => ("_by_strict_borders.<locals>.unlike" : Str)) ∈ Tn) (hu : ∀ p ∈ Tn, p.1 = Pt → p.2 = fun _ _ => ("_by_strict_borders.<locals>.unlike" : Str))
    (c_borders : Kn P w K mg base "_borders" ["word"] 1 spBrd) (c_steps_down : Kn P w K mg base "_steps_down" ["borders", "size"] 1 spStep) (c_from_left : Kn P w K mg base "_from_left" ["letters", "word", "unlike"] 11 (spFL P w K mg base)) : FnOk P w K mg base CX0 12 f fd ["letters", "word"] (spMk Tn fun L W => fromL L W (U_sb W)) := by
  refine okC F sc_sb (fun vs H Q E h => ?_) (fun A outer s H vs Q E hr h => ?_)
  · obtain ⟨L, W, B, rfl, _⟩ := h
    rfl
  · obtain ⟨L, W, B, rfl, hL, w1, w8, hWL, eB, TN, nB, q⟩ := h
    have hL4 := hL.hi
    refine ⟨_, (pss_cons (ps_set (i := 2) sc_sb.nd rfl (Or.inr rfl) (pe_call c_borders.ok (hr.mono (by decide)) (by rfl) c_borders.g c_borders.kp c_borders.b .nil pass0 (pa_cons (pv 1) pa_nil)))
      (pss_cons (ps_ndefS (st := u_sb) (T := Tn) (i := 3) (nm := fun _ _ => ("_by_strict_borders.<locals>.unlike" : Str)) rfl TB rfl hm (by rfl) hu (ndef_free nd_sb) rfl rfl (by rfl) sc_sb.nd rfl (Or.inl rfl) (Or.inl rfl))
      (pss_one (ps_ret (NV.pe_callL (fr := ["word", "borders"]) (js := [1, 2]) c_from_left.ok (hr.mono (by decide)) (by rfl) c_from_left.g c_from_left.kp c_from_left.b (fun ok => Caps.made (scope := C8.fnScope u_sb) ok (ndef_free nd_sb) (ndef_fr nd_sb) rfl) (fun _ => rfl) (pa_cons (pv 0) (pa_cons (pv 1) (pa_cons (pv 3) pa_nil)))))))), ?_⟩
    refine ⟨_, rfl, W, rfl, by omega, fun bl H1 e1 hb0 hbl => ?_⟩
    refine ⟨TN.ext e1, fun fu c' H2 eN T2 hf0 hfu hco => ?_⟩
    have eN2 : ExtN H H2 := (ExtN.of e1).trans eN
    have hbl2 : H2 bl = some (.lst (brdV W (W.length + 1))) := eN bl _ hbl (fun ps z => by cases z)
    have eB2 : Ex B H2 := fun b o h => eN2 b o (eB _ _ h) fun ps z => nB b ps (by rw [h, z])
    refine ⟨_, rfl, _, rfl, _, rfl, [.str (tx W), .ref bl], rfl, fun H3 e3 CV hc => ?_⟩
    have cell : ∀ b ∈ NV.cells (cloFrom (cxOf CX0 P w K mg base N_sb "_by_strict_borders" (defScope s_by_strict_borders) f (.ref cd) A outer s H E).nox.env.cells (C8.fnScope u_sb).names []), ∃ φ, H3 b = some (.ext φ) := fun b hb => by
      obtain ⟨y, hy⟩ := NV.cells_mem.mp hb
      obtain ⟨o, v, h, _⟩ := CV.all y b hy
      exact ⟨_, h⟩
    have nbl : bl ∉ NV.cells (cloFrom (cxOf CX0 P w K mg base N_sb "_by_strict_borders" (defScope s_by_strict_borders) f (.ref cd) A outer s H E).nox.env.cells (C8.fnScope u_sb).names []) := fun hb => by
      have := hc bl hb
      rw [hbl2] at this
      cases this
    refine ⟨L, W, fu, U_sb W, B, B, rfl, by omega, w1, by omega, Ex.refl _, eB2.trans e3, ⟨RU.mono, _, ["word", "borders"], ["place", "_"], [.str (tx W), .ref bl], fun H => H bl = some (.lst (brdV W (W.length + 1))), e3 _ _ hfu, e3 _ _ hco, CV, rfl, (NV.drop_out nbl).trans (e3 _ _ hbl2), fun H H' e h => e _ _ h, nok_sb T c_steps_down (by omega)⟩, fun B' H' r us g hr2 KX => ?_⟩
    obtain ⟨g1, g2, g3⟩ := grow_back eB nB eN2 T2 hc e3 cell g hr2 KX
    exact ⟨ExtN.of g.h, q _ _ _ _ g1 g2 g3⟩
end
end Law

namespace Law
open PySem PySem.Spec PyProof.Rows L2 Evl TR NdefX LamX
abbrev u_lt : Stmt := (defBody s_by_letters).getD 1 (.Pass ⟨0, 0, 0, 0⟩)
abbrev N_lt : List Str := ["letters", "word", "borders", "unlike"]
theorem sc_lt : FnScope N_lt ["letters", "word"] (defScope s_by_letters) := ⟨rfl, rfl, rfl, by decide +kernel, rfl, by decide +kernel, by decide +kernel⟩
abbrev N_ltU : List Str := ["place", "letter", "word", "borders", "steps", "step"]
theorem sc_ltU : NV.CScope N_ltU ["place", "letter"] ["word", "borders"] (C8.fnScope u_lt) := ⟨rfl, rfl, rfl, by decide +kernel, rfl, by decide +kernel, by decide +kernel, by decide +kernel, by decide +kernel⟩
theorem nd_lt : ndefB (defScope s_by_letters) (C8.fnScope u_lt) ["word", "borders"] = true := by decide +kernel
def ltT (W : List Nat) (c : Nat) (x : Int) : Bool := decide (x = -1) || decide (V.str (sg (W.getD x.toNat 0)) = V.str (sg c))
def U_lt (W : List Nat) (p c : Nat) : Tr := .go ((p : Int) - fstS W (ltT W c) p).toNat (fstS W (ltT W c) p + 1).toNat
section
variable {P : Program} {w : World} {K : PySem.W.Frag} {mg : Str → Option Value} {base : Heap}
theorem nok_lt (T : Tx mg) (c_steps_down : Kn P w K mg base "_steps_down" ["borders", "size"] 1 spStep) {f c' bl : Addr} {qn : Str} {cl : List (Str × Addr)} {L W : List Nat} {H0 : Hp} (hW : W.length ≤ 100) : NOk P w K mg base C8.CX0 9 f (NF.of u_lt "unlike" qn cl c') ["place", "letter"] ["word", "borders"]
    (fun ws' vs H Q _ => ws' = [V.str (tx W), V.ref bl].map some ∧ vs.length = 2 ∧ preU L W vs ∧ H bl = some (.lst (brdV W (W.length + 1))) ∧ ∀ v H', (∀ b o, H b = some o → H' b = some o) → RU L W (U_lt W) H0 vs H' v → Q v H') := by
  refine NV.nok_ofC (k := 8) sc_ltU (fun doc pm ctv us hl => match us, hl with | [_, _], _ => rfl) (fun ws vs H Q E h => h.2.1) (fun A outer s H vs ws Q E hr hf hc hw h => ?_)
  obtain ⟨rfl, h2, ⟨p, c, rfl, hp, hcL⟩, hbl, q⟩ := h
  refine ⟨_, (pss_cons (ps_setLc (i := 4) (own := [("step", 5)]) (g := gName 5) rfl sc_ltU.nd rfl rfl (sw_true rfl rfl rfl (by decide +kernel)) (pi_list (pe_call c_steps_down.ok (hr.mono (by decide)) (by rfl) c_steps_down.g c_steps_down.kp c_steps_down.b .nil pass0 (pa_cons (pv 3) (pa_cons (pv 0) pa_nil))))
      (blkOk_by (N := N_ltU) (sc := C8.fnScope u_lt) (by decide +kernel)) (fun _ _ _ _ _ => (pg_name (i := 5) sc_ltU.nd rfl (Or.inl rfl)))
      (fun _ _ _ _ _ => (pts_one (PW.pt (pw_or (pt_cmpR op_eq (pv 5) (pe_un un_neg pe_int) (nomark _)) (pw_or1 (pt_cmpR op_eq (pe_ix ix_str (pv 2) (pv 5) (fun _ _ => rfl)) (pv 1) (nomark _)))))))
      (fun _ _ _ _ _ => (pv 5)))
    (pss_one (ps_ret (pe_tup (pa_cons pe_str (pa_cons (pe_op op_sub (pv 0) (pe_ix ix_list (pv 4) pe_int (fun _ _ => rfl))) (pa_cons (pe_op op_add (pe_ix ix_list (pv 4) pe_int (fun _ _ => rfl)) pe_int) pa_nil))))))), ?_⟩
  refine ⟨_, rfl, _, rfl, bl, W, W.length + 1, p, rfl, hbl, by omega, by omega, fun sl H1 e1 hs0 hsl => ?_⟩
  refine ⟨sl, rfl, ⟨_, sq_of hsl⟩, fun D hD => ?_⟩
  obtain ⟨k1, k2⟩ := chnF_mem (W := W) (p + 1) p (Nat.lt_succ_self p)
  have kl : (chn W p).length ≤ p + 1 := chn_len _ _
  refine lc_list (g := gName 5) (vs := [5]) (fun i H6 => Ex H1 H6 ∧ H6 D = some (.lst (zV (((chn W p).take i).filter (ltT W c))))) ⟨Ex.new hD, upd_same⟩ (fun i H6 _ hw => sq_of (hw.1 _ _ hsl)) (fun i x H6 hx hw => ?_) (fun H6 hw => ?_)
  · obtain ⟨e6, hz⟩ := hw
    obtain ⟨y, hy, rfl⟩ : ∃ y, (chn W p)[i]? = some y ∧ x = .int y := by
      unfold zV at hx
      rw [List.getElem?_map] at hx
      cases hc : (chn W p)[i]? with
      | none => rw [hc] at hx; cases hx
      | some u =>
        rw [hc] at hx
        exact ⟨u, rfl, (Option.some.inj hx).symm⟩
    have hi := (List.getElem?_eq_some_iff.mp hy).1
    have hm := k1 y (List.mem_of_getElem? hy)
    have ln : (zV (((chn W p).take i).filter (ltT W c))).length ≤ i := by
      unfold zV
      rw [List.length_map]
      exact Nat.le_trans (List.length_filter_le _ _) (by rw [List.length_take]; omega)
    have yes : ltT W c y = true → upd H6 D (.lst (zV (((chn W p).take i).filter (ltT W c)) ++ [.int y])) D = some (.lst (zV (((chn W p).take (i + 1)).filter (ltT W c)))) := fun h => by
      rw [upd_same, take_next' hy, List.filter_append, show [y].filter (ltT W c) = [y] by rw [List.filter_cons_of_pos h]; rfl]
      unfold zV
      rw [List.map_append]
      rfl
    have no : ltT W c y = false → H6 D = some (.lst (zV (((chn W p).take (i + 1)).filter (ltT W c)))) := fun h => by
      rw [take_next' hy, List.filter_append, show [y].filter (ltT W c) = [] by rw [List.filter_cons_of_neg (by rw [h]; decide)]; rfl, List.append_nil]
      exact hz
    refine ⟨rfl, _, rfl, 1, rfl, rfl, _, rfl, ?_⟩
    by_cases c1 : y = -1
    · refine iteD (by rw [c1]) ?_
      refine (if_pos rfl).mpr ?_
      exact ⟨_, rfl, _, hz, sz_lt (by omega), e6.mut hD, yes (by unfold ltT; rw [decide_eq_true c1]; rfl)⟩
    · refine iteDn (fun z => c1 (by injection z)) ?_
      have hgt : ∀ {n : Nat}, n < W.length → atI (tx W).cps.toList (n : Int) = some (W.getD n 0) := fun {n} h => atI_nat (by
        rw [tx_list, List.getElem?_eq_getElem h, List.getD_eq_getElem?_getD, List.getElem?_eq_getElem h]
        rfl)
      have ey : y = ((y.toNat : Nat) : Int) := by rw [Int.toNat_of_nonneg (by omega)]
      refine ⟨_, rfl, _, rfl, _, _, W.getD y.toNat 0, rfl, rfl, tx_le (by omega), by rw [ey]; exact hgt (by omega), _, rfl, rfl, _, rfl, ?_⟩
      by_cases c2 : V.str (sg (W.getD y.toNat 0)) = V.str (sg c)
      · refine iteD c2 ?_
        exact ⟨_, rfl, _, hz, sz_lt (by omega), e6.mut hD, yes (by unfold ltT; rw [decide_eq_false c1, decide_eq_true c2]; rfl)⟩
      · refine iteDn c2 ?_
        exact ⟨e6, no (by unfold ltT; rw [decide_eq_false c1, decide_eq_false c2]; rfl)⟩
  · obtain ⟨e6, hz⟩ := hw
    rw [show (zV (chn W p)).length = (chn W p).length by unfold zV; rw [List.length_map], List.take_length] at hz
    obtain ⟨r, er, f1, f2⟩ := fstS_at (W := W) (t := ltT W c) (p := p) (by unfold ltT; rfl)
    rw [er] at hz
    have hat : atI (zV (fstS W (ltT W c) p :: r)) 0 = some (.int (fstS W (ltT W c) p)) := atI_nat (j := 0) rfl
    refine ⟨_, rfl, _, rfl, D, _, _, _, rfl, rfl, sq_of hz, hat, _, _, rfl, rfl, _, rfl, D, _, _, _, rfl, rfl, sq_of hz, hat, _, _, rfl, rfl, by show 3 ≤ sizeLine; decide, fun t ht => q _ _ (Ex.trans e1 (Ex.trans e6 (Ex.new ht))) fun p' c' e => ?_⟩
    have ep : p = p' := by
      injection e with e1 _
      injection e1 with e1
      exact Int.ofNat_inj.mp e1
    have ec : c = c' := by
      injection e with _ e2
      injection e2 with e2 _
      injection e2 with e2
      exact sg_inj9 e2
    subst ep ec
    refine .inl (.go ?_)
    rw [upd_same]
    show some (HO.tup [_, V.int _, V.int _]) = some (HO.tup [_, V.int _, V.int _])
    rw [Int.toNat_of_nonneg (show 0 ≤ (p : Int) - fstS W (ltT W c) p by omega), Int.toNat_of_nonneg (show 0 ≤ fstS W (ltT W c) p + 1 by omega)]
theorem ok_lt {f cd Pt : Addr} {fd : FuncData} (F : FunC K "_by_letters" "_by_letters" s_by_letters f fd cd) (T : Tx mg) (TB : TabB base mg cd Pt) {Tn : List NTab} (hm : (Pt, fun _ _ => ("_by_letters.<locals>.unlike" : Str)) ∈ Tn) (hu : ∀ p ∈ Tn, p.1 = Pt → p.2 = fun _ _ => ("_by_letters.<locals>.unlike" : Str))
    (c_borders : Kn P w K mg base "_borders" ["word"] 1 spBrd) (c_steps_down : Kn P w K mg base "_steps_down" ["borders", "size"] 1 spStep) (c_from_left : Kn P w K mg base "_from_left" ["letters", "word", "unlike"] 11 (spFL P w K mg base)) : FnOk P w K mg base CX0 12 f fd ["letters", "word"] (spMk Tn fun L W => fromL L W (U_lt W)) := by
  refine okC F sc_lt (fun vs H Q E h => ?_) (fun A outer s H vs Q E hr h => ?_)
  · obtain ⟨L, W, B, rfl, _⟩ := h
    rfl
  · obtain ⟨L, W, B, rfl, hL, w1, w8, hWL, eB, TN, nB, q⟩ := h
    have hL4 := hL.hi
    refine ⟨_, (pss_cons (ps_set (i := 2) sc_lt.nd rfl (Or.inr rfl) (pe_call c_borders.ok (hr.mono (by decide)) (by rfl) c_borders.g c_borders.kp c_borders.b .nil pass0 (pa_cons (pv 1) pa_nil)))
      (pss_cons (ps_ndefS (st := u_lt) (T := Tn) (i := 3) (nm := fun _ _ => ("_by_letters.<locals>.unlike" : Str)) rfl TB rfl hm (by rfl) hu (ndef_free nd_lt) rfl rfl (by rfl) sc_lt.nd rfl (Or.inl rfl) (Or.inl rfl))
      (pss_one (ps_ret (NV.pe_callL (fr := ["word", "borders"]) (js := [1, 2]) c_from_left.ok (hr.mono (by decide)) (by rfl) c_from_left.g c_from_left.kp c_from_left.b (fun ok => Caps.made (scope := C8.fnScope u_lt) ok (ndef_free nd_lt) (ndef_fr nd_lt) rfl) (fun _ => rfl) (pa_cons (pv 0) (pa_cons (pv 1) (pa_cons (pv 3) pa_nil)))))))), ?_⟩
    refine ⟨_, rfl, W, rfl, by omega, fun bl H1 e1 hb0 hbl => ?_⟩
    refine ⟨TN.ext e1, fun fu c' H2 eN T2 hf0 hfu hco => ?_⟩
    have eN2 : ExtN H H2 := (ExtN.of e1).trans eN
    have hbl2 : H2 bl = some (.lst (brdV W (W.length + 1))) := eN bl _ hbl (fun ps z => by cases z)
    have eB2 : Ex B H2 := fun b o h => eN2 b o (eB _ _ h) fun ps z => nB b ps (by rw [h, z])
    refine ⟨_, rfl, _, rfl, _, rfl, [.str (tx W), .ref bl], rfl, fun H3 e3 CV hc => ?_⟩
    have cell : ∀ b ∈ NV.cells (cloFrom (cxOf CX0 P w K mg base N_lt "_by_letters" (defScope s_by_letters) f (.ref cd) A outer s H E).nox.env.cells (C8.fnScope u_lt).names []), ∃ φ, H3 b = some (.ext φ) := fun b hb => by
      obtain ⟨y, hy⟩ := NV.cells_mem.mp hb
      obtain ⟨o, v, h, _⟩ := CV.all y b hy
      exact ⟨_, h⟩
    have nbl : bl ∉ NV.cells (cloFrom (cxOf CX0 P w K mg base N_lt "_by_letters" (defScope s_by_letters) f (.ref cd) A outer s H E).nox.env.cells (C8.fnScope u_lt).names []) := fun hb => by
      have := hc bl hb
      rw [hbl2] at this
      cases this
    refine ⟨L, W, fu, U_lt W, B, B, rfl, by omega, w1, by omega, Ex.refl _, eB2.trans e3, ⟨RU.mono, _, ["word", "borders"], ["place", "letter"], [.str (tx W), .ref bl], fun H => H bl = some (.lst (brdV W (W.length + 1))), e3 _ _ hfu, e3 _ _ hco, CV, rfl, (NV.drop_out nbl).trans (e3 _ _ hbl2), fun H H' e h => e _ _ h, nok_lt T c_steps_down (by omega)⟩, fun B' H' r us g hr2 KX => ?_⟩
    obtain ⟨g1, g2, g3⟩ := grow_back eB nB eN2 T2 hc e3 cell g hr2 KX
    exact ⟨ExtN.of g.h, q _ _ _ _ g1 g2 g3⟩
end
end Law

namespace Law
open PySem PySem.Spec PyProof.Rows L2 Evl
theorem dot_sg : Str.ofString "." = sg 46 := by decide +kernel
theorem sg_inj {c d : Nat} : V.str (sg c) = V.str (sg d) ↔ c = d := by
  constructor
  · intro h
    have h1 : sg c = sg d := V.str.inj h
    have h2 : (sg c).cps.toList = (sg d).cps.toList := by rw [h1]
    exact List.head_eq_of_cons_eq h2
  · intro h
    rw [h]
/-- does the k-th sign of z stand there -/
def okAt (K z : List Nat) (o k : Nat) : Bool := decide (K.length ≤ o + k) || (K.getD (o + k) 0 == 46 || K.getD (o + k) 0 == z.getD k 0)
def fitsF (K z : List Nat) (o : Nat) : Bool := (List.range z.length).all (okAt K z o)
def slidF (K : List Nat) (b : Nat) : List Nat := K.drop b ++ List.replicate (min b K.length) 46
theorem getD_at {l : List Nat} {i : Nat} (h : i < l.length) : l[i]? = some (l.getD i 0) := by
  rw [List.getD_eq_getElem?_getD, List.getElem?_eq_getElem h]
  rfl
theorem at_of_lt {l : List Nat} {i : Nat} (h : i < l.length) : atI l (i : Int) = some (l.getD i 0) := atI_nat (getD_at h)
def sgn (S z : List Nat) (n : Nat) : List Bool := (List.range n).map fun i => S.getD i 0 == 46 || S.getD i 0 == z.getD i 0
theorem sgn_succ (S z : List Nat) (n : Nat) : sgn S z (n + 1) = sgn S z n ++ [S.getD n 0 == 46 || S.getD n 0 == z.getD n 0] := by
  unfold sgn
  rw [List.range_succ, List.map_append]
  rfl
theorem sgn_len (S z : List Nat) (n : Nat) : (sgn S z n).length = n := by
  unfold sgn
  rw [List.length_map, List.length_range]
theorem bl_snoc (bs : List Bool) (b : Bool) : bs.map V.bl ++ [.bl b] = (bs ++ [b]).map V.bl := by
  rw [List.map_append]
  rfl
theorem fits_eq (K z : List Nat) (o : Nat) : (sgn ((K.drop o).take z.length) z (min ((K.drop o).take z.length).length z.length)).all id = fitsF K z o := by
  have hn : min ((K.drop o).take z.length).length z.length = min (K.length - o) z.length := by
    rw [List.length_take, List.length_drop]
    omega
  rw [hn, Bool.eq_iff_iff]
  unfold sgn fitsF
  rw [List.all_map, List.all_eq_true, List.all_eq_true]
  have get : ∀ k, k < min (K.length - o) z.length → ((K.drop o).take z.length).getD k 0 = K.getD (o + k) 0 := fun k hk => by
    rw [List.getD_eq_getElem?_getD, List.getD_eq_getElem?_getD, List.getElem?_take_of_lt (by omega), List.getElem?_drop]
  constructor
  · intro h k hk
    rw [List.mem_range] at hk
    unfold okAt
    by_cases q : K.length ≤ o + k
    · rw [decide_eq_true q]
      rfl
    · have h1 := h k (List.mem_range.mpr (by omega))
      have h1 : (((K.drop o).take z.length).getD k 0 == 46 || ((K.drop o).take z.length).getD k 0 == z.getD k 0) = true := h1
      rw [get k (by omega)] at h1
      rw [h1, Bool.or_true]
  · intro h k hk
    rw [List.mem_range] at hk
    have h1 := h k (List.mem_range.mpr (by omega))
    unfold okAt at h1
    rw [decide_eq_false (by omega), Bool.false_or] at h1
    show (((K.drop o).take z.length).getD k 0 == 46 || ((K.drop o).take z.length).getD k 0 == z.getD k 0) = true
    rw [get k hk]
    exact h1
theorem mul_dot (m : Nat) : Txt.mul (sg 46) (m : Int) = tx (List.replicate m 46) := by
  by_cases h : m = 0
  · subst h
    rfl
  · rw [sg_tx, mul_tx [46] (by omega), show (m : Int).toNat = m by omega]
    refine congrArg tx ?_
    clear h
    induction m with
    | zero => rfl
    | succ k ih => rw [List.replicate_succ, List.flatten_cons, ih]; rfl
def slidL (K : List Nat) (b i : Nat) : List Nat := (List.range i).map fun j => if j + b < K.length then K.getD (j + b) 0 else 46
theorem slidL_succ (K : List Nat) (b i : Nat) : slidL K b (i + 1) = slidL K b i ++ [if i + b < K.length then K.getD (i + b) 0 else 46] := by
  unfold slidL
  rw [List.range_succ, List.map_append]
  rfl
theorem slidL_len (K : List Nat) (b i : Nat) : (slidL K b i).length = i := by
  unfold slidL
  rw [List.length_map, List.length_range]
theorem slidF_len (K : List Nat) (b : Nat) : (slidF K b).length = K.length := by
  unfold slidF
  rw [List.length_append, List.length_drop, List.length_replicate]
  omega
theorem slidF_get (K : List Nat) (b i : Nat) (h : i < K.length) : (slidF K b)[i]? = some (if i + b < K.length then K.getD (i + b) 0 else 46) := by
  unfold slidF
  by_cases q : i + b < K.length
  · rw [if_pos q, List.getElem?_append_left (by rw [List.length_drop]; omega), List.getElem?_drop, Nat.add_comm b i]
    exact getD_at q
  · rw [if_neg q, List.getElem?_append_right (by rw [List.length_drop]; omega), List.length_drop, List.getElem?_replicate, if_pos (by omega)]
theorem slidL_get (K : List Nat) (b n i : Nat) (h : i < n) : (slidL K b n)[i]? = some (if i + b < K.length then K.getD (i + b) 0 else 46) := by
  unfold slidL
  rw [List.getElem?_map, List.getElem?_range h]
  rfl
theorem slidL_eq (K : List Nat) (b : Nat) : slidL K b K.length = slidF K b := by
  refine List.ext_getElem? fun i => ?_
  by_cases h : i < K.length
  · rw [slidL_get K b _ i h, slidF_get K b i h]
  · rw [List.getElem?_eq_none (by rw [slidL_len]; omega), List.getElem?_eq_none (by rw [slidF_len]; omega)]
def spFits : Sp := fun vs H Q _ => ∃ (k z : List Nat) (o : Nat), vs = [.str (tx k), .str (tx z), .int (o : Int)] ∧ k.length < 500 ∧ z.length < 500 ∧ o < 1000 ∧ ∀ H', Ex H H' → Q (.bl (fitsF k z o)) H'
def spSlid : Sp := fun vs H Q _ => ∃ (k : List Nat) (b : Nat), vs = [.str (tx k), .int (b : Int)] ∧ k.length < 500 ∧ ∀ H', Ex H H' → Q (.str (tx (slidF k b))) H'
section
variable {P : Program} {w : World} {K : PySem.W.Frag} {mg : Str → Option Value} {base : Heap}
theorem ok_fits {f : Addr} {fd : FuncData} (F : Fun K "fits" "fits" s_fits f fd) (T : Tx mg) : FnOk P w K mg base CX0 1 f fd ["known", "word", "offset"] spFits := by
  refine F.ok sc_fits (fun vs H Q E h => ?_) (fun cdv A outer s H vs Q E hr h => ?_)
  · obtain ⟨k, z, o, rfl, _⟩ := h
    rfl
  · obtain ⟨k, z, o, rfl, hk, hz, ho, q⟩ := h
    refine ⟨_, (pss_cons (ps_set (i := 3) sc_fits.nd rfl (Or.inl rfl) (pe_slice sl_str (pv 0) (po_some (pv 2)) (po_some (pe_op op_add (pv 2) (pe_callB call_len_str (by rfl) T.len PySem.boot_len (pa_cons (pv 1) pa_nil))))))
      (pss_one (ps_ret (pe_callB (cr_all rfl) (by rfl) T.all PyProof.Rows.boot_all (pa_cons (pe_lc (own := [("sign", 4), ("letter", 5)]) (g := gTup K 2 (gCons (gName 4) (gCons (gName 5) gNil))) (tt := tYes) rfl sc_fits.nd (ZS.pi_zipS (by rfl) T.zip (pa_cons (pv 3) (pa_cons (pv 1) pa_nil))) (blkOk_by (N := N_fits) (sc := defScope s_fits) (by decide +kernel)) (fun _ _ _ _ _ => (pg_tup (by rfl) (pgs_cons (pg_name (i := 4) sc_fits.nd rfl (Or.inl rfl)) (pgs_cons (pg_name (i := 5) sc_fits.nd rfl (Or.inl rfl)) pgs_nil)))) (fun _ _ _ _ _ => pts_nil) (fun _ _ _ _ _ => (pe_or (pe_cmpR op_eq (pv 4) pe_str (nomark _)) (pe_one (pe_cmpR op_eq (pv 4) (pv 5) (nomark _)))))) pa_nil))))), ?_⟩
    refine ⟨_, rfl, _, rfl, _, rfl, _, rfl, _, rfl, _, rfl, tx_le (by omega), _, _, rfl, rfl, _, rfl, _, rfl, tx_le (by omega), ?_⟩
    rw [tx_len, cut_mid]
    obtain ⟨S, hS⟩ : ∃ S, (k.drop o).take z.length = S := ⟨_, rfl⟩
    have hSl : S.length ≤ z.length := by
      rw [← hS, List.length_take]
      omega
    rw [hS]
    refine ⟨_, rfl, _, rfl, _, _, rfl, fun D hD => ?_⟩
    refine ZS.lc_zipS (x := tx S) (y := tx z) (fun i H' => Ex H H' ∧ H' D = some (.lst ((sgn S z i).map V.bl))) ⟨Ex.new hD, upd_same⟩ (fun i c d T' H1 hc hd hw hT => ?_) (fun H1 hw => ?_)
    · obtain ⟨e1, hL⟩ := hw
      have hc : S[i]? = some c := by
        rw [← hc]
        simp [tx]
      have hd : z[i]? = some d := by
        rw [← hd]
        simp [tx]
      have hi := (List.getElem?_eq_some_iff.mp hc).1
      have ec : S.getD i 0 = c := by rw [List.getD_eq_getElem?_getD, hc]; rfl
      have ed : z.getD i 0 = d := by rw [List.getD_eq_getElem?_getD, hd]; rfl
      have e2 : Ex H (upd H1 T' (.tup [.str (sg c), .str (sg d)])) := e1.trans (Ex.new hT)
      have hL2 : (upd H1 T' (.tup [.str (sg c), .str (sg d)])) D = some (.lst ((sgn S z i).map V.bl)) := Ex.new hT _ _ hL
      have done : ∀ b : Bool, b = (c == 46 || c == d) → ∃ acc, (upd H1 T' (.tup [.str (sg c), .str (sg d)])) D = some (.lst acc) ∧ acc.length < sizeLine ∧ (Ex H (upd (upd H1 T' (.tup [.str (sg c), .str (sg d)])) D (.lst (acc ++ [.bl b]))) ∧ (upd (upd H1 T' (.tup [.str (sg c), .str (sg d)])) D (.lst (acc ++ [.bl b]))) D = some (.lst ((sgn S z (i + 1)).map V.bl))) := fun b hb => by
        refine ⟨_, hL2, ?_, e2.mut hD, ?_⟩
        · rw [List.length_map, sgn_len]
          exact sz_lt (by omega)
        · rw [upd_same, sgn_succ, ← bl_snoc, ec, ed, hb]
      refine ⟨T', [.str (sg c), .str (sg d)], rfl, .inl (.inl upd_same), rfl, .str (sg c), [.str (sg d)], rfl, .str (sg d), [], rfl, rfl, rfl, _, rfl, rfl, _, rfl, ?_⟩
      by_cases h46 : c = 46
      · have x1 : decide (V.str (sg c) = V.str (Str.ofString ".")) = true := decide_eq_true (by rw [dot_sg, h46])
        rw [x1]
        exact done true (by rw [h46]; rfl)
      · have x1 : decide (V.str (sg c) = V.str (Str.ofString ".")) = false := decide_eq_false (by rw [dot_sg, sg_inj]; exact h46)
        rw [x1]
        refine ⟨_, rfl, _, rfl, rfl, ?_⟩
        have x2 : (c == 46) = false := by simpa using h46
        refine done _ ?_
        rw [x2, Bool.false_or]
        by_cases hcd : c = d
        · rw [hcd]
          simp
        · have x3 : (c == d) = false := by simpa using hcd
          rw [x3]
          exact decide_eq_false (by rw [sg_inj]; exact hcd)
    · obtain ⟨e1, hL⟩ := hw
      refine ⟨D, _, rfl, sq_of hL, ?_⟩
      have x : min (tx S).cps.size (tx z).cps.size = min S.length z.length := by simp [tx]
      rw [x, ← hS, fits_eq]
      exact q _ e1
theorem ok_slid {f : Addr} {fd : FuncData} (F : Fun K "slid" "slid" s_slid f fd) (T : Tx mg) : FnOk P w K mg base CX0 1 f fd ["known", "by"] spSlid := by
  refine F.ok sc_slid (fun vs H Q E h => ?_) (fun cdv A outer s H vs Q E hr h => ?_)
  · obtain ⟨k, b, rfl, _⟩ := h
    rfl
  · obtain ⟨k, b, rfl, hk, q⟩ := h
    refine ⟨_, (pss_one (ps_ret (pe_op op_add_str (pe_slice sl_str (pv 0) (po_some (pv 1)) po_none) (pe_op ZS.op_mulS pe_str (pe_callB (call_min2 rfl) (by rfl) T.min (by decide +kernel) (pa_cons (pv 1) (pa_cons (pe_callB call_len_str (by rfl) T.len PySem.boot_len (pa_cons (pv 0) pa_nil)) pa_nil))))))), ?_⟩
    refine ⟨_, rfl, _, rfl, _, rfl, _, rfl, tx_le (by omega), ?_⟩
    refine ⟨_, rfl, _, rfl, tx k, rfl, tx_le (by omega), _, _, rfl, ?_⟩
    have em : (if ((tx k).length : Int) < (b : Int) then ((tx k).length : Int) else (b : Int)) = ((min b k.length : Nat) : Int) := by
      rw [tx_len]
      by_cases q : (k.length : Int) < (b : Int)
      · rw [if_pos q]
        omega
      · rw [if_neg q]
        omega
    rw [em]
    refine ⟨_, _, rfl, rfl, ?_, ?_⟩
    · rw [dot_sg]
      exact mulOk_of 1 1000 (by rw [sg_len]; omega) (by omega) (by omega) (by decide) (by decide)
    rw [cut_from, dot_sg, mul_dot]
    refine ⟨_, _, rfl, rfl, ?_, ?_⟩
    · rw [tx_len, tx_len, List.length_drop, List.length_replicate]
      exact sz_le (by omega)
    · rw [tx_app]
      exact q _ (Ex.refl _)
end
end Law

namespace Law
open PySem PySem.Spec PyProof.Rows L2 Evl TR NdefX LamX
/-- the dict that numbers texts in order -/
def kvO : Nat → List (List Nat) → List (Key × V)
  | _, [] => []
  | n, k :: r => (.inr (tx k), .int (n : Nat)) :: kvO (n + 1) r
theorem tx_inj9 {a b : List Nat} (h : tx a = tx b) : a = b := by
  rw [← tx_list a, ← tx_list b, h]
theorem kvO_len : ∀ (ks : List (List Nat)) (n : Nat), (kvO n ks).length = ks.length
  | [], _ => rfl
  | k :: r, n => by
    show (kvO (n + 1) r).length + 1 = _
    rw [kvO_len r]
    rfl
theorem kvO_snoc : ∀ (ks : List (List Nat)) (n : Nat) (k : List Nat), kvO n (ks ++ [k]) = kvO n ks ++ [(.inr (tx k), .int ((n + ks.length : Nat) : Int))]
  | [], n, k => rfl
  | x :: r, n, k => by
    show (_, _) :: kvO (n + 1) (r ++ [k]) = (_, _) :: (kvO (n + 1) r ++ _)
    rw [kvO_snoc r, show n + 1 + r.length = n + (x :: r).length by rw [List.length_cons]; omega]
theorem kvO_in : ∀ {ks : List (List Nat)} {n : Nat} {k : List Nat}, k ∈ ks → valV (kvO n ks) (.inr (tx k)) = some (.int ((n + ks.idxOf k : Nat) : Int))
  | x :: r, n, k, h => by
    by_cases e : x = k
    · subst e
      rw [List.idxOf_cons_self]
      exact valV_pos rfl
    · have hr : k ∈ r := by
        rcases List.mem_cons.mp h with z | z
        · exact absurd z.symm e
        · exact z
      have ne : ¬ (Sum.inr (tx x) : Key) = .inr (tx k) := fun z => e (tx_inj9 (Sum.inr.inj z))
      show valV ((.inr (tx x), .int (n : Nat)) :: kvO (n + 1) r) _ = _
      rw [valV_neg ne, kvO_in hr, show (x :: r).idxOf k = r.idxOf k + 1 by show List.findIdx (· == k) (x :: r) = _; rw [List.findIdx_cons, show (x == k) = false from beq_false_of_ne e]; rfl, show n + 1 + r.idxOf k = n + (r.idxOf k + 1) by omega]
theorem kvO_out : ∀ {ks : List (List Nat)} {n : Nat} {k : List Nat}, k ∉ ks → valV (kvO n ks) (.inr (tx k)) = none
  | [], _, _, _ => rfl
  | x :: r, n, k, h => by
    have ne : ¬ (Sum.inr (tx x) : Key) = .inr (tx k) := fun z => h (by rw [tx_inj9 (Sum.inr.inj z)]; exact List.mem_cons_self)
    show valV ((.inr (tx x), .int (n : Nat)) :: kvO (n + 1) r) _ = _
    rw [valV_neg ne]
    exact kvO_out fun z => h (List.mem_cons_of_mem _ z)
theorem kvO_put {ks : List (List Nat)} {k : List Nat} (h : k ∉ ks) : putK (kvO 0 ks) (.inr (tx k)) (.int (ks.length : Nat)) = kvO 0 (ks ++ [k]) := by
  unfold putK
  rw [if_neg (by rw [valV_any, kvO_out h]; decide), kvO_snoc, Nat.zero_add]
/-- the slides at which the word fits -/
def fitL (W k : List Nat) : List Nat := (List.range' 1 W.length).filter (fitsF k W)
def leastF (W k : List Nat) : Nat := (fitL W k).headD 0
def nowK (ks : List (List Nat)) (k : List Nat) : List (List Nat) := if k ∈ ks then ks else ks ++ [k]
theorem range_min : ∀ (n s : Nat) (t : Nat → Bool) (m : Nat) (r : List Nat), (List.range' s n).filter t = m :: r → ∀ y ∈ m :: r, m ≤ y
  | 0, _, _, _, _, h => by cases h
  | n + 1, s, t, m, r, h => by
    rw [List.range'_succ] at h
    by_cases c : t s = true
    · rw [List.filter_cons_of_pos c] at h
      injection h with h1 h2
      subst h1
      intro y hy
      rcases List.mem_cons.mp hy with z | z
      · omega
      · rw [← h2] at z
        have := (List.mem_range'_1.mp (List.mem_filter.mp z).1).1
        omega
    · rw [List.filter_cons_of_neg c] at h
      exact range_min n (s + 1) t m r h
def spKgo : Sp := fun vs H Q _ => ∃ (W k : List Nat) (d : Addr) (ks : List (List Nat)), vs = [.str (tx W), .str (tx k), .ref d] ∧ W.length < 100 ∧ k.length < 100 ∧ fitL W k ≠ [] ∧ H d = some (.dK (kvO 0 ks)) ∧ ks.length < 10000000 ∧
  ∀ t H', (∀ b o, b ≠ d → H b = some o → H' b = some o) → H' d = some (.dK (kvO 0 (nowK ks (slidF k (leastF W k))))) → H t = none → H' t = some (.tup [.str "go", .int (leastF W k : Nat), .int ((nowK ks (slidF k (leastF W k))).idxOf (slidF k (leastF W k)) : Nat)]) → Q (.ref t) H'
section
variable {P : Program} {w : World} {K : PySem.W.Frag} {mg : Str → Option Value} {base : Heap}
theorem ok_kgo {f : Addr} {fd : FuncData} (F : Fun K "_known_go" "_known_go" s_known_go f fd) (T : Tx mg) (c_fits : Kn P w K mg base "fits" ["known", "word", "offset"] 1 spFits) (c_slid : Kn P w K mg base "slid" ["known", "by"] 1 spSlid) : FnOk P w K mg base CX0 2 f fd ["word", "known", "numbers"] spKgo := by
  refine F.ok sc_known_go (fun vs H Q E h => ?_) (fun cdv A outer s H vs Q E hr h => ?_)
  · obtain ⟨W, k, d, ks, rfl, _⟩ := h
    rfl
  · obtain ⟨W, k, d, ks, rfl, hW, hk, hne, hd, hks, q⟩ := h
    refine ⟨_, (pss_cons (ps_set (i := 3) sc_known_go.nd rfl (Or.inl rfl) (pe_callB (cr_min rfl) (by rfl) T.min (by decide +kernel) (pa_cons (pe_lc (own := [("by", 4)]) (g := gName 4) rfl sc_known_go.nd (pi_range2 (by rfl) T.range (pa_cons pe_int (pa_cons (pe_op op_add (pe_callB call_len_str (by rfl) T.len PySem.boot_len (pa_cons (pv 0) pa_nil)) pe_int) pa_nil))) (blkOk_by (N := N_known_go) (sc := defScope s_known_go) (by decide +kernel)) (fun _ _ _ _ _ => (pg_name (i := 4) sc_known_go.nd rfl (Or.inl rfl))) (fun _ _ _ _ _ => (pts_one (pt_val (pe_call c_fits.ok (hr.mono (by decide)) (by rfl) c_fits.g c_fits.kp c_fits.b .nil pass0 (pa_cons (pv 1) (pa_cons (pv 0) (pa_cons (pv 4) pa_nil))))))) (fun _ _ _ _ _ => (pv 4))) pa_nil)))
      (pss_cons (ps_set (i := 5) sc_known_go.nd rfl (Or.inl rfl) (pe_call c_slid.ok (hr.mono (by decide)) (by rfl) c_slid.g c_slid.kp c_slid.b .nil pass0 (pa_cons (pv 1) (pa_cons (pv 3) pa_nil))))
      (pss_cons (ps_if (pt_cmp (pc_dnotin (hu_of hr) (pv 5) (pv 2))) (pss_one (ps_dput (hu_of hr) (pv 2) (pv 5) (pe_callB call_lenD (by rfl) T.len PySem.boot_len (pa_cons (pv 2) pa_nil)) rfl)) pss_nil)
      (pss_one (ps_ret (pe_tup (pa_cons pe_str (pa_cons (pv 3) (pa_cons (pe_dget (hu_of hr) (pv 2) (pv 5) (fun _ _ => rfl)) pa_nil))))))))), ?_⟩
    refine ⟨_, rfl, _, rfl, tx_le (by omega), _, _, rfl, rfl, ?_⟩
    rw [tx_len]
    refine ⟨_, _, rfl, ⟨by omega, by omega, by omega, by omega⟩, fun D hD => ?_⟩
    rw [show ((W.length : Int) + 1 - 1).toNat = W.length by omega]
    refine lc_range (lo := 1) (n := W.length) (g := gName 4) (vs := [4]) (fun i H6 => Ex H H6 ∧ H6 D = some (.lst (((((List.range' 1 i).filter (fitsF k W)).map fun y : Nat => (y : Int))).map V.int))) ⟨Ex.new hD, upd_same⟩ (fun i H6 hi hw => ?_) (fun H6 hw => ?_)
    · obtain ⟨e6, hz⟩ := hw
      have ei : (1 : Int) + (i : Int) = ((1 + i : Nat) : Int) := by omega
      rw [ei]
      have sp : (List.range' 1 (i + 1)).filter (fitsF k W) = (List.range' 1 i).filter (fitsF k W) ++ [1 + i].filter (fitsF k W) := by
        rw [List.range'_1_concat, List.filter_append]
      refine ⟨rfl, _, rfl, _, rfl, _, rfl, k, W, 1 + i, rfl, by omega, by omega, by omega, fun H7 e7 => ⟨_, rfl, ?_⟩⟩
      have ln : ((((List.range' 1 i).filter (fitsF k W)).map fun y : Nat => (y : Int)).map V.int).length ≤ i := by
        rw [List.length_map, List.length_map]
        exact Nat.le_trans (List.length_filter_le _ _) (by rw [List.length_range']; omega)
      by_cases c : fitsF k W (1 + i) = true
      · rw [c]
        refine (if_pos rfl).mpr ?_
        refine ⟨_, rfl, _, e7 _ _ hz, sz_lt (by omega), (e6.trans e7).mut hD, ?_⟩
        rw [upd_same, sp, List.filter_cons_of_pos c, List.map_append, List.map_append]
        rfl
      · have c2 : fitsF k W (1 + i) = false := by simpa using c
        rw [c2]
        refine (if_neg Bool.false_ne_true).mpr ?_
        refine ⟨e6.trans e7, ?_⟩
        rw [sp, List.filter_cons_of_neg c]
        show H7 D = some (.lst ((((_ ++ []) : List Nat).map _).map V.int))
        rw [List.append_nil]
        exact e7 _ _ hz
    · obtain ⟨e6, hz⟩ := hw
      have hz : H6 D = some (.lst (((fitL W k).map fun y : Nat => (y : Int)).map V.int)) := hz
      have hm : ∃ r, fitL W k = leastF W k :: r := by
        unfold leastF
        cases e : fitL W k with
        | nil => exact absurd e hne
        | cons m r => exact ⟨r, rfl⟩
      obtain ⟨r, hm⟩ := hm
      have mn := range_min _ _ _ _ _ hm
      refine ⟨D, _, rfl, sq_of hz, by rw [List.length_map, hm, List.length_cons]; omega, fun m h1 h2 => ?_⟩
      have em : m = (leastF W k : Nat) := by
        obtain ⟨y, hy, rfl⟩ := List.mem_map.mp h1
        have a1 := mn y (by rw [← hm]; exact hy)
        have a2 := h2 (leastF W k : Nat) (List.mem_map.mpr ⟨leastF W k, by rw [hm]; exact List.mem_cons_self, rfl⟩)
        show (y : Int) = _
        omega
      rw [em]
      refine ⟨_, rfl, _, rfl, k, leastF W k, rfl, by omega, fun H7 e7 => ?_⟩
      have hd7 : H7 d = some (.dK (kvO 0 ks)) := e7 _ _ (e6 _ _ hd)
      have e67 := e6.trans e7
      generalize hA : slidF k (leastF W k) = A at q ⊢
      by_cases c : A ∈ ks
      · have gt := DGet.k (k := (.inr (tx A) : Key)) hd7
        rw [kvO_in c] at gt
        refine ⟨_, rfl, _, rfl, d, _, rfl, gt, _, rfl, ?_⟩
        refine (if_neg Bool.false_ne_true).mpr ?_
        refine ⟨_, rfl, _, rfl, _, rfl, d, _, rfl, gt, by show 3 ≤ sizeLine; decide, fun t ht => ?_⟩
        have en : nowK ks A = ks := if_pos c
        rw [en] at q
        refine q t _ (fun b o _ h => Ex.new ht _ _ (e67 _ _ h)) (Ex.new ht _ _ hd7) (fresh_back e67 ht) ?_
        rw [upd_same, Nat.zero_add]
      · have gt := DGet.k (k := (.inr (tx A) : Key)) hd7
        rw [kvO_out c] at gt
        refine ⟨_, rfl, _, rfl, d, _, rfl, gt, _, rfl, ?_⟩
        refine (if_pos rfl).mpr ?_
        have pu := DPut.k (k := (.inr (tx A) : Key)) (v := .int (ks.length : Nat)) hd7 (by rw [kvO_len]; exact Nat.lt_of_lt_of_le hks (by decide))
        rw [kvO_put c] at pu
        refine ⟨_, rfl, d, _, rfl, hd7, ?_⟩
        rw [kvO_len]
        refine ⟨_, rfl, _, rfl, d, _, rfl, pu, ?_⟩
        have en : nowK ks A = ks ++ [A] := if_neg c
        rw [en] at q
        have hd8 : (upd H7 d (.dK (kvO 0 (ks ++ [A])))) d = some (.dK (kvO 0 (ks ++ [A]))) := upd_same
        have ka : ∀ b o, b ≠ d → H b = some o → (upd H7 d (.dK (kvO 0 (ks ++ [A])))) b = some o := fun b o n h => (upd_ne n).trans (e67 _ _ h)
        have fb : ∀ b, (upd H7 d (.dK (kvO 0 (ks ++ [A])))) b = none → H b = none := fun b h => by
          have n : b ≠ d := fun z => by
            rw [z, hd8] at h
            cases h
          rw [upd_ne n] at h
          exact fresh_back e67 h
        generalize (upd H7 d (.dK (kvO 0 (ks ++ [A])))) = H8 at hd8 ka fb ⊢
        have gt8 := DGet.k (k := (.inr (tx A) : Key)) hd8
        rw [kvO_in (List.mem_append_right _ List.mem_cons_self)] at gt8
        refine ⟨_, rfl, _, rfl, _, rfl, d, _, rfl, gt8, by show 3 ≤ sizeLine; decide, fun t ht => ?_⟩
        refine q t _ (fun b o n h => Ex.new ht _ _ (ka b o n h)) (Ex.new ht _ _ hd8) (fb _ ht) ?_
        rw [upd_same, Nat.zero_add]
end
end Law

namespace Law
open PySem PySem.Spec PyProof.Rows L2 Evl TR NdefX LamX
/-- the go by what is known, and the numbers behind it -/
def kgo (W k : List Nat) (ks : List (List Nat)) : Tr × List (List Nat) :=
  (.go (leastF W k) ((nowK ks (slidF k (leastF W k))).idxOf (slidF k (leastF W k))), nowK ks (slidF k (leastF W k)))
def kF (f : Nat → List (List Nat) → Tr × List (List Nat)) : List Nat → List (List Nat) → List Tr × List (List Nat)
  | [], ks => ([], ks)
  | c :: r, ks => ((f c ks).1 :: (kF f r (f c ks).2).1, (kF f r (f c ks).2).2)
theorem kF_snoc (f : Nat → List (List Nat) → Tr × List (List Nat)) (c : Nat) : ∀ (l : List Nat) (ks : List (List Nat)), kF f (l ++ [c]) ks = ((kF f l ks).1 ++ [(f c (kF f l ks).2).1], (f c (kF f l ks).2).2)
  | [], ks => rfl
  | x :: r, ks => by
    show ((f x ks).1 :: (kF f (r ++ [c]) (f x ks).2).1, (kF f (r ++ [c]) (f x ks).2).2) = _
    rw [kF_snoc f c r]
    rfl
theorem kF_len (f : Nat → List (List Nat) → Tr × List (List Nat)) : ∀ (l : List Nat) (ks : List (List Nat)), (kF f l ks).1.length = l.length
  | [], _ => rfl
  | c :: r, ks => by
    show (kF f r (f c ks).2).1.length + 1 = _
    rw [kF_len f r]
    rfl
def setK (k : List Nat) (p c : Nat) : List Nat := k.take p ++ c :: k.drop (p + 1)
theorem setK_len {k : List Nat} {p c : Nat} (h : p < k.length) : (setK k p c).length = k.length := by
  unfold setK
  rw [List.length_append, List.length_take, List.length_cons, List.length_drop]
  omega
theorem setK_ne {k : List Nat} {p c i : Nat} (h : p < k.length) (n : i ≠ p) : (setK k p c)[i]? = k[i]? := by
  unfold setK
  by_cases q : i < p
  · rw [List.getElem?_append_left (by rw [List.length_take]; omega), List.getElem?_take_of_lt q]
  · rw [List.getElem?_append_right (by rw [List.length_take]; omega), List.length_take, show i - min p k.length = (i - p - 1) + 1 by omega, List.getElem?_cons_succ, List.getElem?_drop, show p + 1 + (i - p - 1) = i by omega]
theorem setK_at {k : List Nat} {p c : Nat} (h : p < k.length) : (setK k p c)[p]? = some c := by
  unfold setK
  rw [List.getElem?_append_right (by rw [List.length_take]; omega), List.length_take, show p - min p k.length = 0 by omega]
  rfl
/-- the tree that reads the places, the last one first; what is met gets numbers -/
def kT (L W : List Nat) : List Nat → List Nat → List (List Nat) → Tr × List (List Nat)
  | [], k, ks => (.tell 0 (kgo W k ks).1, (kgo W k ks).2)
  | p :: r, k, ks => (.read p (Trs.of (kF (fun c s => if W[p]? = some c then kT L W r (setK k p c) s else kgo W (setK k p c) s) L ks).1), (kF (fun c s => if W[p]? = some c then kT L W r (setK k p c) s else kgo W (setK k p c) s) L ks).2)
def kcnt (l : Nat) : Nat → Nat
  | 0 => 1
  | n + 1 => (l + 1) * kcnt l n
theorem kcnt_pos (l : Nat) : ∀ n, 1 ≤ kcnt l n
  | 0 => Nat.le_refl _
  | n + 1 => Nat.le_trans (kcnt_pos l n) (Nat.le_mul_of_pos_left _ (Nat.succ_pos _))
theorem nowK_len (ks : List (List Nat)) (k : List Nat) : (nowK ks k).length ≤ ks.length + 1 := by
  unfold nowK
  split
  · omega
  · rw [List.length_append]
    exact Nat.le_refl _
theorem kF_grow {f : Nat → List (List Nat) → Tr × List (List Nat)} {m : Nat} (h : ∀ c s, (f c s).2.length ≤ s.length + m) : ∀ (l : List Nat) (ks : List (List Nat)), (kF f l ks).2.length ≤ ks.length + l.length * m
  | [], ks => by show ks.length ≤ _; omega
  | c :: r, ks => by
    have h1 := kF_grow h r (f c ks).2
    have h2 := h c ks
    have h3 : (kF f (c :: r) ks).2 = (kF f r (f c ks).2).2 := rfl
    rw [h3, List.length_cons, Nat.add_mul]
    omega
theorem kT_grow (L W : List Nat) : ∀ (rs k : List Nat) (ks : List (List Nat)), (kT L W rs k ks).2.length ≤ ks.length + kcnt L.length rs.length
  | [], k, ks => nowK_len _ _
  | p :: r, k, ks => by
    have h1 := kF_grow (f := fun c s => if W[p]? = some c then kT L W r (setK k p c) s else kgo W (setK k p c) s) (m := kcnt L.length r.length) (fun c s => by
      show (if W[p]? = some c then kT L W r (setK k p c) s else kgo W (setK k p c) s).2.length ≤ _
      split
      · exact kT_grow L W r _ _
      · have h1 := nowK_len s (slidF (setK k p c) (leastF W (setK k p c)))
        have h2 := kcnt_pos L.length r.length
        show (nowK s (slidF (setK k p c) (leastF W (setK k p c)))).length ≤ _
        omega) L ks
    have e : (kT L W (p :: r) k ks).2 = (kF (fun c s => if W[p]? = some c then kT L W r (setK k p c) s else kgo W (setK k p c) s) L ks).2 := rfl
    rw [e]
    have e2 : kcnt L.length (p :: r).length = L.length * kcnt L.length r.length + kcnt L.length r.length := by
      show (L.length + 1) * _ = _
      rw [Nat.add_mul, Nat.one_mul]
    omega
/-- the slide by the length of the word fits -/
theorem fitL_ne {W k : List Nat} (w1 : 1 ≤ W.length) (hk : k.length = W.length + 1) (h : k[W.length]? = some 46) : fitL W k ≠ [] := by
  intro z
  have h1 : W.length ∈ fitL W k := by
    unfold fitL
    refine List.mem_filter.mpr ⟨List.mem_range'_1.mpr ⟨w1, by omega⟩, ?_⟩
    unfold fitsF
    rw [List.all_eq_true]
    intro i hi
    unfold okAt
    by_cases q : i = 0
    · subst q
      have e : k.getD (W.length + 0) 0 = 46 := by
        rw [Nat.add_zero, List.getD_eq_getElem?_getD, h]
        rfl
      rw [e]
      simp
    · rw [decide_eq_true (by omega)]
      rfl
  rw [z] at h1
  cases h1
def hid (d : Addr) (H : Hp) : Hp := fun a => if a = d then none else H a
theorem hid_ne {d a : Addr} {H : Hp} (h : a ≠ d) : hid d H a = H a := if_neg h
theorem hid_at {d : Addr} {H : Hp} : hid d H d = none := if_pos rfl
theorem hid_some {d a : Addr} {H : Hp} {o : HO} (h : hid d H a = some o) : a ≠ d ∧ H a = some o := by
  by_cases q : a = d
  · rw [q, hid_at] at h
    cases h
  · rw [hid_ne q] at h
    exact ⟨q, h⟩
theorem hid_upd {d a : Addr} {H : Hp} {o : HO} (h : a ≠ d) : hid d (upd H a o) = upd (hid d H) a o := by
  funext b
  by_cases q : b = d
  · rw [q, hid_at, upd_ne h.symm, hid_at]
  · rw [hid_ne q]
    by_cases q2 : b = a
    · rw [q2, upd_same, upd_same]
    · rw [upd_ne q2, upd_ne q2, hid_ne q]
theorem hid_ex {d : Addr} {H H' : Hp} (h : ∀ b o, b ≠ d → H b = some o → H' b = some o) : Ex (hid d H) (hid d H') := fun b o z => by
  obtain ⟨n, z⟩ := hid_some z
  rw [hid_ne n]
  exact h b o n z
theorem hid_sub {d : Addr} {H : Hp} : Ex (hid d H) H := fun b o z => (hid_some z).2
def spKT (n : Nat) : Sp := fun vs H Q _ => ∃ (L W k rs : List Nat) (pl d : Addr) (ks : List (List Nat)) (B : Hp), vs = [.str (tx L), .str (tx W), .str (tx k), .ref pl, .ref d] ∧ rs.length < n ∧ H pl = some (.lst (nV rs.reverse)) ∧ L.length ≤ 4 ∧ 1 ≤ W.length ∧ W.length ≤ 8 ∧ k.length = W.length + 1 ∧ k[W.length]? = some 46 ∧ (∀ p ∈ rs, p < W.length) ∧
  H d = some (.dK (kvO 0 ks)) ∧ ks.length + kcnt 4 rs.length < 10000000 ∧ Ex B (hid d H) ∧
  ∀ B' H' v, Grows B (hid d H) B' (hid d H') → TX true B' v (kT L W rs k ks).1 → H' d = some (.dK (kvO 0 (kT L W rs k ks).2)) → Q v H'
theorem kcnt_le {l m : Nat} (h : l ≤ m) : ∀ n, kcnt l n ≤ kcnt m n
  | 0 => Nat.le_refl _
  | n + 1 => Nat.mul_le_mul (by omega) (kcnt_le h n)
theorem for_strK {x : Str} {g : TG} {tb : TS} {D : Ends} {σ : L2.St} {H : Hp} (Pv : Nat → L2.St → Hp → Prop) (h0 : Pv 0 σ H)
    (hs : ∀ i c σ H, x.cps[i]? = some c → Pv i σ H → g (.str ⟨#[c]⟩) σ H fun σ2 H2 => tb { D with nx := Pv (i + 1), ct := Pv (i + 1), bk := D.nx } σ2 H2) (hd : ∀ σ H, Pv x.cps.size σ H → D.nx σ H) :
    ∃ W : Nat → Nat → L2.St → Hp → Prop, (∃ m, W 0 m σ H) ∧ ∀ i m σ H, W i m σ H →
      ((Its x).stop i H ∧ D.nx σ H) ∨ ((Its x).go i H ∧ ∃ N : L2.St → Hp → Prop, (∀ σ' H', N σ' H' → ∃ m', m' < m ∧ W (i + 1) m' σ' H') ∧ ∀ v H', (Its x).yld i H v H' → g v σ H' fun σ2 H2 => tb { D with nx := N, ct := N, bk := D.nx } σ2 H2) := by
  refine ⟨fun i m σ H => i + m = x.cps.size ∧ Pv i σ H, ⟨_, Nat.zero_add _, h0⟩, ?_⟩
  rintro i m σ H ⟨e, p⟩
  by_cases hm : m = 0
  · have e2 : i = x.cps.size := by omega
    refine .inl ⟨by show x.cps.size ≤ i; omega, hd σ H ?_⟩
    rw [← e2]
    exact p
  · refine .inr ⟨by show i < x.cps.size; omega, Pv (i + 1), fun σ' H' p' => ⟨m - 1, by omega, by omega, p'⟩, ?_⟩
    rintro v H' ⟨rfl, c, hc, rfl⟩
    exact hs i c σ _ hc p
theorem nV_last (rs : List Nat) (p : Nat) : nV (p :: rs).reverse = nV rs.reverse ++ [.int (p : Nat)] := by
  unfold nV
  rw [List.reverse_cons, List.map_append]
  rfl
section
variable {P : Program} {w : World} {K : PySem.W.Frag} {mg : Str → Option Value} {base : Heap}
theorem cut_init (xs : List V) (x : V) : cutV (xs ++ [x]) none (some (-1)) = xs := by
  unfold cutV
  have e : HT.sIx (xs ++ [x]).length (xs ++ [x]).length (some (-1)) = xs.length := by
    show (if (-1 : Int) < 0 then (-1 + ((xs ++ [x]).length : Int)).toNat else min (-1 : Int).toNat (xs ++ [x]).length) = xs.length
    refine (if_pos (by decide)).trans ?_
    rw [List.length_append]
    show (-1 + ((xs.length + 1 : Nat) : Int)).toNat = _
    omega
  rw [HT.sIx_none, e, Nat.sub_zero, List.drop_zero, List.take_left]
theorem go_grow {H H1 B : Hp} {d t : Addr} {W k : List Nat} {ks : List (List Nat)} (eB : Ex B (hid d H)) (hd : H d = some (.dK (kvO 0 ks))) (k1 : ∀ b o, b ≠ d → H b = some o → H1 b = some o) (ht : H t = none) (h1 : H1 t = some (.tup [.str "go", .int (leastF W k : Nat), .int ((nowK ks (slidF k (leastF W k))).idxOf (slidF k (leastF W k)) : Nat)])) :
    Grows B (hid d H) (fz B (hid d H1)) (hid d H1) ∧ TX true (fz B (hid d H1)) (.ref t) (kgo W k ks).1 := by
  have nt : t ≠ d := fun z => by
    rw [z, hd] at ht
    cases ht
  refine ⟨Grows.tups eB (hid_ex k1), .go (j := true) (fz_tup ?_)⟩
  rw [hid_ne nt]
  exact h1
theorem ok_KT0 {f : Addr} {fd : FuncData} (F : Fun K "_known_tree" "_known_tree" s_known_tree f fd) (T : Tx mg) (g : mg "_known_tree" = some (.ref f)) (b : Binds K fd ["letters", "word", "known", "places", "numbers"] []) (c_known_go : Kn P w K mg base "_known_go" ["word", "known", "numbers"] 2 spKgo) : ∀ n : Nat, FnOk P w K mg base CX0 (n + 2) f fd ["letters", "word", "known", "places", "numbers"] (spKT n)
  | 0 => by
    refine F.ok sc_known_tree (fun vs H Q E h => ?_) (fun cdv A outer s H vs Q E hr h => ?_)
    · obtain ⟨L, W, k, rs, pl, d, ks, B, rfl, _⟩ := h
      rfl
    · obtain ⟨L, W, k, rs, pl, d, ks, B, rfl, hn, _⟩ := h
      exact absurd hn (Nat.not_lt_zero _)
  | n + 1 => by
    have c_known_tree : Kn P w K mg base "_known_tree" ["letters", "word", "known", "places", "numbers"] (n + 2) (spKT n) := ⟨f, fd, ok_KT0 F T g b c_known_go n, g, F.kp, b⟩
    refine F.ok sc_known_tree (fun vs H Q E h => ?_) (fun cdv A outer s H vs Q E hr h => ?_)
    · obtain ⟨L, W, k, rs, pl, d, ks, B, rfl, _⟩ := h
      rfl
    · obtain ⟨L, W, k, rs, pl, d, ks, B, rfl, hn, hpl, hL, w1, w8, hk, hk46, hrs, hd, hks, eB, q⟩ := h
      refine ⟨_, (pss_cons (ps_if (pt_not (pt_truth (pv 3) (by intro _; rfl))) (pss_one (ps_ret (pe_tup (pa_cons pe_str (pa_cons pe_int (pa_cons (pe_call c_known_go.ok (hr.mono (by omega)) (by rfl) c_known_go.g c_known_go.kp c_known_go.b .nil pass0 (pa_cons (pv 1) (pa_cons (pv 2) (pa_cons (pv 4) pa_nil)))) pa_nil)))))) pss_nil)
      (pss_cons (ps_set (i := 5) sc_known_tree.nd rfl (Or.inl rfl) (pe_ix ix_list (pv 3) (pe_un un_neg pe_int) (fun _ _ => rfl)))
      (pss_cons (ps_set (i := 6) sc_known_tree.nd rfl (Or.inl rfl) (pe_lst pa_nil))
      (pss_cons (ps_for PassesOwn.never rfl (pi_str (pv 0)) (pg_name (i := 7) sc_known_tree.nd rfl (Or.inl rfl)) (pss_cons (ps_set (i := 8) sc_known_tree.nd rfl (Or.inl rfl) (pe_op op_add_str (pe_op op_add_str (pe_slice sl_str (pv 2) po_none (po_some (pv 5))) (pv 7)) (pe_slice sl_str (pv 2) (po_some (pe_op op_add (pv 5) pe_int)) po_none)))
      (pss_one (ps_if (pt_cmpR op_eq (pv 7) (pe_ix ix_str (pv 1) (pv 5) (fun _ _ => rfl)) (nomark _)) (pss_one (ps_expr (pe_bm PySem.F.plainAttrs_list PySem.F.slot_list_append PySem.F.type_list_append mt_append (pv 6) (pa_cons (pe_call c_known_tree.ok (hr.mono (by omega)) (by rfl) c_known_tree.g c_known_tree.kp c_known_tree.b .nil pass0 (pa_cons (pv 0) (pa_cons (pv 1) (pa_cons (pv 8) (pa_cons (pe_slice sl_list (pv 3) po_none (po_some (pe_un un_neg pe_int))) (pa_cons (pv 4) pa_nil)))))) pa_nil)))) (pss_one (ps_expr (pe_bm PySem.F.plainAttrs_list PySem.F.slot_list_append PySem.F.type_list_append mt_append (pv 6) (pa_cons (pe_call c_known_go.ok (hr.mono (by omega)) (by rfl) c_known_go.g c_known_go.kp c_known_go.b .nil pass0 (pa_cons (pv 1) (pa_cons (pv 8) (pa_cons (pv 4) pa_nil)))) pa_nil))))))))
      (pss_one (ps_ret (pe_tup (pa_cons pe_str (pa_cons (pv 5) (pa_cons (pv 6) pa_nil)))))))))), ?_⟩
      have lnp : (nV rs.reverse).length = rs.length := by rw [nV_len, List.length_reverse]
      refine ⟨_, rfl, !(nV rs.reverse).isEmpty, .inl ⟨_, sq_of hpl, rfl⟩, ?_⟩
      cases rs with
      | nil =>
        refine (if_pos rfl).mpr ?_
        refine ⟨_, rfl, _, rfl, _, rfl, W, k, d, ks, rfl, by omega, by omega, fitL_ne w1 hk hk46, hd, by omega, fun t H1 k1 hd1 ht h1 => ⟨by show 3 ≤ sizeLine; decide, fun u hu => ?_⟩⟩
        obtain ⟨g1, T1⟩ := go_grow eB hd k1 ht h1
        have nu : u ≠ d := fun z => by
          rw [z, hd1] at hu
          cases hu
        have e2 : Ex (hid d H1) (hid d (upd H1 u (.tup [.str "tell", .int 0, .ref t]))) := hid_ex fun b o _ h => Ex.new hu b o h
        have g2 := Grows.tups g1.s e2
        refine q _ _ _ (g1.trans g2) (.tell (j := true) (fz_tup ?_) (T1.ex g2.b)) ?_
        · rw [hid_ne nu]
          exact upd_same
        · exact Ex.new hu _ _ hd1
      | cons p r =>
        rw [show (nV (p :: r).reverse).isEmpty = false by rw [nV_last]; simp]
        refine (if_neg (by decide)).mpr ?_
        have hp := hrs p List.mem_cons_self
        have hpl2 : H pl = some (.lst (nV r.reverse ++ [.int (p : Nat)])) := by rw [hpl, nV_last]
        have hat : atI (nV r.reverse ++ [.int (p : Nat)]) (-1) = some (.int (p : Nat)) := L2.atI_last _ _
        have hlen : r.length + 1 < n + 1 := hn
        have kc : kcnt 4 (p :: r).length = 5 * kcnt 4 r.length := rfl
        rw [kc] at hks
        refine ⟨_, rfl, 1, rfl, pl, _, _, _, rfl, rfl, sq_of hpl2, hat, ?_⟩
        refine ⟨Nat.zero_le _, fun D hD => ?_⟩
        have nD : D ≠ d := fun z => by
          rw [z, hd] at hD
          cases hD
        have e0 : Ex H (upd H D (.lst [])) := Ex.new hD
        have hD0 : hid d H D = none := by rw [hid_ne nD]; exact hD
        have bD0 : B D = none := fresh_back eB hD0
        obtain ⟨fs, hfs⟩ : ∃ fs : Nat → List (List Nat) → Tr × List (List Nat), fs = fun c s => if W[p]? = some c then kT L W r (setK k p c) s else kgo W (setK k p c) s := ⟨_, rfl⟩
        have hT : kT L W (p :: r) k ks = (.read p (Trs.of (kF fs L ks).1), (kF fs L ks).2) := by rw [hfs]; rfl
        rw [hT] at q
        have grow : ∀ c s, (fs c s).2.length ≤ s.length + kcnt 4 r.length := fun c s => by
          rw [hfs]
          show (if W[p]? = some c then kT L W r (setK k p c) s else kgo W (setK k p c) s).2.length ≤ _
          split
          · exact Nat.le_trans (kT_grow L W r _ _) (Nat.add_le_add_left (kcnt_le hL _) _)
          · have h1 := nowK_len s (slidF (setK k p c) (leastF W (setK k p c)))
            have h2 := kcnt_pos 4 r.length
            show (nowK s (slidF (setK k p c) (leastF W (setK k p c)))).length ≤ _
            omega
        obtain ⟨wp, hwp⟩ : ∃ wp, W[p]? = some wp := ⟨_, List.getElem?_eq_getElem hp⟩
        refine ⟨_, rfl, _, rfl, ?_⟩
        refine for_strK (x := tx L) (fun i σ H' => ∃ (B' : Hp) (zs : List V) (y7 y8 : Option V), σ = [some (.str (tx L)), some (.str (tx W)), some (.str (tx k)), some (.ref pl), some (.ref d), some (.int (p : Nat)), some (.ref D), y7, y8] ∧ Grows B (hid d H) B' (hid d H') ∧ B' D = none ∧ H' D = some (.lst zs) ∧ KidX true B' zs (kF fs (L.take i) ks).1 ∧ H' d = some (.dK (kvO 0 (kF fs (L.take i) ks).2)))
          ⟨B, [], none, none, rfl, ?_, bD0, upd_same, .nil, Ex.new hD _ _ hd⟩ (fun i c σ H' hc hw => ?_) (fun σ H' hw => ?_)
        · rw [hid_upd nD]
          exact (Grows.refl eB).put hD0 bD0
        · obtain ⟨B', zs, y7, y8, rfl, gw, bD, hz, Z, hd'⟩ := hw
          have hcL := tx_at hc
          have hi := (List.getElem?_eq_some_iff.mp hcL).1
          have lz := Z.len
          rw [kF_len, List.length_take] at lz
          have gl := kF_grow grow (L.take i) ks
          rw [List.length_take, show min i L.length = i by omega] at gl
          have gm : i * kcnt 4 r.length ≤ 3 * kcnt 4 r.length := Nat.mul_le_mul_right _ (by omega)
          have kp := kcnt_pos 4 r.length
          generalize hs : (kF fs (L.take i) ks).2 = s at gl hd' 
          have npl : pl ≠ d := fun z => by
            rw [z, hd] at hpl
            cases hpl
          have hpl' : H' pl = some (.lst (nV r.reverse ++ [.int (p : Nat)])) := by
            have := gw.h pl _ (by rw [hid_ne npl]; exact hpl2)
            rwa [hid_ne npl] at this
          have e1 : (tx k).length ≤ sizeLine := tx_le (by omega)
          have put : ∀ (B2 H2 : Hp) (v : V), Grows B' (hid d H') B2 (hid d H2) → TX true B2 v (fs c s).1 → H2 d = some (.dK (kvO 0 (fs c s).2)) → H2 D = some (.lst zs) ∧ Grows B (hid d H) B2 (hid d (upd H2 D (.lst (zs ++ [v])))) ∧ B2 D = none ∧ (upd H2 D (.lst (zs ++ [v]))) D = some (.lst (zs ++ [v])) ∧ KidX true B2 (zs ++ [v]) (kF fs (L.take (i + 1)) ks).1 ∧ (upd H2 D (.lst (zs ++ [v]))) d = some (.dK (kvO 0 (kF fs (L.take (i + 1)) ks).2)) := by
            intro B2 H2 v g3 hv hd2
            have hzh : hid d H' D = some (.lst zs) := by rw [hid_ne nD]; exact hz
            have hz2 := g3.h _ _ hzh
            rw [hid_ne nD] at hz2
            have bD2 : B2 D = none := by rw [g3.l D zs hzh]; exact bD
            rw [take_next' hcL, kF_snoc, hs]
            refine ⟨hz2, ?_, bD2, upd_same, (Z.ex g3.b).snoc hv, ?_⟩
            · rw [hid_upd nD]
              exact (gw.trans g3).put hD0 bD2
            · rw [upd_ne nD.symm]
              exact hd2
          refine ⟨_, rfl, ?_⟩
          dsimp only [tNoPart]
          refine ⟨_, rfl, _, rfl, tx k, rfl, e1, _, rfl, _, _, rfl, rfl, ?_, _, rfl, ?_⟩
          · rw [cut_to]
            show (tx (k.take p)).length + (tx [c]).length ≤ sizeLine
            exact sz_le (by rw [tx_len, tx_len, List.length_take, List.length_singleton]; omega)
          refine ⟨_, rfl, _, _, rfl, rfl, _, rfl, ?_⟩
          rw [show ((p : Nat) : Int) + 1 = ((p + 1 : Nat) : Int) by omega]
          refine ⟨tx k, rfl, e1, ?_⟩
          rw [cut_to, cut_from, show tx (List.take p k) ++ (⟨#[c]⟩ : Str) = tx (k.take p ++ [c]) from tx_app _ [c]]
          refine ⟨_, _, rfl, rfl, ?_, ?_⟩
          · rw [tx_len, tx_len, List.length_append, List.length_take, List.length_drop]
            exact sz_le (by simp only [List.length_singleton]; omega)
          rw [tx_app, show k.take p ++ [c] ++ k.drop (p + 1) = setK k p c by unfold setK; simp]
          have k1 : (setK k p c).length = W.length + 1 := by rw [setK_len (by omega), hk]
          have k2 : (setK k p c)[W.length]? = some 46 := by rw [setK_ne (by omega) (by omega), hk46]
          refine ⟨_, rfl, _, rfl, _, rfl, _, _, wp, rfl, rfl, tx_le (by omega), atI_nat (j := p) (by rw [tx_list]; exact hwp), rfl, _, rfl, ?_⟩
          by_cases q2 : c = wp
          · refine iteD (by rw [q2]) ?_
            have hcw : W[p]? = some c := by rw [q2]; exact hwp
            have hfc : fs c s = kT L W r (setK k p c) s := by rw [hfs]; exact if_pos hcw
            rw [hfc] at put
            refine ⟨_, rfl, .inl ⟨rfl, _, sq_of hz⟩, _, rfl, _, rfl, _, rfl, _, rfl, ?_⟩
            dsimp only [tNoPart]
            refine ⟨1, rfl, _, rfl, pl, _, rfl, sq_of hpl', fun pl2 hp3 => ?_⟩
            rw [cut_init]
            have n2 : pl2 ≠ d := fun z => by
              rw [z, hd'] at hp3
              cases hp3
            have e3 : Ex (hid d H') (hid d (upd H' pl2 (.lst (nV r.reverse)))) := hid_ex fun b o _ h => Ex.new hp3 b o h
            have g0 : Grows B' (hid d H') B' (hid d (upd H' pl2 (.lst (nV r.reverse)))) := ⟨Ex.refl _, e3, gw.s.trans e3, fun _ _ _ => rfl, id⟩
            refine ⟨_, rfl, L, W, setK k p c, r, pl2, d, s, B', rfl, by omega, upd_same, hL, w1, w8, k1, k2, fun x hx => hrs x (List.mem_cons_of_mem _ hx), Ex.new hp3 _ _ hd', by omega, g0.s, fun B2 H2 v g3 hv hd2 => ?_⟩
            obtain ⟨p1, p2⟩ := put _ _ _ (g0.trans g3) hv hd2
            exact ⟨D, _, _, rfl, rfl, p1, sz_lt (by omega), _, _, _, _, rfl, p2⟩
          · refine iteDn (fun z => q2 (by injection z with z; injection z with z; injection z with z; injection z)) ?_
            have hcw : ¬ W[p]? = some c := fun z => q2 (by rw [hwp] at z; injection z with z; exact z.symm)
            have hfc : fs c s = kgo W (setK k p c) s := by rw [hfs]; exact if_neg hcw
            rw [hfc] at put
            refine ⟨_, rfl, .inl ⟨rfl, _, sq_of hz⟩, _, rfl, _, rfl, _, rfl, W, setK k p c, d, s, rfl, by omega, by omega, fitL_ne w1 k1 k2, hd', by omega, fun t H1 k3 hd1 ht h1 => ?_⟩
            obtain ⟨g1, T1⟩ := go_grow gw.s hd' k3 ht h1
            obtain ⟨p1, p2⟩ := put _ _ _ g1 T1 hd1
            exact ⟨D, _, _, rfl, rfl, p1, sz_lt (by omega), _, _, _, _, rfl, p2⟩
        · obtain ⟨B', zs, y7, y8, rfl, gw, bD, hz, Z, hd'⟩ := hw
          rw [tx_size, List.take_length] at Z hd'
          refine ⟨_, rfl, _, rfl, by show 3 ≤ sizeLine; decide, fun u hu => ?_⟩
          have nu : u ≠ d := fun z => by
            rw [z, hd'] at hu
            cases hu
          have nuD : u ≠ D := fun z => by
            rw [z, hz] at hu
            cases hu
          have hd2 : (upd H' u (.tup [.str "read", .int (p : Nat), .ref D])) d = some (.dK (kvO 0 (kF fs L ks).2)) := Ex.new hu _ _ hd'
          have hu2 : hid d (upd H' u (.tup [.str "read", .int (p : Nat), .ref D])) u = some (.tup [.str "read", .int (p : Nat), .ref D]) := by rw [hid_ne nu]; exact upd_same
          have hz2 : hid d (upd H' u (.tup [.str "read", .int (p : Nat), .ref D])) D = some (.lst zs) := by rw [hid_ne nD]; exact Ex.new hu _ _ hz
          have e2 : Ex (hid d H') (hid d (upd H' u (.tup [.str "read", .int (p : Nat), .ref D]))) := hid_ex fun b o _ h => Ex.new hu b o h
          generalize (upd H' u (.tup [.str "read", .int (p : Nat), .ref D])) = H2 at hd2 hu2 hz2 e2 ⊢
          have gw2 : Grows B (hid d H) B' (hid d H2) := ⟨gw.b, gw.h.trans e2, gw.s.trans e2, gw.l, gw.nt⟩
          have fD : fz B' (hid d H2) D = none := by rw [fz_lst hz2]; exact bD
          refine q _ H2 _ (gw2.fin hD0 bD hz2) (.read (j := true) (j2 := false) (by rw [upd_ne nuD]; exact fz_tup hu2) upd_same (KidX.txs ?_)) hd2
          rw [Trs.of_list]
          exact Z.ex ((fz_sub gw2.s).trans (Ex.new fD))
end
end Law

namespace Law
open PySem PySem.Spec PyProof.Rows L2 Evl TR
/-! ### the made trees are right -/
structure WOk (l w : Nat) (ts : List Tr) : Prop where
  n1 : 1 ≤ ts.length
  n64 : ts.length ≤ 64
  ok : ∀ t ∈ ts, t.ok l w ts.length ∧ t.depth ≤ 40
  sz : total ts ≤ 3000
theorem of_ok {a w n : Nat} : ∀ {l : List Tr}, (∀ t ∈ l, t.ok a w n) → (Trs.of l).ok a w n
  | [], _ => trivial
  | t :: r, h => ⟨h t List.mem_cons_self, of_ok fun x q => h x (List.mem_cons_of_mem _ q)⟩
theorem of_size : ∀ l : List Tr, (Trs.of l).size = total l
  | [] => rfl
  | t :: r => by
    show t.size + (Trs.of r).size = t.size + total r
    rw [of_size r]
theorem of_depth {d : Nat} : ∀ {l : List Tr}, (∀ t ∈ l, t.depth ≤ d) → (Trs.of l).depth ≤ d
  | [], _ => Nat.zero_le _
  | t :: r, h => Nat.max_le.mpr ⟨h t List.mem_cons_self, of_depth fun x q => h x (List.mem_cons_of_mem _ q)⟩
theorem total_le {u : Nat} : ∀ {l : List Tr}, (∀ t ∈ l, t.size ≤ u) → total l ≤ l.length * u
  | [], _ => Nat.zero_le _
  | t :: r, h => by
    have h1 := h t List.mem_cons_self
    have h2 := total_le (u := u) fun x q => h x (List.mem_cons_of_mem (a := x) t q)
    have e : total (t :: r) = t.size + total r := rfl
    rw [e, List.length_cons, Nat.add_mul]
    omega
def hasO (x : Option Nat) (l : List Nat) (S : Nat) : Nat := match x with | some c => if c ∈ l then S else 0 | none => 0
theorem hasO_le (x : Option Nat) (l : List Nat) (S : Nat) : hasO x l S ≤ S := by
  cases x with
  | none => exact Nat.zero_le _
  | some y =>
    show (if y ∈ l then S else 0) ≤ S
    split
    · exact Nat.le_refl _
    · exact Nat.zero_le _
theorem hasO_cons (x : Option Nat) (c : Nat) (l : List Nat) (S : Nat) : hasO x l S ≤ hasO x (c :: l) S := by
  cases x with
  | none => exact Nat.le_refl _
  | some y =>
    show (if y ∈ l then S else 0) ≤ (if y ∈ c :: l then S else 0)
    by_cases q2 : y ∈ l
    · rw [if_pos q2, if_pos (List.mem_cons_of_mem _ q2)]
      exact Nat.le_refl _
    · rw [if_neg q2]
      exact Nat.zero_le _
/-- one branch at most goes on -/
theorem kF_size {f : Nat → List (List Nat) → Tr × List (List Nat)} {x : Option Nat} {S u : Nat} (h1 : ∀ c s, x = some c → (f c s).1.size ≤ S) (h2 : ∀ c s, x ≠ some c → (f c s).1.size ≤ u) : ∀ (l : List Nat) (ks : List (List Nat)), l.Nodup → total (kF f l ks).1 ≤ hasO x l S + l.length * u
  | [], ks, _ => Nat.zero_le _
  | c :: r, ks, h => by
    have hn := List.nodup_cons.mp h
    have ih := kF_size h1 h2 r (f c ks).2 hn.2
    have e : total (kF f (c :: r) ks).1 = (f c ks).1.size + total (kF f r (f c ks).2).1 := rfl
    rw [e, List.length_cons, Nat.add_mul, Nat.one_mul]
    by_cases q : x = some c
    · have h3 := h1 c ks q
      have e1 : hasO x r S = 0 := by
        rw [q]
        exact if_neg hn.1
      have e2 : hasO x (c :: r) S = S := by
        rw [q]
        exact if_pos List.mem_cons_self
      omega
    · have h3 := h2 c ks q
      have h4 := hasO_cons x c r S
      omega
theorem kF_size' {f : Nat → List (List Nat) → Tr × List (List Nat)} {x : Option Nat} {S u : Nat} (h1 : ∀ c s, x = some c → (f c s).1.size ≤ S) (h2 : ∀ c s, x ≠ some c → (f c s).1.size ≤ u) {l : List Nat} (ks : List (List Nat)) (hn : l.Nodup) : total (kF f l ks).1 ≤ S + l.length * u :=
  Nat.le_trans (kF_size h1 h2 l ks hn) (Nat.add_le_add_right (hasO_le _ _ _) _)
theorem map_kF (g : Nat → Tr) : ∀ (l : List Nat) (ks : List (List Nat)), l.map g = (kF (fun c s => (g c, s)) l ks).1
  | [], _ => rfl
  | c :: r, ks => congrArg (g c :: ·) (map_kF g r ks)
theorem rdg_ok {L W : List Nat} {U : Nat → Nat → Tr} {e : Tr} {w n : Nat} (he : e.ok L.length w n) : ∀ {ps : List Nat}, (∀ p ∈ ps, p ≤ w ∧ ∀ c ∈ L, (U p c).ok L.length w n) → (rdg L W U e ps).ok L.length w n
  | [], _ => he
  | p :: r, h => by
    refine ⟨(h p List.mem_cons_self).1, by rw [Trs.of_list, List.length_map], of_ok fun t ht => ?_⟩
    obtain ⟨c, hc, rfl⟩ := List.mem_map.mp ht
    split
    · exact rdg_ok he fun x q => h x (List.mem_cons_of_mem _ q)
    · exact (h p List.mem_cons_self).2 c hc
theorem rdg_depth {L W : List Nat} {U : Nat → Nat → Tr} {e : Tr} {d : Nat} (he : e.depth ≤ d) : ∀ {ps : List Nat}, (∀ p ∈ ps, ∀ c ∈ L, (U p c).depth ≤ d) → (rdg L W U e ps).depth ≤ d + ps.length
  | [], _ => he
  | p :: r, h => by
    show (Trs.of _).depth + 1 ≤ d + (r.length + 1)
    have h1 : (Trs.of (L.map fun c => if W[p]? = some c then rdg L W U e r else U p c)).depth ≤ d + r.length := of_depth fun t ht => by
      obtain ⟨c, hc, rfl⟩ := List.mem_map.mp ht
      split
      · exact rdg_depth he fun x q => h x (List.mem_cons_of_mem _ q)
      · exact Nat.le_trans (h p List.mem_cons_self c hc) (Nat.le_add_right _ _)
    omega
theorem rdg_size {L W : List Nat} {U : Nat → Nat → Tr} {e : Tr} {u : Nat} (hn : L.Nodup) (hu : ∀ p c, (U p c).size ≤ u) : ∀ ps : List Nat, (rdg L W U e ps).size ≤ e.size + ps.length * (1 + L.length * u)
  | [] => by show e.size ≤ _; omega
  | p :: r => by
    have ih := rdg_size (W := W) (e := e) hn hu r
    have e1 : (rdg L W U e (p :: r)).size = total (L.map fun c => if W[p]? = some c then rdg L W U e r else U p c) + 1 := by
      show (Trs.of _).size + 1 = _
      rw [of_size]
    have h1 := kF_size' (f := fun c s => ((if W[p]? = some c then rdg L W U e r else U p c), s)) (x := W[p]?) (S := (rdg L W U e r).size) (u := u) (fun c s q => by
      show (if W[p]? = some c then rdg L W U e r else U p c).size ≤ _
      rw [if_pos q]
      exact Nat.le_refl _) (fun c s q => by
      show (if W[p]? = some c then rdg L W U e r else U p c).size ≤ _
      rw [if_neg q]
      exact hu p c) [] hn
    rw [← map_kF (fun c => if W[p]? = some c then rdg L W U e r else U p c)] at h1
    rw [e1, List.length_cons, Nat.add_mul, Nat.one_mul]
    omega
/-! what is known -/
structure KOk (W k : List Nat) : Prop where
  len : k.length = W.length + 1
  last : k[W.length]? = some 46
  at' : ∀ i, i < W.length → k.getD i 0 = 46 ∨ k.getD i 0 = W.getD i 0
structure KsOk (W : List Nat) (ks : List (List Nat)) : Prop where
  nd : ks.Nodup
  all : ∀ k ∈ ks, KOk W k
def allK : List Nat → List (List Nat)
  | [] => [[46]]
  | c :: r => (allK r).map (46 :: ·) ++ (allK r).map (c :: ·)
theorem allK_len : ∀ W, (allK W).length = 2 ^ W.length
  | [] => rfl
  | c :: r => by
    show ((allK r).map _ ++ (allK r).map _).length = _
    rw [List.length_append, List.length_map, List.length_map, allK_len r, List.length_cons, Nat.pow_succ]
    omega
theorem allK_mem : ∀ {W k : List Nat}, KOk W k → k ∈ allK W
  | [], k, h => by
    have h1 := h.len
    have h2 := h.last
    match k, h1, h2 with
    | [x], _, h2 =>
      cases h2
      exact List.mem_cons_self
  | c :: r, k, h => by
    match k, h.len, h.last, h.at' with
    | x :: k', h1, h2, h3 =>
      have h4 : KOk r k' := ⟨Nat.succ.inj h1, h2, fun i hi => h3 (i + 1) (Nat.succ_lt_succ hi)⟩
      have h5 := allK_mem h4
      refine List.mem_append.mpr ?_
      rcases h3 0 (Nat.succ_pos _) with z | z
      · exact .inl (List.mem_map.mpr ⟨k', h5, by show 46 :: k' = x :: k'; rw [show x = 46 from z]⟩)
      · exact .inr (List.mem_map.mpr ⟨k', h5, by show c :: k' = x :: k'; rw [show x = c from z]⟩)
theorem nd_sub {α : Type} [DecidableEq α] : ∀ {l m : List α}, l.Nodup → (∀ x ∈ l, x ∈ m) → l.length ≤ m.length
  | [], _, _, _ => Nat.zero_le _
  | a :: l, m, hn, h => by
    have h1 := List.nodup_cons.mp hn
    have ha := h a List.mem_cons_self
    have h2 := nd_sub (m := m.erase a) h1.2 fun x q => (List.mem_erase_of_ne (fun z => h1.1 (by rw [← z]; exact q))).mpr (h x (List.mem_cons_of_mem _ q))
    rw [List.length_erase_of_mem ha] at h2
    have h3 : 0 < m.length := List.length_pos_of_mem ha
    rw [List.length_cons]
    omega
theorem KsOk.len {W : List Nat} {ks : List (List Nat)} (h : KsOk W ks) : ks.length ≤ 2 ^ W.length := by
  rw [← allK_len W]
  exact nd_sub h.nd fun k q => allK_mem (h.all k q)
theorem KsOk.now {W : List Nat} {ks : List (List Nat)} {k : List Nat} (h : KsOk W ks) (hk : KOk W k) : KsOk W (nowK ks k) := by
  unfold nowK
  split
  · exact h
  · next q =>
    refine ⟨List.nodup_append.mpr ⟨h.nd, List.nodup_cons.mpr ⟨List.not_mem_nil, List.nodup_nil⟩, fun a ha b hb z => q ?_⟩, fun x hx => ?_⟩
    · rw [List.mem_singleton.mp hb] at z
      exact z ▸ ha
    · rcases List.mem_append.mp hx with z | z
      · exact h.all x z
      · rw [List.mem_singleton.mp z]
        exact hk
theorem leastF_mem {W k : List Nat} (h : fitL W k ≠ []) : leastF W k ∈ fitL W k := by
  unfold leastF
  cases e : fitL W k with
  | nil => exact absurd e h
  | cons m r => exact List.mem_cons_self
/-- behind a slide that fits, the word's own letters alone are known -/
theorem slid_ok {W k : List Nat} {b : Nat} (hb : 1 ≤ b) (hk : k.length = W.length + 1) (hf : fitsF k W b = true) : KOk W (slidF k b) := by
  refine ⟨by rw [slidF_len, hk], ?_, fun i hi => ?_⟩
  · rw [slidF_get _ _ _ (by omega), if_neg (by omega)]
  · have e : (slidF k b).getD i 0 = if i + b < k.length then k.getD (i + b) 0 else 46 := by
      rw [List.getD_eq_getElem?_getD, slidF_get _ _ _ (by omega)]
      rfl
    rw [e]
    split
    · next q =>
      unfold fitsF at hf
      have h1 := List.all_eq_true.mp hf i (List.mem_range.mpr hi)
      unfold okAt at h1
      rw [decide_eq_false (by omega), Bool.false_or, Nat.add_comm b i] at h1
      rcases Bool.or_eq_true_iff.mp h1 with z | z
      · exact .inl (by simpa using z)
      · exact .inr (by simpa using z)
    · exact .inl rfl
theorem now_pre (ks : List (List Nat)) (k : List Nat) : ks <+: nowK ks k := by
  unfold nowK
  split
  · exact List.prefix_rfl
  · exact List.prefix_append _ _
theorem mem_now (ks : List (List Nat)) (k : List Nat) : k ∈ nowK ks k := by
  unfold nowK
  split
  · assumption
  · exact List.mem_append_right _ List.mem_cons_self
/-- what a step does to what is known -/
structure StepK (W : List Nat) (l : Nat) (ks : List (List Nat)) (r : Tr × List (List Nat)) : Prop where
  pre : ks <+: r.2
  ks : KsOk W ks → KsOk W r.2
  ok : ∀ n, r.2.length ≤ n → r.1.ok l W.length n
theorem kgo_step {W k : List Nat} {l : Nat} (w1 : 1 ≤ W.length) (hk : k.length = W.length + 1) (h46 : k[W.length]? = some 46) (ks : List (List Nat)) : StepK W l ks (kgo W k ks) := by
  have hm := leastF_mem (fitL_ne w1 hk h46)
  unfold fitL at hm
  obtain ⟨h1, h2⟩ := List.mem_filter.mp hm
  have h3 := List.mem_range'_1.mp h1
  refine ⟨now_pre _ _, fun h => h.now (slid_ok h3.1 hk h2), fun n hn => ⟨h3.1, by omega, ?_⟩⟩
  exact Nat.lt_of_lt_of_le (List.idxOf_lt_length_of_mem (mem_now _ _)) hn
theorem kF_step {W : List Nat} {l : Nat} {f : Nat → List (List Nat) → Tr × List (List Nat)} (h : ∀ c s, StepK W l s (f c s)) : ∀ (L : List Nat) (ks : List (List Nat)), ks <+: (kF f L ks).2 ∧ (KsOk W ks → KsOk W (kF f L ks).2) ∧ ∀ n, (kF f L ks).2.length ≤ n → ∀ t ∈ (kF f L ks).1, t.ok l W.length n
  | [], ks => ⟨List.prefix_rfl, id, fun n _ t ht => by cases ht⟩
  | c :: r, ks => by
    obtain ⟨h1, h2, h3⟩ := kF_step h r (f c ks).2
    have h4 := h c ks
    refine ⟨h4.pre.trans h1, fun q => h2 (h4.ks q), fun n hn t ht => ?_⟩
    have hn : (kF f r (f c ks).2).2.length ≤ n := hn
    rcases List.mem_cons.mp ht with z | z
    · rw [z]
      exact h4.ok n (Nat.le_trans h1.length_le hn)
    · exact h3 n hn t z
theorem kT_step {L W : List Nat} (w1 : 1 ≤ W.length) : ∀ (rs k : List Nat) (ks : List (List Nat)), (∀ p ∈ rs, p < W.length) → k.length = W.length + 1 → k[W.length]? = some 46 → StepK W L.length ks (kT L W rs k ks)
  | [], k, ks, _, hk, h46 => by
    have h := kgo_step (l := L.length) w1 hk h46 ks
    exact ⟨h.pre, h.ks, fun n hn => ⟨Nat.zero_le _, h.ok n hn⟩⟩
  | p :: r, k, ks, hrs, hk, h46 => by
    have hp := hrs p List.mem_cons_self
    have step : ∀ c s, StepK W L.length s (if W[p]? = some c then kT L W r (setK k p c) s else kgo W (setK k p c) s) := fun c s => by
      have h1 : (setK k p c).length = W.length + 1 := by rw [setK_len (by omega), hk]
      have h2 : (setK k p c)[W.length]? = some 46 := by rw [setK_ne (by omega) (by omega), h46]
      split
      · exact kT_step w1 r _ _ (fun x q => hrs x (List.mem_cons_of_mem _ q)) h1 h2
      · exact kgo_step w1 h1 h2 s
    obtain ⟨h1, h2, h3⟩ := kF_step (f := fun c s => if W[p]? = some c then kT L W r (setK k p c) s else kgo W (setK k p c) s) step L ks
    refine ⟨h1, h2, fun n hn => ⟨by omega, ?_, of_ok (h3 n hn)⟩⟩
    show (Trs.of _).list.length = _
    rw [Trs.of_list, kF_len]
theorem kT_depth {L W : List Nat} : ∀ (rs k : List Nat) (ks : List (List Nat)), (kT L W rs k ks).1.depth ≤ rs.length + 2
  | [], k, ks => Nat.le_refl _
  | p :: r, k, ks => by
    have hk : ∀ (l : List Nat) (s : List (List Nat)), ∀ t ∈ (kF (fun c s => if W[p]? = some c then kT L W r (setK k p c) s else kgo W (setK k p c) s) l s).1, t.depth ≤ r.length + 2 := by
      intro l
      induction l with
      | nil => intro s t ht; cases ht
      | cons c r' ih =>
        intro s t ht
        rcases List.mem_cons.mp ht with z | z
        · rw [z]
          show (if W[p]? = some c then kT L W r (setK k p c) s else kgo W (setK k p c) s).1.depth ≤ _
          split
          · exact kT_depth r _ _
          · show 1 ≤ _
            omega
        · exact ih _ t z
    show (Trs.of _).depth + 1 ≤ r.length + 1 + 2
    have := of_depth (hk L ks)
    omega
theorem kT_size {L W : List Nat} (hn : L.Nodup) : ∀ (rs k : List Nat) (ks : List (List Nat)), (kT L W rs k ks).1.size ≤ 2 + rs.length * (1 + L.length)
  | [], k, ks => by show 1 + 1 ≤ _; omega
  | p :: r, k, ks => by
    have e1 : (kT L W (p :: r) k ks).1.size = total (kF (fun c s => if W[p]? = some c then kT L W r (setK k p c) s else kgo W (setK k p c) s) L ks).1 + 1 := by
      show (Trs.of _).size + 1 = _
      rw [of_size]
    have h1 := kF_size' (f := fun c s => if W[p]? = some c then kT L W r (setK k p c) s else kgo W (setK k p c) s) (x := W[p]?) (S := 2 + r.length * (1 + L.length)) (u := 1) (fun c s q => by
      show (if W[p]? = some c then kT L W r (setK k p c) s else kgo W (setK k p c) s).1.size ≤ _
      rw [if_pos q]
      exact kT_size hn r _ _) (fun c s q => by
      show (if W[p]? = some c then kT L W r (setK k p c) s else kgo W (setK k p c) s).1.size ≤ _
      rw [if_neg q]
      exact Nat.le_refl 1) ks hn
    rw [e1, List.length_cons, Nat.add_mul, Nat.one_mul]
    omega
/-! ### all knowledge, state by state -/
def plc (W k : List Nat) : List Nat := (List.range W.length).filter fun p => k.getD p 0 == 46
def aK (L W : List Nat) : Nat → List (List Nat)
  | 0 => [List.replicate (W.length + 1) 46]
  | i + 1 => match (aK L W i)[i]? with
    | some k => (kT L W (plc W k).reverse k (aK L W i)).2
    | none => aK L W i
def aT (L W : List Nat) (i : Nat) : Tr := match (aK L W i)[i]? with
  | some k => (kT L W (plc W k).reverse k (aK L W i)).1
  | none => .go 0 0
def aN (L W : List Nat) : Nat := ((List.range 300).find? fun i => decide ((aK L W i).length ≤ i)).getD 0
def allL (L W : List Nat) : List Tr := (List.range (aN L W)).map (aT L W)
theorem aK_succ {L W k : List Nat} {i : Nat} (h : (aK L W i)[i]? = some k) : aK L W (i + 1) = (kT L W (plc W k).reverse k (aK L W i)).2 := by
  show (match (aK L W i)[i]? with | some k => (kT L W (plc W k).reverse k (aK L W i)).2 | none => aK L W i) = _
  rw [h]
theorem aT_eq {L W k : List Nat} {i : Nat} (h : (aK L W i)[i]? = some k) : aT L W i = (kT L W (plc W k).reverse k (aK L W i)).1 := by
  unfold aT
  rw [h]
theorem plc_lt {W k : List Nat} : ∀ p ∈ (plc W k).reverse, p < W.length := fun p h => by
  have h := List.mem_reverse.mp h
  unfold plc at h
  exact List.mem_range.mp (List.mem_filter.mp h).1
theorem plc_len {W k : List Nat} : (plc W k).reverse.length ≤ W.length := by
  rw [List.length_reverse]
  unfold plc
  exact Nat.le_trans (List.length_filter_le _ _) (by rw [List.length_range]; exact Nat.le_refl _)
theorem aK_ok {L W : List Nat} (w1 : 1 ≤ W.length) : ∀ i, KsOk W (aK L W i)
  | 0 => ⟨List.nodup_cons.mpr ⟨List.not_mem_nil, List.nodup_nil⟩, fun k hk => by
    rw [List.mem_singleton.mp hk]
    refine ⟨List.length_replicate, ?_, fun i hi => .inl ?_⟩
    · rw [List.getElem?_replicate, if_pos (by omega)]
    · rw [List.getD_eq_getElem?_getD, List.getElem?_replicate, if_pos (by omega)]
      rfl⟩
  | i + 1 => by
    have ih := aK_ok (L := L) w1 i
    cases e : (aK L W i)[i]? with
    | none =>
      show KsOk W (match (aK L W i)[i]? with | some k => (kT L W (plc W k).reverse k (aK L W i)).2 | none => aK L W i)
      rw [e]
      exact ih
    | some k =>
      rw [aK_succ e]
      have hk := ih.all k (List.mem_of_getElem? e)
      exact (kT_step w1 _ _ _ plc_lt hk.len hk.last).ks ih
theorem aK_pre {L W : List Nat} (w1 : 1 ≤ W.length) (i : Nat) : aK L W i <+: aK L W (i + 1) := by
  cases e : (aK L W i)[i]? with
  | none =>
    show _ <+: (match (aK L W i)[i]? with | some k => (kT L W (plc W k).reverse k (aK L W i)).2 | none => aK L W i)
    rw [e]
    exact List.prefix_rfl
  | some k =>
    rw [aK_succ e]
    have hk := (aK_ok (L := L) w1 i).all k (List.mem_of_getElem? e)
    exact (kT_step w1 _ _ _ plc_lt hk.len hk.last).pre
theorem aK_mono {L W : List Nat} (w1 : 1 ≤ W.length) (i : Nat) : ∀ d, (aK L W i).length ≤ (aK L W (i + d)).length
  | 0 => Nat.le_refl _
  | d + 1 => Nat.le_trans (aK_mono w1 i d) (aK_pre w1 (i + d)).length_le
theorem aN_eq {L W : List Nat} {i : Nat} (h1 : ∀ j, j < i → j < (aK L W j).length) (h2 : (aK L W i).length ≤ i) (h3 : i < 300) : aN L W = i := by
  unfold aN
  rw [(List.find?_range_eq_some (n := 300) (i := i) (p := fun i => decide ((aK L W i).length ≤ i))).mpr ⟨decide_eq_true h2, List.mem_range.mpr h3, fun j hj => by rw [decide_eq_false (by have := h1 j hj; omega)]; rfl⟩]
  rfl
theorem aN_ex {L W : List Nat} (w1 : 1 ≤ W.length) (w8 : W.length ≤ 8) : (∀ j, j < aN L W → j < (aK L W j).length) ∧ (aK L W (aN L W)).length ≤ aN L W := by
  have hb : ∀ i, (aK L W i).length ≤ 256 := fun i => Nat.le_trans (aK_ok w1 i).len (Nat.pow_le_pow_right (n := 2) (by decide) w8)
  cases e : (List.range 300).find? fun i => decide ((aK L W i).length ≤ i) with
  | none =>
    have := List.find?_eq_none.mp e 299 (List.mem_range.mpr (by decide))
    rw [decide_eq_true (Nat.le_trans (hb 299) (by decide))] at this
    exact absurd rfl this
  | some N =>
    obtain ⟨h1, h2, h3⟩ := List.find?_range_eq_some.mp e
    have eN : aN L W = N := by
      unfold aN
      rw [e]
      rfl
    rw [eN]
    refine ⟨fun j hj => ?_, of_decide_eq_true h1⟩
    have := h3 j hj
    by_cases q : (aK L W j).length ≤ j
    · rw [decide_eq_true q] at this
      cases this
    · omega
theorem all_wok {L W : List Nat} (w1 : 1 ≤ W.length) (w6 : W.length ≤ 6) (hn : L.Nodup) (hL : L.length ≤ 4) : WOk L.length W.length (allL L W) := by
  obtain ⟨h1, h2⟩ := aN_ex (L := L) w1 (by omega)
  have hl : (allL L W).length = aN L W := by
    unfold allL
    rw [List.length_map, List.length_range]
  have n0 : 1 ≤ aN L W := by
    by_cases q : aN L W = 0
    · rw [q] at h2
      exact absurd h2 (by show ¬ 1 ≤ 0; omega)
    · omega
  have hlen : aN L W ≤ (aK L W (aN L W)).length := by
    have := h1 (aN L W - 1) (by omega)
    have h3 := aK_mono (L := L) w1 (aN L W - 1) 1
    rw [show aN L W - 1 + 1 = aN L W by omega] at h3
    omega
  have h64 : aN L W ≤ 64 := Nat.le_trans hlen (Nat.le_trans (aK_ok w1 _).len (Nat.pow_le_pow_right (n := 2) (by decide) w6))
  have each : ∀ t ∈ allL L W, t.ok L.length W.length (aN L W) ∧ t.depth ≤ 8 ∧ t.size ≤ 32 := fun t ht => by
    unfold allL at ht
    obtain ⟨j, hj, rfl⟩ := List.mem_map.mp ht
    have hj := List.mem_range.mp hj
    have h3 := h1 j hj
    have e : (aK L W j)[j]? = some (aK L W j)[j] := List.getElem?_eq_getElem h3
    have hk := (aK_ok (L := L) w1 j).all _ (List.mem_of_getElem? e)
    have st := kT_step (L := L) w1 _ _ (aK L W j) (plc_lt (k := (aK L W j)[j])) hk.len hk.last
    have pl := plc_len (W := W) (k := (aK L W j)[j])
    rw [aT_eq e]
    refine ⟨st.ok _ ?_, ?_, ?_⟩
    · rw [← aK_succ e]
      have h4 := aK_mono (L := L) w1 (j + 1) (aN L W - (j + 1))
      rw [show j + 1 + (aN L W - (j + 1)) = aN L W by omega] at h4
      omega
    · have := kT_depth (L := L) (W := W) (plc W (aK L W j)[j]).reverse (aK L W j)[j] (aK L W j)
      omega
    · have h5 := kT_size (L := L) (W := W) hn (plc W (aK L W j)[j]).reverse (aK L W j)[j] (aK L W j)
      have h6 : (plc W (aK L W j)[j]).reverse.length * (1 + L.length) ≤ 6 * 5 := Nat.mul_le_mul (by omega) (by omega)
      omega
  refine ⟨by omega, by omega, fun t ht => ?_, ?_⟩
  · rw [hl]
    have := each t ht
    exact ⟨this.1, by omega⟩
  · have h7 := total_le (u := 32) (l := allL L W) fun t ht => (each t ht).2.2
    rw [hl] at h7
    have : aN L W * 32 ≤ 64 * 32 := Nat.mul_le_mul_right _ h64
    omega
end Law

namespace Law
open PySem PySem.Spec PyProof.Rows L2 Evl TR
theorem from_wok {L W : List Nat} {U : Nat → Nat → Tr} (hn : L.Nodup) (hL : L.length ≤ 4) (w1 : 1 ≤ W.length) (w8 : W.length ≤ 8) (hU : ∀ p c, p < W.length → (U p c).ok L.length W.length W.length) (hd : ∀ p c, (U p c).depth ≤ 2) (hs : ∀ p c, (U p c).size ≤ 1) : WOk L.length W.length (fromL L W U) := by
  have hl := fromL_len L W U
  obtain ⟨b1, b2, b3⟩ := brd_lt (w := W) (n := W.length)
  have b2 := b2 (by omega)
  have he : (endL W).ok L.length W.length W.length := ⟨Nat.zero_le _, by omega, by omega, by omega⟩
  have each : ∀ t ∈ fromL L W U, t.ok L.length W.length W.length ∧ t.depth ≤ 10 ∧ t.size ≤ 42 := fun t ht => by
    unfold fromL at ht
    obtain ⟨st, hst, rfl⟩ := List.mem_map.mp ht
    have hst := List.mem_range.mp hst
    refine ⟨rdg_ok he fun p hp => ?_, ?_, ?_⟩
    · have := List.mem_range'_1.mp hp
      exact ⟨by omega, fun c _ => hU p c (by omega)⟩
    · have := rdg_depth (L := L) (W := W) (U := U) (e := endL W) (d := 2) (Nat.le_refl 2) (ps := List.range' st (W.length - st)) (fun p _ c _ => hd p c)
      rw [List.length_range'] at this
      omega
    · have h1 := rdg_size (W := W) (e := endL W) hn hs (List.range' st (W.length - st))
      rw [List.length_range'] at h1
      have h2 : (W.length - st) * (1 + L.length * 1) ≤ 8 * 5 := Nat.mul_le_mul (by omega) (by omega)
      have h3 : (endL W).size = 2 := rfl
      omega
  refine ⟨by omega, by omega, fun t ht => ?_, ?_⟩
  · rw [hl]
    have := each t ht
    exact ⟨this.1, by omega⟩
  · have h7 := total_le (u := 42) (l := fromL L W U) fun t ht => (each t ht).2.2
    rw [hl] at h7
    omega
theorem one_wok {L W : List Nat} {U : Nat → Nat → Tr} {e : Tr} {ps : List Nat} (hn : L.Nodup) (hL : L.length ≤ 4) (hps : ps.length ≤ 8) (hp : ∀ p ∈ ps, p ≤ W.length ∧ ∀ c ∈ L, (U p c).ok L.length W.length 1) (he : e.ok L.length W.length 1) (hd : ∀ p ∈ ps, ∀ c ∈ L, (U p c).depth ≤ 4) (ed : e.depth ≤ 4) (hs : ∀ p c, (U p c).size ≤ 5) (es : e.size ≤ 10) : WOk L.length W.length [rdg L W U e ps] := by
  have h1 := rdg_size (W := W) (e := e) hn hs ps
  have h2 : ps.length * (1 + L.length * 5) ≤ 8 * 21 := Nat.mul_le_mul hps (by omega)
  have h3 := rdg_depth (L := L) (W := W) ed hd
  refine ⟨Nat.le_refl _, by show 1 ≤ 64; omega, fun t ht => ?_, ?_⟩
  · rw [List.mem_singleton.mp ht]
    exact ⟨rdg_ok he hp, by omega⟩
  · show (rdg L W U e ps).size + 0 ≤ 3000
    omega
section
variable {L W : List Nat} (hn : L.Nodup) (hL : L.length ≤ 4) (w1 : 1 ≤ W.length) (w8 : W.length ≤ 8)
include hn hL w1 w8
theorem byb_wok : WOk L.length W.length (fromL L W (U_byb W)) := from_wok hn hL w1 w8 (fun p c hp => by
  obtain ⟨b1, b2, b3⟩ := brd_lt (w := W) (n := p)
  exact ⟨by omega, by omega, by omega⟩) (fun _ _ => by show 1 ≤ 2; omega) (fun _ _ => Nat.le_refl 1)
theorem sb_wok : WOk L.length W.length (fromL L W (U_sb W)) := from_wok hn hL w1 w8 (fun p c hp => by
  obtain ⟨r, _, b1, b2⟩ := fstS_at (W := W) (t := sbT W p) (p := p) (by unfold sbT; rw [decide_eq_true rfl]; rfl)
  exact ⟨by omega, by omega, by omega⟩) (fun _ _ => by show 1 ≤ 2; omega) (fun _ _ => Nat.le_refl 1)
theorem lt_wok : WOk L.length W.length (fromL L W (U_lt W)) := from_wok hn hL w1 w8 (fun p c hp => by
  obtain ⟨r, _, b1, b2⟩ := fstS_at (W := W) (t := ltT W c) (p := p) (by unfold ltT; rw [decide_eq_true rfl]; rfl)
  exact ⟨by omega, by omega, by omega⟩) (fun _ _ => by show 1 ≤ 2; omega) (fun _ _ => Nat.le_refl 1)
theorem oneL_wok {e : Tr} (he : e.ok L.length W.length 1) (ed : e.depth ≤ 3) (es : e.size ≤ 5) : WOk L.length W.length (oneL L W e) := by
  refine one_wok hn hL (by rw [List.length_range']; omega) (fun p hp => ?_) ⟨Nat.zero_le _, he⟩ (fun _ _ _ _ => by omega) (by show e.depth + 1 ≤ 4; omega) (fun _ _ => es) (by show e.size + 1 ≤ 10; omega)
  have := List.mem_range'_1.mp hp
  exact ⟨by omega, fun c _ => he⟩
theorem plain_wok : WOk L.length W.length (oneL L W (.go 1 0)) := oneL_wok hn hL w1 w8 ⟨Nat.le_refl 1, by omega, Nat.one_pos⟩ (by show 1 ≤ 3; omega) (by show 1 ≤ 5; omega)
theorem read_gos {p : Nat} {S : Nat → Nat} (hp : p ≤ W.length) (hS : ∀ c ∈ L, 1 ≤ S c ∧ S c ≤ W.length + 1) : (Tr.read p (Trs.of (L.map fun c => .go (S c) 0))).ok L.length W.length 1 ∧ (Tr.read p (Trs.of (L.map fun c => .go (S c) 0))).depth ≤ 3 ∧ (Tr.read p (Trs.of (L.map fun c => .go (S c) 0))).size ≤ 5 := by
  refine ⟨⟨hp, by rw [Trs.of_list, List.length_map], of_ok fun t ht => ?_⟩, ?_, ?_⟩
  · obtain ⟨c, hc, rfl⟩ := List.mem_map.mp ht
    exact ⟨(hS c hc).1, (hS c hc).2, Nat.one_pos⟩
  · have h : (Trs.of (L.map fun c => Tr.go (S c) 0)).depth ≤ 1 := of_depth fun t ht => by
      obtain ⟨c, hc, rfl⟩ := List.mem_map.mp ht
      exact Nat.le_refl 1
    show (Trs.of (L.map fun c => Tr.go (S c) 0)).depth + 1 ≤ 3
    omega
  · have h : total (L.map fun c => Tr.go (S c) 0) ≤ (L.map fun c => Tr.go (S c) 0).length * 1 := total_le fun t ht => by
      obtain ⟨c, hc, rfl⟩ := List.mem_map.mp ht
      exact Nat.le_refl 1
    rw [List.length_map] at h
    show (Trs.of (L.map fun c => Tr.go (S c) 0)).size + 1 ≤ 5
    rw [of_size]
    omega
theorem last_wok : WOk L.length W.length (oneL L W (lastL L W)) := by
  obtain ⟨h1, h2, h3⟩ := read_gos (S := fun c => (((W.length - 1 : Nat) : Int) - rf W (W.length - 1) c).toNat) hn hL w1 w8 (p := W.length - 1) (by omega) (fun c _ => by
    have := rf_bound W (W.length - 1) c
    exact ⟨by omega, by omega⟩)
  exact oneL_wok hn hL w1 w8 h1 h2 h3
theorem beh_wok : WOk L.length W.length (oneL L W (behL L W)) := by
  obtain ⟨h1, h2, h3⟩ := read_gos (S := fun c => (((W.length : Nat) : Int) - rf W W.length c).toNat) hn hL w1 w8 (p := W.length) (by omega) (fun c _ => by
    have := rf_bound W W.length c
    exact ⟨by omega, by omega⟩)
  exact oneL_wok hn hL w1 w8 h1 h2 h3
theorem perN_ok : 1 ≤ perN W ∧ perN W ≤ W.length := by
  obtain ⟨b1, b2, b3⟩ := brd_lt (w := W) (n := W.length)
  have := b2 (by omega)
  unfold perN
  omega
theorem frT_ok {S : Nat → Nat → Nat} {e : Tr} {lp n : Nat} (n0 : 0 < n) (hS : ∀ p c, p < W.length → 1 ≤ S p c ∧ S p c ≤ W.length + 1) (he : e.ok L.length W.length n) (ed : e.depth ≤ 2) (es : e.size ≤ 2) : (frT L W S lp e).ok L.length W.length n ∧ (frT L W S lp e).depth ≤ 20 ∧ (frT L W S lp e).size ≤ 50 := by
  have hl : (List.range' lp (W.length - lp)).reverse.length ≤ 8 := by
    rw [List.length_reverse, List.length_range']
    omega
  have hh : (Tr.tell 0 e).ok L.length W.length n := ⟨Nat.zero_le _, he⟩
  unfold frT
  refine ⟨rdg_ok hh fun p hp => ?_, ?_, ?_⟩
  · have := List.mem_range'_1.mp (List.mem_reverse.mp hp)
    exact ⟨by omega, fun c _ => ⟨(hS p c (by omega)).1, (hS p c (by omega)).2, n0⟩⟩
  · have := rdg_depth (L := L) (W := W) (U := fun p c => .go (S p c) 0) (e := .tell 0 e) (d := 3) (by show e.depth + 1 ≤ 3; omega) (ps := (List.range' lp (W.length - lp)).reverse) (fun p _ c _ => by show 1 ≤ 3; omega)
    omega
  · have h1 := rdg_size (W := W) (U := fun p c => .go (S p c) 0) (e := .tell 0 e) (u := 1) hn (fun _ _ => Nat.le_refl 1) (List.range' lp (W.length - lp)).reverse
    have h2 : (List.range' lp (W.length - lp)).reverse.length * (1 + L.length * 1) ≤ 8 * 5 := Nat.mul_le_mul hl (by omega)
    have h3 : (Tr.tell 0 e).size = e.size + 1 := rfl
    omega
theorem fr1_wok {S : Nat → Nat → Nat} {s : Nat} (hS : ∀ p c, p < W.length → 1 ≤ S p c ∧ S p c ≤ W.length + 1) (s1 : 1 ≤ s) (s2 : s ≤ W.length + 1) : WOk L.length W.length [frT L W S 0 (.go s 0)] := by
  obtain ⟨h1, h2, h3⟩ := frT_ok (lp := 0) (n := 1) hn hL w1 w8 Nat.one_pos hS (e := .go s 0) ⟨s1, s2, Nat.one_pos⟩ (by show 1 ≤ 2; omega) (by show 1 ≤ 2; omega)
  refine ⟨Nat.le_refl _, by show 1 ≤ 64; omega, fun t ht => ?_, ?_⟩
  · rw [List.mem_singleton.mp ht]
    exact ⟨h1, by omega⟩
  · show (frT L W S 0 (.go s 0)).size + 0 ≤ 3000
    omega
theorem blS_ok : ∀ p c, p < W.length → 1 ≤ blS W p c ∧ blS W p c ≤ W.length + 1 := fun p c hp => by
  have := rf_bound W p c
  unfold blS
  omega
theorem geS_ok : ∀ p c, p < W.length → 1 ≤ geS W p c ∧ geS W p c ≤ W.length + 1 := fun p c hp => by
  have := ges_bound (W := W) (p := p) w1
  unfold geS
  omega
theorem boS_ok : ∀ p c, p < W.length → 1 ≤ boS W p c ∧ boS W p c ≤ W.length + 1 := fun p c hp => by
  have h1 := ges_bound (W := W) (p := p) w1
  have h2 := rf_bound W p c
  unfold boS
  split <;> omega
theorem bl_wok : WOk L.length W.length [frT L W (blS W) 0 (.go 1 0)] := fr1_wok hn hL w1 w8 (blS_ok hn hL w1 w8) (Nat.le_refl 1) (by omega)
theorem ge_wok : WOk L.length W.length [frT L W (geS W) 0 (.go (perN W) 0)] := by
  have := perN_ok hn hL w1 w8
  exact fr1_wok hn hL w1 w8 (geS_ok hn hL w1 w8) this.1 (by omega)
theorem bo_wok : WOk L.length W.length (boL L W) := by
  have := perN_ok hn hL w1 w8
  exact fr1_wok hn hL w1 w8 (boS_ok hn hL w1 w8) this.1 (by omega)
theorem kn_wok : WOk L.length W.length (knL L W) := by
  have hp := perN_ok hn hL w1 w8
  unfold knL
  split
  · exact bo_wok hn hL w1 w8
  · have each : ∀ t ∈ (knP W).map fun lp => frT L W (boS W) lp (.go (perN W) 1), t.ok L.length W.length 2 ∧ t.depth ≤ 20 ∧ t.size ≤ 50 := fun t ht => by
      obtain ⟨lp, _, rfl⟩ := List.mem_map.mp ht
      exact frT_ok hn hL w1 w8 (by decide) (boS_ok hn hL w1 w8) (e := .go (perN W) 1) ⟨hp.1, by omega, by decide⟩ (by show 1 ≤ 2; omega) (by show 1 ≤ 2; omega)
    refine ⟨by show 1 ≤ 2; decide, by show 2 ≤ 64; decide, fun t ht => ?_, ?_⟩
    · have := each t ht
      exact ⟨this.1, by omega⟩
    · have h7 := total_le (u := 50) fun t ht => (each t ht).2.2
      exact Nat.le_trans h7 (by show 2 * 50 ≤ 3000; decide)
end
end Law

namespace Law
open PySem PySem.Spec PyProof.Rows L2 Evl TR
/-- a word of these letters -/
structure WG (L : List Nat) (m : Nat) (w : List Nat) : Prop where
  len : w.length = m
  of : ∀ c ∈ w, c ∈ L
/-- one to three different words of one length -/
structure WsG (L : List Nat) (m : Nat) (ws : List (List Nat)) : Prop where
  lo : 1 ≤ ws.length
  hi : ws.length ≤ 3
  m1 : 1 ≤ m
  m8 : m ≤ 8
  all : ∀ w ∈ ws, WG L m w
  nd : ws.Nodup
def wv (ws : List (List Nat)) : List V := ws.map fun w => V.str (tx w)
def spIsL : Sp := fun vs H Q _ => ∃ (a : Addr) (xs : List V), vs = [.ref a] ∧ H a = some (.lst xs) ∧ ∀ H', Ex H H' → Q (.bl true) H'
def spWSign : Sp := fun vs H Q _ => ∃ L t : List Nat, vs = [.str (tx L), .str (tx t)] ∧ L.length < 500 ∧ t.length < 500 ∧ (∀ c ∈ t, c ∈ L) ∧ ∀ H', Ex H H' → Q .non H'
def spIsWord : Sp := fun vs H Q _ => ∃ (L w : List Nat) (m : Nat), vs = [.str (tx L), .str (tx w)] ∧ L.length < 500 ∧ WG L m w ∧ 1 ≤ m ∧ m ≤ 8 ∧ ∀ H', Ex H H' → Q (.bl true) H'
def spWWordL : Sp := fun vs H Q _ => ∃ (L : List Nat) (a : Addr) (ws : List (List Nat)) (m : Nat), vs = [.str (tx L), .ref a] ∧ L.length < 500 ∧ H a = some (.lst (wv ws)) ∧ WsG L m ws ∧ ∀ H', Ex H H' → Q .non H'
def spCheckL : Sp := fun vs H Q _ => ∃ (L : List Nat) (a : Addr) (ws : List (List Nat)) (m : Nat), vs = [.str (tx L), .ref a] ∧ LG L ∧ H a = some (.lst (wv ws)) ∧ WsG L m ws ∧ ∀ H', Ex H H' → Q .non H'
theorem tx_inj {a b : List Nat} (h : tx a = tx b) : a = b := by
  have h2 : (tx a).cps.toList = (tx b).cps.toList := by rw [h]
  exact h2
theorem flat_wv (ws : List (List Nat)) : (wv ws).all flatV = true := by
  unfold wv
  rw [List.all_map, List.all_eq_true]
  intro x _
  rfl
theorem inV_wv {u : List Nat} {ws : List (List Nat)} : inV (.str (tx u)) (wv ws) = decide (u ∈ ws) := by
  unfold inV wv
  rw [List.any_map, Bool.eq_iff_iff, List.any_eq_true, decide_eq_true_eq]
  constructor
  · rintro ⟨x, hx, he⟩
    have he2 : (tx x == tx u) = true := he
    rw [beq_iff_eq] at he2
    rw [← tx_inj he2]
    exact hx
  · intro h
    refine ⟨u, h, ?_⟩
    show (tx u == tx u) = true
    rw [beq_iff_eq]
theorem wv_at {ws : List (List Nat)} {i : Nat} {x : V} (h : (wv ws)[i]? = some x) : ∃ u, ws[i]? = some u ∧ x = .str (tx u) := by
  unfold wv at h
  rw [List.getElem?_map] at h
  cases e : ws[i]? with
  | none =>
    rw [e] at h
    cases h
  | some u =>
    rw [e] at h
    exact ⟨u, rfl, (Option.some.inj h).symm⟩
theorem wv_len (ws : List (List Nat)) : (wv ws).length = ws.length := List.length_map _
theorem wv_zero {L : List Nat} {m : Nat} {ws : List (List Nat)} (W : WsG L m ws) : ∃ u, atI (wv ws) 0 = some (.str (tx u)) ∧ u.length = m := by
  have h := W.lo
  have e : ws[0]? = some ws[0] := List.getElem?_eq_getElem (by omega)
  refine ⟨ws[0], atI_nat (j := 0) ?_, (W.all _ (List.getElem_mem _)).len⟩
  unfold wv
  rw [List.getElem?_map, e]
  rfl
theorem fresh_word {L : List Nat} {m : Nat} {ws : List (List Nat)} (W : WsG L m ws) {i : Nat} {u : List Nat} (h : ws[i]? = some u) : decide (u ∈ ws.take i) = false := by
  refine decide_eq_false fun hm => ?_
  obtain ⟨j, hj, ej⟩ := List.mem_iff_getElem.mp hm
  rw [List.length_take] at hj
  obtain ⟨hi, ei⟩ := List.getElem?_eq_some_iff.mp h
  rw [List.getElem_take] at ej
  exact List.pairwise_iff_getElem.mp W.nd j i (by omega) hi (by omega) (ej.trans ei.symm)
theorem wv_cut (ws : List (List Nat)) (k : Nat) : cutV (wv ws) none (some (k : Int)) = wv (ws.take k) := by
  unfold cutV wv
  rw [HT.sIx_none, HT.sIx_nat, List.length_map, Nat.sub_zero, List.drop_zero, ← List.map_take]
  refine congrArg (List.map _) ?_
  rw [List.take_eq_take_iff]
  omega
section
variable {P : Program} {w : World} {K : PySem.W.Frag} {mg : Str → Option Value} {base : Heap}
theorem ok_isL {f : Addr} {fd : FuncData} (F : Fun K "is_list" "is_list" s_is_list f fd) (T : Tx mg) : FnOk P w K mg base CX0 1 f fd ["value"] spIsL := by
  refine F.ok sc_is_list (fun vs H Q E h => ?_) (fun cdv A outer s H vs Q E hr h => ?_)
  · obtain ⟨a, xs, rfl, _⟩ := h
    rfl
  · obtain ⟨a, xs, rfl, ha, q⟩ := h
    refine ⟨_, (pss_one (ps_ret (pe_callB call_isiT (by rfl) T.isinstance PyProof.Rows.boot_isinstance (pa_cons (pv 0) (pa_cons (pe_tup (pa_cons (pe_bltn (v := .ty "list") (by rfl) T.list PyProof.Rows.boot_list rfl) (pa_cons (pe_bltn (v := .ty "tuple") (by rfl) T.tuple PyProof.Rows.boot_tuple rfl) pa_nil))) pa_nil))))), ?_⟩
    refine ⟨_, rfl, by show 2 ≤ sizeLine; decide, fun t ht => ?_⟩
    exact ⟨_, t, _, _, _, true, rfl, upd_same, .cons (.ty _) (.cons (.ty _) .nil), .base (.lst (Ex.new ht _ _ ha)), kit_lt, q _ (Ex.new ht)⟩
theorem ok_wsign {f : Addr} {fd : FuncData} (F : Fun K "wrong_sign" "wrong_sign" s_wrong_sign f fd) (T : Tx mg) : FnOk P w K mg base CX0 1 f fd ["letters", "text"] spWSign := by
  refine F.ok sc_wrong_sign (fun vs H Q E h => ?_) (fun cdv A outer s H vs Q E hr h => ?_)
  · obtain ⟨L, t, rfl, _⟩ := h
    rfl
  · obtain ⟨L, t, rfl, hL, ht, hc, q⟩ := h
    refine ⟨_, (pss_cons (ps_if (pt_not (pt_val (pe_callB call_isi (by rfl) T.isinstance PyProof.Rows.boot_isinstance (pa_cons (pv 1) (pa_cons (pe_bltn (v := .ty "str") (by rfl) T.str PyProof.Rows.boot_str rfl) pa_nil))))) (pss_one (ps_ret pe_int)) pss_nil)
      (pss_cons (ps_for PassesOwn.never rfl (EN.pi_enumS (by rfl) T.enumerate (pa_cons (pv 1) pa_nil)) (pg_tup (by rfl) (pgs_cons (pg_name (i := 2) sc_wrong_sign.nd rfl (Or.inl rfl)) (pgs_cons (pg_name (i := 3) sc_wrong_sign.nd rfl (Or.inl rfl)) pgs_nil))) (pss_one (ps_if (pt_cmpR op_notIn_sign (pv 3) (pv 0) rfl) (pss_one (ps_ret (pv 2))) pss_nil)))
      (pss_one (ps_ret pe_non)))), ?_⟩
    refine ⟨_, rfl, _, _, _, _, true, rfl, .ty _, .base (.str _), kit_ss, true, rfl, ?_⟩
    refine ⟨_, rfl, _, rfl, ?_⟩
    refine EN.for_enumS (x := tx t) (fun i σ H' => ∃ y2 y3 : Option V, σ = [some (.str (tx L)), some (.str (tx t)), y2, y3] ∧ Ex H H') ⟨none, none, rfl, Ex.refl _⟩ (fun i c T' σ H' hic hw hT => ?_) (fun σ H' hw => ?_)
    · obtain ⟨y2, y3, rfl, e⟩ := hw
      have hm : c ∈ L := hc c (List.mem_of_getElem? (tx_at hic))
      refine ⟨T', _, rfl, .inl (.inl upd_same), rfl, _, _, rfl, _, _, rfl, rfl, ?_⟩
      refine ⟨_, rfl, _, rfl, c, _, rfl, rfl, _, rfl, ?_⟩
      rw [show (tx L).cps.toList = L from rfl, decide_eq_true hm]
      exact ⟨_, _, rfl, e.trans (Ex.new hT)⟩
    · obtain ⟨y2, y3, rfl, e⟩ := hw
      exact q _ e
theorem ok_isword {f : Addr} {fd : FuncData} (F : Fun K "_is_word" "_is_word" s_is_word f fd) (T : Tx mg) (c_wrong_sign : Kn P w K mg base "wrong_sign" ["letters", "text"] 1 spWSign) : FnOk P w K mg base CX0 2 f fd ["letters", "value"] spIsWord := by
  refine F.ok sc_is_word (fun vs H Q E h => ?_) (fun cdv A outer s H vs Q E hr h => ?_)
  · obtain ⟨L, u, m, rfl, _⟩ := h
    rfl
  · obtain ⟨L, u, m, rfl, hL, hu, h1, h8, q⟩ := h
    have hl := hu.len
    refine ⟨_, (pss_one (ps_ret (pe_and (pe_callB call_isi (by rfl) T.isinstance PyProof.Rows.boot_isinstance (pa_cons (pv 1) (pa_cons (pe_bltn (v := .ty "str") (by rfl) T.str PyProof.Rows.boot_str rfl) pa_nil))) (pe_and (pe_chain op_le op_le pe_int (pe_callB call_len_str (by rfl) T.len PySem.boot_len (pa_cons (pv 1) pa_nil)) pe_int) (pe_one (pe_cmpR op_isN (pe_call c_wrong_sign.ok (hr.mono (by decide)) (by rfl) c_wrong_sign.g c_wrong_sign.kp c_wrong_sign.b .nil pass0 (pa_cons (pv 0) (pa_cons (pv 1) pa_nil))) pe_non (nomark _))))))), ?_⟩
    refine ⟨_, rfl, _, _, _, _, true, rfl, .ty _, .base (.str _), kit_ss, true, rfl, ?_⟩
    refine ⟨_, rfl, _, rfl, tx_le (by omega), _, _, rfl, rfl, _, rfl, ite2 (fun _ => ?_) (fun hn => absurd (decide_eq_true (by rw [tx_len]; omega)) hn)⟩
    refine ⟨_, _, rfl, rfl, _, rfl, ite2 (fun _ => ?_) (fun hn => absurd (decide_eq_true (by rw [tx_len]; omega)) hn)⟩
    exact ⟨_, rfl, _, rfl, L, u, rfl, hL, by omega, hu.of, fun H' e => ⟨rfl, q _ e⟩⟩
theorem ok_wwordL {f : Addr} {fd : FuncData} (F : Fun K "wrong_word" "wrong_word" s_wrong_word f fd) (T : Tx mg) (c_islistL : Kn P w K mg base "is_list" ["value"] 1 spIsL)
    (c_is_word : Kn P w K mg base "_is_word" ["letters", "value"] 2 spIsWord) : FnOk P w K mg base CX0 3 f fd ["letters", "words"] spWWordL := by
  refine F.ok sc_wrong_word (fun vs H Q E h => ?_) (fun cdv A outer s H vs Q E hr h => ?_)
  · obtain ⟨L, a, ws, m, rfl, _⟩ := h
    rfl
  · obtain ⟨L, a, ws, m, rfl, hL, ha, W, q⟩ := h
    have w1 := W.lo
    have w3 := W.hi
    have w8 := W.m8
    refine ⟨_, (pss_cons (ps_if (PW.pt (pw_or (pt_not (pt_val (pe_call c_islistL.ok (hr.mono (by decide)) (by rfl) c_islistL.g c_islistL.kp c_islistL.b .nil pass0 (pa_cons (pv 1) pa_nil)))) (pw_or1 (pt_cmpR op_eq (pe_callB call_len_seq (by rfl) T.len PySem.boot_len (pa_cons (pv 1) pa_nil)) pe_int (nomark _))))) (pss_one (ps_ret pe_int)) pss_nil)
      (pss_cons (ps_for PassesOwn.never rfl (pi_enum (by rfl) T.enumerate (pa_cons (pe_slice sl_list (pv 1) po_none (po_some pe_int)) pa_nil)) (pg_tup (by rfl) (pgs_cons (pg_name (i := 2) sc_wrong_word.nd rfl (Or.inl rfl)) (pgs_cons (pg_name (i := 3) sc_wrong_word.nd rfl (Or.inl rfl)) pgs_nil))) (pss_one (ps_if (PW.pt (pw_or (pt_not (pt_val (pe_call c_is_word.ok (hr.mono (by decide)) (by rfl) c_is_word.g c_is_word.kp c_is_word.b .nil pass0 (pa_cons (pv 0) (pa_cons (pv 3) pa_nil))))) (pw_or (pt_cmpR op_ne (pe_callB call_len_str (by rfl) T.len PySem.boot_len (pa_cons (pv 3) pa_nil)) (pe_callB call_len_str (by rfl) T.len PySem.boot_len (pa_cons (pe_ix ix_list (pv 1) pe_int (fun _ _ => rfl)) pa_nil)) (nomark _)) (pw_or1 (pt_cmpR op_in_seq (pv 3) (pe_slice sl_list (pv 1) po_none (po_some (pv 2))) rfl))))) (pss_one (ps_ret (pv 2))) pss_nil)))
      (pss_one (ps_ret (pe_ifExp (pt_cmpR op_gt (pe_callB call_len_seq (by rfl) T.len PySem.boot_len (pa_cons (pv 1) pa_nil)) pe_int (nomark _)) pe_int pe_non))))), ?_⟩
    refine ⟨_, rfl, a, _, rfl, ha, fun H1 e1 => ⟨true, rfl, ?_⟩⟩
    refine ⟨_, rfl, a, _, rfl, .inl (sq_of (e1 _ _ ha)), rfl, _, rfl, ite2 (fun hb => ?_) (fun _ => ?_)⟩
    · have hb2 := V.int.inj (of_decide_eq_true hb)
      rw [wv_len] at hb2
      omega
    refine ⟨_, rfl, _, rfl, a, _, rfl, sq_of (e1 _ _ ha), fun D hD => ?_⟩
    rw [show (3 : Int) = ((3 : Nat) : Int) from rfl, wv_cut, List.take_of_length_le w3]
    have e2 := e1.trans (Ex.new (o := .lst (wv ws)) hD)
    have hD2 : (upd H1 D (.lst (wv ws))) D = some (.lst (wv ws)) := upd_same
    generalize (upd H1 D (.lst (wv ws))) = H2 at e2 hD2 ⊢
    refine ⟨D, _, rfl, sq_of hD2, ?_⟩
    refine EN.for_enumL (K := K) (a := D) (xs := wv ws) (fun i σ H' => ∃ y2 y3 : Option V, σ = [some (.str (tx L)), some (.ref a), y2, y3] ∧ Ex H H' ∧ Ex H2 H') ⟨none, none, rfl, e2, Ex.refl _⟩ (fun i σ H' hw => ?_) (fun i x T' σ H' hx hw hT => ?_) (fun σ H' hw => ?_)
    · obtain ⟨_, _, _, _, e⟩ := hw
      exact sq_of (e _ _ hD2)
    · obtain ⟨y2, y3, rfl, e3, e4⟩ := hw
      obtain ⟨u, hu, rfl⟩ := wv_at hx
      have gu := W.all u (List.mem_of_getElem? hu)
      have lu := gu.len
      have e5 := e3.trans (Ex.new (o := .tup [.int (i : Nat), .str (tx u)]) hT)
      have e6 := e4.trans (Ex.new (o := .tup [.int (i : Nat), .str (tx u)]) hT)
      refine ⟨T', _, rfl, .inl (.inl upd_same), rfl, _, _, rfl, _, _, rfl, rfl, ?_⟩
      refine ⟨_, rfl, _, rfl, L, u, m, rfl, hL, gu, W.m1, w8, fun H3 e7 => ⟨true, rfl, ?_⟩⟩
      obtain ⟨u0, h0, l0⟩ := wv_zero W
      have e8 := e5.trans e7
      refine ⟨_, rfl, _, rfl, tx_le (by omega), _, rfl, a, _, _, _, rfl, rfl, sq_of (e8 _ _ ha), h0, _, rfl, tx_le (by omega), rfl, _, rfl, ite2 (fun hb => ?_) (fun _ => ?_)⟩
      · have e9 : decide (V.int ((tx u).length : Int) = V.int ((tx u0).length : Int)) = true := decide_eq_true (by rw [tx_len, tx_len, lu, l0])
        rw [e9] at hb
        cases hb
      refine ⟨_, rfl, _, rfl, _, rfl, _, rfl, a, _, rfl, sq_of (e8 _ _ ha), fun D2 hD3 => ?_⟩
      refine ⟨D2, _, rfl, .inl (sq_of upd_same), rfl, ?_, ?_⟩
      · rw [wv_cut]
        exact flat_wv _
      · refine ⟨_, rfl, ?_⟩
        rw [wv_cut, inV_wv, fresh_word W hu]
        exact ⟨_, _, rfl, e8.trans (Ex.new hD3), (e6.trans e7).trans (Ex.new hD3)⟩
    · obtain ⟨y2, y3, rfl, e3, e4⟩ := hw
      refine ⟨_, rfl, a, _, rfl, .inl (sq_of (e3 _ _ ha)), _, _, rfl, rfl, _, rfl, ite2 (fun hb => ?_) (fun _ => ?_)⟩
      · have hb2 := of_decide_eq_true hb
        rw [wv_len] at hb2
        omega
      · exact q _ e3
theorem ok_checkL {f : Addr} {fd : FuncData} (F : Fun K "check_words" "check_words" s_check_words f fd) (T : Tx mg) (c_are_letters : Kn P w K mg base "are_letters" ["value"] 1 spAreL)
    (c_wwordL : Kn P w K mg base "wrong_word" ["letters", "words"] 3 spWWordL) : FnOk P w K mg base CX0 4 f fd ["letters", "words"] spCheckL := by
  refine F.ok sc_check_words (fun vs H Q E h => ?_) (fun cdv A outer s H vs Q E hr h => ?_)
  · obtain ⟨L, a, ws, m, rfl, _⟩ := h
    rfl
  · obtain ⟨L, a, ws, m, rfl, hL, ha, W, q⟩ := h
    have h2 := hL.hi
    refine ⟨_, (pss_cons (ps_if (pt_not (pt_val (pe_call c_are_letters.ok (hr.mono (by decide)) (by rfl) c_are_letters.g c_are_letters.kp c_are_letters.b .nil pass0 (pa_cons (pv 0) pa_nil)))) (pss_one ps_never) pss_nil)
      (pss_cons (ps_set (i := 2) sc_check_words.nd rfl (Or.inl rfl) (pe_call c_wwordL.ok (hr.mono (by decide)) (by rfl) c_wwordL.g c_wwordL.kp c_wwordL.b .nil pass0 (pa_cons (pv 0) (pa_cons (pv 1) pa_nil))))
      (pss_one (ps_if (pt_cmpR op_notN (pv 2) pe_non (nomark _)) (pss_one ps_never) pss_nil)))), ?_⟩
    refine ⟨_, rfl, L, rfl, hL, fun H1 e1 => ⟨true, rfl, ?_⟩⟩
    refine ⟨_, rfl, _, rfl, L, a, ws, m, rfl, by omega, e1 _ _ ha, W, fun H2 e2 => ?_⟩
    exact ⟨_, rfl, rfl, _, rfl, q _ (e1.trans e2)⟩
end
end Law

namespace Law
open PySem PySem.Spec PyProof.Rows L2 Evl TR NdefX LamX
/-- no table in it -/
def NT (H : Hp) : Prop := ∀ b ps, H b ≠ some (.tbl ps)
def noT (H : Hp) : Hp := fun b => match H b with
  | some (.tbl _) => none
  | o => o
theorem noT_of {H : Hp} {b : Addr} {o : HO} (h : H b = some o) (n : ∀ ps, o ≠ .tbl ps) : noT H b = some o := by
  unfold noT
  rw [h]
  cases o with
  | tbl ps => exact absurd rfl (n ps)
  | _ => rfl
theorem noT_nt (H : Hp) : NT (noT H) := fun b ps z => by
  unfold noT at z
  split at z
  · cases z
  · rename_i h
    exact h ps z
theorem noT_ex (H : Hp) : Ex (noT H) H := fun b o z => by
  unfold noT at z
  split at z
  · cases z
  · exact z
theorem noT_none {H : Hp} {b : Addr} (h : H b = none) : noT H b = none := by
  unfold noT
  rw [h]
theorem noT_n (H : Hp) : ExtN H (noT H) := fun b o h n => noT_of h n
theorem nt_inj {l : List NTab} (h : (l.map Prod.fst).Nodup) : ∀ {p q : NTab}, p ∈ l → q ∈ l → p.1 = q.1 → p = q := by
  induction l with
  | nil => intro p q hp; cases hp
  | cons x r ih =>
    intro p q hp hq e
    have h2 := List.nodup_cons.mp h
    rcases List.mem_cons.mp hp with rfl | hp
    · rcases List.mem_cons.mp hq with rfl | hq
      · rfl
      · exact absurd (List.mem_map.mpr ⟨q, hq, e.symm⟩) h2.1
    · rcases List.mem_cons.mp hq with hq2 | hq
      · exact absurd (List.mem_map.mpr ⟨p, hp, by rw [e, hq2]⟩) h2.1
      · exact ih h2.2 hp hq e
theorem nt_hu {l : List NTab} (h : (l.map Prod.fst).Nodup) {t : Addr} {nm : Nat → Nat → Str} (hm : (t, nm) ∈ l) : ∀ p ∈ l, p.1 = t → p.2 = nm := fun p hp e => congrArg Prod.snd (nt_inj h hp hm e)
theorem tabN_nil {H : Hp} {t : Addr} {nm : Nat → Nat → Str} (h : H t = some (.tbl #[])) : TabN H t nm := ⟨#[], h, True.intro, fun pos cv hc => by cases hc⟩
/-- a way: its name, the def that makes, what it makes -/
abbrev Way := Str × Addr × (List Nat → List Nat → List Tr)
def wayS (Tn : List NTab) (ws : List Way) (f : Addr) : Option Sp := (ws.find? fun p => decide (p.2.1 = f)).map fun p => spMk Tn p.2.2
theorem find_way {ws : List Way} (h : (ws.map fun p => p.2.1).Nodup) : ∀ {p : Way}, p ∈ ws → (ws.find? fun q => decide (q.2.1 = p.2.1)) = some p := by
  induction ws with
  | nil => intro p hp; cases hp
  | cons x r ih =>
    intro p hp
    have h2 := List.nodup_cons.mp h
    rcases List.mem_cons.mp hp with rfl | hp
    · show (match decide (p.2.1 = p.2.1) with | true => some p | false => _) = some p
      rw [decide_eq_true rfl]
    · have n : ¬ x.2.1 = p.2.1 := fun z => h2.1 (List.mem_map.mpr ⟨p, hp, z.symm⟩)
      rw [List.find?_cons_of_neg (by rw [decide_eq_false n]; decide)]
      exact ih h2.2 hp
structure WayH (P : Program) (w : World) (K : PySem.W.Frag) (mg : Str → Option Value) (base : Heap) (Tn : List NTab) (D : Addr) (ws : List Way) : Prop where
  A : ∀ f sp, wayS Tn ws f = some sp → Held P w K mg base 14 f sp
  g : mg "WAYS" = some (.ref D)
  kd : ∃ es n, KDict K w D es n
  at' : ∀ p ∈ ws, KDct K w D p.1 (.ref p.2.1) ∧ (∃ r, PySem.W.nsIn K D p.1 = some (some r)) ∧ wayS Tn ws p.2.1 = some (spMk Tn p.2.2)
theorem wayH_mk {P : Program} {w : World} {K : PySem.W.Frag} {mg : Str → Option Value} {base : Heap} {Tn : List NTab} {D : Addr} {es : Array DictEntry} {n : Nat} {ws : List Way} (g : mg "WAYS" = some (.ref D)) (DK : KDict K w D es n) (nd : (ws.map fun p => p.2.1).Nodup)
    (hH : ∀ p ∈ ws, Held P w K mg base 14 p.2.1 (spMk Tn p.2.2)) (hk : ∀ p ∈ ws, PySem.W.nsIn K D p.1 = some (some (.ref p.2.1))) :
    WayH P w K mg base Tn D ws where
  A := fun f sp h => by
    unfold wayS at h
    obtain ⟨p, hp, rfl⟩ := Option.map_eq_some_iff.mp h
    have h1 := List.mem_of_find?_eq_some hp
    have h2 := List.find?_some hp
    have h3 : p.2.1 = f := of_decide_eq_true h2
    rw [← h3]
    exact hH p h1
  g := g
  kd := ⟨es, n, DK⟩
  at' := fun p hp => by
    refine ⟨⟨es, n, .ref p.2.1, DK.at_, DK.lit, hk p hp, rfl⟩, ⟨_, hk p hp⟩, ?_⟩
    unfold wayS
    rw [find_way nd hp]
    rfl
theorem held_of {P : Program} {w : World} {K : PySem.W.Frag} {mg : Str → Option Value} {base : Heap} {x : Str} {ps : List Str} {k : Nat} {sp : Sp} {f : Addr} (h : k ≤ 14) (C : Kn P w K mg base x ps k sp) (e : mg x = some (.ref f)) : Held P w K mg base 14 f sp := by
  have e2 : some (Value.ref C.f) = some (.ref f) := C.g.symm.trans e
  have e3 : C.f = f := Value.ref.inj (Option.some.inj e2)
  subst e3
  exact ⟨C.fd, ps, C.ok.mono h, C.kp, C.b⟩
/-- a word's letters and length -/
structure WdG (L W : List Nat) : Prop where
  lg : LG L
  w1 : 1 ≤ W.length
  w8 : W.length ≤ 8
  of : ∀ c ∈ W, c ∈ L
def spMade (Tn : List NTab) (C : Addr) (ws : List Way) : Sp := fun vs H Q E => ∃ (L W : List Nat) (p : Way), vs = [.str (tx L), .str (tx W), .str p.1] ∧ WdG L W ∧ p ∈ ws ∧ WOk L.length W.length (p.2.2 L W) ∧ TabsN Tn H ∧ ∀ o H', ExtN H H' → TabsN Tn H' → SObj C H' o L W.length (p.2.2 L W) → Q (.ref o) H'
theorem mk_spX {C x dx sa : Addr} {H1 : Hp} {L : List Nat} {w : Nat} {kt k : Bool} {xs : List V} {ts : List Tr} {Q : VK} {E : XK} (hx : H1 x = none) (hd : H1 dx = none) (ne : dx ≠ x) (hsa : H1 sa = some (ob kt xs)) (KK : KidX k H1 xs ts) (hL : LG L) (w1 : 1 ≤ w) (w8 : w ≤ 8)
    (o : WOk L.length w ts) (q : ∀ H2, Ex H1 H2 → SObj C H2 x L w ts → Q .non H2) :
    spInit C [.ref x, .str (tx L), .int (w : Int), .ref sa] (L2.upd (L2.upd H1 dx (.own x)) x (.ins C dx [])) Q E :=
  ⟨x, dx, sa, L, w, kt, k, xs, ts, H1, rfl, (Ex.new hd).trans (Ex.new (by rw [upd_ne ne.symm]; exact hx)), hx, upd_same, hsa, KK, hL, w1, w8, o.n1, o.n64, o.ok, o.sz, q⟩
section
variable {P : Program} {w : World} {K : PySem.W.Frag} {mg : Str → Option Value} {base : Heap} {C_Searcher fS D : Addr} {fdS : FuncData} {Tn : List NTab} {ws : List Way} {es : Array DictEntry} {n : Nat}
theorem ok_made {f : Addr} {fd : FuncData} (F : Fun K "made" "made" s_made f fd) (T : Tx mg) (WH : WayH P w K mg base Tn D ws) (DK : KDict K w D es n)
    (M_Searcher : Mk K C_Searcher fS) (F_Searcher : FnOk P w K mg base CX0 42 fS fdS ["self", "letters", "width", "states"] (spInit C_Searcher)) (g_Searcher : mg "Searcher" = some (.ref C_Searcher)) (b_Searcher : Binds K fdS ["self", "letters", "width", "states"] [])
    (c_checkL : Kn P w K mg base "check_words" ["letters", "words"] 4 spCheckL) :
    FnOk P w K mg base CX0 44 f fd ["letters", "word", "way"] (spMade Tn C_Searcher ws) := by
  refine F.ok sc_made (fun vs H Q E h => ?_) (fun cdv A outer s H vs Q E hr h => ?_)
  · obtain ⟨L, W, p, rfl, _⟩ := h
    rfl
  · obtain ⟨L, W, p, rfl, hW, hp, wok, TN, q⟩ := h
    have hL4 := hW.lg.hi
    have w8 := hW.w8
    have w1 := hW.w1
    refine ⟨_, (pss_cons (ps_expr (pe_call c_checkL.ok (hr.mono (by decide)) (by rfl) c_checkL.g c_checkL.kp c_checkL.b .nil pass0 (pa_cons (pv 0) (pa_cons (pe_lst (pa_cons (pv 1) pa_nil)) pa_nil))))
      (pss_cons (ps_if (PW.pt (pw_or (pt_not (pt_val (pe_callB call_isi (by rfl) T.isinstance PyProof.Rows.boot_isinstance (pa_cons (pv 2) (pa_cons (pe_bltn (v := .ty "str") (by rfl) T.str PyProof.Rows.boot_str rfl) pa_nil))))) (pw_or1 (pt_cmpR (op_notIn_kd DK) (pv 2) (pe_glob (v := .ref D) rfl WH.g rfl) rfl)))) (pss_one ps_never) pss_nil)
      (pss_cons (ps_set (i := 3) sc_made.nd rfl (Or.inl rfl) (pe_ix ix_kdict (pe_glob (v := .ref D) rfl WH.g rfl) (pv 2) (fun _ _ => rfl)))
      (pss_one (ps_ret (pe_make M_Searcher F_Searcher (hr.mono (by decide)) (by rfl) g_Searcher b_Searcher .nil pass0 (pa_cons (pv 0) (pa_cons (pe_callB call_len_str (by rfl) T.len PySem.boot_len (pa_cons (pv 1) pa_nil)) (pa_cons (pe_callA (i := 3) (S := wayS Tn ws) WH.A (hr.mono (by decide)) rfl (Or.inl rfl) (pa_cons (pv 0) (pa_cons (pv 1) pa_nil))) pa_nil))))))))), ?_⟩
    refine ⟨_, rfl, _, rfl, by show 1 ≤ sizeLine; decide, fun l hl => ⟨L, l, [W], W.length, rfl, hW.lg, upd_same, ⟨Nat.le_refl 1, by show 1 ≤ 3; decide, w1, w8, fun u hu => by rw [List.mem_singleton.mp hu]; exact ⟨rfl, hW.of⟩, List.nodup_cons.mpr ⟨List.not_mem_nil, List.nodup_nil⟩⟩, fun H1 e1 => ?_⟩⟩
    have e01 := (Ex.new (o := .lst [.str (tx W)]) hl).trans e1
    obtain ⟨kd, ⟨r, hr0⟩, hS⟩ := WH.at' p hp
    refine ⟨_, rfl, _, _, _, _, true, rfl, .ty _, .base (.str _), kit_ss, true, rfl, ?_⟩
    refine ⟨_, rfl, p.1, some r, rfl, rfl, hr0, _, rfl, ?_⟩
    refine ite2 (fun hb => absurd hb (by simp)) (fun _ => ?_)
    refine ⟨_, rfl, D, p.1, .ref p.2.1, rfl, rfl, kd, ?_⟩
    refine ⟨_, rfl, _, rfl, _, rfl, tx_le (by omega), p.2.1, spMk Tn p.2.2, rfl, hS, _, rfl, _, rfl, L, W, noT H1, rfl, hW.lg, w1, w8, hW.of, noT_ex H1, TN.ext e01, noT_nt H1, fun B' H2 r2 us g hr2 KX => ?_⟩
    rw [tx_len]
    refine fun o dx ho hdx hne => mk_spX (kt := false) (k := true) ho hdx hne (g.s _ _ hr2) (KX.ex g.s) hW.lg w1 w8 wok fun H3 e3 SO => ⟨rfl, ?_⟩
    exact q o H3 (((ExtN.of e01).trans g.h).trans (ExtN.of e3)) (g.t.ext e3) SO
end
end Law

/-! list(text) -/
namespace LS
open PySem PySem.Spec PyProof.Rows L2
def rLstS : List V → Hp → VK → Prop := fun xs H Q => ∃ z : Str, xs = [.str z] ∧ z.cps.size ≤ sizeLine ∧ ∀ l, H l = none → Q (.ref l) (upd H l (.lst (z.cps.toList.map fun c => V.str ⟨#[c]⟩)))
theorem call_list_tx {X : Cx} (hc : X.calm = true) : CallR X (.type "list") rLstS := by
  intro pins s σ H xs us Q I r h
  obtain ⟨z, rfl, hz, q⟩ := h
  obtain ⟨u, rfl, t, rfl⟩ := vals1 r
  refine call_list_str (I.ok.hd hc) z t (hn := hz) fun h' tk acc' c' hkeep hS hacc => ?_
  refine ⟨.ref s.heap.objs.size, upd H s.heap.objs.size (.lst (z.cps.toList.map fun c => V.str ⟨#[c]⟩)), I.laid hkeep (Nat.le_refl _) (show ObjOk X.prog X.w _ _ _ (.lst (z.cps.toList.map fun c => V.str ⟨#[c]⟩)) from ⟨?_, acc'.toList, c', ?_, ?_⟩), rfl, q _ (I.hok.fresh (Nat.le_refl _))⟩
  · rw [List.length_map, Array.length_toList]; exact hz
  · have el : acc'.toList.length = acc'.size := by simp
    refine vals_of_at (by rw [List.length_map, el, hacc.1, Array.length_toList]) fun j x w h1 h2 => ?_
    obtain ⟨c, u, hcu, rfl⟩ := hacc.2 j w (by rw [← Array.getElem?_toList]; exact h2)
    rw [List.getElem?_map, Array.getElem?_toList, hcu] at h1
    cases h1
    exact ⟨u, rfl⟩
  · simpa using hS
end LS

/-! xs == [] and xs != [], whatever stands in xs -/
namespace NL
open PySem PySem.Spec PyProof.Rows L2
def rEqNil (K : PySem.W.Frag) : R2 := fun x y H Q => ∃ a b xs, x = .ref a ∧ y = .ref b ∧ SqL K H a xs ∧ SqL K H b [] ∧ Q (.bl (decide (xs.length = 0))) H
def rNeNil (K : PySem.W.Frag) : R2 := fun x y H Q => ∃ a b xs, x = .ref a ∧ y = .ref b ∧ SqL K H a xs ∧ SqL K H b [] ∧ Q (.bl (!decide (xs.length = 0))) H
section
variable {X : Cx}
theorem op_eqNil (hu : X.A.units + 64 < cLine) : OpR X (compareOp .Eq) (rEqNil X.K) := by
  intro pins s σ H x y v u Q I rx ry h
  obtain ⟨a, b, xs, rfl, rfl, ha, hb, q⟩ := h
  cases (show v = Value.ref a from rx)
  cases (show u = Value.ref b from ry)
  obtain ⟨us, r1, p1, _⟩ := I.list ha
  obtain ⟨ws, r2, p2, _⟩ := I.list hb
  cases r2
  have l1 := r1.length
  have un : X.A.units < cLine := by omega
  show wpAny _ _ (richCompare .Eq _ _) _ _ _
  by_cases hx : xs.length = 0
  · rw [decide_eq_true hx] at q
    have hz : us.toArray.size = ([] : List Value).toArray.size := by rw [List.size_toArray, List.size_toArray, ← l1, hx]; rfl
    refine (SeqAt.RcAt.lists (e := fun _ => true) p1.isList p2.isList hz un fun j h1 h2 => absurd h2 (Nat.not_lt_zero j)) X.prog X.w _ _ ?_
    refine ⟨.bl true, H, I, ?_, q⟩
    show Value.bool _ = Value.bool true
    rw [show ((List.range us.toArray.size).all fun _ => true) = true from List.all_eq_true.mpr fun _ _ => rfl]
  · rw [decide_eq_false hx] at q
    refine (SeqAt.RcAt.lists_lengths p1.isList p2.isList ?_ un) X.prog X.w _ _ ⟨.bl false, H, I, rfl, q⟩
    rw [bne_iff_ne, List.size_toArray, List.size_toArray, ← l1]
    exact hx
theorem op_neNil (hu : X.A.units + 64 < cLine) : OpR X (compareOp .NotEq) (rNeNil X.K) := by
  intro pins s σ H x y v u Q I rx ry h
  obtain ⟨a, b, xs, rfl, rfl, ha, hb, q⟩ := h
  cases (show v = Value.ref a from rx)
  cases (show u = Value.ref b from ry)
  obtain ⟨us, r1, p1, _⟩ := I.list ha
  obtain ⟨ws, r2, p2, _⟩ := I.list hb
  cases r2
  have l1 := r1.length
  have un : X.A.units < cLine := by omega
  show wpAny _ _ (richCompare .NotEq _ _) _ _ _
  by_cases hx : xs.length = 0
  · rw [decide_eq_true hx] at q
    have hz : us.toArray.size = ([] : List Value).toArray.size := by rw [List.size_toArray, List.size_toArray, ← l1, hx]; rfl
    refine (SeqAt.RcNeAt.lists (e := fun _ => true) p1.isList p2.isList hz un fun j h1 h2 => absurd h2 (Nat.not_lt_zero j)) X.prog X.w _ _ ?_
    refine ⟨.bl false, H, I, ?_, q⟩
    show Value.bool _ = Value.bool false
    rw [show ((List.range us.toArray.size).all fun _ => true) = true from List.all_eq_true.mpr fun _ _ => rfl]
    rfl
  · rw [decide_eq_false hx] at q
    refine (SeqAt.RcNeAt.lists_lengths p1.isList p2.isList ?_ un) X.prog X.w _ _ ⟨.bl true, H, I, rfl, q⟩
    rw [bne_iff_ne, List.size_toArray, List.size_toArray, ← l1]
    exact hx
end
end NL

/-! the law's letters, words, ways -/
namespace Law
open PySem PySem.Spec PyProof.Rows L2 Evl TR
theorem PenAt.both {p : PenI} {H0 H : Hp} {a : Addr} {n : Nat} {o : HO} (P : PenAt p H0 H n) (hd : a ≠ p.d) (hc : a ≠ p.c) : PenAt p (L2.upd H0 a o) (L2.upd H a o) n := by
  obtain ⟨e, h0, hc0, hl, op, lf, ho, hdk⟩ := P
  refine ⟨fun b u h => ?_, (upd_ne hd.symm).trans h0, (upd_ne hc.symm).trans hc0, hl, op, lf, ho, (upd_ne hd.symm).trans hdk⟩
  by_cases q : b = a
  · subst q
    rw [upd_same] at h ⊢
    exact h
  · rw [upd_ne q] at h ⊢
    exact e b u h
theorem fresh_nc {p : PenI} {H0 H : Hp} {n : Nat} {a : Addr} (P : PenAt p H0 H n) (h : H a = none) : a ≠ p.c := fun e => by
  rw [e, P.1 _ _ P.2.2.1] at h
  cases h
theorem PenAt.made {p : PenI} {H0 H : Hp} {a : Addr} {n : Nat} {o : HO} (P : PenAt p H0 H n) (h : H a = none) : PenAt p (L2.upd H0 a o) (L2.upd H a o) n ∧ Ex H0 (L2.upd H0 a o) :=
  ⟨P.both (fresh_ne P h) (fresh_nc P h), Ex.new (fresh0 P h)⟩
theorem PenAt.low {p : PenI} {H0 Hb H H' : Hp} {n m : Nat} (P : PenAt p H0 H n) (P' : PenAt p Hb H' m) (e : Ex H0 Hb) : PenAt p H0 H' m := ⟨e.trans P'.1, P.2.1, P.2.2.1, P.2.2.2.1, P'.2.2.2.2⟩
/-- signs picked one by one -/
def Picks (p : PenI) (H0 : Hp) (n : Nat) (z : Str) (D : Addr) (i : Nat) (H : Hp) : Prop := PenAt p H0 H (n + i) ∧ ∃ cs : List Nat, cs.length = i ∧ (∀ c ∈ cs, c ∈ z.cps.toList) ∧ H D = some (.lst ((cs.map sg).map V.str))
theorem perm_erase : ∀ {m : List Nat} {k : Nat} {x : Nat}, m[k]? = some x → (x :: m.eraseIdx k).Perm m
  | y :: r, 0, x, h => by
    cases h
    exact List.Perm.refl _
  | y :: r, k + 1, x, h => by
    have h2 := perm_erase (m := r) (k := k) h
    exact (List.Perm.swap _ _ _).trans (h2.cons y)
  | [], _, _, h => by simp at h
def sV (c : Nat) : V := .str (sg c)
theorem erase_sV : ∀ (m : List Nat) (k : Nat), (m.map sV).eraseIdx k = (m.eraseIdx k).map sV
  | [], k => by simp
  | x :: r, 0 => rfl
  | x :: r, k + 1 => by
    show sV x :: (r.map sV).eraseIdx k = sV x :: (r.eraseIdx k).map sV
    rw [erase_sV r k]
def abc : List Nat := (List.range 26).map (97 + ·)
theorem abc_tx : Str.ofString "abcdefghijklmnopqrstuvwxyz" = tx abc := by decide +kernel
def spLetOf : Sp := fun vs H Q _ => ∃ (p : PenI) (H0 : Hp) (n m : Nat), vs = [.ref p.d, .int (m : Nat)] ∧ PenAt p H0 H n ∧ n < 800000 ∧ 2 ≤ m ∧ m ≤ 4 ∧ ∀ H' L, PenAt p H0 H' (n + m) → LG L → L.length = m → Q (.str (tx L)) H'
def spWordOf : Sp := fun vs H Q _ => ∃ (p : PenI) (H0 : Hp) (n m : Nat) (L : List Nat), vs = [.ref p.d, .str (tx L), .int (m : Nat)] ∧ PenAt p H0 H n ∧ n < 800000 ∧ 0 < L.length ∧ L.length < 900 ∧ m ≤ 20 ∧
  ∀ H' u, PenAt p H0 H' (n + m) → WG L m u → Q (.str (tx u)) H'
section
variable {P : Program} {w : World} {K : PySem.W.Frag} {mg : Str → Option Value} {base : Heap}
theorem ok_lword_of {f : Addr} {fd : FuncData} (F : Fun K "_law_word_of" "_law_word_of" s_lword_of f fd) (T : Tx mg) (c_pickS : Kn P w K mg base "_law_pick" ["_law_pen", "_law_menu"] 2 spPickS) :
    FnOk P w K mg base CX0 3 f fd ["_law_pen", "_law_letters", "_law_size"] spWordOf := by
  refine F.ok sc_lword_of (fun vs H Q E h => ?_) (fun cdv A outer s H vs Q E hr h => ?_)
  · obtain ⟨p, H0, n, m, L, rfl, _⟩ := h
    rfl
  · obtain ⟨p, H0, n, m, L, rfl, P0, hn, hz0, hz1, m20, q⟩ := h
    refine ⟨_, (pss_one (ps_ret (pe_join pe_str (pe_lc (own := [("_law_k", 3)]) (g := gName 3) (tt := tYes) rfl sc_lword_of.nd (pi_range1 (by rfl) T.range (pa_cons (pv 2) pa_nil)) (blkOk_by (N := N_lword_of) (sc := defScope s_lword_of) (by decide +kernel)) (fun _ _ _ _ _ => (pg_name (i := 3) sc_lword_of.nd rfl (Or.inl rfl))) (fun _ _ _ _ _ => pts_nil) (fun _ _ _ _ _ => (pe_call c_pickS.ok (hr.mono (by decide)) (by rfl) c_pickS.g c_pickS.kp c_pickS.b .nil pass0 (pa_cons (pv 0) (pa_cons (pv 1) pa_nil)))))))), ?_⟩
    refine ⟨⟨_, rfl⟩, _, rfl, _, rfl, by omega, by omega, fun D hD => ?_⟩
    rw [Int.toNat_natCast]
    have d0 := fresh0 P0 hD
    have d1 := fresh_ne P0 hD
    refine lc_range (lo := 0) (n := m) (Picks p H0 n (tx L) D) ⟨P0.upd d0 d1, [], rfl, (fun c h => nomatch h), upd_same⟩ (fun i H hi hw => ?_) (fun H hw => ?_)
    · obtain ⟨Q1, cs, hcs, hcz, hL⟩ := hw
      refine ⟨rfl, _, rfl, _, rfl, p, upd H0 D (.lst ((cs.map sg).map V.str)), n + i, tx L, rfl, Q1.keep hL d1, by omega, by rw [tx_len]; exact hz0, by rw [tx_len]; omega, fun H5 c P5 hc => ?_⟩
      have hL5 := P5.1 _ _ upd_same
      refine ⟨_, hL5, ?_, (Q1.drop hL P5).upd d0 d1, cs ++ [c], by rw [List.length_append, hcs]; rfl, fun x hx => ?_, ?_⟩
      · rw [List.length_map, List.length_map, hcs]
        exact sz_lt (by omega)
      · rcases List.mem_append.mp hx with h | h
        · exact hcz x h
        · rw [List.mem_singleton.mp h]
          exact hc
      · rw [upd_same, ← sg_snoc]
        rfl
    · obtain ⟨Q1, cs, hcs, hcz, hL⟩ := hw
      refine ⟨_, D, cs.map sg, rfl, rfl, .inl (sq_of hL), join_bound cs (by omega), ?_⟩
      rw [join_sg]
      exact q _ cs Q1 ⟨hcs, hcz⟩
theorem ok_lletters_of {f : Addr} {fd : FuncData} (F : Fun K "_law_letters_of" "_law_letters_of" s_lletters_of f fd) (T : Tx mg) (c_ldraw : Kn P w K mg base "_law_draw" ["_law_pen", "_law_many"] 1 spDraw) : FnOk P w K mg base CX0 2 f fd ["_law_pen", "_law_many"] spLetOf := by
  refine F.ok sc_lletters_of (fun vs H Q E h => ?_) (fun cdv A outer s H vs Q E hr h => ?_)
  · obtain ⟨p, H0, n, m, rfl, _⟩ := h
    rfl
  · obtain ⟨p, H0, n, m, rfl, P0, hn, m2, m4, q⟩ := h
    refine ⟨_, (pss_cons (ps_par (i := 2) (j := 3) (by rfl) sc_lletters_of.nd rfl rfl (by decide) rfl rfl (pa_cons (pe_callTy (LS.call_list_tx rfl) (by rfl) T.list PyProof.Rows.boot_list (pa_cons pe_str pa_nil)) (pa_cons pe_str pa_nil)) (by rfl))
      (pss_cons (ps_for PassesOwn.never rfl (pi_range1 (by rfl) T.range (pa_cons (pv 1) pa_nil)) (pg_name (i := 4) sc_lletters_of.nd rfl (Or.inl rfl)) (pss_one (ps_set (i := 3) sc_lletters_of.nd rfl (Or.inl rfl) (pe_op op_add_str (pv 3) (pe_bm PySem.F.plainAttrs_list PySem.F.slot_list_pop PySem.F.type_list_pop mt_popAt (pv 2) (pa_cons (pe_call c_ldraw.ok (hr.mono (by decide)) (by rfl) c_ldraw.g c_ldraw.kp c_ldraw.b .nil pass0 (pa_cons (pv 0) (pa_cons (pe_callB call_len_seq (by rfl) T.len PySem.boot_len (pa_cons (pv 2) pa_nil)) pa_nil))) pa_nil))))))
      (pss_one (ps_ret (pv 3))))), ?_⟩
    refine ⟨_, rfl, by decide +kernel, fun l hl => ⟨_, _, rfl, ?_⟩⟩
    rw [abc_tx]
    obtain ⟨P1, e1⟩ := P0.made (o := .lst (abc.map sV)) hl
    have hl1 : (L2.upd H0 l (.lst (abc.map sV))) l = some (.lst (abc.map sV)) := upd_same
    have l0 := fresh0 P0 hl
    have l1 := fresh_ne P0 hl
    have l2 := fresh_nc P0 hl
    refine ⟨_, rfl, _, rfl, by omega, by omega, ?_⟩
    refine for_it walk_range (n := ((m : Nat) : Int).toNat) (fun i σ H' => ∃ (Hb : Hp) (left found : List Nat) (y4 : Option V), σ = [some (.ref p.d), some (.int (m : Nat)), some (.ref l), some (.str (tx found)), y4] ∧ Ex H0 Hb ∧ PenAt p Hb H' (n + i) ∧ Hb l = some (.lst (left.map sV)) ∧ (left ++ found).Perm abc ∧ found.length = i)
      ⟨_, abc, [], none, rfl, e1, P1, hl1, by rw [List.append_nil], rfl⟩ (fun _ _ _ _ _ => True.intro) (fun i x σ H' H9 hi hp hy => ?_) (fun σ H' hp => ?_)
    · obtain ⟨Hb, left, found, y4, rfl, e, Pb, hL, perm, hf⟩ := hp
      obtain ⟨rfl, rfl⟩ := hy
      have plen := perm.length_eq
      rw [List.length_append] at plen
      have habc : abc.length = 26 := rfl
      refine ⟨_, rfl, _, rfl, .inl ⟨rfl, _, sq_of (Pb.1 _ _ hL)⟩, _, rfl, _, rfl, l, _, rfl, .inl (sq_of (Pb.1 _ _ hL)), ?_⟩
      refine ⟨p, Hb, n + i, _, rfl, Pb, by omega, by rw [List.length_map]; omega, by rw [List.length_map]; omega, fun H4 dr P4 dr0 dr1 => ?_⟩
      rw [List.length_map] at dr1
      obtain ⟨k, rfl⟩ : ∃ k : Nat, dr = (k : Int) := ⟨dr.toNat, (Int.toNat_of_nonneg dr0).symm⟩
      have hk : k < left.length := by omega
      have hx : left[k]? = some left[k] := List.getElem?_eq_getElem hk
      obtain ⟨x, hxx⟩ : ∃ x, left[k] = x := ⟨_, rfl⟩
      rw [hxx] at hx
      have pe := perm_erase hx
      have le := pe.length_eq
      rw [List.length_cons] at le
      refine ⟨l, _, _, k, sV x, rfl, rfl, P4.1 _ _ hL, by omega, by omega, ?_, by rw [List.getElem?_map, hx]; rfl, ?_⟩
      · unfold seqIndex?
        rw [List.length_map]
        simp only []
        split <;> simp_all <;> omega
      rw [erase_sV]
      refine ⟨_, _, rfl, rfl, ?_, ?_⟩
      · rw [tx_len]
        show found.length + 1 ≤ _
        exact sz_le (by omega)
      have ef : tx found ++ sg x = tx (found ++ [x]) := by rw [← tx_app, ← sg_tx]
      rw [ef]
      refine ⟨_, left.eraseIdx k, found ++ [x], _, rfl, e.mut l0, ?_, upd_same, ?_, ?_⟩
      · exact P4.both l1 l2
      · refine List.Perm.trans ?_ perm
        rw [← List.append_assoc]
        refine List.perm_append_comm.trans ?_
        show (x :: (left.eraseIdx k ++ found)).Perm _
        rw [← List.cons_append]
        exact pe.append_right found
      · rw [List.length_append, hf]
        rfl
    · obtain ⟨Hb, left, found, y4, rfl, e, Pb, hL, perm, hf⟩ := hp
      have hfm : found.length = m := by rw [hf, Int.toNat_natCast]
      refine ⟨_, rfl, q H' found ?_ ⟨by omega, by omega, fun c hc => ?_, ?_⟩ hfm⟩
      · exact (P0.low Pb e).le (by omega)
      · have := perm.mem_iff.mp (List.mem_append_right left hc)
        obtain ⟨k, hk, rfl⟩ := List.mem_map.mp this
        have := List.mem_range.mp hk
        omega
      · have nd : abc.Nodup := by decide
        exact (List.nodup_append.mp (perm.nodup_iff.mpr nd)).2.1
end
end Law

/-! the turns of a tree, pure -/
namespace SG
open TR
structure Trn where
  rd : List (Nat × Nat)
  tl : List Nat
  kn : List Nat
  go : Option (Nat × Nat)
mutual
def tnT (L : List Nat) (w : Nat) : Tr → List Nat → List (Nat × Nat) → List Nat → List Trn
  | .go s q, kn, rd, tl => [⟨rd, tl, kn, some (s, q)⟩]
  | .tell n t, kn, rd, tl => tnT L w t kn rd (tl ++ [n])
  | .read p ts, kn, rd, tl => (if p = w ∧ kn.getD p 0 = 46 then [⟨rd, tl, kn, none⟩] else []) ++ tnA L w ts p L kn rd tl
def tnA (L : List Nat) (w : Nat) : Trs → Nat → List Nat → List Nat → List (Nat × Nat) → List Nat → List Trn
  | .nil, _, _, _, _, _ => []
  | .cons t r, p, ls, kn, rd, tl => (match ls with | [] => [] | c :: _ => if kn.getD p 0 = 46 ∨ kn.getD p 0 = c then tnT L w t (kn.set p c) (rd ++ [(p, c)]) tl else []) ++ tnA L w r p ls.tail kn rd tl
end
/-- what waits: a tree, what is known, read, told -/
structure Itm where
  t : Tr
  kn : List Nat
  rd : List (Nat × Nat)
  tl : List Nat
def itT (L : List Nat) (w : Nat) (i : Itm) : List Trn := tnT L w i.t i.kn i.rd i.tl
/-- the stack's top is its last -/
def outS (L : List Nat) (w : Nat) (s : List Itm) : List Trn := s.reverse.flatMap (itT L w)
def sizeS (s : List Itm) : Nat := (s.map fun i => i.t.size).sum
theorem outS_snoc (L : List Nat) (w : Nat) (s : List Itm) (i : Itm) : outS L w (s ++ [i]) = itT L w i ++ outS L w s := by
  unfold outS
  rw [List.reverse_append]
  rfl
theorem outS_app (L : List Nat) (w : Nat) (s k : List Itm) : outS L w (s ++ k.reverse) = k.flatMap (itT L w) ++ outS L w s := by
  unfold outS
  rw [List.reverse_append, List.reverse_reverse, List.flatMap_append]
theorem sizeS_app (s k : List Itm) : sizeS (s ++ k) = sizeS s + sizeS k := by
  unfold sizeS
  rw [List.map_append, List.sum_append]
theorem sizeS_rev (k : List Itm) : sizeS k.reverse = sizeS k := by
  unfold sizeS
  rw [List.map_reverse, List.sum_reverse]
theorem size_pos (t : Tr) : 1 ≤ t.size := by
  cases t <;> simp [Tr.size]
theorem len_sizeS (s : List Itm) : s.length ≤ sizeS s := by
  induction s with
  | nil => exact Nat.zero_le _
  | cons i r ih =>
    unfold sizeS at ih ⊢
    rw [List.map_cons, List.sum_cons, List.length_cons]
    have := size_pos i.t
    omega
/-- the items of a read of what is not known -/
def kidsI (p : Nat) (kn : List Nat) (rd : List (Nat × Nat)) (tl : List Nat) (x : Nat × Tr) : Itm := ⟨x.2, kn.set p x.1, rd ++ [(p, x.1)], tl⟩
theorem tnA_dot {L : List Nat} {w p : Nat} {kn : List Nat} {rd : List (Nat × Nat)} {tl : List Nat} (h : kn.getD p 0 = 46) : ∀ (ts : Trs) (ls : List Nat),
    tnA L w ts p ls kn rd tl = ((ls.zip ts.list).map (kidsI p kn rd tl)).flatMap (itT L w)
  | .nil, ls => by
    unfold tnA Trs.list
    rw [List.zip_nil_right]
    rfl
  | .cons t r, [] => by
    unfold tnA
    show [] ++ tnA L w r p [] kn rd tl = _
    rw [tnA_dot h r []]
    rw [List.zip_nil_left, List.zip_nil_left]
    rfl
  | .cons t r, c :: ls => by
    unfold tnA
    show (if _ then _ else _) ++ tnA L w r p ls kn rd tl = _
    rw [if_pos (Or.inl h), tnA_dot h r ls]
    rfl
theorem tnA_none {L : List Nat} {w p : Nat} {kn : List Nat} {rd : List (Nat × Nat)} {tl : List Nat} (h : kn.getD p 0 ≠ 46) : ∀ (ts : Trs) (ls : List Nat), kn.getD p 0 ∉ ls → tnA L w ts p ls kn rd tl = []
  | .nil, ls, _ => by
    unfold tnA
    rfl
  | .cons t r, [], hn => by
    unfold tnA
    show [] ++ tnA L w r p [] kn rd tl = _
    rw [tnA_none h r [] hn]
    rfl
  | .cons t r, c :: ls, hn => by
    unfold tnA
    show (if _ then _ else _) ++ tnA L w r p ls kn rd tl = _
    rw [if_neg (fun z => ?_), tnA_none h r ls (fun z => hn (List.mem_cons_of_mem _ z))]
    · rfl
    · rcases z with z | z
      · exact h z
      · exact hn (by rw [z]; exact List.mem_cons_self)
/-- a read of a known letter: just its tree -/
theorem tnA_known {L : List Nat} {w p : Nat} {kn : List Nat} {rd : List (Nat × Nat)} {tl : List Nat} (h : kn.getD p 0 ≠ 46) (hp : p < kn.length) : ∀ (ts : Trs) (ls : List Nat) (j : Nat) (t : Tr), ls.Nodup → ls[j]? = some (kn.getD p 0) → ts.list[j]? = some t →
    tnA L w ts p ls kn rd tl = tnT L w t kn (rd ++ [(p, kn.getD p 0)]) tl
  | .nil, _, _, _, _, _, ht => by
    unfold Trs.list at ht
    simp at ht
  | .cons t r, [], j, _, _, hj, _ => by simp at hj
  | .cons t r, c :: ls, 0, t', nd, hj, ht => by
    have e1 : c = kn.getD p 0 := Option.some.inj hj
    have e2 : t = t' := Option.some.inj ht
    subst e2
    unfold tnA
    show (if _ then _ else _) ++ tnA L w r p ls kn rd tl = _
    rw [if_pos (Or.inr e1.symm), tnA_none h r ls (by rw [← e1]; exact (List.nodup_cons.mp nd).1), List.append_nil]
    have e3 : kn.set p c = kn := by
      rw [e1, List.getD_eq_getElem?_getD, List.getElem?_eq_getElem hp]
      exact List.set_getElem_self hp
    rw [e3, e1]
  | .cons t r, c :: ls, j + 1, t', nd, hj, ht => by
    obtain ⟨n1, n2⟩ := List.nodup_cons.mp nd
    have hj : ls[j]? = some (kn.getD p 0) := hj
    have ht : r.list[j]? = some t' := ht
    unfold tnA
    show (if _ then _ else _) ++ tnA L w r p ls kn rd tl = _
    rw [if_neg (fun z => ?_), tnA_known h hp r ls j t' n2 hj ht]
    · rfl
    · rcases z with z | z
      · exact h z
      · exact n1 (by rw [← z]; exact List.mem_of_getElem? hj)
theorem size_kids (p : Nat) (kn : List Nat) (rd : List (Nat × Nat)) (tl : List Nat) : ∀ (ts : Trs) (ls : List Nat), sizeS ((ls.zip ts.list).map (kidsI p kn rd tl)) ≤ ts.size
  | .nil, ls => by
    unfold Trs.list
    rw [List.zip_nil_right]
    exact Nat.zero_le _
  | .cons t r, [] => Nat.zero_le _
  | .cons t r, c :: ls => by
    have h := size_kids p kn rd tl r ls
    unfold sizeS at h ⊢
    show t.size + _ ≤ t.size + r.size
    exact Nat.add_le_add_left h _
theorem size_get : ∀ {ts : Trs} {j : Nat} {t : Tr}, ts.list[j]? = some t → t.size ≤ ts.size
  | .nil, j, t, h => by
    unfold Trs.list at h
    simp at h
  | .cons t r, 0, t', h => by
    have e : t = t' := Option.some.inj h
    subst e
    exact Nat.le_add_right _ _
  | .cons t r, j + 1, t', h => Nat.le_trans (size_get (ts := r) (j := j) h) (Nat.le_add_left _ _)
mutual
theorem len_tnT (L : List Nat) (w : Nat) : ∀ (t : Tr) (kn : List Nat) (rd : List (Nat × Nat)) (tl : List Nat), (tnT L w t kn rd tl).length ≤ t.size
  | .go s q, _, _, _ => by
    unfold tnT
    exact Nat.le_refl _
  | .tell n t, kn, rd, tl => by
    unfold tnT
    exact Nat.le_trans (len_tnT L w t kn rd _) (Nat.le_succ _)
  | .read p ts, kn, rd, tl => by
    unfold tnT
    rw [List.length_append]
    have h := len_tnA L w ts p L kn rd tl
    have h2 : (if p = w ∧ kn.getD p 0 = 46 then [(⟨rd, tl, kn, none⟩ : Trn)] else []).length ≤ 1 := by split <;> simp
    show _ ≤ ts.size + 1
    omega
theorem len_tnA (L : List Nat) (w : Nat) : ∀ (ts : Trs) (p : Nat) (ls kn : List Nat) (rd : List (Nat × Nat)) (tl : List Nat), (tnA L w ts p ls kn rd tl).length ≤ ts.size
  | .nil, _, _, _, _, _ => by
    unfold tnA
    exact Nat.zero_le _
  | .cons t r, p, [], kn, rd, tl => by
    unfold tnA
    show ([] ++ tnA L w r p [] kn rd tl).length ≤ _
    exact Nat.le_trans (len_tnA L w r p [] kn rd tl) (Nat.le_add_left _ _)
  | .cons t r, p, c :: ls, kn, rd, tl => by
    unfold tnA
    show ((if _ then _ else _) ++ tnA L w r p ls kn rd tl).length ≤ _
    rw [List.length_append]
    have h := len_tnA L w r p ls kn rd tl
    have h2 := len_tnT L w t (kn.set p c) (rd ++ [(p, c)]) tl
    show _ ≤ t.size + r.size
    split
    · omega
    · rw [List.length_nil]
      omega
end
/-- what is told of a turn -/
structure TrnOk (L : List Nat) (w n : Nat) (kn : List Nat) (T : Trn) : Prop where
  len : T.kn.length = kn.length
  sg : (∀ c ∈ kn, c = 46 ∨ c ∈ L) → ∀ c ∈ T.kn, c = 46 ∨ c ∈ L
  go : ∀ s q, T.go = some (s, q) → 1 ≤ s ∧ s ≤ w + 1 ∧ q < n
theorem TrnOk.of_set {L : List Nat} {w n p c : Nat} {kn : List Nat} {T : Trn} (h : TrnOk L w n (kn.set p c) T) (hc : c ∈ L) : TrnOk L w n kn T :=
  ⟨h.len.trans List.length_set, fun q => h.sg fun d hd => by
    rcases List.mem_or_eq_of_mem_set hd with z | z
    · exact q d z
    · exact .inr (z ▸ hc), h.go⟩
mutual
theorem ok_tnT {L : List Nat} {l w n : Nat} : ∀ {t : Tr} {kn : List Nat} {rd : List (Nat × Nat)} {tl : List Nat}, t.ok l w n → ∀ T ∈ tnT L w t kn rd tl, TrnOk L w n kn T
  | .go s q, kn, rd, tl, ok, T, hT => by
    unfold tnT at hT
    unfold Tr.ok at ok
    rw [List.mem_singleton.mp hT]
    exact ⟨rfl, id, fun s' q' e => by cases e; exact ok⟩
  | .tell k t, kn, rd, tl, ok, T, hT => by
    unfold tnT at hT
    unfold Tr.ok at ok
    exact ok_tnT ok.2 T hT
  | .read p ts, kn, rd, tl, ok, T, hT => by
    unfold tnT at hT
    unfold Tr.ok at ok
    rcases List.mem_append.mp hT with hT | hT
    · split at hT
      · rw [List.mem_singleton.mp hT]
        exact ⟨rfl, id, fun s' q' e => by cases e⟩
      · cases hT
    · exact ok_tnA (fun _ h => h) ok.2.2 T hT
theorem ok_tnA {L : List Nat} {l w n : Nat} : ∀ {ts : Trs} {p : Nat} {ls kn : List Nat} {rd : List (Nat × Nat)} {tl : List Nat}, (∀ c ∈ ls, c ∈ L) → ts.ok l w n → ∀ T ∈ tnA L w ts p ls kn rd tl, TrnOk L w n kn T
  | .nil, p, ls, kn, rd, tl, hl, ok, T, hT => by
    unfold tnA at hT
    cases hT
  | .cons t r, p, [], kn, rd, tl, hl, ok, T, hT => by
    unfold tnA at hT
    unfold Trs.ok at ok
    exact ok_tnA (ls := []) hl ok.2 T hT
  | .cons t r, p, c :: ls, kn, rd, tl, hl, ok, T, hT => by
    unfold tnA at hT
    unfold Trs.ok at ok
    rcases List.mem_append.mp hT with hT | hT
    · have hT : T ∈ (if kn.getD p 0 = 46 ∨ kn.getD p 0 = c then tnT L w t (kn.set p c) (rd ++ [(p, c)]) tl else []) := hT
      split at hT
      · exact (ok_tnT ok.1 T hT).of_set (hl c List.mem_cons_self)
      · cases hT
    · exact ok_tnA (fun d h => hl d (List.mem_cons_of_mem _ h)) ok.2 T hT
end
end SG

/-! zip of a text and a tuple -/
namespace ZT
open PySem PySem.Spec PyProof.Rows L2
def ItzX (K : PySem.W.Frag) (x : Str) (b : Addr) (ys : List V) : It :=
  ⟨fun i H => SqT K H b ys ∧ i < x.cps.size ∧ i < ys.length,
   fun i H v H' => ∃ T c y, v = .ref T ∧ H T = none ∧ H' = upd H T (.tup [.str ⟨#[c]⟩, y]) ∧ x.cps[i]? = some c ∧ ys[i]? = some y,
   fun i H => SqT K H b ys ∧ i = min x.cps.size ys.length⟩
def StX (x : Str) (t : Tok) (b z TI TO i1 i2 : Addr) (i : Nat) (h : Heap) : Prop :=
  IsZip h z TI TO .none ∧ IsTupOf2 h TI (.ref i1) (.ref i2) ∧ (∃ a1 a2, IsTupOf2 h TO a1 a2) ∧ h.IsStrIter i1 (strIterType x) x t i ∧ h.IsTupleIter i2 b i
theorem walkX {prog : Program} {w : World} {A : Around} (hh : A.handled = none) {z TI TO i1 i2 b : Addr} (S : ZipSep2 z TI TO i1 i2 [i1] [i2, b]) (hne : b ≠ i2) (x : Str) (t : Tok) (items : Array Value) :
    WalksT prog w A z (z :: TI :: TO :: ([i1] ++ [i2, b])) [z, TO, i1, i2] (min x.cps.size items.size)
      (fun i vals => ∃ v1 v2, (∃ c u, x.cps[i]? = some c ∧ v1 = .str ⟨#[c]⟩ u) ∧ items[i]? = some v2 ∧ vals = #[v1, v2])
      (fun i h => IsZip h z TI TO .none ∧ IsTupOf2 h TI (.ref i1) (.ref i2) ∧ (∃ a1 a2, IsTupOf2 h TO a1 a2) ∧ h.IsStrIter i1 (strIterType x) x t i ∧ (h.IsTupleIter i2 b i ∧ h.IsTuple b items))
      (fun i T h => IsZip h z TI TO (rawInt T) ∧ IsTupOf2 h TI (.ref i1) (.ref i2) ∧ (∃ a1 a2, IsTupOf2 h TO a1 a2) ∧ h.IsStrIter i1 (strIterType x) x t (i + 1) ∧ (h.IsTupleIter i2 b (i + 1) ∧ h.IsTuple b items) ∧ T ≠ z ∧ T ≠ TO ∧ T ≠ i1 ∧ T ≠ i2) :=
  WalksT.zipD2 S (ZS.drawsS (A := A.in1) hh i1 x t) (Draws.tuple (A := A.in1) hh i2 b hne items)
theorem turnX {P : Program} {w : World} {K : PySem.W.Frag} {elts : List Expr} {kk : Nat} {tpos : Pos} {z TI TO i1 i2 b : Addr} (S : ZipSep2 z TI TO i1 i2 [i1] [i2, b]) (hne : b ≠ i2) (x : Str) (t : Tok) (ys : List V) :
    Turn P w K (.Tuple elts kk tpos) (ItzX K x b ys) [z, TI, TO, i1, i2] z (StX x t b z TI TO i1 i2) where
  mem := List.mem_cons_self
  obj := fun i h st c hc => by
    obtain ⟨q1, q2, ⟨a1, a2, q3⟩, ⟨o1, e1, _, d1⟩, ⟨o2, e2, _, d2⟩⟩ := st
    rcases ZS.fp5 hc with q | q | q | q | q
    all_goals subst q
    · exact ⟨_, q1, fun v q => nomatch q⟩
    · exact ⟨_, q2, fun v q => nomatch q⟩
    · exact ⟨_, q3, fun v q => nomatch q⟩
    · exact ⟨o1, e1, fun v q => by rw [d1] at q; cases q⟩
    · exact ⟨o2, e2, fun v q => by rw [d2] at q; cases q⟩
  keep := fun i h h' st k => by
    obtain ⟨q1, q2, ⟨a1, a2, q3⟩, ⟨o1, e1, r1⟩, ⟨o2, e2, r2⟩⟩ := st
    exact ⟨k z (by simp) _ q1, k TI (by simp) _ q2, ⟨a1, a2, k TO (by simp) _ q3⟩, ⟨o1, k i1 (by simp) _ e1, r1⟩, ⟨o2, k i2 (by simp) _ e2, r2⟩⟩
  item := by
    intro X hP hw hK hc i pins s σ H E I hf st hg
    subst hP hw hK
    obtain ⟨hq, hx1, hx2⟩ := hg
    obtain ⟨its, rv, p, _⟩ := I.tuple hq
    have ln := rv.length
    have W := walkX (prog := X.prog) (w := X.w) (A := X.A) (I.ok.hd hc) S hne x t its.toArray
    have hlt : i < min x.cps.size its.toArray.size := by
      have : i < its.toArray.size := by
        simp
        omega
      omega
    obtain ⟨q1, q2, q3, q4, q5⟩ := st
    refine W.item i s _ _ hlt ⟨q1, q2, q3, q4, q5, p⟩ fun T vals h' tk hv hT hIs hm hk => ?_
    refine ⟨.ref T, rfl, ?_⟩
    refine W.go elts kk tpos i T { s with heap := h', toks := tk } _ _ hm fun h2 st2 hk2 => ?_
    obtain ⟨v1, v2, ⟨c, u1, hc1, rfl⟩, hd1, rfl⟩ := hv
    obtain ⟨y, hy, ry⟩ : ∃ y, ys[i]? = some y ∧ RelV y v2 := by
      have e1 : its[i]? = some v2 := by simpa using hd1
      obtain ⟨y, hy⟩ : ∃ y, ys[i]? = some y := ⟨_, List.getElem?_eq_getElem hx2⟩
      obtain ⟨v3, e3, r3⟩ := rv.get hy
      rw [e1] at e3
      cases e3
      exact ⟨y, hy, r3⟩
    have ap : T ∉ [z, TO, i1, i2] := W.apart i T h' hm
    have up : ∀ b o, b ∉ [z, TO, i1, i2] → s.heap.get? b = some o → h2.get? b = some o := fun b o hb e => hk2 b o hb (hk b o hb e)
    have hT2 : h2.IsTuple T #[.str ⟨#[c]⟩ u1, v2] := hIs.at fun o e => hk2 T o ap e
    obtain ⟨oT, eT, cT, nT, dT⟩ := hT2
    have new : ObjOk X.prog X.w (upd H T (.tup [.str ⟨#[c]⟩, y])) h2 T (.tup [.str ⟨#[c]⟩, y]) :=
      ⟨by show 2 ≤ sizeLine; decide, [.str ⟨#[c]⟩ u1, v2], .cons ⟨u1, rfl⟩ (.cons ry .nil), ⟨oT, eT, cT, nT, dT⟩⟩
    have sub : ∀ b, b ∉ [z, TI, TO, i1, i2] → b ∉ [z, TO, i1, i2] := fun b hb hb2 => hb (by
      have q : b = z ∨ b = TO ∨ b = i1 ∨ b = i2 := by simpa using hb2
      rcases q with q | q | q | q <;> simp [q])
    have I1 := I.turnedNew (t' := tk) (ch := [z, TI, TO, i1, i2]) (fun b o hb e => up b o (sub b hb) e) hf hT new
    obtain ⟨s1, s2, s3, s4, s5, s6⟩ := st2
    refine ⟨.ref T, _, I1, rfl, ⟨T, c, y, rfl, I.hok.fresh hT, rfl, hc1, hy⟩, ⟨s1, s2, s3, s4, s5⟩, fun b hb => ?_⟩
    have hlb : b < s.heap.objs.size := by
      obtain ⟨a1, a2, r3⟩ := q3
      obtain ⟨o1, e1, r1⟩ := q4
      obtain ⟨o2, e2, r2⟩ := q5
      rcases ZS.fp5 hb with q | q | q | q | q
      · rw [q]; exact Heap.lt_size q1
      · rw [q]; exact Heap.lt_size q2
      · rw [q]; exact Heap.lt_size r3
      · rw [q]; exact Heap.lt_size e1
      · rw [q]; exact Heap.lt_size e2
    rw [upd_ne (show b ≠ T from fun e => absurd hT (by rw [← e]; exact Nat.not_le.mpr hlb))]
    exact (hf b hb).1
  done := by
    intro X hP hw hK hc i pins s σ H E I hf st hg
    subst hP hw hK
    obtain ⟨hq, hi⟩ := hg
    obtain ⟨its, rv, p, _⟩ := I.tuple hq
    have ln := rv.length
    have W := walkX (prog := X.prog) (w := X.w) (A := X.A) (I.ok.hd hc) S hne x t its.toArray
    have e : i = min x.cps.size its.toArray.size := by
      rw [hi, ln]
      rfl
    subst e
    obtain ⟨q1, q2, q3, q4, q5⟩ := st
    refine W.done s _ _ ⟨q1, q2, q3, q4, q5, p⟩ fun h' tk hk => ⟨rfl, ?_⟩
    refine I.turnedL (t' := tk) (ch := [z, TI, TO, i1, i2]) (fun b o hb e => hk b o (fun hb2 => hb ?_) e) hf
    have q : b = z ∨ b = TO ∨ b = i1 ∨ b = i2 := by simpa using hb2
    rcases q with q | q | q | q <;> simp [q]
  self := fun A i s Q E st h => wpAny_pyIter_zip st.1 h
abbrev g1 (h : Heap) (x : Str) (t : Tok) : Heap := h.push { cls := .type (strIterType x), data := .fields #[.str x t, .int 0 0] }
abbrev g2 (h : Heap) (x : Str) (t : Tok) (b : Addr) : Heap := (g1 h x t).push { cls := .type "tuple_iterator", data := .fields #[.ref b, .int 0 0] }
abbrev g3 (h : Heap) (x : Str) (t : Tok) (b : Addr) : Heap := (g2 h x t b).push { cls := .type "tuple", data := .seq #[.ref h.objs.size, .ref (g1 h x t).objs.size] }
abbrev g4 (h : Heap) (x : Str) (t : Tok) (b : Addr) : Heap := (g3 h x t b).push { cls := .type "tuple", data := .seq #[.none, .none] }
abbrev g5 (h : Heap) (x : Str) (t : Tok) (b : Addr) : Heap := (g4 h x t b).push { cls := .type "zip", data := .fields #[.none, .bool false, .bool false, .ref (g2 h x t b).objs.size, .ref (g3 h x t b).objs.size] }
theorem meetsX (x : Str) (t : Tok) (b : Addr) (ys : Array Value) :
    Meets (Builtin.«zip.__new__» ⟨[.type "zip", .str x t, .ref b], []⟩) (fun _ R s => s.heap.IsTuple b ys ∧ R (.ok (.ret (.ref (g4 s.heap x t b).objs.size))) { s with heap := g5 s.heap x t b }) :=
  .of_wp fun prog w A R s h => by
    obtain ⟨hp, gg, d, tk, os⟩ := s
    obtain ⟨hl, h⟩ := h
    have hsub := sub_zip
    have hL2 : Heap.IsTuple (Shared.heap ⟨hp.push { cls := .type (strIterType x), data := .fields #[.str x t, .int 0 0] }, gg, d, tk, os⟩) b ys := Heap.IsTuple.push hl _
    wp_walk using wpAny_pyIter_strU, wpAny_pyIter_tuple hL2
    exact ⟨_, rfl, h⟩
theorem callX {prog : Program} {w : World} {A : Around} {E : Value → Shared → Prop} {s : Shared} {x : Str} {t : Tok} {b : Addr} {ys : Array Value} {Q : Value → Shared → Prop} (hb : s.heap.IsTuple b ys)
    (h : ∀ h', StX x t b (s.heap.objs.size + 4) (s.heap.objs.size + 2) (s.heap.objs.size + 3) s.heap.objs.size (s.heap.objs.size + 1) 0 h' → (∀ c o, s.heap.get? c = some o → h'.get? c = some o) → Q (.ref (s.heap.objs.size + 4)) { s with heap := h' }) :
    wpAny (model prog w) A (call (.type "zip") [.str x t, .ref b]) Q E s := by
  refine callType_new F.called_zip (by decide) (F.typeCall_zip_2 _ _) (F.newCall_zip_2 _ _) (fun obj => F.args_object_init_3 obj _ _) F.entry_zip_new (meetsX x t b ys) ⟨hb, ?_⟩
  have n1 : (g1 s.heap x t).objs.size = s.heap.objs.size + 1 := Heap.size_push ..
  have n2 : (g2 s.heap x t b).objs.size = s.heap.objs.size + 2 := by rw [Heap.size_push, n1]
  have n3 : (g3 s.heap x t b).objs.size = s.heap.objs.size + 3 := by rw [Heap.size_push, n2]
  have n4 : (g4 s.heap x t b).objs.size = s.heap.objs.size + 4 := by rw [Heap.size_push, n3]
  have k5 : (g5 s.heap x t b).get? (g4 s.heap x t b).objs.size = some _ := Heap.get?_push_size _ rfl
  have k4 : (g5 s.heap x t b).get? (g3 s.heap x t b).objs.size = some _ := Heap.get?_push_of_some _ (Heap.get?_push_size _ rfl)
  have k3 : (g5 s.heap x t b).get? (g2 s.heap x t b).objs.size = some _ := Heap.get?_push_of_some _ (Heap.get?_push_of_some _ (Heap.get?_push_size _ rfl))
  have k2 : (g5 s.heap x t b).get? (g1 s.heap x t).objs.size = some _ := Heap.get?_push_of_some _ (Heap.get?_push_of_some _ (Heap.get?_push_of_some _ (Heap.get?_push_size _ rfl)))
  have k1 : (g5 s.heap x t b).get? s.heap.objs.size = some _ := Heap.get?_push_of_some _ (Heap.get?_push_of_some _ (Heap.get?_push_of_some _ (Heap.get?_push_of_some _ (Heap.get?_push_size _ rfl))))
  show _ ∧ _
  rw [n2, n3, n4] at k5
  rw [n1, n2] at k3
  rw [n3] at k4
  rw [n1] at k2
  rw [n4]
  exact ⟨⟨_, k5, rfl⟩, h _ ⟨k5, k3, ⟨_, _, k4⟩, ⟨_, k1, rfl, rfl⟩, ⟨_, k2, rfl, rfl⟩⟩ fun c o e =>
    Heap.get?_push_of_some _ (Heap.get?_push_of_some _ (Heap.get?_push_of_some _ (Heap.get?_push_of_some _ (Heap.get?_push_of_some _ e))))⟩
theorem sepX {n b : Nat} (h : b < n) : ZipSep2 (n + 4) (n + 2) (n + 3) n (n + 1) [n] [n + 1, b] := by
  have k1 : ∀ k : Nat, n + k ≠ b := fun k e => by omega
  constructor <;> first | omega | (simp; done) | (simp; exact k1 _) | (simp; exact k1 0)
def iZipX (K : PySem.W.Frag) (ta : TA) : TI := fun σ H R => ta σ H fun vs H1 => ∃ x b ys, vs = [.str x, .ref b] ∧ SqT K H1 b ys ∧ R (ItzX K x b ys) H1
theorem pi_zipX {X : Cx} {e e2 : Expr} {ta : TA} {p pos tpos : Pos} {elts : List Expr} {kk : Nat} (hg : Gl X "zip") (hm : X.mg "zip" = none) (ha : PA X [e, e2] ta)
    (hs : starEach [e, e2] X.env = (false, eval e X.env) :: starEach [e2] X.env := by rfl) (hpl : (backTo pos (starEach [e2] X.env)).any (·.1) = false := by rfl) :
    PI X (.Tuple elts kk tpos) (.Call (.Name "zip" p) [e, e2] [] pos) (iZipX X.K ta) := by
  refine ⟨fun pins s σ H R I h => ?_⟩
  refine Call_ (ld_blt I hg hm boot_zip (callWith_type1 (thn (ha.run pos pins s σ H _ I h) fun us s1 ⟨vs, H1, I1, r1, q1⟩ => ?_) hs hpl))
  obtain ⟨x, b, ys, ex, hq, q⟩ := q1
  subst ex
  cases r1 with
  | cons r rr =>
    cases rr with
    | cons r' rr =>
      cases rr
      obtain ⟨t, rfl⟩ := r
      cases r'
      obtain ⟨its, rv, p1, _⟩ := I1.tuple hq
      obtain ⟨o1, ho1, _⟩ := id p1
      have hb := Heap.lt_size ho1
      refine callX (show s1.heap.IsTuple b its.toArray from p1) fun h' st hk => wpAny_pyIter_zip st.1 ?_
      have I2 : Inv X pins σ H1 { s1 with heap := h' } := I1.kept (t' := s1.toks) hk
      refine ⟨s1.heap.objs.size + 4, _, _, _, H1, rfl, I2, turnX (sepX hb) (Nat.ne_of_lt (Nat.lt_succ_of_lt hb)) x t ys, st, fun c hcm => ?_, q⟩
      have hle : s1.heap.objs.size ≤ c := by
        rcases ZS.fp5 hcm with z | z | z | z | z <;> rw [z] <;> first | exact Nat.le_add_right _ _ | exact Nat.le_refl _
      exact I1.fpOk hle (I1.hok.fresh hle)
/-- a comprehension over it -/
theorem lc_zipX {K : PySem.W.Frag} {x : Str} {b : Addr} {ys : List V} {g : TG} {tt : TT} {te : TE} {vs : List Nat} {σ : L2.St} {H1 : Hp} {D : Addr} {Qd : Hp → Prop} (hl : x.cps.size = ys.length) (Pv : Nat → Hp → Prop) (h0 : Pv 0 (upd H1 D (.lst []))) (hq : ∀ i H, Pv i H → H b = some (.tup ys))
    (hs : ∀ i c y T H, x.cps[i]? = some c → ys[i]? = some y → Pv i H → H T = none → g (.ref T) (wipe σ vs) (upd H T (.tup [.str ⟨#[c]⟩, y])) fun σ2 H2 => wipe σ2 vs = wipe σ vs ∧ tt σ2 H2 fun b H3 =>
      if b = true then te σ2 H3 fun z H4 => ∃ acc, H4 D = some (.lst acc) ∧ acc.length < sizeLine ∧ Pv (i + 1) (upd H4 D (.lst (acc ++ [z]))) else Pv (i + 1) H3) (hd : ∀ H, Pv ys.length H → Qd H) :
    ∃ W : Nat → Nat → Hp → Prop, (∃ m, W 0 m (upd H1 D (.lst []))) ∧ ∀ i m H, W i m H →
      ((ItzX K x b ys).stop i H ∧ Qd H) ∨ ((ItzX K x b ys).go i H ∧ ∃ Nx : Hp → Prop, (∀ H', Nx H' → ∃ m', m' < m ∧ W (i + 1) m' H') ∧ ∀ v H', (ItzX K x b ys).yld i H v H' → g v (wipe σ vs) H' fun σ2 H2 => wipe σ2 vs = wipe σ vs ∧ tt σ2 H2 fun b H3 =>
        if b = true then te σ2 H3 fun z H4 => ∃ acc, H4 D = some (.lst acc) ∧ acc.length < sizeLine ∧ Nx (upd H4 D (.lst (acc ++ [z]))) else Nx H3) := by
  refine ⟨fun i m H => i + m = ys.length ∧ Pv i H, ⟨_, Nat.zero_add _, h0⟩, ?_⟩
  rintro i m H ⟨e, p⟩
  have hb := hq i H p
  by_cases hm : m = 0
  · have e2 : i = ys.length := by omega
    refine .inl ⟨⟨Evl.st_of hb, by omega⟩, hd H ?_⟩
    rw [← e2]
    exact p
  · refine .inr ⟨⟨Evl.st_of hb, by omega, by omega⟩, Pv (i + 1), fun H' p' => ⟨m - 1, by omega, by omega, p'⟩, ?_⟩
    rintro v H' ⟨T, c, y, rfl, hT, rfl, hc, hy⟩
    exact hs i c y T H hc hy p hT
end ZT

/-! list(zip(text, tuple)): the pairs are kept, so zip makes a new tuple each time -/
namespace LZ
open PySem PySem.Spec PyProof.Rows L2
section
variable {prog : Program} {w : World} {A : Around} {E : Value → Shared → Prop} {s : Shared} {z TI TO T i1 i2 : Addr} {fp1 fp2 : List Addr} {n1 n2 i : Nat} {P1 P2 : Nat → Value → Prop} {St1 St2 : Nat → Heap → Prop} {f : Bool} {oT : Obj}
/-- one more pair while the one before is still there -/
theorem next_held {Q : Option Value → Shared → Prop} (S : ZipSep2 z TI TO i1 i2 fp1 fp2) (D1 : Draws prog w A.in1 i1 fp1 n1 P1 St1) (D2 : Draws prog w A.in1 i2 fp2 n2 P2 St2) (hz : IsZipHeld s.heap z TI TO T f) (hT : s.heap.get? T = some oT)
    (hTI : IsTupOf2 s.heap TI (.ref i1) (.ref i2)) (st1 : St1 i s.heap) (st2 : St2 i s.heap) (l1 : i < n1) (l2 : i < n2)
    (hQ : ∀ x1 x2 h' tk, P1 i x1 → P2 i x2 → IsZipHeld h' z TI TO T true → St1 (i + 1) h' → St2 (i + 1) h' → IsTupOf2 h' s.heap.objs.size x1 x2 → h'.objs.size = s.heap.objs.size + 1 →
      (∀ c o, c ≠ z → c ≠ i1 → c ≠ i2 → s.heap.get? c = some o → h'.get? c = some o) → Q (some (.ref s.heap.objs.size)) { s with heap := h', toks := tk }) : wpAny (model prog w) A (pyNext (.ref z)) Q E s := by
  obtain ⟨hp, g, d, tk0, os⟩ := s
  have ty : (⟨hp, g, d, tk0, os⟩ : Shared).TypeIs (.ref z) "zip" := ⟨_, hz, rfl⟩
  unfold pyNext
  refine wpAny_bind (wpAny_attempt (wpAny_callSpecial?_slot (name := Str.ofString "__next__") ty F.slot_zip_next (wpAny_call_entry F.slot_zip_next ty F.entry_zip_next ?_ (F.args_zip_next_1 _))))
  refine wpAny_bind (m := field (.ref z) 2) (wpAny_field hz rfl (x := .bool false) rfl (wpAny_bind (m := field (.ref z) 3) (wpAny_field hz rfl (x := .ref TI) rfl (wpAny_bind (wpAny_seqItems hTI rfl (wpAny_bind (m := Builtin.SmallTypes.ownedTupleIsFree (.ref z)) (wpAny_tupleHeld_zip hz hT fun k1 z1 b1 => ?_)))))))
  simp only [Bool.false_eq_true, if_false]
  refine wpAny_bind (m := forIn _ _ _) ?_
  rw [← Array.forIn_toList]
  simp only [List.forIn_cons, List.forIn_nil]
  refine wpAny_bind (wpAny_bind (wpAny_holding (wpAny_bind (m := Builtin.SmallTypes.nextOf (.ref i1)) ?_)))
  have c1 : Heap.SameBut z hp k1 := b1
  refine D1.item i _ _ _ l1 (D1.over st1 c1 S.zf1) fun x1 k2 t2 p1 s1 b2 => wpAny_pure (wpAny_pure (wpAny_bind (wpAny_bind (wpAny_holding (wpAny_bind (m := Builtin.SmallTypes.nextOf (.ref i2)) ?_)))))
  have c2 : Heap.SameBut i1 k1 k2 := b2
  refine D2.item i _ _ _ l2 (D2.over (D2.over st2 c1 S.zf2) c2 S.sep1_2) fun x2 k3 t3 p2 s2 b3 => wpAny_pure (wpAny_pure (wpAny_pure ?_))
  have c3 : Heap.SameBut i2 k2 k3 := b3
  refine wpAny_bind (m := newTuple [x1, x2]) (wpAny_newTuple (wpAny_pure ⟨_, rfl, wpAny_pure ?_⟩))
  have ez : k3.objs.size = hp.objs.size := c3.1.trans (c2.1.trans c1.1)
  have kz : IsZipHeld k3 z TI TO T true := c3.extBut _ _ S.zi2 (c2.extBut _ _ S.zi1 z1)
  have up : ∀ c o, k3.get? c = some o → (k3.push { cls := .type "tuple", data := .seq #[x1, x2] }).get? c = some o := fun c o e => Heap.get?_push_of_some _ e
  have q := hQ x1 x2 (k3.push { cls := .type "tuple", data := .seq #[x1, x2] }) t3 p1 p2 (up _ _ kz) (D1.frame _ _ _ (D1.over s1 c3 S.sep2_1) fun b _ o e => up b o e) (D2.frame _ _ _ s2 fun b _ o e => up b o e)
    (by show (k3.push _).get? hp.objs.size = _; rw [← ez]; exact Heap.get?_push_size _ rfl) (by rw [Heap.size_push, ez]) fun c o n1 n2 n3 e => up c o (c3.extBut _ _ n3 (c2.extBut _ _ n2 (c1.extBut _ _ n1 e)))
  show Q (some (.ref k3.objs.size)) _
  rw [ez]
  exact q
/-- .. and its end, where both are at their ends -/
theorem end_held {Q : Option Value → Shared → Prop} (hh : A.handled = none) (S : ZipSep2 z TI TO i1 i2 fp1 fp2) (D1 : Draws prog w A.in1 i1 fp1 n1 P1 St1) (hz : IsZipHeld s.heap z TI TO T f) (hT : s.heap.get? T = some oT)
    (hTI : IsTupOf2 s.heap TI (.ref i1) (.ref i2)) (st1 : St1 n1 s.heap)
    (hQ : ∀ h', (∀ c o, c ≠ z → c ≠ i1 → s.heap.get? c = some o → h'.get? c = some o) → Q none { s with heap := h' }) : wpAny (model prog w) A (pyNext (.ref z)) Q E s := by
  obtain ⟨hp, g, d, tk0, os⟩ := s
  have ty : (⟨hp, g, d, tk0, os⟩ : Shared).TypeIs (.ref z) "zip" := ⟨_, hz, rfl⟩
  unfold pyNext
  refine wpAny_bind (wpAny_attempt (wpAny_callSpecial?_slot (name := Str.ofString "__next__") ty F.slot_zip_next (wpAny_call_entry F.slot_zip_next ty F.entry_zip_next ?_ (F.args_zip_next_1 _))))
  refine wpAny_bind (m := field (.ref z) 2) (wpAny_field hz rfl (x := .bool false) rfl (wpAny_bind (m := field (.ref z) 3) (wpAny_field hz rfl (x := .ref TI) rfl (wpAny_bind (wpAny_seqItems hTI rfl (wpAny_bind (m := Builtin.SmallTypes.ownedTupleIsFree (.ref z)) (wpAny_tupleHeld_zip hz hT fun k1 z1 b1 => ?_)))))))
  simp only [Bool.false_eq_true, if_false]
  refine wpAny_bind (m := forIn _ _ _) ?_
  rw [← Array.forIn_toList]
  simp only [List.forIn_cons, List.forIn_nil]
  refine wpAny_bind (wpAny_bind (wpAny_holding (wpAny_bind (m := Builtin.SmallTypes.nextOf (.ref i1)) ?_)))
  have c1 : Heap.SameBut z hp k1 := b1
  refine D1.done _ _ _ (D1.over st1 c1 S.zf1) fun k2 e b2 ⟨oe, he, ce⟩ => ?_
  refine wpAny_bind (wpAny_isInstance (T := "StopIteration") (b := true) ⟨oe, he, ce⟩ isSubtype_stop (wpAny_pure ?_))
  exact hQ k2 fun c o n1 n2 x => b2 _ _ n2 (c1.extBut _ _ n1 x)
end
/-- the pairs that were made -/
structure Prs (P1 P2 : Nat → Value → Prop) (lo : Addr) (h : Heap) (as : List Addr) : Prop where
  rise : as.Pairwise (· < ·)
  above : ∀ a ∈ as, lo < a
  prs : ∀ (j : Nat) (a : Addr), as[j]? = some a → ∃ x1 x2, P1 j x1 ∧ P2 j x2 ∧ IsTupOf2 h a x1 x2
section
variable {prog : Program} {w : World} {A : Around} {E : Value → Shared → Prop} {s : Shared} {z TI TO i1 i2 S : Addr} {fp1 fp2 : List Addr} {n : Nat} {P1 P2 : Nat → Value → Prop} {St1 St2 : Nat → Heap → Prop}
/-- the zip amid the walk: new, or its last pair is in the list -/
def Out (z TI TO i1 i2 S : Addr) (h : Heap) : Prop := (IsZip h z TI TO .none ∧ ∃ a1 a2, IsTupOf2 h TO a1 a2) ∨ ∃ T f oT, IsZipHeld h z TI TO T f ∧ h.get? T = some oT ∧ T ≠ z ∧ T ≠ i1 ∧ T ≠ i2 ∧ T ≠ S
theorem loop (hh : A.handled = none) (Z : ZipSep2 z TI TO i1 i2 fp1 fp2) (D1 : Draws prog w A.in1.in1 i1 fp1 n P1 St1) (D2 : Draws prog w A.in1.in1 i2 fp2 n P2 St2) (hz : z < S) (hTO : TO < S) (hTI : TI < S) (h1 : i1 < S) (h2 : i2 < S) (f1 : S ∉ fp1) (f2 : S ∉ fp2)
    (hn : n ≤ sizeLine) (res : Value) {R : Result → Shared → Prop} {h0 : Heap}
    (hR : ∀ h' tk acc c as, (∀ b o, b ≠ S → b ≠ z → b ≠ TO → b ≠ i1 → b ≠ i2 → h0.get? b = some o → h'.get? b = some o) → h'.get? S = some { cls := .type "list", dict := none, data := .seq acc c, slots := #[] } → as.length = n → Prs P1 P2 S h' as →
      acc.toList = as.map Value.ref → R (.ok (.ret res)) { s with heap := h', toks := tk }) :
    ∀ (k i : Nat) (h : Heap) (tk c : Nat) (acc : Array Value) (as : List Addr), n - i = k → i ≤ n → Out z TI TO i1 i2 S h → IsTupOf2 h TI (.ref i1) (.ref i2) → St1 i h → St2 i h →
      (∀ b o, b ≠ S → b ≠ z → b ≠ TO → b ≠ i1 → b ≠ i2 → h0.get? b = some o → h.get? b = some o) → h.get? S = some { cls := .type "list", dict := none, data := .seq acc c, slots := #[] } → acc.toList = as.map Value.ref → as.length = i → Prs P1 P2 S h as →
      codeAny (model prog w) A (.builtin "list.extend.loop" ⟨[.ref S, .ref z, res], []⟩) R { s with heap := h, toks := tk } := by
  have low : ∀ {a : Addr}, S < a → a ≠ z ∧ a ≠ TO ∧ a ≠ i1 ∧ a ≠ i2 ∧ a ≠ S := fun h => ⟨Nat.ne_of_gt (Nat.lt_trans hz h), Nat.ne_of_gt (Nat.lt_trans hTO h), Nat.ne_of_gt (Nat.lt_trans h1 h), Nat.ne_of_gt (Nat.lt_trans h2 h), Nat.ne_of_gt h⟩
  intro k
  induction k with
  | zero =>
    intro i h tk c acc as hk hi hst tI s1 s2 kp hS hacc hal G
    have e : i = n := by omega
    subst e
    refine codeAny_builtin F.entry_extend_loop ?_
    rw [Around.under_plainId F.plain_extend_loop _]
    refine wpAny_bind (m := pyNext (.ref z)) ?_
    have fin : ∀ (h' : Heap) (tk' : Nat), (∀ b o, b ≠ z → b ≠ TO → b ≠ i1 → b ≠ i2 → h.get? b = some o → h'.get? b = some o) → R (.ok (.ret res)) { s with heap := h', toks := tk' } := fun h' tk' u =>
      hR h' tk' acc c as (fun b o a0 a1 a2 a3 a4 e => u b o a1 a2 a3 a4 (kp b o a0 a1 a2 a3 a4 e)) (u S _ (Nat.ne_of_gt hz) (Nat.ne_of_gt hTO) (Nat.ne_of_gt h1) (Nat.ne_of_gt h2) hS) hal ⟨G.rise, G.above, fun j a hj => by
        obtain ⟨x1, x2, q1, q2, q3⟩ := G.prs j a hj
        obtain ⟨g1, g2, g3, g4, _⟩ := low (G.above a (List.mem_of_getElem? hj))
        exact ⟨x1, x2, q1, q2, u a _ g1 g2 g3 g4 q3⟩⟩ hacc
    rcases hst with ⟨z1, a1, a2, z2⟩ | ⟨T, f, oT, z1, z2, _⟩
    · exact wpAny_pyNext_zipD2_end (s := { s with heap := h, toks := tk }) (A := A.in1) Z D1 D2 z1 tI z2 s1 s2 (Nat.le_refl _) (Nat.le_refl _) (.inl rfl) fun h' tk' u => wpAny_pure (fin h' tk' fun b o a1 a2 a3 a4 e => u b o a1 a2 a3 a4 e)
    · exact end_held (s := { s with heap := h, toks := tk }) (A := A.in1) hh Z D1 z1 z2 tI s1 fun h' u => wpAny_pure (fin h' tk fun b o a1 a2 a3 a4 e => u b o a1 a3 e)
  | succ k ih =>
    intro i h tk c acc as hk hi hst tI s1 s2 kp hS hacc hal G
    have lt : i < n := by omega
    have hsz : acc.size = i := by rw [← Array.length_toList, hacc, List.length_map, hal]
    have hSl : S < h.objs.size := Heap.lt_size hS
    refine codeAny_builtin F.entry_extend_loop ?_
    rw [Around.under_plainId F.plain_extend_loop _]
    refine wpAny_bind (m := pyNext (.ref z)) ?_
    have go : ∀ (x1 x2 : Value) (h' : Heap) (tk' : Nat) (T : Addr), P1 i x1 → P2 i x2 → h.objs.size ≤ T → (∃ f, IsZipHeld h' z TI TO T f ∨ ∃ T' oT, IsZipHeld h' z TI TO T' f ∧ h'.get? T' = some oT ∧ T' ≠ z ∧ T' ≠ i1 ∧ T' ≠ i2 ∧ T' ≠ S) → St1 (i + 1) h' → St2 (i + 1) h' → IsTupOf2 h' T x1 x2 →
        (∀ b o, b ≠ z → b ≠ TO → b ≠ i1 → b ≠ i2 → h.get? b = some o → h'.get? b = some o) →
        wpAny (model prog w) A.in1 (updateSeq S (·.push (.ref T))) (fun _ s' => plainId "list.extend.loop" = true ∧ codeAny (model prog w) A (.builtin "list.extend.loop" ⟨[.ref S, .ref z, res], []⟩) R s') (fun e s' => R (.error e) s') { s with heap := h', toks := tk' } := by
      intro x1 x2 h' tk' T p1 p2 hT hf t1 t2 hp u
      have hS' := u S _ (Nat.ne_of_gt hz) (Nat.ne_of_gt hTO) (Nat.ne_of_gt h1) (Nat.ne_of_gt h2) hS
      have up : ∀ b o, b ≠ S → h'.get? b = some o → (h'.update S (Obj.mapSeq (·.push (.ref T)))).get? b = some o := fun b o hb e => (Heap.get?_update_other _ _ (Ne.symm hb)).trans e
      have nT : S < T := Nat.lt_of_lt_of_le hSl hT
      obtain ⟨m1, m2, m3, m4, m5⟩ := low nT
      refine wpAny_updateSeq hS' rfl ⟨F.plain_extend_loop, ih (i + 1) _ tk' _ (acc.push (.ref T)) (as ++ [T]) (by omega) lt ?_ (up _ _ (Nat.ne_of_lt hTI) (u _ _ Z.TIz Z.TITO Z.TIi1 Z.TIi2 tI)) (D1.frame _ _ _ t1 fun b hb o e => up b o (fun q => f1 (q ▸ hb)) e)
        (D2.frame _ _ _ t2 fun b hb o e => up b o (fun q => f2 (q ▸ hb)) e) (fun b o a0 a1 a2 a3 a4 e => up b o a0 (u b o a1 a2 a3 a4 (kp b o a0 a1 a2 a3 a4 e))) (Heap.get?_update_self _ hS' rfl) (by rw [Array.toList_push, hacc, List.map_append]; rfl) (by rw [List.length_append, hal]; rfl) ⟨?_, ?_, ?_⟩⟩ (by rw [hsz]; omega) (by show (acc.push _).size ≤ sizeLine + 1; rw [Array.size_push, hsz]; omega)
      · right
        obtain ⟨f, hf | ⟨T', oT, g1, g2, g3, g4, g5, g6⟩⟩ := hf
        · exact ⟨T, f, _, up _ _ (Nat.ne_of_lt hz) hf, up _ _ m5 hp, m1, m3, m4, m5⟩
        · exact ⟨T', f, oT, up _ _ (Nat.ne_of_lt hz) g1, up _ _ g6 g2, g3, g4, g5, g6⟩
      · refine List.pairwise_append.mpr ⟨G.rise, List.pairwise_singleton _ _, fun a ha b hb => ?_⟩
        rw [List.mem_singleton.mp hb]
        obtain ⟨j, hj⟩ := List.mem_iff_getElem?.mp ha
        obtain ⟨_, _, _, _, e⟩ := G.prs j a hj
        exact Nat.lt_of_lt_of_le (Heap.lt_size e) hT
      · intro a ha
        rcases List.mem_append.mp ha with ha | ha
        · exact G.above a ha
        · rw [List.mem_singleton.mp ha]
          exact nT
      · intro j b hj
        rcases Nat.lt_or_ge j as.length with q | q
        · rw [List.getElem?_append_left q] at hj
          obtain ⟨y1, y2, r1, r2, r3⟩ := G.prs j b hj
          obtain ⟨g1, g2, g3, g4, g5⟩ := low (G.above b (List.mem_of_getElem? hj))
          exact ⟨y1, y2, r1, r2, up _ _ g5 (u _ _ g1 g2 g3 g4 r3)⟩
        · have hj2 : j = as.length := by
            have := (List.getElem?_eq_some_iff.mp hj).1
            rw [List.length_append, List.length_singleton] at this
            omega
          subst hj2
          have hb : T = b := by simpa using hj
          subst hb
          rw [hal]
          exact ⟨x1, x2, p1, p2, up _ _ m5 hp⟩
    have tail : ∀ {v : Value} {s' : Shared}, wpAny (model prog w) A.in1 (updateSeq S (·.push v)) (fun _ s' => plainId "list.extend.loop" = true ∧ codeAny (model prog w) A (.builtin "list.extend.loop" ⟨[.ref S, .ref z, res], []⟩) R s') (fun e s' => R (.error e) s') s' →
        wpAny (model prog w) A.in1 (updateSeq S (·.push v) >>= fun _ => again (.builtin "list.extend.loop" ⟨[.ref S, .ref z, res], []⟩)) (fun fin s' => match fin with | .done f => R (.ok f) s' | .again c' => c'.quiet = true ∧ codeAny (model prog w) A c' R s') (fun e s' => R (.error e) s') s' := fun h =>
      wpAny_bind (wpAny_mono h (fun _ s' q => wpAny_pure ⟨plainId_quiet q.1 _, q.2⟩) fun _ _ x => x)
    rcases hst with ⟨z1, a1, a2, z2⟩ | ⟨T, f, oT, z1, z2, z3, z4, z5, z6⟩
    · exact wpAny_pyNext_zipD2_item (s := { s with heap := h, toks := tk }) (A := A.in1) Z D1 D2 z1 tI z2 s1 s2 lt lt fun x1 x2 h' tk' p1 p2 b1 b2 d1 d2 b5 b6 b7 => tail (go x1 x2 h' tk' _ p1 p2 (Nat.le_refl _) ⟨false, .inl b1⟩ d1 d2 b5 fun b o a1 a2 a3 a4 e => b7 b o a1 a2 a3 a4 e)
    · exact next_held (s := { s with heap := h, toks := tk }) (A := A.in1) Z D1 D2 z1 z2 tI s1 s2 lt lt fun x1 x2 h' tk' p1 p2 b1 d1 d2 b5 b6 b7 => tail (go x1 x2 h' tk' _ p1 p2 (Nat.le_refl _) ⟨true, .inr ⟨T, oT, b1, b7 _ _ z3 z4 z5 z2, z3, z4, z5, z6⟩⟩ d1 d2 b5 fun b o a1 a2 a3 a4 e => b7 b o a1 a3 a4 e)
end
theorem no_len : typeLookup (.type "zip") "__len__" = pure none := am_miss_of_fast (by decide +kernel)
theorem no_hint : typeLookup (.type "zip") "__length_hint__" = pure none := am_miss_of_fast (by decide +kernel)
section
variable {prog : Program} {w : World} {A : Around} {E : Value → Shared → Prop} {s : Shared} {z TI TO i1 i2 : Addr} {fp1 fp2 : List Addr} {n : Nat} {P1 P2 : Nat → Value → Prop} {St1 St2 : Nat → Heap → Prop}
abbrev lob (acc : Array Value) (c : Nat) : Obj := { cls := .type "list", dict := none, data := .seq acc c, slots := #[] }
theorem call_list {Q : Value → Shared → Prop} (hh : A.handled = none) (Z : ZipSep2 z TI TO i1 i2 fp1 fp2) (D1 : Draws prog w A.in1.in1.in1 i1 fp1 n P1 St1) (D2 : Draws prog w A.in1.in1.in1 i2 fp2 n P2 St2) (z0 : IsZip s.heap z TI TO .none) (zO : ∃ a1 a2, IsTupOf2 s.heap TO a1 a2)
    (tI : IsTupOf2 s.heap TI (.ref i1) (.ref i2)) (s1 : St1 0 s.heap) (s2 : St2 0 s.heap) (b1 : ∀ b ∈ fp1, b < s.heap.objs.size) (b2 : ∀ b ∈ fp2, b < s.heap.objs.size) (hn : n ≤ sizeLine)
    (hQ : ∀ h' tk acc c as, (∀ b o, b ≠ z → b ≠ TO → b ≠ i1 → b ≠ i2 → s.heap.get? b = some o → h'.get? b = some o) → h'.get? s.heap.objs.size = some (lob acc c) → as.length = n → Prs P1 P2 s.heap.objs.size h' as → acc.toList = as.map Value.ref →
      Q (.ref s.heap.objs.size) { s with heap := h', toks := tk }) : wpAny (model prog w) A (call (.type "list") [.ref z]) Q E s := by
  have lz : z < s.heap.objs.size := Heap.lt_size z0
  obtain ⟨a1, a2, zO⟩ := zO
  have lO : TO < s.heap.objs.size := Heap.lt_size zO
  have lI : TI < s.heap.objs.size := Heap.lt_size tI
  have l1 := b1 _ Z.mem1
  have l2 := b2 _ Z.mem2
  refine callType_codes (Q₁ := fun u k => u = .ref s.heap.objs.size ∧ k = { s with heap := s.heap.push (lob #[] 0) }) F.called_list (F.typeCall_list_1 _) F.entry_list_init (code_list_new _ ⟨rfl, rfl⟩) fun u k hk => ?_
  obtain ⟨rfl, rfl⟩ := hk
  generalize eS : s.heap.objs.size = S at *
  have hS : (s.heap.push (lob #[] 0)).get? S = some (lob #[] 0) := by rw [← eS]; exact Heap.get?_push_size _ rfl
  have k0 : ∀ b o, s.heap.get? b = some o → (s.heap.push (lob #[] 0)).get? b = some o := fun b o e => Heap.get?_push_of_some _ e
  generalize s.heap.push (lob #[] 0) = g0 at hS k0 ⊢
  have ne : ∀ b o, s.heap.get? b = some o → b ≠ S := fun b o e => by rw [← eS]; exact Nat.ne_of_lt (Heap.lt_size e)
  refine ⟨⟨_, hS, rfl⟩, F.args_list_init_2 _ _, ?_⟩
  refine wpAny_bind (m := Builtin.List.listItems (.ref S)) (wpAny_bind (wpAny_seqItems hS rfl (wpAny_pure (wpAny_bind (m := updateSeq S fun _ => #[]) (wpAny_updateSeq hS rfl (wpAny_bind (m := letGo []) (wpAny_letGo ?_)))))))
  have hS2 : (g0.update S (Obj.mapSeq fun _ => #[])).get? S = some _ := Heap.get?_update_self (Obj.mapSeq fun _ => #[]) hS rfl
  have k1 : ∀ b o, s.heap.get? b = some o → (g0.update S (Obj.mapSeq fun _ => #[])).get? b = some o := fun b o e => (Heap.get?_update_other _ _ (ne b o e).symm).trans (k0 b o e)
  generalize g0.update S (Obj.mapSeq fun _ => #[]) = g1 at hS2 k1 ⊢
  have zg : IsZip g1 z TI TO .none := k1 _ _ z0
  have ty : ({ s with heap := g1 } : Shared).TypeIs (.ref z) "zip" := ⟨_, zg, rfl⟩
  unfold Builtin.List.listExtendWith
  refine wpAny_bind (wpAny_typeOf ty ?_)
  have e1 : Builtin.List.listSameRef (.ref S) (.ref z) = false := by simp [Builtin.List.listSameRef, (Nat.ne_of_gt lz : S ≠ z)]
  have e2 : (Value.type "zip" == Value.type "list" || Value.type "zip" == Value.type "tuple") = false := by decide
  simp only [e1, e2, Bool.or_false, Bool.false_eq_true, if_false]
  refine wpAny_bind (wpAny_pyIter_zip zg (wpAny_bind (wpAny_holding ?_)))
  unfold Builtin.List.listLengthHint
  refine wpAny_bind (wpAny_specialOf ty no_len (wpAny_bind (m := specialOf (Value.ref z) (Str.ofString "__length_hint__")) (wpAny_specialOf ty no_hint (wpAny_pure ?_))))
  refine wpAny_bind (m := rule "list.extend.makes-room") (wpAny_rule (wpAny_bind (m := updateSeq S (·.push .none) >>= fun _ => updateSeq S (·.pop)) (wpAny_bind (wpAny_updateSeq hS2 rfl ?_))))
  have hS3 := Heap.get?_update_self (Obj.mapSeq (·.push Value.none)) hS2 rfl
  refine wpAny_updateSeq (hz := by seq_fits) hS3 rfl ?_
  have hS4 := Heap.get?_update_self (Obj.mapSeq (·.pop)) hS3 rfl
  have k4 : ∀ b o, s.heap.get? b = some o → ((g1.update S (Obj.mapSeq (·.push Value.none))).update S (Obj.mapSeq (·.pop))).get? b = some o := fun b o e =>
    (Heap.get?_update_other _ _ (ne b o e).symm).trans ((Heap.get?_update_other _ _ (ne b o e).symm).trans (k1 b o e))
  generalize (g1.update S (Obj.mapSeq (·.push Value.none))).update S (Obj.mapSeq (·.pop)) = g4 at hS4 k4 ⊢
  refine wpAny_pure ⟨plainId_quiet F.plain_extend_loop _, ?_⟩
  refine loop (s := s) (A := A.in1) (h0 := s.heap) hh Z D1 D2 lz lO lI l1 l2 (fun q => Nat.lt_irrefl _ (b1 _ q)) (fun q => Nat.lt_irrefl _ (b2 _ q)) hn .none (fun h' tk acc c as u hS' hl G ha => ⟨rfl, hQ h' tk acc c as (fun b o n1 n2 n3 n4 e => u b o (ne b o e) n1 n2 n3 n4 e) hS' hl G ha⟩)
    n 0 g4 s.toks _ _ [] (Nat.sub_zero _) (Nat.zero_le _) (.inl ⟨k4 _ _ z0, a1, a2, k4 _ _ zO⟩) (k4 _ _ tI) (D1.frame _ _ _ s1 fun b _ o e => k4 b o e) (D2.frame _ _ _ s2 fun b _ o e => k4 b o e) (fun b o _ _ _ _ _ e => k4 b o e) hS4 rfl rfl ⟨.nil, (fun _ q => nomatch q), fun j a q => by simp at q⟩
end
/-- the list and its pairs are tracked -/
theorem lay {X : Cx} {pins : List (Addr × Obj)} {σ : L2.St} {H : Hp} {s : Shared} {h' : Heap} {tk c : Nat} {kvs : List (Key × V)} {acc : Array Value} {as : List Addr} {S : Addr} (I : Inv X pins σ H s) (lo : s.heap.objs.size ≤ S) (kp : ∀ b o, s.heap.get? b = some o → h'.get? b = some o)
    (eS : h'.get? S = some (lob acc c)) (ha : acc.toList = as.map Value.ref) (nd : as.Nodup) (ab : ∀ a ∈ as, S < a) (hl : as.length = kvs.length) (hz : as.length ≤ sizeLine)
    (hp : ∀ (j : Nat) (a : Addr) (q : Key × V), as[j]? = some a → kvs[j]? = some q → ∃ u v, RelV (kV q.1) u ∧ RelV q.2 v ∧ IsTupOf2 h' a u v) :
    ∃ H' : Hp, Evl.Ex H H' ∧ H S = none ∧ (∀ a ∈ as, H a = none) ∧ H' S = some (.lst (as.map V.ref)) ∧ Paired (fun (t : Addr) (q : Key × V) => H' t = some (.tup [kV q.1, q.2])) as kvs ∧ Inv X pins σ H' { s with heap := h', toks := tk } := by
  have nS : S ∉ as := fun q => Nat.lt_irrefl _ (ab _ q)
  have fr : ∀ b, s.heap.objs.size ≤ b → H b = none := fun b hb => I.hok.fresh hb
  have fa : ∀ a ∈ as, H a = none := fun a h => fr a (Nat.le_trans lo (Nat.le_of_lt (ab a h)))
  have P := LiI.putT_at as kvs (upd H S (.lst (as.map V.ref))) hl nd
  have dS : LiI.putT (upd H S (.lst (as.map V.ref))) as kvs S = some (.lst (as.map V.ref)) := (LiI.putT_off as kvs _ nS).trans upd_same
  have df : ∀ b, b ∉ as → b ≠ S → LiI.putT (upd H S (.lst (as.map V.ref))) as kvs b = H b := fun b q1 q2 => (LiI.putT_off as kvs _ q1).trans (upd_ne q2)
  generalize LiI.putT (upd H S (.lst (as.map V.ref))) as kvs = H' at P dS df
  have up : Evl.Ex H H' := fun b u e => (df b (fun q => by rw [fa b q] at e; cases e) (fun q => by rw [q, fr S lo] at e; cases e)).trans e
  have old : ∀ b o, s.heap.get? b = some o → b ∉ as ∧ b ≠ S := fun b o e => by
    have hb := Heap.lt_size e
    exact ⟨fun q => Nat.lt_irrefl _ (Nat.lt_trans (Nat.lt_of_lt_of_le hb lo) (ab b q)), Nat.ne_of_lt (Nat.lt_of_lt_of_le hb lo)⟩
  refine ⟨H', up, fr S lo, fa, dS, P, I.call' (ch := []) rfl
    { keep := fun b o q _ _ _ => kp b o q
      slot := fun b o q _ _ _ => ⟨o.slots, kp b o q⟩
      free := fun b o q n _ => (df b (old b o q).1 (old b o q).2).trans n
      there := fun b o q _ => ⟨o, kp b o q⟩
      tups := fun b xs q => up b _ q
      frzs := fun b o u q => up b _ q
      tbls := fun b ps q => ⟨#[], by rw [up b _ q, Array.append_empty]⟩ } (fun b u q => ?_) I.bare (fun b q => nomatch q)⟩
  by_cases h1 : b ∈ as
  · obtain ⟨j, y, e1, e2, e3⟩ := LiI.paired_ix P h1
    obtain ⟨u1, u2, r1, r2, e4⟩ := hp j b y e1 e2
    rw [e3] at q
    cases q
    exact ⟨by show 2 ≤ sizeLine; decide, [u1, u2], .cons r1 (.cons r2 .nil), _, e4, rfl, _, rfl⟩
  · by_cases h2 : b = S
    · subst h2
      rw [dS] at q
      cases q
      exact ⟨by rw [List.length_map]; exact hz, acc.toList, c, by rw [ha]; exact LiI.vals_refs as, by rw [Array.toArray_toList]; exact eS⟩
    · rw [df b h1 h2] at q
      exact (I.hok b u q).stay (fun c v _ e => kp c v e) (fun c e => up c _ e) fun c xs e => up c _ e
/-- the pairs of a text and a tuple's items -/
def prK (x : Str) (ys : List V) : List (Key × V) := (x.cps.toList.zip ys).map fun p => (.inr ⟨#[p.1]⟩, p.2)
def tListZipX (K : PySem.W.Frag) (ta : TA) : TE := fun σ H Q => ta σ H fun vs H1 => ∃ (x : Str) (b : Addr) (ys : List V), vs = [.str x, .ref b] ∧ SqT K H1 b ys ∧ x.cps.size = ys.length ∧
  ∀ (H' : Hp) (S : Addr) (as : List Addr), Evl.Ex H1 H' → H1 S = none → (∀ a ∈ as, H1 a = none) → H' S = some (.lst (as.map V.ref)) → as.length = ys.length → (∀ (j : Nat) (c : Nat) (y : V), x.cps[j]? = some c → ys[j]? = some y → ∃ a, as[j]? = some a ∧ H' a = some (.tup [.str ⟨#[c]⟩, y])) → Q (.ref S) H'
theorem paired_at {α β : Type} {F : α → β → Prop} : ∀ {xs : List α} {ys : List β}, Paired F xs ys → ∀ {i : Nat} {y : β}, ys[i]? = some y → ∃ x, xs[i]? = some x ∧ F x y
  | _, _, .nil, i, y, h => by cases h
  | _, _, .cons r t, 0, y, h => ⟨_, rfl, by rw [← Option.some.inj h]; exact r⟩
  | _, _, .cons r t, i + 1, y, h => paired_at t h
theorem pe_listZipX {X : Cx} {e e2 : Expr} {ta : TA} {p p2 q pos : Pos} (hg : Gl X "list") (hm : X.mg "list" = none) (hg2 : Gl X "zip") (hm2 : X.mg "zip" = none) (ha : PA X [e, e2] ta) (hc : X.calm = true := by rfl)
    (hs : starEach [e, e2] X.env = (false, eval e X.env) :: starEach [e2] X.env := by rfl) (hpl : (backTo q (starEach [e2] X.env)).any (·.1) = false := by rfl) :
    PE X (.Call (.Name "list" p) [.Call (.Name "zip" p2) [e, e2] [] q] [] pos) (tListZipX X.K ta) := by
  refine ⟨fun pins s σ H Q I h => ?_⟩
  refine Call_ (ld_blt I hg hm boot_list (PyProof.Rows.callWith_type1 (PyProof.Rows.args_cons ?_ rfl) rfl rfl))
  refine Call_ (ld_blt I hg2 hm2 PyProof.Rows.boot_zip (PyProof.Rows.callWith_type1 (thn (ha.run q pins s σ H _ I h) fun us s1 ⟨vs, H1, I1, r1, q1⟩ => ?_) hs hpl))
  obtain ⟨x, b, ys, ex, hq, hl, q1⟩ := q1
  subst ex
  obtain ⟨u, v, rfl, ru, rv⟩ := vals2 r1
  obtain ⟨t, rfl⟩ := ru
  cases rv
  obtain ⟨its, ri, pl, hz⟩ := I1.tuple hq
  obtain ⟨o1, ho1, _⟩ := id pl
  have hb := Heap.lt_size ho1
  have hle := ri.length
  have hhd : X.A.handled = none := I1.ok.hd hc
  have n1 : x.cps.size = its.toArray.size := by rw [hl, hle, List.size_toArray]
  refine ZT.callX (show s1.heap.IsTuple b its.toArray from pl) fun g st kg => PyProof.Rows.args_nil ?_
  obtain ⟨z0, tI, zO, i0, i1⟩ := st
  have D2 := Draws.tuple (prog := X.prog) (w := X.w) (A := X.A.in1.in1.in1) hhd (s1.heap.objs.size + 1) b (Nat.ne_of_lt (Nat.lt_succ_of_lt hb)) its.toArray
  rw [← n1] at D2
  have lz : s1.heap.objs.size + 4 < g.objs.size := Heap.lt_size z0
  refine call_list (s := { s1 with heap := g }) (n := x.cps.size) hhd (ZT.sepX hb) (ZS.drawsS (prog := X.prog) (w := X.w) (A := X.A.in1.in1.in1) hhd s1.heap.objs.size x t) D2 z0 zO tI i0 ⟨i1, (show s1.heap.IsTuple b its.toArray from pl).at fun o e => kg _ o e⟩
    (fun c q => ?_) (fun c q => ?_) (by rw [hl]; exact hz) fun h' tk acc c as u hS hn G hacc => ?_
  · have q : c = s1.heap.objs.size := by simpa using q
    show c < g.objs.size
    rw [q]
    exact Nat.lt_of_le_of_lt (Nat.le_add_right _ 4) lz
  · have q : c = s1.heap.objs.size + 1 ∨ c = b := by simpa using q
    show c < g.objs.size
    rcases q with q | q
    · rw [q]
      exact Nat.lt_of_le_of_lt (Nat.add_le_add_left (by decide : 1 ≤ 4) _) lz
    · rw [q]
      exact Nat.lt_trans (Nat.lt_of_lt_of_le hb (Nat.le_add_right _ 4)) lz
  · have sub : s1.heap.objs.size ≤ g.objs.size := Nat.le_trans (Nat.le_add_right _ 4) (Nat.le_of_lt lz)
    have kp : ∀ b o, s1.heap.get? b = some o → h'.get? b = some o := fun b o e => by
      have hb := Heap.lt_size e
      have nk : ∀ k, b ≠ s1.heap.objs.size + k := fun k => Nat.ne_of_lt (Nat.lt_of_lt_of_le hb (Nat.le_add_right _ k))
      exact u b o (nk 4) (nk 3) (nk 0) (nk 1) (kg b o e)
    have nd : as.Nodup := G.rise.imp fun h => Nat.ne_of_lt h
    have lp : (prK x ys).length = ys.length := by
      unfold prK
      rw [List.length_map, List.length_zip, Array.length_toList, hl, Nat.min_self]
    have pk : ∀ (j c : Nat) (y : V), x.cps[j]? = some c → ys[j]? = some y → (prK x ys)[j]? = some (.inr ⟨#[c]⟩, y) := fun j c y e1 e2 => by
      unfold prK
      have e : (x.cps.toList.zip ys)[j]? = some (c, y) := List.getElem?_zip_eq_some.mpr ⟨by rw [Array.getElem?_toList]; exact e1, e2⟩
      rw [List.getElem?_map, e]
      rfl
    obtain ⟨H', e1, e2, e3, e4, e5, J⟩ := lay (s := s1) (tk := tk) (kvs := prK x ys) I1 (S := g.objs.size) sub kp hS hacc nd G.above (by rw [hn, lp, hl]) (by rw [hn, hl]; exact hz) fun j a y qa qy => by
      obtain ⟨x1, x2, ⟨c1, u1, g1, g2⟩, g3, g4⟩ := G.prs j a qa
      have g3 : its[j]? = some x2 := by simpa using g3
      have hj : j < ys.length := by rw [hle]; exact (List.getElem?_eq_some_iff.mp g3).1
      have ey : ys[j]? = some ys[j] := List.getElem?_eq_getElem hj
      have r := pk j c1 _ g1 ey
      rw [qy] at r
      cases r
      obtain ⟨v3, w1, w2⟩ := ri.get ey
      rw [g3] at w1
      cases w1
      exact ⟨x1, x2, by rw [g2]; exact ⟨u1, rfl⟩, w2, g4⟩
    refine ⟨.ref g.objs.size, H', J, rfl, q1 H' _ as e1 e2 e3 e4 (by rw [hn, hl]) fun j c y r1 r2 => ?_⟩
    obtain ⟨a, w1, w2⟩ := paired_at e5 (pk j c y r1 r2)
    exact ⟨a, w1, w2⟩
end LZ

/-! dicts whose keys are tuples with tuples in them: an own object; beside it, what its keys' tuples are -/
namespace DN
open PySem PySem.Spec PyProof.Rows L2
mutual
/-- a value that stands for a key -/
inductive NK (H : Hp) : NestedKey → V → Prop
  | num {i : Int} : NK H (.num i) (.int i)
  | text {s : Str} : NK H (.text s) (.str s)
  | tup {a : Addr} {us : List V} {ks : List NestedKey} : H a = some (.tup us) → NKs H ks us → NK H (.tup ks) (.ref a)
inductive NKs (H : Hp) : List NestedKey → List V → Prop
  | nil : NKs H [] []
  | cons {k : NestedKey} {v : V} {ks : List NestedKey} {vs : List V} : NK H k v → NKs H ks vs → NKs H (k :: ks) (v :: vs)
end
mutual
theorem NK.to {H H' : Hp} (e : ∀ b ys, H b = some (.tup ys) → H' b = some (.tup ys)) : ∀ {k : NestedKey} {v : V}, NK H k v → NK H' k v
  | _, _, .num => .num
  | _, _, .text => .text
  | _, _, .tup h r => .tup (e _ _ h) (NKs.to e r)
theorem NKs.to {H H' : Hp} (e : ∀ b ys, H b = some (.tup ys) → H' b = some (.tup ys)) : ∀ {ks : List NestedKey} {vs : List V}, NKs H ks vs → NKs H' ks vs
  | _, _, .nil => .nil
  | _, _, .cons h r => .cons (NK.to e h) (NKs.to e r)
end
mutual
theorem NK.is {P : Program} {w : World} {H : Hp} {h : Heap} (ok : HOk P w H h) : ∀ {k : NestedKey} {v : V} {u : Value}, NK H k v → RelV v u → NestedIs h k u
  | _, _, u, .num, r => by
    obtain ⟨t, rfl⟩ := (show ∃ t, u = Value.int _ t from r)
    exact .int _ t
  | _, _, u, .text, r => by
    obtain ⟨t, rfl⟩ := (show ∃ t, u = Value.str _ t from r)
    exact .text _ t
  | _, _, u, .tup (a := a) (us := us) (ks := ks) hb q, r => by
    cases (show u = Value.ref a from r)
    obtain ⟨_, its, rv, o, h1, h2, n, h3⟩ := (show ObjOk P w H h a (.tup us) from ok a _ hb)
    exact .tup h1 h2 h3 (by simpa using NKs.is ok q rv)
theorem NKs.is {P : Program} {w : World} {H : Hp} {h : Heap} (ok : HOk P w H h) : ∀ {ks : List NestedKey} {vs : List V} {us : List Value}, NKs H ks vs → Vals vs us → NestedAll h ks us
  | _, _, _, .nil, .nil => .nil
  | _, _, _, .cons h r, .cons a b => .cons (NK.is ok h a) (NKs.is ok r b)
end
/-- the entries beside the real ones -/
abbrev EV : List (NestedKey × Addr × V) → List (NestedKey × Addr × Value) → Prop := Paired fun p q => p.1 = q.1 ∧ p.2.1 = q.2.1 ∧ RelV p.2.2 q.2.2
def kvsOf (xs : List (NestedKey × Addr × V)) : List (NestedKey × V) := xs.map fun x => (x.1, x.2.2)
def stN (xs : List (NestedKey × Addr × V)) (k : NestedKey) (b : Addr) (v : V) : List (NestedKey × Addr × V) :=
  if (valV (kvsOf xs) k).isSome = true then xs.map (fun x => if x.1 = k then (x.1, x.2.1, v) else x) else xs ++ [(k, b, v)]
theorem ev_val {xs : List (NestedKey × Addr × V)} {ys : List (NestedKey × Addr × Value)} (r : EV xs ys) (k : NestedKey) : RelO (valV (kvsOf xs) k) ((atKey ys k).map (·.2)) := by
  induction r with
  | nil => exact True.intro
  | @cons p q ps qs h t ih =>
    obtain ⟨h1, _, h2⟩ := h
    by_cases e : p.1 = k
    · have e' : q.1 = k := h1.symm.trans e
      have b : atKey (q :: qs) k = some q.2 := by simp [atKey, List.find?_cons, e']
      have c : valV (kvsOf (p :: ps)) k = some p.2.2 := valV_pos (p := (p.1, p.2.2)) e
      rw [c, b]; exact h2
    · have e' : ¬ q.1 = k := fun z => e (h1.trans z)
      have b : atKey (q :: qs) k = atKey qs k := by simp [atKey, List.find?_cons, e']
      have c : valV (kvsOf (p :: ps)) k = valV (kvsOf ps) k := valV_neg (p := (p.1, p.2.2)) e
      rw [c, b]; exact ih
theorem ev_repl {xs : List (NestedKey × Addr × V)} {ys : List (NestedKey × Addr × Value)} (r : EV xs ys) (k : NestedKey) {y : V} {u : Value} (ry : RelV y u) :
    EV (xs.map fun x => if x.1 = k then (x.1, x.2.1, y) else x) (ys.map (putAt k u)) := by
  induction r with
  | nil => exact .nil
  | @cons p q ps qs h t ih =>
    rw [List.map_cons, List.map_cons]
    refine .cons ?_ ih
    obtain ⟨h1, h2, h3⟩ := h
    unfold putAt
    by_cases e : p.1 = k
    · rw [if_pos e, if_pos (h1.symm.trans e)]; exact ⟨h1, h2, ry⟩
    · rw [if_neg e, if_neg (fun z => e (h1.trans z))]; exact ⟨h1, h2, h3⟩
theorem ev_put {xs : List (NestedKey × Addr × V)} {ys : List (NestedKey × Addr × Value)} (r : EV xs ys) (k : NestedKey) {b : Addr} {y : V} {u : Value} (ry : RelV y u) : EV (stN xs k b y) (storedH ys k b u) := by
  have e : (valV (kvsOf xs) k).isSome = (atKey ys k).isSome := by
    rw [(ev_val r k).isSome_eq, Option.isSome_map]
  unfold stN storedH
  rw [e]
  by_cases q : (atKey ys k).isSome = true
  · rw [if_pos q, if_pos q]; exact ev_repl r k ry
  · rw [if_neg q, if_neg q]; exact Paired.snoc r ⟨rfl, rfl, ry⟩
theorem kvs_put (xs : List (NestedKey × Addr × V)) (k : NestedKey) (b : Addr) (v : V) : kvsOf (stN xs k b v) = putK (kvsOf xs) k v := by
  unfold stN putK
  rw [valV_any]
  by_cases q : (valV (kvsOf xs) k).isSome = true
  · rw [if_pos q, if_pos q]
    unfold kvsOf
    rw [List.map_map, List.map_map]
    refine List.map_congr_left fun x _ => ?_
    show ((if x.1 = k then (x.1, x.2.1, v) else x).1, (if x.1 = k then (x.1, x.2.1, v) else x).2.2) = if x.1 = k then (x.1, v) else (x.1, x.2.2)
    by_cases e : x.1 = k
    · rw [if_pos e, if_pos e]
    · rw [if_neg e, if_neg e]
  · rw [if_neg q, if_neg q]
    unfold kvsOf
    rw [List.map_append]
    rfl
theorem len_stN (xs : List (NestedKey × Addr × V)) (k : NestedKey) (b : Addr) (v : V) : (stN xs k b v).length ≤ xs.length + 1 := by
  unfold stN
  by_cases q : (valV (kvsOf xs) k).isSome = true
  · rw [if_pos q, List.length_map]
    omega
  · rw [if_neg q, List.length_append]
    exact Nat.le_refl _
/-- the object -/
def DicN (P : Program) (w : World) (a : Addr) (xs : List (NestedKey × Addr × V)) : HO := .ext fun h => xs.length ≤ sizeLine ∧ (a == sysModules) = false ∧
  ∃ ys, EV xs ys ∧ ∃ o es ep, h.get? a = some o ∧ o.ExactDict ∧ o.data = .dict es ep ∧ es.toList = ys.map (entryOfKey (nestedKind P w)) ∧ (ys.map (·.1)).Nodup
/-- the dict at a holds these pairs -/
def DAt (P : Program) (w : World) (H : Hp) (a : Addr) (kvs : List (NestedKey × V)) : Prop := ∃ xs, H a = some (DicN P w a xs) ∧ (∀ x ∈ xs, NK H x.1 (.ref x.2.1) ∧ x.1.depth ≤ 8) ∧ kvsOf xs = kvs
section
variable {P : Program} {w : World} {H H' : Hp} {h : Heap} {a : Addr} {kvs : List (NestedKey × V)}
theorem DAt.ex (d : DAt P w H a kvs) (e : ∀ b o, H b = some o → H' b = some o) : DAt P w H' a kvs := by
  obtain ⟨xs, h1, h2, h3⟩ := d
  exact ⟨xs, e _ _ h1, fun x hx => ⟨(h2 x hx).1.to fun b ys hb => e _ _ hb, (h2 x hx).2⟩, h3⟩
/-- whatever is no tuple and not the dict may change -/
theorem DAt.keep (d : DAt P w H a kvs) (ea : H' a = H a) (e : ∀ b ys, H b = some (.tup ys) → H' b = some (.tup ys)) : DAt P w H' a kvs := by
  obtain ⟨xs, h1, h2, h3⟩ := d
  exact ⟨xs, ea.trans h1, fun x hx => ⟨(h2 x hx).1.to e, (h2 x hx).2⟩, h3⟩
theorem DAt.ntup (d : DAt P w H a kvs) : ∀ ys, H a ≠ some (.tup ys) := fun ys z => by
  obtain ⟨xs, h1, _⟩ := d
  rw [h1] at z
  unfold DicN at z
  cases z
theorem dn_ok {xs : List (NestedKey × Addr × V)} {ys : List (NestedKey × Addr × Value)} (z : xs.length ≤ sizeLine) (hs : (a == sysModules) = false) (r : EV xs ys) {o : Obj} {es : Array DictEntry} {ep : Nat} (h1 : h.get? a = some o) (h2 : o.ExactDict)
    (h3 : o.data = .dict es ep) (h4 : es.toList = ys.map (entryOfKey (nestedKind P w))) (h5 : (ys.map (·.1)).Nodup) : ObjOk P w H h a (DicN P w a xs) :=
  ⟨⟨z, hs, ys, r, o, es, ep, h1, h2, h3, h4, h5⟩, ⟨o, h1⟩, fun k1 k2 q k => by
    obtain ⟨z, hs, ys, r, o, es, ep, h1, h⟩ := q
    exact ⟨z, hs, ys, r, o, es, ep, k _ h1, h⟩⟩
theorem dn_rd (ok : HOk P w H h) {xs : List (NestedKey × Addr × V)} (e : H a = some (DicN P w a xs)) (hk : ∀ x ∈ xs, NK H x.1 (.ref x.2.1) ∧ x.1.depth ≤ 8) : xs.length ≤ sizeLine ∧ (a == sysModules) = false ∧ ∃ ys, EV xs ys ∧ h.DictOfH (nestedKind P w) a ys := by
  obtain ⟨z, hs, ys, r, o, es, ep, h1, h2, h3, h4, h5⟩ := (show ObjOk P w H h a (DicN P w a xs) from ok a _ e).1
  refine ⟨z, hs, ys, r, o, es, ep, h1, h2, h3, h4, fun y hy => ?_, h5⟩
  have all : ∀ {l : List (NestedKey × Addr × V)} {m : List (NestedKey × Addr × Value)}, EV l m → (∀ x ∈ l, NK H x.1 (.ref x.2.1) ∧ x.1.depth ≤ 8) → ∀ x ∈ m, (nestedKind P w).is h x.1 x.2.1 := by
    intro l m q
    induction q with
    | nil => intro _ x hx; exact nomatch hx
    | @cons p q ps qs hq t ih =>
      intro hl x hx
      rcases List.mem_cons.mp hx with e | hx
      · subst e
        obtain ⟨n1, n2⟩ := hl p List.mem_cons_self
        rw [← hq.1, ← hq.2.1]
        exact ⟨n1.is ok rfl, n2⟩
      · exact ih (fun x hx => hl x (List.mem_cons_of_mem _ hx)) x hx
  exact all r hk y hy
theorem nk_key (ok : HOk P w H h) {k : NestedKey} {b : Addr} (n : NK H k (.ref b)) (hd : k.depth ≤ 8) : (nestedKind P w).is h k b := ⟨n.is ok rfl, hd⟩
end
def rInN (P : Program) (w : World) : R2 := fun x y H Q => ∃ a b k kvs, x = .ref b ∧ y = .ref a ∧ DAt P w H a kvs ∧ NK H k (.ref b) ∧ k.depth ≤ 8 ∧ Q (.bl (valV kvs k).isSome) H
def rNotInN (P : Program) (w : World) : R2 := fun x y H Q => ∃ a b k kvs, x = .ref b ∧ y = .ref a ∧ DAt P w H a kvs ∧ NK H k (.ref b) ∧ k.depth ≤ 8 ∧ Q (.bl (!(valV kvs k).isSome)) H
def rIxN (P : Program) (w : World) : R2 := fun x y H Q => ∃ a b k kvs v, x = .ref a ∧ y = .ref b ∧ DAt P w H a kvs ∧ NK H k (.ref b) ∧ k.depth ≤ 8 ∧ valV kvs k = some v ∧ Q v H
def rSetN (P : Program) (w : World) : TSet := fun o i v H Q => ∃ a b k kvs, o = .ref a ∧ i = .ref b ∧ DAt P w H a kvs ∧ NK H k (.ref b) ∧ k.depth ≤ 8 ∧ kvs.length < sizeLine ∧
  ∀ xs, DAt P w (upd H a (DicN P w a xs)) a (putK kvs k v) → Q (upd H a (DicN P w a xs))
/-- the view d.values() at p -/
def valsO (p d : Addr) : HO := .ext fun h => h.IsValuesView p d
def rValsN (P : Program) (w : World) : V → List V → Hp → VK → Prop := fun x xs H Q => ∃ (a : Addr) (kvs : List (NestedKey × V)), x = .ref a ∧ xs = [] ∧ DAt P w H a kvs ∧ ∀ p, H p = none → Q (.ref p) (upd H p (valsO p a))
def rListVN (P : Program) (w : World) : List V → Hp → VK → Prop := fun xs H Q => ∃ (p a : Addr) (kvs : List (NestedKey × V)), xs = [.ref p] ∧ H p = some (valsO p a) ∧ DAt P w H a kvs ∧ ∀ q, H q = none → Q (.ref q) (upd H q (.lst (kvs.map (·.2))))
def tNewN (P : Program) (w : World) : TE := fun _ H Q => ∀ p, H p = none → Q (.ref p) (upd H p (DicN P w p []))
theorem DAt.new {P : Program} {w : World} {H : Hp} {p : Addr} : DAt P w (upd H p (DicN P w p [])) p [] := ⟨[], upd_same, (fun x hx => nomatch hx), rfl⟩
theorem ev_vals : ∀ {xs : List (NestedKey × Addr × V)} {ys : List (NestedKey × Addr × Value)}, EV xs ys → Vals ((kvsOf xs).map (·.2)) (ys.map fun y => y.2.2)
  | _, _, .nil => .nil
  | _, _, .cons h t => .cons h.2.2 (ev_vals t)
section
variable {X : Cx}
theorem nroom (hu : X.A.units + 64 < cLine) : (nestedKind X.prog X.w).room X.A.in1 := by
  show X.A.units + 1 + 8 < cLine
  omega
theorem op_inN (hu : X.A.units + 64 < cLine) : OpR X (compareOp .In) (rInN X.prog X.w) := by
  intro pins s σ H x y v u Q I rx ry q
  obtain ⟨a, b, k, kvs, rfl, rfl, ⟨xs, e, hk, rfl⟩, n, hd, q⟩ := q
  cases rx
  cases ry
  obtain ⟨z, hs, ys, r, dd⟩ := dn_rd I.hok e hk
  refine wpAny_in_heap (nroom hu) (nk_key I.hok n hd) hs dd ⟨_, H, I.tok _, ?_, q⟩
  have e2 := (ev_val r k).isSome_eq
  rw [Option.isSome_map] at e2
  rw [e2]
  rfl
theorem op_notInN (hu : X.A.units + 64 < cLine) : OpR X (compareOp .NotIn) (rNotInN X.prog X.w) := by
  intro pins s σ H x y v u Q I rx ry q
  obtain ⟨a, b, k, kvs, rfl, rfl, ⟨xs, e, hk, rfl⟩, n, hd, q⟩ := q
  cases rx
  cases ry
  obtain ⟨z, hs, ys, r, dd⟩ := dn_rd I.hok e hk
  refine wpAny_notIn_heap (nroom hu) (nk_key I.hok n hd) hs dd ⟨_, H, I.tok _, ?_, q⟩
  have e2 := (ev_val r k).isSome_eq
  rw [Option.isSome_map] at e2
  rw [e2]
  rfl
theorem ix_N (hu : X.A.units + 64 < cLine) : IxR X (rIxN X.prog X.w) := by
  intro value slice pins s σ H x y v u Q I rx ry q hs
  obtain ⟨a, b, k, kvs, v1, rfl, rfl, ⟨xs, e, hk, rfl⟩, n, hd, hv, q⟩ := q
  cases rx
  cases ry
  obtain ⟨z, hsm, ys, r, dd⟩ := dn_rd I.hok e hk
  have rr := ev_val r k
  rw [hv] at rr
  obtain ⟨w', hw, rw'⟩ := RelO.some_of rr
  obtain ⟨p, hp, hp2⟩ := Option.map_eq_some_iff.mp hw
  refine subscriptTail_builtinR (x := w') dd.typeIs PySem.F.slot_dict_getitem.lookup (wpAny_getItem_heap (Q := fun r s' => r = w' ∧ EP X pins σ Q r s') (nroom hu) (nk_key I.hok n hd) dd hp ⟨hp2, ?_⟩) hs
  rw [hp2]
  exact ⟨v1, H, I.tok _, rw', q⟩
theorem set_N (hu : X.A.units + 64 < cLine) : PSet X (rSetN X.prog X.w) := by
  intro pins s σ H o i v ov iv u Q I ro ri rv q
  obtain ⟨a, b, k, kvs, rfl, rfl, ⟨xs, e, hk, rfl⟩, n, hd, hl, q⟩ := q
  cases ro
  cases ri
  obtain ⟨z, hsm, ys, r, dd⟩ := dn_rd I.hok e hk
  have lx : (kvsOf xs).length = xs.length := by unfold kvsOf; rw [List.length_map]
  have hz : ys.length ≤ sizeLine := by rw [← Paired.length r]; exact z
  have nta : ∀ b ys, H b = some (.tup ys) → (upd H a (DicN X.prog X.w a (stN xs k b v))) b = some (.tup ys) := fun b ys hb => by
    rw [upd_ne (fun z => by rw [z, e] at hb; unfold DicN at hb; cases hb)]
    exact hb
  refine wpAny_setItem_heap (hsz := hz) (nroom hu) (nk_key I.hok n hd) dd fun h' dd' hs => ⟨upd H a (DicN X.prog X.w a (stN xs k b v)), ?_, q _ ⟨stN xs k b v, upd_same, fun x hx => ?_, kvs_put xs k b v⟩⟩
  · obtain ⟨o, es, ep, h1, h2, h3, h4, _, h5⟩ := dd'
    have hl2 := len_stN xs k b v
    exact I.write (x := a) (e := a) (by rw [e]; exact True.intro) (.inl rfl) (fun b q hb z => (hs.2 b hb).trans z) ⟨o, h1⟩ (dn_ok (by omega) hsm (ev_put r k rv) h1 h2 h3 h4 h5)
  · have nt : ∀ c ys, H c = some (.tup ys) → (upd H a (DicN X.prog X.w a (stN xs k b v))) c = some (.tup ys) := fun c ys hb => by
      rw [upd_ne (fun z => by rw [z, e] at hb; unfold DicN at hb; cases hb)]
      exact hb
    unfold stN at hx
    by_cases q : (valV (kvsOf xs) k).isSome = true
    · rw [if_pos q] at hx
      obtain ⟨y, hy, e2⟩ := List.mem_map.mp hx
      have hy2 := hk y hy
      by_cases e3 : y.1 = k
      · rw [if_pos e3] at e2
        subst e2
        exact ⟨hy2.1.to nt, hy2.2⟩
      · rw [if_neg e3] at e2
        subst e2
        exact ⟨hy2.1.to nt, hy2.2⟩
    · rw [if_neg q] at hx
      rcases List.mem_append.mp hx with hx | hx
      · exact ⟨(hk x hx).1.to nt, (hk x hx).2⟩
      · rw [List.mem_singleton.mp hx]
        exact ⟨n.to nt, hd⟩
theorem pe_newN {pos : Pos} : PE X (.Dict [] [] pos) (tNewN X.prog X.w) := ⟨fun pins s σ H Q I h =>
  wpAny_Dict_empty ⟨.ref s.heap.objs.size, _, I.laid (a := s.heap.objs.size) (o := DicN X.prog X.w s.heap.objs.size []) (t' := s.toks) (fun _ _ q => Heap.get?_push_of_some _ q) (Nat.le_refl _)
    (dn_ok (Nat.zero_le _) (beq_eq_false_iff_ne.mpr (Ne.symm (Nat.ne_of_lt I.big))) .nil (Heap.get?_push_size _ rfl) ⟨rfl, rfl, rfl⟩ rfl rfl List.nodup_nil), rfl, h _ (I.hok.fresh (Nat.le_refl _))⟩⟩
theorem mt_valsN : MtR X "dict.values" (rValsN X.prog X.w) := by
  intro pins s σ H x xs v us Q I rx rxs h
  obtain ⟨a, kvs, rfl, rfl, ⟨xs, e, hk, rfl⟩, q⟩ := h
  cases rx
  cases rxs
  obtain ⟨z, hd, ys, rel, dd⟩ := dn_rd I.hok e hk
  obtain ⟨o, es, ep, ho, hx, hdat, _⟩ := dd
  refine call_meetsIn PySem.F.slot_dict_values ⟨o, ho, hx.1⟩ PySem.F.entry_dict_values (PySem.F.args_dict_values_1 _) (meets_dict_values_raw a hd) ⟨⟨es, ep, o, ho, hx, hdat⟩, ?_⟩
  have hf : H s.heap.objs.size = none := I.hok.fresh (Nat.le_refl _)
  exact ⟨.ref s.heap.objs.size, upd H s.heap.objs.size (valsO s.heap.objs.size a), I.laid (t' := s.toks) (fun b u e => Heap.get?_push_of_some _ e) (Nat.le_refl _)
    ⟨⟨_, Heap.get?_push_size _ rfl, rfl, rfl⟩, ⟨_, Heap.get?_push_size _ rfl⟩, fun h1 h2 x k => let ⟨o, ho, r⟩ := x; ⟨o, k o ho, r⟩⟩, rfl, q _ hf⟩
def tValsN (P : Program) (w : World) (td : TE) : TE := fun σ H Q => td σ H fun x H1 => ∃ (a : Addr) (kvs : List (NestedKey × V)), x = .ref a ∧ DAt P w H1 a kvs ∧ ∀ p, H1 p = none → Q (.ref p) (upd H1 p (valsO p a))
theorem pe_valsN {e : Expr} {td : TE} {apos cpos : Pos} (he : PE X e td) (hbase : attributeBase e "values" X.env (eval e X.env) = eval e X.env := by rfl) (hline : (apos.endLine == cpos.line) = true := by rfl) :
    PE X (.Call (.Attribute e "values" apos) [] [] cpos) (tValsN X.prog X.w td) := by
  refine ⟨fun pins s σ H Q I h => ?_⟩
  refine wpAny_Call_method (T := "dict") (id := "dict.values") hbase rfl hline PySem.F.plainAttrs_dict PySem.F.slot_dict_values PySem.F.type_dict_values (thn (he.run pins s σ H _ I h) fun u s1 hq => ?_)
  obtain ⟨x, H1, I1, rx, a, kvs, ex, ⟨xs, e1, hk, ek⟩, q⟩ := hq
  subst ex
  cases rx
  obtain ⟨z, hd, ys, rel, dd⟩ := dn_rd I1.hok e1 hk
  obtain ⟨o, es, ep, ho, hx, hdat, _⟩ := dd
  refine ⟨⟨o, ho, hx.1⟩, fun b e => by cases e; exact ⟨o, ho, hx.2.1⟩, ?_⟩
  refine method_meetsIn PySem.F.slot_dict_values PySem.F.entry_dict_values rfl (PySem.evalArgs_none ⟨rfl, ⟨o, ho, hx.1⟩, PySem.F.args_dict_values_1 _, _, meets_dict_values_raw a hd, ⟨es, ep, o, ho, hx, hdat⟩, ?_⟩)
  have hf : H1 s1.heap.objs.size = none := I1.hok.fresh (Nat.le_refl _)
  exact ⟨.ref s1.heap.objs.size, upd H1 s1.heap.objs.size (valsO s1.heap.objs.size a), I1.laid (t' := s1.toks) (fun b u e => Heap.get?_push_of_some _ e) (Nat.le_refl _)
    ⟨⟨_, Heap.get?_push_size _ rfl, rfl, rfl⟩, ⟨_, Heap.get?_push_size _ rfl⟩, fun h1 h2 x k => let ⟨o, ho, r⟩ := x; ⟨o, k o ho, r⟩⟩, rfl, q _ hf⟩
theorem call_listVN (hc : X.calm = true) : CallR X (.type "list") (rListVN X.prog X.w) := by
  intro pins s σ H xs us Q I r h
  obtain ⟨p, a, kvs, rfl, hp, ⟨xs, e, hk, rfl⟩, q⟩ := h
  obtain rfl := Vals.ref1 r
  have view : s.heap.IsValuesView p a := (show ObjOk X.prog X.w H s.heap p (valsO p a) from I.hok p _ hp).1
  obtain ⟨z, hd, ks, pr, dd⟩ := dn_rd I.hok e hk
  obtain ⟨o, es, ep, ho, hx, hdt, he, _, hn⟩ := dd
  have l1 : es.size = ks.length := size_of_entries he
  have l2 : xs.length = ks.length := Paired.length pr
  refine PySem.W.kdl_call (KdlSrc.rawValues) (I.ok.hd hc) ⟨view, o, ho, hx, hdt⟩ (by omega) fun h' tk acc' c' kp e2 it => ?_
  have ea : acc'.toList = ks.map fun x => x.2.2 := by
    have hl : acc'.toList.length = ks.length := by rw [Array.length_toList, it.1]; exact l1
    apply List.ext_getElem?
    intro j
    rw [List.getElem?_map]
    cases hj : acc'.toList[j]? with
    | none =>
      have h1 := List.getElem?_eq_none_iff.mp hj
      rw [List.getElem?_eq_none (by omega)]
      all_goals rfl
    | some v =>
      obtain ⟨hi, hv⟩ := it.2 j v (by rw [← Array.getElem?_toList]; exact hj)
      have qe := entry_at he j
      rw [Array.getElem?_eq_getElem hi] at qe
      cases hb : ks[j]? with
      | none =>
        rw [hb] at qe
        exact nomatch (show some _ = none from qe)
      | some b =>
        rw [hb] at qe
        have e3 : es[j] = entryOfKey (nestedKind X.prog X.w) b := Option.some.inj qe
        rw [hv, e3]
        all_goals rfl
  have rv : Vals ((kvsOf xs).map (·.2)) acc'.toList := by rw [ea]; exact ev_vals pr
  have hz : ((kvsOf xs).map (·.2)).length ≤ sizeLine := by unfold kvsOf; rw [List.length_map, List.length_map]; omega
  refine ⟨.ref s.heap.objs.size, _, I.laid (t' := tk) (o := .lst ((kvsOf xs).map (·.2))) kp (Nat.le_refl _) ?_, rfl, q _ (I.hok.fresh (Nat.le_refl _))⟩
  exact ⟨hz, acc'.toList, c', rv, by rw [Array.toArray_toList]; exact e2⟩
end
end DN

namespace TR
open PySem PySem.Spec L2 Evl
/-- what is no list stays -/
def NL (H H' : Hp) : Prop := ∀ b o, H b = some o → (∀ xs, o ≠ .lst xs) → H' b = some o
theorem NL.of {H H' : Hp} (e : Ex H H') : NL H H' := fun b o h _ => e b o h
theorem NL.trans {H H1 H2 : Hp} (a : NL H H1) (b : NL H1 H2) : NL H H2 := fun c o h n => b c o (a c o h n) n
theorem NL.upd {H : Hp} {l : Addr} {xs ys : List V} (h : H l = some (.lst xs)) : NL H (L2.upd H l (.lst ys)) := fun b o hb hn => by
  rw [upd_ne (fun z => hn xs (by rw [z, h] at hb; exact (Option.some.inj hb).symm))]
  exact hb
theorem NL.tup {H H' : Hp} (n : NL H H') {a : Addr} {us : List V} (h : H a = some (.tup us)) : H' a = some (.tup us) := n a _ h fun _ z => by cases z
theorem NL.ins {H H' : Hp} (n : NL H H') {a c d : Addr} {fs : List (Str × V)} (h : H a = some (.ins c d fs)) : H' a = some (.ins c d fs) := n a _ h fun _ z => by cases z
mutual
theorem TA.nl {H H' : Hp} (e : NL H H') : ∀ {t : Tr} {v : V}, TA true H v t → TA true H' v t
  | _, _, .go h => .go (e.tup h)
  | _, _, .tell h r => .tell (e.tup h) (TA.nl e r)
  | _, _, .read h1 h2 r => .read (e.tup h1) (e.tup h2) (TAs.nl e r)
theorem TAs.nl {H H' : Hp} (e : NL H H') : ∀ {ts : Trs} {vs : List V}, TAs true H vs ts → TAs true H' vs ts
  | _, _, .nil => .nil
  | _, _, .cons h r => .cons (TA.nl e h) (TAs.nl e r)
end
end TR
namespace Law
open PySem PySem.Spec PyProof.Rows L2 Evl TR EK SG
/-! ### turns in memory -/
def rdOne (H : Hp) (v : V) (q : Nat × Nat) : Prop := ∃ b, v = .ref b ∧ H b = some (.tup [.int (q.1 : Nat), .str (sg q.2)])
def RdAt (H : Hp) (v : V) (rd : List (Nat × Nat)) : Prop := ∃ a us, v = .ref a ∧ H a = some (.tup us) ∧ Paired (rdOne H) us rd
def TlAt (H : Hp) (v : V) (tl : List Nat) : Prop := ∃ a, v = .ref a ∧ H a = some (.tup (nV tl))
def ItAt (H : Hp) (v : V) (i : Itm) : Prop := ∃ a vt vr vl, v = .ref a ∧ H a = some (.tup [vt, .str (tx i.kn), vr, vl]) ∧ TA true H vt i.t ∧ RdAt H vr i.rd ∧ TlAt H vl i.tl
def GoAt (H : Hp) (vs va : V) (kn : List Nat) : Option (Nat × Nat) → Prop
  | none => vs = .non ∧ va = .non
  | some (s, q) => vs = .int (s : Nat) ∧ ∃ a, va = .ref a ∧ H a = some (.tup [.int (q : Nat), .str (tx (slidF kn s))])
def tnFs (r t k s a : V) : List (Str × V) := [("reads", r), ("tells", t), ("known", k), ("slide", s), ("after", a)]
theorem tnf1 {r t k s a : V} : (tnFs r t k s a).lookup ("reads" : Str) = some r := rfl
theorem tnf2 {r t k s a : V} : (tnFs r t k s a).lookup ("tells" : Str) = some t := rfl
theorem tnf3 {r t k s a : V} : (tnFs r t k s a).lookup ("known" : Str) = some k := rfl
theorem tnf4 {r t k s a : V} : (tnFs r t k s a).lookup ("slide" : Str) = some s := rfl
theorem tnf5 {r t k s a : V} : (tnFs r t k s a).lookup ("after" : Str) = some a := rfl
theorem tnPut (r t k s a : V) : putF "after" a (putF "slide" s (putF "known" k (putF "tells" t (putF "reads" r [])))) = tnFs r t k s a := rfl
def TnAt (C : Addr) (H : Hp) (v : V) (T : Trn) : Prop := ∃ x dx vr vl vs va, v = .ref x ∧ H x = some (.ins C dx (tnFs vr vl (.str (tx T.kn)) vs va)) ∧ RdAt H vr T.rd ∧ TlAt H vl T.tl ∧ GoAt H vs va T.kn T.go
section
variable {H H' : Hp} {C : Addr}
theorem RdAt.nl (e : NL H H') {v : V} {rd : List (Nat × Nat)} : RdAt H v rd → RdAt H' v rd := fun ⟨a, us, h1, h2, h3⟩ => ⟨a, us, h1, e.tup h2, Paired.mapP h3 fun _ _ ⟨b, h4, h5⟩ => ⟨b, h4, e.tup h5⟩⟩
theorem TlAt.nl (e : NL H H') {v : V} {tl : List Nat} : TlAt H v tl → TlAt H' v tl := fun ⟨a, h1, h2⟩ => ⟨a, h1, e.tup h2⟩
theorem ItAt.nl (e : NL H H') {v : V} {i : Itm} : ItAt H v i → ItAt H' v i := fun ⟨a, vt, vr, vl, h1, h2, h3, h4, h5⟩ => ⟨a, vt, vr, vl, h1, e.tup h2, h3.nl e, h4.nl e, h5.nl e⟩
theorem GoAt.nl (e : NL H H') {vs va : V} {kn : List Nat} : ∀ {g : Option (Nat × Nat)}, GoAt H vs va kn g → GoAt H' vs va kn g
  | none, h => h
  | some (_, _), ⟨h1, a, h2, h3⟩ => ⟨h1, a, h2, e.tup h3⟩
theorem TnAt.nl (e : NL H H') {v : V} {T : Trn} : TnAt C H v T → TnAt C H' v T := fun ⟨x, dx, vr, vl, vs, va, h1, h2, h3, h4, h5⟩ => ⟨x, dx, vr, vl, vs, va, h1, e.ins h2, h3.nl e, h4.nl e, h5.nl e⟩
end
/-- what of the text the class Turn has -/
structure TC (K : PySem.W.Frag) (C : Addr) : Prop where
  cl : Cls K C
  n1 : NoAttr K C "reads"
  n2 : NoAttr K C "tells"
  n3 : NoAttr K C "known"
  n4 : NoAttr K C "slide"
  n5 : NoAttr K C "after"
def spTn (C : Addr) : Sp := fun vs H Q _ => ∃ (x dx : Addr) (a b c d e : V), vs = [.ref x, a, b, c, d, e] ∧ H x = some (.ins C dx []) ∧ Q .non (upd H x (.ins C dx (tnFs a b c d e)))
def spCut (C : Addr) : Sp := fun vs H Q _ => ∃ (x : Addr) (T : Trn), vs = [.ref x] ∧ TnAt C H (.ref x) T ∧ Q (.bl T.go.isNone) H
section
variable {P : Program} {w : World} {K : PySem.W.Frag} {mg : Str → Option Value} {base : Heap} {C : Addr}
theorem ok_tn {f : Addr} {fd : FuncData} (F : Fun K "__init__" "Turn.__init__" s_Turn_init f fd) (S : TC K C) : FnOk P w K mg base CX0 1 f fd ["self", "reads", "tells", "known", "slide", "after"] (spTn C) := by
  refine F.ok sc_Turn_init (fun vs H Q E h => ?_) (fun cdv A outer s H vs Q E hr h => ?_)
  · obtain ⟨x, dx, a, b, c, d, e, rfl, _⟩ := h
    rfl
  · obtain ⟨x, dx, a, b, c, d, e, rfl, h0, q⟩ := h
    refine ⟨_, (pss_cons (ps_fld (pv 0) (pv 1) rfl)
      (pss_cons (ps_fld (pv 0) (pv 2) rfl)
      (pss_cons (ps_fld (pv 0) (pv 3) rfl)
      (pss_cons (ps_fld (pv 0) (pv 4) rfl)
      (pss_one (ps_fld (pv 0) (pv 5) rfl)))))), ?_⟩
    refine ⟨_, rfl, _, rfl, x, C, dx, _, rfl, h0, S.cl, S.n1, by show 0 < 1000; decide, ?_⟩
    refine ⟨_, rfl, _, rfl, x, C, dx, _, rfl, upd_same, S.cl, S.n2, by show 1 < 1000; decide, ?_⟩
    refine ⟨_, rfl, _, rfl, x, C, dx, _, rfl, upd_same, S.cl, S.n3, by show 2 < 1000; decide, ?_⟩
    refine ⟨_, rfl, _, rfl, x, C, dx, _, rfl, upd_same, S.cl, S.n4, by show 3 < 1000; decide, ?_⟩
    refine ⟨_, rfl, _, rfl, x, C, dx, _, rfl, upd_same, S.cl, S.n5, by show 4 < 1000; decide, ?_⟩
    rw [upd_upd, upd_upd, upd_upd, upd_upd]
    exact q
theorem ok_cut {f : Addr} {fd : FuncData} (F : Fun K "is_cut" "Turn.is_cut" s_Turn_is_cut f fd) (S : TC K C) : FnOk P w K mg base CX0 1 f fd ["self"] (spCut C) := by
  refine F.ok sc_Turn_is_cut (fun vs H Q E h => ?_) (fun cdv A outer s H vs Q E hr h => ?_)
  · obtain ⟨x, T, rfl, _⟩ := h
    rfl
  · obtain ⟨x, T, rfl, ⟨x', dx, vr, vl, v4, va, ex, h0, _, _, hg⟩, q⟩ := h
    cases ex
    refine ⟨_, (pss_one (ps_ret (pe_cmpR op_isN (pe_fld (pv 0) rfl) pe_non (nomark _)))), ?_⟩
    refine ⟨_, rfl, x, C, dx, _, _, rfl, h0, S.cl, S.n4, tnf4, ?_⟩
    cases hgo : T.go with
    | none =>
      rw [hgo] at q hg
      rw [hg.1]
      exact ⟨rfl, q⟩
    | some p =>
      rw [hgo] at q hg
      rw [hg.1]
      exact ⟨rfl, q⟩
/-- what waits is as it should be -/
structure ItOk (L : List Nat) (w n : Nat) (i : Itm) : Prop where
  ok : i.t.ok L.length w n
  len : i.kn.length = w + 1
  sg : ∀ c ∈ i.kn, c = 46 ∨ c ∈ L
  sz : i.rd.length + i.tl.length + i.t.size ≤ 10000
def spTurns (C CS : Addr) : Sp := fun vs H Q _ => ∃ (se sd : Addr) (L : List Nat) (w : Nat) (ts : List Tr) (t : Tr) (q : Nat) (kn : List Nat), vs = [.ref se, .ref sd] ∧ SObj CS H se L w ts ∧ LG L ∧ w ≤ 10 ∧ H sd = some (.tup [.int (q : Nat), .str (tx kn)]) ∧ ts[q]? = some t ∧ kn.length = w + 1 ∧ (∀ c ∈ kn, c = 46 ∨ c ∈ L) ∧
  t.ok L.length w ts.length ∧ t.size ≤ 3000 ∧ ∀ r H' us, Ex H H' → H r = none → H' r = some (.lst us) → Paired (TnAt C H') us (tnT L w t kn [] []) → Q (.ref r) H'
theorem sF1 {l w s n : V} : (sFs l w s n).lookup ("letters" : Str) = some l := rfl
theorem sF2 {l w s n : V} : (sFs l w s n).lookup ("width" : Str) = some w := rfl
theorem sF3 {l w s n : V} : (sFs l w s n).lookup ("states" : Str) = some s := rfl
theorem kids_at {H : Hp} : ∀ {us : List V} {ts : List Tr} {i : Nat} {t : Tr}, Kids true H us ts → ts[i]? = some t → ∃ u, us[i]? = some u ∧ TA true H u t
  | _, _, _, _, .nil, h => by simp at h
  | _, _, 0, _, .cons h _, e => ⟨_, rfl, by rw [← Option.some.inj e]; exact h⟩
  | _, _, i + 1, _, .cons _ r, e => kids_at (i := i) r e
theorem paired_last {α β : Type} {F : α → β → Prop} : ∀ {xs : List α} {ys : List β}, Paired F xs ys → xs ≠ [] → ∃ us x vs y, xs = us ++ [x] ∧ ys = vs ++ [y] ∧ Paired F us vs ∧ F x y
  | _, _, .nil, h => absurd rfl h
  | _, _, .cons (a := x) (b := y) h .nil, _ => ⟨[], x, [], y, rfl, rfl, .nil, h⟩
  | _, _, .cons (a := x) (b := y) h (.cons a1 a2), _ => by
    obtain ⟨us, x', vs, y', e1, e2, s, b1⟩ := paired_last (.cons a1 a2) (by intro q; cases q)
    exact ⟨x :: us, x', y :: vs, y', by rw [e1]; rfl, by rw [e2]; rfl, .cons h s, b1⟩
theorem idx_of {L : List Nat} {c : Nat} (h : c ∈ L) : ∃ i rest, Builtin.Str.occurrences (tx L) (sg c) 0 (tx L).length 1 = i :: rest ∧ L[i]? = some c := by
  have h1 := StrLaws.found_one (tx L) c
  rw [decide_eq_true (show c ∈ (tx L).cps.toList from h)] at h1
  cases ho : Builtin.Str.occurrences (tx L) (sg c) 0 (tx L).length 1 with
  | nil =>
    have ho2 : Builtin.Str.occurrences (tx L) ⟨#[c]⟩ 0 (tx L).length 1 = [] := ho
    rw [ho2] at h1
    cases h1
  | cons i rest =>
    refine ⟨i, rest, rfl, ?_⟩
    have h2 := StrLaws.occ_spec (tx L) (sg c) 0 (tx L).length 1 i (by rw [ho]; exact List.mem_cons_self)
    exact (StrLaws.subAt_one (tx L) c i).mp h2
theorem setK_cut {k : List Nat} {p c : Nat} : cutS (tx k) none (some ((p : Nat) : Int)) ++ sg c ++ cutS (tx k) (some (((p : Nat) : Int) + 1)) none = tx (setK k p c) := by
  rw [cut_to, show (((p : Nat) : Int) + 1) = ((p + 1 : Nat) : Int) by simp, cut_from, sg_tx, tx_app, tx_app]
  unfold setK
  rw [List.append_assoc]
  rfl
theorem set_setK {k : List Nat} {p c : Nat} (h : p < k.length) : k.set p c = setK k p c := by
  unfold setK
  rw [List.set_eq_take_append_cons_drop, if_pos h]
theorem paired_app {α β : Type} {F : α → β → Prop} : ∀ {xs : List α} {ys : List β} {us : List α} {vs : List β}, Paired F xs ys → Paired F us vs → Paired F (xs ++ us) (ys ++ vs)
  | _, _, _, _, .nil, h => h
  | _, _, _, _, .cons h r, k => .cons h (paired_app r k)
theorem ok_turns {f fi fs CS : Addr} {fd fdi fds : FuncData} (F : Fun K "turns" "turns" s_turns f fd) (T : Tx mg) (S : TC K C) (SS : SC K CS) (c_slid : Kn P w K mg base "slid" ["known", "by"] 1 spSlid) (g_Turn : mg "Turn" = some (.ref C)) (M_Turn : Mk K C fi)
    (F_Turn : FnOk P w K mg base CX0 1 fi fdi ["self", "reads", "tells", "known", "slide", "after"] (spTn C)) (b_Turn : Binds K fdi ["self", "reads", "tells", "known", "slide", "after"] []) : FnOk P w K mg base CX0 3 f fd ["searcher", "standing"] (spTurns C CS) := by
  refine F.ok sc_turns (fun vs H Q E h => ?_) (fun cdv A outer s H vs Q E hr h => ?_)
  · obtain ⟨se, sd, L, wd, ts, t, q0, kn, rfl, _⟩ := h
    rfl
  · obtain ⟨se, sd, L, wd, ts, t, q0, kn, rfl, ⟨dx, sta, us0, hse, hst0, KK⟩, hL, hw, hsd, htq, hkl, hks, htok, htsz, q⟩ := h
    refine ⟨_, (pss_cons (ps_set (i := 2) sc_turns.nd rfl (Or.inl rfl) (pe_fld (pv 0) rfl))
      (pss_cons (ps_asg (pv 1) (pg_tup (by rfl) (pgs_cons (pg_name (i := 3) sc_turns.nd rfl (Or.inl rfl)) (pgs_cons (pg_name (i := 4) sc_turns.nd rfl (Or.inl rfl)) pgs_nil))))
      (pss_cons (ps_set (i := 5) sc_turns.nd rfl (Or.inl rfl) (pe_lst pa_nil))
      (pss_cons (ps_set (i := 6) sc_turns.nd rfl (Or.inl rfl) (pe_lst (pa_cons (pe_tup (pa_cons (pe_ix ix_tup (pe_fld (pv 0) rfl) (pv 3) (fun _ _ => rfl)) (pa_cons (pv 4) (pa_cons (pe_tup pa_nil) (pa_cons (pe_tup pa_nil) pa_nil))))) pa_nil)))
      (pss_cons (ps_while PassesOwn.never (pt_truth (pv 6) (by intro _; rfl)) (pss_cons (ps_asg (pe_bm0 PySem.F.plainAttrs_list PySem.F.slot_list_pop PySem.F.type_list_pop mt_pop (pv 6)) (pg_tup (by rfl) (pgs_cons (pg_tup (by rfl) (pgs_cons (pg_name (i := 7) sc_turns.nd rfl (Or.inl rfl)) (pgs_cons (pg_name (i := 8) sc_turns.nd rfl (Or.inl rfl)) (pgs_cons (pg_name (i := 9) sc_turns.nd rfl (Or.inl rfl)) pgs_nil)))) (pgs_cons (pg_name (i := 10) sc_turns.nd rfl (Or.inl rfl)) (pgs_cons (pg_name (i := 11) sc_turns.nd rfl (Or.inl rfl)) (pgs_cons (pg_name (i := 12) sc_turns.nd rfl (Or.inl rfl)) pgs_nil))))))
      (pss_one (ps_if (pt_cmpR op_eq (pv 7) pe_str (nomark _)) (pss_one (ps_expr (pe_bm PySem.F.plainAttrs_list PySem.F.slot_list_append PySem.F.type_list_append mt_append (pv 5) (pa_cons (pe_make M_Turn F_Turn (hr.mono (by decide)) (by rfl) g_Turn b_Turn .nil pass0 (pa_cons (pv 11) (pa_cons (pv 12) (pa_cons (pv 10) (pa_cons (pv 8) (pa_cons (pe_tup (pa_cons (pv 9) (pa_cons (pe_call c_slid.ok (hr.mono (by decide)) (by rfl) c_slid.g c_slid.kp c_slid.b .nil pass0 (pa_cons (pv 10) (pa_cons (pv 8) pa_nil))) pa_nil))) pa_nil)))))) pa_nil)))) (pss_one (ps_if (pt_cmpR op_eq (pv 7) pe_str (nomark _)) (pss_one (ps_expr (pe_bm PySem.F.plainAttrs_list PySem.F.slot_list_append PySem.F.type_list_append mt_append (pv 6) (pa_cons (pe_tup (pa_cons (pv 9) (pa_cons (pv 10) (pa_cons (pv 11) (pa_cons (pe_tup (StX.pa_star (pv 12) (pa_cons (pv 8) pa_nil))) pa_nil))))) pa_nil)))) (pss_one (ps_if (pt_cmpR op_ne (pe_ix ix_str (pv 10) (pv 8) (fun _ _ => rfl)) pe_str (nomark _)) (pss_cons (ps_set (i := 13) sc_turns.nd rfl (Or.inl rfl) (pe_ix ix_str (pv 10) (pv 8) (fun _ _ => rfl)))
      (pss_one (ps_expr (pe_bm PySem.F.plainAttrs_list PySem.F.slot_list_append PySem.F.type_list_append mt_append (pv 6) (pa_cons (pe_tup (pa_cons (pe_ix ix_tup (pv 9) (pe_bm PySem.F.plainAttrs_str PySem.F.slot_str_index PySem.F.type_str_index mt_sindex (pv 2) (pa_cons (pv 13) pa_nil)) (fun _ _ => rfl)) (pa_cons (pv 10) (pa_cons (pe_tup (StX.pa_star (pv 11) (pa_cons (pe_tup (pa_cons (pv 8) (pa_cons (pv 13) pa_nil))) pa_nil))) (pa_cons (pv 12) pa_nil))))) pa_nil))))) (pss_cons (ps_if (pt_cmpR op_eq (pv 8) (pe_fld (pv 0) rfl) (nomark _)) (pss_one (ps_expr (pe_bm PySem.F.plainAttrs_list PySem.F.slot_list_append PySem.F.type_list_append mt_append (pv 5) (pa_cons (pe_make M_Turn F_Turn (hr.mono (by decide)) (by rfl) g_Turn b_Turn .nil pass0 (pa_cons (pv 11) (pa_cons (pv 12) (pa_cons (pv 10) (pa_cons pe_non (pa_cons pe_non pa_nil)))))) pa_nil)))) pss_nil)
      (pss_cons (ps_par (i := 14) (j := 15) (by rfl) sc_turns.nd rfl rfl (by decide) rfl rfl (pa_cons (pe_slice sl_str (pv 10) po_none (po_some (pv 8))) (pa_cons (pe_slice sl_str (pv 10) (po_some (pe_op op_add (pv 8) pe_int)) po_none) pa_nil)) (by rfl))
      (pss_one (ps_for PassesOwn.never rfl (pi_reversed (by rfl) T.reversed (pa_cons (LZ.pe_listZipX (by rfl) T.list (by rfl) T.zip (pa_cons (pv 2) (pa_cons (pv 9) pa_nil))) pa_nil)) (pg_tup (by rfl) (pgs_cons (pg_name (i := 13) sc_turns.nd rfl (Or.inl rfl)) (pgs_cons (pg_name (i := 16) sc_turns.nd rfl (Or.inl rfl)) pgs_nil))) (pss_one (ps_expr (pe_bm PySem.F.plainAttrs_list PySem.F.slot_list_append PySem.F.type_list_append mt_append (pv 6) (pa_cons (pe_tup (pa_cons (pv 16) (pa_cons (pe_op op_add_str (pe_op op_add_str (pv 14) (pv 13)) (pv 15)) (pa_cons (pe_tup (StX.pa_star (pv 11) (pa_cons (pe_tup (pa_cons (pv 8) (pa_cons (pv 13) pa_nil))) pa_nil))) (pa_cons (pv 12) pa_nil))))) pa_nil))))))))))))))))
      (pss_one (ps_ret (pv 5)))))))), ?_⟩
    refine ⟨_, rfl, se, CS, dx, _, _, rfl, hse, SS.cl, SS.nl, sF1, ?_⟩
    refine ⟨_, rfl, sd, _, rfl, .inl (.inl hsd), rfl, _, _, rfl, _, _, rfl, rfl, ?_⟩
    refine ⟨Nat.zero_le _, fun lf hlf => ?_⟩
    have e0 : Ex H (L2.upd H lf (.lst [])) := Ex.new hlf
    have hf0 : (L2.upd H lf (.lst [])) lf = some (.lst []) := upd_same
    generalize (L2.upd H lf (.lst [])) = H1 at e0 hf0 ⊢
    obtain ⟨u0, hu0, hta0⟩ := kids_at KK htq
    refine ⟨_, rfl, se, CS, dx, _, _, rfl, e0 _ _ hse, SS.cl, SS.ns, sF3, ?_⟩
    refine ⟨_, rfl, sta, us0, _, u0, rfl, rfl, st_of (e0 _ _ hst0), atI_nat hu0, _, rfl, Nat.zero_le _, fun t1 h1 => ⟨Nat.zero_le _, fun t2 h2 => ⟨by show 4 ≤ sizeLine; decide, fun t3 h3 => ⟨by show 1 ≤ sizeLine; decide, fun lw hlw => ?_⟩⟩⟩⟩
    have a1 := Ex.new (o := .tup []) h1
    have a2 := Ex.new (o := .tup []) h2
    have a3 := Ex.new (o := .tup [u0, .str (tx kn), .ref t1, .ref t2]) h3
    have a4 := Ex.new (o := .lst [.ref t3]) hlw
    have e1 := e0.trans (a1.trans (a2.trans (a3.trans a4)))
    have hf1 := a4 _ _ (a3 _ _ (a2 _ _ (a1 _ _ hf0)))
    have it1 : ItAt _ (.ref t3) ⟨t, kn, [], []⟩ := ⟨t3, u0, .ref t1, .ref t2, rfl, a4 _ _ upd_same, (hta0.ex e1), ⟨t1, [], rfl, a4 _ _ (a3 _ _ (a2 _ _ upd_same)), .nil⟩, ⟨t2, rfl, a4 _ _ (a3 _ _ upd_same)⟩⟩
    have hlwH : H lw = none := fresh_back (e0.trans (a1.trans (a2.trans a3))) hlw
    have nfw : lf ≠ lw := fun z => by
      have := (a3 _ _ (a2 _ _ (a1 _ _ hf0)))
      rw [z, hlw] at this
      cases this
    have hw1 : (L2.upd (L2.upd (L2.upd (L2.upd H1 t1 (.tup [])) t2 (.tup [])) t3 (.tup [u0, .str (tx kn), .ref t1, .ref t2])) lw (.lst [.ref t3])) lw = some (.lst [.ref t3]) := upd_same
    generalize (L2.upd (L2.upd (L2.upd (L2.upd H1 t1 (.tup [])) t2 (.tup [])) t3 (.tup [u0, .str (tx kn), .ref t1, .ref t2])) lw (.lst [.ref t3])) = H5 at e1 hf1 it1 hw1 ⊢
    refine ⟨fun m σ H' => ∃ (st fs : List V) (stk : List Itm) (fd : List Trn) (y7 y8 y9 y10 y11 y12 y13 y14 y15 y16 : Option V), σ = [some (.ref se), some (.ref sd), some (.str (tx L)), some (.int (q0 : Nat)), some (.str (tx kn)), some (.ref lf), some (.ref lw), y7, y8, y9, y10, y11, y12, y13, y14, y15, y16] ∧
        Ex H H' ∧ H' lf = some (.lst fs) ∧ H' lw = some (.lst st) ∧ Paired (TnAt C H') fs fd ∧ Paired (ItAt H') st stk ∧ fd ++ outS L wd stk = tnT L wd t kn [] [] ∧ (∀ i ∈ stk, ItOk L wd ts.length i) ∧ m = sizeS stk ∧ fs.length + sizeS stk ≤ 3000,
      ⟨_, _, _, [⟨t, kn, [], []⟩], [], none, none, none, none, none, none, none, none, none, none, rfl, e1, hf1, hw1, .nil, .cons it1 .nil, (by rw [List.nil_append]; show (tnT L wd t kn [] [] ++ []) = _; rw [List.append_nil]), (fun i hi => by
        rw [List.mem_singleton.mp hi]
        exact ⟨htok, hkl, hks, by show 0 + 0 + t.size ≤ 10000; omega⟩), rfl, by show 0 + (t.size + 0) ≤ 3000; omega⟩, fun m σ H' hw => ?_⟩
    obtain ⟨st, fs, stk, fd, y7, y8, y9, y10, y11, y12, y13, y14, y15, y16, rfl, e, hlf', hlw', PF, PS, hall, hok, hm, hb⟩ := hw
    refine ⟨_, rfl, !st.isEmpty, .inl ⟨st, sq_of hlw', rfl⟩, ?_⟩
    cases hst : st with
    | nil =>
      subst hst
      refine iteF ?_
      cases PS
      rw [show outS L wd [] = [] from rfl, List.append_nil] at hall
      subst hall
      exact ⟨_, rfl, q lf _ fs e hlf hlf' PF⟩
    | cons s0 srest =>
      refine iteT ?_
      rw [hst] at PS hlw'
      obtain ⟨us, x, rs, it, eS, eP, PS', hit⟩ := paired_last PS (by intro z; cases z)
      rw [eS] at hlw'
      subst eP
      rw [outS_snoc] at hall
      have hszs : sizeS (rs ++ [it]) = sizeS rs + it.t.size := by rw [sizeS_app]; show _ + (it.t.size + 0) = _; rw [Nat.add_zero]
      rw [hszs] at hm hb
      obtain ⟨iok, ilen, isg, isz⟩ := hok it (List.mem_append_right _ (List.mem_singleton.mpr rfl))
      have hok' : ∀ i ∈ rs, ItOk L wd ts.length i := fun i hi => hok i (List.mem_append_left _ hi)
      refine ⟨fun σ2 H2 => ∃ m', m' < m ∧ ∃ (st fs : List V) (stk : List Itm) (fd : List Trn) (y7 y8 y9 y10 y11 y12 y13 y14 y15 y16 : Option V), σ2 = [some (.ref se), some (.ref sd), some (.str (tx L)), some (.int (q0 : Nat)), some (.str (tx kn)), some (.ref lf), some (.ref lw), y7, y8, y9, y10, y11, y12, y13, y14, y15, y16] ∧
        Ex H H2 ∧ H2 lf = some (.lst fs) ∧ H2 lw = some (.lst st) ∧ Paired (TnAt C H2) fs fd ∧ Paired (ItAt H2) st stk ∧ fd ++ outS L wd stk = tnT L wd t kn [] [] ∧ (∀ i ∈ stk, ItOk L wd ts.length i) ∧ m' = sizeS stk ∧ fs.length + sizeS stk ≤ 3000, fun σ2 H2 h => h, ?_⟩
      refine ⟨_, rfl, .inl ⟨rfl, _, sq_of hlw'⟩, lw, _, _, rfl, rfl, hlw', pop_last _ _, ?_⟩
      rw [List.dropLast_concat]
      have n3 : NL H' (L2.upd H' lw (.lst us)) := NL.upd hlw'
      have e3 : Ex H (L2.upd H' lw (.lst us)) := e.mut hlwH
      have hw3 : (L2.upd H' lw (.lst us)) lw = some (.lst us) := upd_same
      have hf3 : (L2.upd H' lw (.lst us)) lf = some (.lst fs) := by rw [upd_ne nfw]; exact hlf'
      generalize (L2.upd H' lw (.lst us)) = H3 at n3 e3 hw3 hf3 ⊢
      have PF3 : Paired (TnAt C H3) fs fd := Paired.mapP PF fun _ _ h => h.nl n3
      have PS3 : Paired (ItAt H3) us rs := Paired.mapP PS' fun _ _ h => h.nl n3
      obtain ⟨ia, vt, vr, vl, rfl, hia, hta, hrd, htl⟩ := hit.nl n3
      obtain ⟨it, ikn, ird, itl⟩ := it
      have lfu := PF3.length
      have lus := PS3.length
      have lrs := len_sizeS rs
      dsimp only at hrd htl hia isz ilen isg iok hm hb
      -- one more tree waits
      have addW : ∀ (H6 : Hp) (v : V) (j : Itm) (y7 y8 y9 y10 y11 y12 y13 y14 y15 y16 : Option V), Ex H3 H6 → ItAt H6 v j → ItOk L wd ts.length j → itT L wd j = itT L wd ⟨it, ikn, ird, itl⟩ → j.t.size < it.size →
          ∃ m', m' < m ∧ ∃ (st fs : List V) (stk : List Itm) (fd : List Trn) (z7 z8 z9 z10 z11 z12 z13 z14 z15 z16 : Option V), [some (.ref se), some (.ref sd), some (.str (tx L)), some (.int (q0 : Nat)), some (.str (tx kn)), some (.ref lf), some (.ref lw), y7, y8, y9, y10, y11, y12, y13, y14, y15, y16] = [some (V.ref se), some (.ref sd), some (.str (tx L)), some (.int (q0 : Nat)), some (.str (tx kn)), some (.ref lf), some (.ref lw), z7, z8, z9, z10, z11, z12, z13, z14, z15, z16] ∧
          Ex H (L2.upd H6 lw (.lst (us ++ [v]))) ∧ (L2.upd H6 lw (.lst (us ++ [v]))) lf = some (.lst fs) ∧ (L2.upd H6 lw (.lst (us ++ [v]))) lw = some (.lst st) ∧ Paired (TnAt C (L2.upd H6 lw (.lst (us ++ [v])))) fs fd ∧ Paired (ItAt (L2.upd H6 lw (.lst (us ++ [v])))) st stk ∧
          fd ++ outS L wd stk = tnT L wd t kn [] [] ∧ (∀ i ∈ stk, ItOk L wd ts.length i) ∧ m' = sizeS stk ∧ fs.length + sizeS stk ≤ 3000 := by
        intro H6 v j y7 y8 y9 y10 y11 y12 y13 y14 y15 y16 e6 hj oj hji hsj
        have n6 := (NL.of e6).trans (NL.upd (ys := us ++ [v]) (e6 _ _ hw3))
        have sj : sizeS (rs ++ [j]) = sizeS rs + j.t.size := by rw [sizeS_app]; show _ + (j.t.size + 0) = _; rw [Nat.add_zero]
        refine ⟨sizeS (rs ++ [j]), by omega, us ++ [v], fs, rs ++ [j], fd, _, _, _, _, _, _, _, _, _, _, rfl, (e3.trans e6).mut hlwH, ?_, upd_same, Paired.mapP PF3 fun _ _ h => h.nl n6, Paired.snoc (Paired.mapP PS3 fun _ _ h => h.nl n6) (hj.nl (NL.upd (e6 _ _ hw3))), ?_, ?_, rfl, by omega⟩
        · rw [upd_ne nfw]
          exact e6 _ _ hf3
        · rw [outS_snoc, hji]
          exact hall
        · intro i hi
          rcases List.mem_append.mp hi with hi | hi
          · exact hok' i hi
          · rw [List.mem_singleton.mp hi]
            exact oj
      cases hta with
      | @go ga s' q' hg =>
        have hgo : itT L wd ⟨.go s' q', ikn, ird, itl⟩ = [⟨ird, itl, ikn, some (s', q')⟩] := by
          show tnT L wd (.go s' q') ikn ird itl = _
          unfold tnT
          rfl
        rw [hgo] at hall
        refine ⟨ia, _, rfl, .inl (.inl hia), rfl, _, _, rfl, ⟨ga, _, rfl, .inl (.inl hg), rfl, _, _, rfl, _, _, rfl, _, _, rfl, rfl, _, _, rfl, _, _, rfl, _, _, rfl, rfl, ?_⟩⟩
        refine ⟨_, rfl, rfl, _, rfl, iteD rfl ?_⟩
        refine ⟨_, rfl, .inl ⟨rfl, _, sq_of hf3⟩, _, rfl, _, rfl, _, rfl, _, rfl, _, rfl, _, rfl, _, rfl, ikn, s', rfl, by omega, fun H4 e4 => ⟨by show 2 ≤ sizeLine; decide, fun ap hap => fun xx dxx hxx hdx hne => ⟨xx, dxx, _, _, _, _, _, rfl, upd_same, ?_⟩⟩⟩
        rw [upd_upd]
        have e5 := Ex.new (o := .tup [.int (q' : Nat), .str (tx (slidF ikn s'))]) hap
        have hap5 : (L2.upd H4 ap (.tup [.int (q' : Nat), .str (tx (slidF ikn s'))])) ap = some (.tup [.int (q' : Nat), .str (tx (slidF ikn s'))]) := upd_same
        generalize (L2.upd H4 ap (.tup [.int (q' : Nat), .str (tx (slidF ikn s'))])) = H5 at e5 hap5 hxx hdx ⊢
        have e6 : Ex H5 (L2.upd (L2.upd H5 dxx (.own xx)) xx (.ins C dxx (tnFs vr vl (.str (tx ikn)) (.int (s' : Nat)) (.ref ap)))) := (Ex.new hdx).trans (Ex.new (by rw [upd_ne hne.symm]; exact hxx))
        have hx6 : (L2.upd (L2.upd H5 dxx (.own xx)) xx (.ins C dxx (tnFs vr vl (.str (tx ikn)) (.int (s' : Nat)) (.ref ap)))) xx = some (.ins C dxx (tnFs vr vl (.str (tx ikn)) (.int (s' : Nat)) (.ref ap))) := upd_same
        generalize (L2.upd (L2.upd H5 dxx (.own xx)) xx (.ins C dxx (tnFs vr vl (.str (tx ikn)) (.int (s' : Nat)) (.ref ap)))) = H6 at e6 hx6 ⊢
        have e36 := e4.trans (e5.trans e6)
        have hf6 := e36 _ _ hf3
        have n6 := (NL.of e36).trans (NL.upd (ys := fs ++ [.ref xx]) hf6)
        refine ⟨rfl, lf, _, _, rfl, rfl, hf6, sz_lt (by omega), ?_⟩
        refine ⟨sizeS rs, by rw [hm]; exact Nat.lt_add_of_pos_right (SG.size_pos _), us, fs ++ [.ref xx], rs, fd ++ [⟨ird, itl, ikn, some (s', q')⟩], _, _, _, _, _, _, _, _, _, _, rfl, (e3.trans e36).mut hlf, upd_same, ?_, Paired.snoc (Paired.mapP PF3 fun _ _ h => h.nl n6) ?_, Paired.mapP PS3 fun _ _ h => h.nl n6, ?_, hok', rfl, ?_⟩
        · rw [upd_ne nfw.symm]
          exact e36 _ _ hw3
        · exact TnAt.nl (NL.upd hf6) ⟨xx, dxx, vr, vl, _, _, rfl, hx6, hrd.nl (NL.of e36), htl.nl (NL.of e36), rfl, ap, rfl, e6 _ _ hap5⟩
        · rw [List.append_assoc]
          exact hall
        · rw [List.length_append]
          show fs.length + 1 + _ ≤ 3000
          have := SG.size_pos (.go s' q')
          omega
      | @tell ga n' vt' t' hg hr' =>
        have htell : itT L wd ⟨t', ikn, ird, itl ++ [n']⟩ = itT L wd ⟨.tell n' t', ikn, ird, itl⟩ := by
          show tnT L wd t' ikn ird (itl ++ [n']) = tnT L wd (.tell n' t') ikn ird itl
          conv => rhs; unfold tnT
        have isz' : ird.length + itl.length + (t'.size + 1) ≤ 10000 := isz
        refine ⟨ia, _, rfl, .inl (.inl hia), rfl, _, _, rfl, ⟨ga, _, rfl, .inl (.inl hg), rfl, _, _, rfl, _, _, rfl, _, _, rfl, rfl, _, _, rfl, _, _, rfl, _, _, rfl, rfl, ?_⟩⟩
        refine ⟨_, rfl, rfl, _, rfl, iteDn tell_ne_go ?_⟩
        refine ⟨_, rfl, rfl, _, rfl, iteD rfl ?_⟩
        obtain ⟨la, rfl, hla⟩ := htl
        refine ⟨_, rfl, .inl ⟨rfl, _, sq_of hw3⟩, _, rfl, _, rfl, _, rfl, _, rfl, la, _, rfl, .inl (st_of hla), _, rfl, ?_⟩
        refine ⟨?_, fun tp htp => ⟨by show 4 ≤ sizeLine; decide, fun ip hip => ?_⟩⟩
        · show (nV itl ++ [V.int (n' : Nat)]).length ≤ sizeLine
          rw [List.length_append, nV_len]
          exact Nat.le_trans (show itl.length + 1 ≤ 10000 by omega) (by decide)
        have etl : nV itl ++ [V.int (n' : Nat)] = nV (itl ++ [n']) := by unfold nV; rw [List.map_append]; rfl
        have g1 : Ex H3 (L2.upd H3 tp (.tup (nV (itl ++ [n'])))) := Ex.new (by exact htp)
        have hip2 : (L2.upd H3 tp (.tup (nV (itl ++ [n'])))) ip = none := by rw [← etl]; exact hip
        have g2 : Ex (L2.upd H3 tp (.tup (nV (itl ++ [n'])))) (L2.upd (L2.upd H3 tp (.tup (nV (itl ++ [n'])))) ip (.tup [vt', .str (tx ikn), vr, .ref tp])) := Ex.new hip2
        have g12 := g1.trans g2
        have res := addW _ (.ref ip) ⟨t', ikn, ird, itl ++ [n']⟩ (some (.str "tell")) (some (.int (n' : Nat))) (some vt') (some (.str (tx ikn))) (some vr) (some (.ref la)) y13 y14 y15 y16 g12 ⟨ip, vt', vr, .ref tp, rfl, upd_same, hr'.nl (NL.of g12), hrd.nl (NL.of g12), tp, rfl, g2 _ _ upd_same⟩
          ⟨iok.2, ilen, isg, by show ird.length + (itl ++ [n']).length + t'.size ≤ 10000; rw [List.length_append]; show ird.length + (itl.length + 1) + _ ≤ _; omega⟩ htell (Nat.lt_succ_self _)
        rw [← etl] at res
        exact ⟨lw, _, _, rfl, rfl, by rw [etl]; exact g12 _ _ hw3, sz_lt (by omega), res⟩
      | @read ga gb p vs us' hg hgb hr' =>
        have KK' := hr'.kids
        have isz' : ird.length + itl.length + (us'.size + 1) ≤ 10000 := isz
        have hpk : p < ikn.length := by rw [ilen]; have := iok.1; omega
        refine ⟨ia, _, rfl, .inl (.inl hia), rfl, _, _, rfl, ⟨ga, _, rfl, .inl (.inl hg), rfl, _, _, rfl, _, _, rfl, _, _, rfl, rfl, _, _, rfl, _, _, rfl, _, _, rfl, rfl, ?_⟩⟩
        refine ⟨_, rfl, rfl, _, rfl, iteDn read_ne_go ?_⟩
        refine ⟨_, rfl, rfl, _, rfl, iteDn read_ne_tell ?_⟩
        refine ⟨_, rfl, _, rfl, _, _, ikn.getD p 0, rfl, rfl, tx_le (by omega), at_of_lt hpk, rfl, _, rfl, ?_⟩
        by_cases h46 : ikn.getD p 0 = 46
        · have x1 : decide (V.str (sg (ikn.getD p 0)) = V.str (Str.ofString ".")) = true := decide_eq_true (by rw [dot_sg, h46])
          rw [show decide (V.str { cps := #[ikn.getD p 0] } = V.str (Str.ofString ".")) = true from x1]
          refine iteF ?_
          have n3 : ∀ {H' : Hp}, NL H3 H' → True := fun _ => trivial
          refine' cut2 (fun σ' H' => ∃ (fs' : List V) (fd' : List Trn), σ' = [some (.ref se), some (.ref sd), some (.str (tx L)), some (.int (q0 : Nat)), some (.str (tx kn)), some (.ref lf), some (.ref lw), some (.str "read"), some (.int (p : Nat)), some (.ref gb), some (.str (tx ikn)), some vr, some vl, y13, y14, y15, y16] ∧
            Ex H H' ∧ NL H3 H' ∧ H' lf = some (.lst fs') ∧ H' lw = some (.lst us) ∧ Paired (TnAt C H') fs' fd' ∧ fd' = fd ++ (if p = wd ∧ ikn.getD p 0 = 46 then [(⟨ird, itl, ikn, none⟩ : Trn)] else []) ∧ fs'.length ≤ fs.length + 1) (fun kk => ?_) ?_
          rotate_left
          · refine ⟨_, rfl, _, rfl, se, CS, dx, _, _, rfl, e3 _ _ hse, SS.cl, SS.nw, sF2, rfl, _, rfl, ite2 (fun hq => ?_) (fun hq => ?_)⟩
            · have hpw : p = wd := by
                have := of_decide_eq_true hq
                have := V.int.inj this
                omega
              refine ⟨_, rfl, .inl ⟨rfl, _, sq_of hf3⟩, _, rfl, _, rfl, _, rfl, fun xx dxx hxx hdx hne => ⟨xx, dxx, _, _, _, _, _, rfl, upd_same, ?_⟩⟩
              rw [upd_upd]
              have e6 : Ex H3 (L2.upd (L2.upd H3 dxx (.own xx)) xx (.ins C dxx (tnFs vr vl (.str (tx ikn)) .non .non))) := (Ex.new hdx).trans (Ex.new (by rw [upd_ne hne.symm]; exact hxx))
              have hx6 : (L2.upd (L2.upd H3 dxx (.own xx)) xx (.ins C dxx (tnFs vr vl (.str (tx ikn)) .non .non))) xx = some (.ins C dxx (tnFs vr vl (.str (tx ikn)) .non .non)) := upd_same
              generalize (L2.upd (L2.upd H3 dxx (.own xx)) xx (.ins C dxx (tnFs vr vl (.str (tx ikn)) .non .non))) = H6 at e6 hx6 ⊢
              have hf6 := e6 _ _ hf3
              have n6 := (NL.of e6).trans (NL.upd (ys := fs ++ [.ref xx]) hf6)
              refine ⟨rfl, lf, _, _, rfl, rfl, hf6, sz_lt (by omega), ?_⟩
              refine kk _ _ ⟨fs ++ [.ref xx], fd ++ [⟨ird, itl, ikn, none⟩], rfl, (e3.trans e6).mut hlf, n6, upd_same, by rw [upd_ne nfw.symm]; exact e6 _ _ hw3, Paired.snoc (Paired.mapP PF3 fun _ _ h => h.nl n6) ?_, by rw [if_pos ⟨hpw, h46⟩], by rw [List.length_append]; exact Nat.le_refl _⟩
              exact TnAt.nl (NL.upd hf6) ⟨xx, dxx, vr, vl, _, _, rfl, hx6, hrd.nl (NL.of e6), htl.nl (NL.of e6), rfl, rfl⟩
            · have hpw : ¬ p = wd := fun z => by
                rw [z] at hq
                exact hq (decide_eq_true rfl)
              exact kk _ _ ⟨fs, fd, rfl, e3, NL.of (Ex.refl _), hf3, hw3, PF3, by rw [if_neg (fun z => hpw z.1), List.append_nil], Nat.le_succ _⟩
          · intro σ' H7 hP
            obtain ⟨fs', fd', rfl, e7, n7, hf7, hw7, PF7, efd, lfs'⟩ := hP
            refine ⟨_, rfl, _, rfl, _, rfl, _, rfl, tx_le (by omega), _, rfl, _, rfl, _, _, rfl, rfl, _, rfl, _, rfl, tx_le (by omega), ?_⟩
            refine ⟨_, _, rfl, ?_⟩
            have hkk : (L.zip us'.list).length = L.length := by rw [List.length_zip, iok.2.1, Nat.min_self]
            have lvs : vs.length = L.length := by rw [KK'.len, iok.2.1]
            have lL := hL.hi
            refine ⟨_, rfl, _, rfl, tx L, gb, vs, rfl, st_of (n7.tup hgb), by show L.toArray.size = _; rw [List.size_toArray, lvs], fun H8 S8 as e8 hS8 has hl8 hln hpr => ⟨S8, as.map V.ref, rfl, sq_of hl8, ?_⟩⟩
            have las : (as.map V.ref).length = L.length := by rw [List.length_map, hln, lvs]
            have nS8 : S8 ≠ lw := fun z => by rw [z, hw7] at hS8; cases hS8
            have n8 : NL H3 H8 := n7.trans (NL.of e8)
            obtain ⟨ra, rus, rfl, hra, hru⟩ := hrd
            have lru := hru.length
            obtain ⟨la, rfl, hla⟩ := htl
            refine for_it (walk_rev (K := K) (a := S8) (xs := as.map V.ref)) (fun i σ H' => ∃ (zs : List V) (y13 y16 : Option V), σ = [some (.ref se), some (.ref sd), some (.str (tx L)), some (.int (q0 : Nat)), some (.str (tx kn)), some (.ref lf), some (.ref lw), some (.str "read"), some (.int (p : Nat)), some (.ref gb), some (.str (tx ikn)), some (.ref ra), some (.ref la), y13, some (.str (cutS (tx ikn) none (some ((p : Nat) : Int)))), some (.str (cutS (tx ikn) (some (((p : Nat) : Int) + 1)) none)), y16] ∧
              Ex H H' ∧ NL H8 H' ∧ H' S8 = some (.lst (as.map V.ref)) ∧ H' lf = some (.lst fs') ∧ H' lw = some (.lst (us ++ zs)) ∧ Paired (ItAt H') zs (((L.zip us'.list).map (kidsI p ikn ird itl)).reverse.take i))
              ⟨[], _, _, rfl, e7.trans e8, NL.of (Ex.refl _), hl8, e8 _ _ hf7, by rw [List.append_nil]; exact e8 _ _ hw7, .nil⟩ (fun i σ H' _ hp => sq_of (by obtain ⟨_, _, _, _, _, _, h, _⟩ := hp; exact h)) (fun i x σ H' H9 hi hp hy => ?_) (fun σ H' hp => ?_)
            · obtain ⟨zs, z13, z16, rfl, e9, n9, hS9, hf9, hw9, PZ⟩ := hp
              obtain ⟨rfl, hx⟩ := hy
              rw [las] at hi hx
              have hj : L.length - 1 - i < L.length := by omega
              obtain ⟨kt, hkt, hka⟩ := KK'.get (List.getElem?_eq_getElem (show L.length - 1 - i < vs.length by omega))
              have hLj : L[L.length - 1 - i]? = some (L[L.length - 1 - i]) := List.getElem?_eq_getElem hj
              obtain ⟨a, ha, hat⟩ := hpr (L.length - 1 - i) (L[L.length - 1 - i]) _ (by show L.toArray[_]? = _; rw [List.getElem?_toArray]; exact hLj) (List.getElem?_eq_getElem (show L.length - 1 - i < vs.length by omega))
              rw [List.getElem?_map, ha] at hx
              cases hx
              generalize hc : L[L.length - 1 - i] = c at hLj hat
              have hcL : c ∈ L := List.mem_of_getElem? hLj
              have mem := List.mem_of_getElem? hkt
              have hsk := size_get hkt
              have hzl := PZ.length
              rw [List.length_take] at hzl
              refine ⟨a, _, rfl, .inl (.inl (n9.tup hat)), rfl, _, _, rfl, _, _, rfl, rfl, ?_⟩
              refine ⟨_, rfl, .inl ⟨rfl, _, sq_of hw9⟩, _, rfl, _, rfl, _, rfl, _, _, rfl, rfl, ?_, _, rfl, _, _, rfl, rfl, ?_, _, rfl, ra, _, rfl, .inl (st_of (n9.tup (n8.tup hra))), _, rfl, _, rfl, by show 2 ≤ sizeLine; decide, fun bp hbp => ⟨?_, fun rp hrp => ⟨_, rfl, by show 4 ≤ sizeLine; decide, fun ip hip => ?_⟩⟩⟩
              · rw [cut_to, tx_len, List.length_take]
                show min p ikn.length + 1 ≤ sizeLine
                exact sz_le (by omega)
              · show (cutS (tx ikn) none (some ((p : Nat) : Int)) ++ sg c).length + (cutS (tx ikn) (some (((p : Nat) : Int) + 1)) none).length ≤ sizeLine
                rw [cut_to, show (p : Int) + 1 = ((p + 1 : Nat) : Int) by omega, cut_from, sg_tx, tx_app, tx_len, tx_len, List.length_append, List.length_take, List.length_drop]
                exact sz_le (by simp; omega)
              · show (rus ++ [V.ref bp]).length ≤ sizeLine
                rw [List.length_append, lru]
                exact Nat.le_trans (show ird.length + 1 ≤ 10000 by omega) (by decide)
              have g1 := Ex.new (o := .tup [.int (p : Nat), .str (sg c)]) hbp
              have g2 := Ex.new (o := .tup (rus ++ [V.ref bp])) hrp
              have g3 := Ex.new (o := .tup [vs[L.length - 1 - i], .str (cutS (tx ikn) none (some ((p : Nat) : Int)) ++ sg c ++ cutS (tx ikn) (some (((p : Nat) : Int) + 1)) none), .ref rp, .ref la]) hip
              have g123 := g1.trans (g2.trans g3)
              have hw10 := g123 _ _ hw9
              have hS10 := g123 _ _ hS9
              have hf10 := g123 _ _ hf9
              have nn := (NL.of g123).trans (NL.upd (ys := (us ++ zs) ++ [.ref ip]) hw10)
              have n39 : NL H3 H9 := n8.trans n9
              have hnew : ItAt (L2.upd (L2.upd (L2.upd H9 bp (.tup [.int (p : Nat), .str (sg c)])) rp (.tup (rus ++ [V.ref bp]))) ip (.tup [vs[L.length - 1 - i], .str (cutS (tx ikn) none (some ((p : Nat) : Int)) ++ sg c ++ cutS (tx ikn) (some (((p : Nat) : Int) + 1)) none), .ref rp, .ref la])) (.ref ip) (kidsI p ikn ird itl (c, kt)) := by
                refine ⟨ip, vs[L.length - 1 - i], .ref rp, .ref la, rfl, ?_, (hka.nl n39).nl (NL.of g123), ⟨rp, _, rfl, g3 _ _ upd_same, Paired.snoc (Paired.mapP hru fun _ _ ⟨b, q1, q2⟩ => ⟨b, q1, g123 _ _ (n39.tup q2)⟩) ⟨bp, rfl, g3 _ _ (g2 _ _ upd_same)⟩⟩, la, rfl, g123 _ _ (n39.tup hla)⟩
                rw [upd_same, setK_cut]
                show _ = some (HO.tup [_, .str (tx (ikn.set p c)), _, _])
                rw [set_setK hpk]
              have hkd : ((L.zip us'.list).map (kidsI p ikn ird itl)).reverse[i]? = some (kidsI p ikn ird itl (c, kt)) := by
                refine rev_get ?_ (by rw [List.length_map, hkk]; exact hi)
                have ez : (L.zip us'.list)[L.length - 1 - i]? = some (c, kt) := List.getElem?_zip_eq_some.mpr ⟨hLj, hkt⟩
                rw [List.length_map, hkk, List.getElem?_map, ez]
                rfl
              refine ⟨lw, _, _, rfl, rfl, hw10, sz_lt (by rw [List.length_append]; omega), zs ++ [.ref ip], _, _, rfl, (e9.trans g123).mut hlwH, n9.trans nn, by rw [upd_ne nS8]; exact hS10, by rw [upd_ne nfw]; exact hf10, by rw [upd_same, List.append_assoc], ?_⟩
              rw [take_next' hkd]
              exact Paired.snoc (Paired.mapP PZ fun _ _ h => h.nl nn) (hnew.nl (NL.upd hw10))
            · obtain ⟨zs, z13, z16, rfl, e9, n9, hS9, hf9, hw9, PZ⟩ := hp
              rw [las] at PZ
              have lkd : ((L.zip us'.list).map (kidsI p ikn ird itl)).length = L.length := by rw [List.length_map, hkk]
              rw [← lkd, ← List.length_reverse, List.take_length] at PZ
              have hsz := size_kids p ikn ird itl us' L
              have n79 : NL H7 H' := (NL.of e8).trans n9
              have ssz : sizeS (rs ++ ((L.zip us'.list).map (kidsI p ikn ird itl)).reverse) = sizeS rs + sizeS ((L.zip us'.list).map (kidsI p ikn ird itl)) := by rw [sizeS_app, sizeS_rev]
              have hm' : m = sizeS rs + (us'.size + 1) := hm
              have hb' : fs.length + (sizeS rs + (us'.size + 1)) ≤ 3000 := hb
              refine ⟨sizeS (rs ++ ((L.zip us'.list).map (kidsI p ikn ird itl)).reverse), by rw [ssz]; omega, us ++ zs, fs', rs ++ ((L.zip us'.list).map (kidsI p ikn ird itl)).reverse, fd', _, _, _, _, _, _, _, _, _, _, rfl, e9, hf9, hw9, Paired.mapP PF7 fun _ _ h => h.nl n79, paired_app (Paired.mapP PS3 fun _ _ h => h.nl (n7.trans n79)) PZ, ?_, ?_, rfl, by rw [ssz]; omega⟩
              · rw [outS_app, efd, ← tnA_dot h46, List.append_assoc, ← hall]
                congr 1
                show _ = tnT L wd (.read p us') ikn ird itl ++ _
                conv => rhs; unfold tnT
                rw [List.append_assoc]
              · intro j hj
                rcases List.mem_append.mp hj with hj | hj
                · exact hok' j hj
                · obtain ⟨⟨c, kt⟩, hck, rfl⟩ := List.mem_map.mp (List.mem_reverse.mp hj)
                  have hc : c ∈ L := (List.of_mem_zip hck).1
                  have hk2 : kt ∈ us'.list := (List.of_mem_zip hck).2
                  obtain ⟨k2, hk3⟩ := List.mem_iff_getElem?.mp hk2
                  have hsk := size_get hk3
                  refine ⟨Trs.ok_mem iok.2.2 kt hk2, List.length_set.trans ilen, fun d hd => ?_, ?_⟩
                  · rcases List.mem_or_eq_of_mem_set hd with z | z
                    · exact isg d z
                    · exact .inr (z ▸ hc)
                  · show (ird ++ [(p, c)]).length + itl.length + kt.size ≤ 10000
                    rw [List.length_append]
                    show ird.length + 1 + _ + _ ≤ _
                    omega
        · have x1 : decide (V.str (sg (ikn.getD p 0)) = V.str (Str.ofString ".")) = false := decide_eq_false (by rw [dot_sg, sg_inj]; exact h46)
          rw [show decide (V.str { cps := #[ikn.getD p 0] } = V.str (Str.ofString ".")) = false from x1]
          refine iteT ?_
          have hcL : ikn.getD p 0 ∈ L := by
            rcases isg (ikn.getD p 0) (List.mem_of_getElem? (getD_at hpk)) with z | z
            · exact absurd z h46
            · exact z
          obtain ⟨i, rest, ho, hi⟩ := idx_of hcL
          refine ⟨_, rfl, _, rfl, _, _, ikn.getD p 0, rfl, rfl, tx_le (by omega), at_of_lt hpk, ?_⟩
          obtain ⟨ra, rus, rfl, hra, hru⟩ := hrd
          have hil : i < vs.length := by
            rw [KK'.len, iok.2.1]
            exact (List.getElem?_eq_some_iff.mp hi).1
          obtain ⟨kt, hkt, hka⟩ := KK'.get (List.getElem?_eq_getElem hil)
          have mem := List.mem_of_getElem? hkt
          have hsk := size_get hkt
          have hrd : RdAt H3 (.ref ra) ird := ⟨ra, rus, rfl, hra, hru⟩
          have lru := hru.length
          refine ⟨_, rfl, .inl ⟨rfl, _, sq_of hw3⟩, _, rfl, _, rfl, rfl, _, rfl, _, _, i, rest, rfl, rfl, ho, gb, vs, _, _, rfl, rfl, st_of hgb, atI_nat (List.getElem?_eq_getElem hil), _, rfl, ?_⟩
          refine ⟨_, rfl, ra, _, rfl, .inl (st_of hra), _, rfl, _, rfl, by show 2 ≤ sizeLine; decide, fun bp hbp => ⟨?_, fun rp hrp => ⟨_, rfl, by show 4 ≤ sizeLine; decide, fun ip hip => ?_⟩⟩⟩
          · show (rus ++ [V.ref bp]).length ≤ sizeLine
            rw [List.length_append, lru]
            exact Nat.le_trans (show ird.length + 1 ≤ 10000 by omega) (by decide)
          have g1 := Ex.new (o := .tup [.int (p : Nat), .str (sg (ikn.getD p 0))]) hbp
          have g2 := Ex.new (o := .tup (rus ++ [V.ref bp])) hrp
          have g3 := Ex.new (o := .tup [vs[i], .str (tx ikn), .ref rp, vl]) hip
          have g123 := g1.trans (g2.trans g3)
          have hkn : itT L wd ⟨kt, ikn, ird ++ [(p, ikn.getD p 0)], itl⟩ = itT L wd ⟨.read p us', ikn, ird, itl⟩ := by
            show tnT L wd kt ikn (ird ++ [(p, ikn.getD p 0)]) itl = tnT L wd (.read p us') ikn ird itl
            conv => rhs; unfold tnT
            rw [if_neg (fun z => h46 z.2), tnA_known h46 hpk us' L i kt hL.nd hi hkt]
            rfl
          have res := addW _ (.ref ip) ⟨kt, ikn, ird ++ [(p, ikn.getD p 0)], itl⟩ (some (.str "read")) (some (.int (p : Nat))) (some (.ref gb)) (some (.str (tx ikn))) (some (.ref ra)) (some vl) (some (.str (sg (ikn.getD p 0)))) y14 y15 y16 g123
            ⟨ip, vs[i], .ref rp, vl, rfl, upd_same, hka.nl (NL.of g123), ⟨rp, _, rfl, g3 _ _ upd_same, Paired.snoc (Paired.mapP hru fun _ _ ⟨b, q1, q2⟩ => ⟨b, q1, g123 _ _ q2⟩) ⟨bp, rfl, g3 _ _ (g2 _ _ upd_same)⟩⟩, htl.nl (NL.of g123)⟩
            ⟨Trs.ok_mem iok.2.2 kt mem, ilen, isg, by show (ird ++ [(p, ikn.getD p 0)]).length + itl.length + kt.size ≤ 10000; rw [List.length_append]; show ird.length + 1 + _ + _ ≤ _; omega⟩ hkn (by show kt.size < us'.size + 1; omega)
          exact ⟨lw, _, _, rfl, rfl, g123 _ _ hw3, sz_lt (by omega), res⟩
end
end Law

/-! the law's ways, slid, after, what is known -/
namespace Law
open PySem PySem.Spec PyProof.Rows L2 Evl TR SG DN
def waysS : List Str := ["plain", "borders", "strict borders", "by letters", "bad letter", "good end", "both", "both and known", "last letter", "letter behind", "all knowledge"]
def spWays : Sp := fun vs H Q _ => vs = [] ∧ ∀ r H', Ex H H' → H r = none → H' r = some (.lst (waysS.map V.str)) → Q (.ref r) H'
section
variable {P : Program} {w : World} {K : PySem.W.Frag} {mg : Str → Option Value} {base : Heap}
theorem ok_lmade_ways {f : Addr} {fd : FuncData} (F : Fun K "_law_made_ways" "_law_made_ways" s_lmade_ways f fd) (T : Tx mg) : FnOk P w K mg base CX0 1 f fd [] spWays := by
  refine F.ok sc_lmade_ways (fun vs H Q E h => ?_) (fun cdv A outer s H vs Q E hr h => ?_)
  · obtain ⟨rfl, _⟩ := h
    rfl
  · obtain ⟨rfl, q⟩ := h
    refine ⟨_, (pss_cons (ps_set (i := 0) sc_lmade_ways.nd rfl (Or.inl rfl) (pe_lst (pa_cons pe_str (pa_cons pe_str (pa_cons pe_str (pa_cons pe_str (pa_cons pe_str (pa_cons pe_str (pa_cons pe_str (pa_cons pe_str pa_nil))))))))))
      (pss_one (ps_ret (pe_op op_cat (pv 0) (pe_lst (pa_cons pe_str (pa_cons pe_str (pa_cons pe_str pa_nil)))))))), ?_⟩
    refine ⟨by show 8 ≤ sizeLine; decide, fun a ha => ⟨_, rfl, by show 3 ≤ sizeLine; decide, fun b hb => ?_⟩⟩
    have x1 := Ex.new (o := HO.lst [V.str "plain", .str "borders", .str "strict borders", .str "by letters", .str "bad letter", .str "good end", .str "both", .str "both and known"]) ha
    have x2 := Ex.new (o := HO.lst [V.str "last letter", .str "letter behind", .str "all knowledge"]) hb
    refine ⟨a, b, _, _, rfl, rfl, x2 _ _ upd_same, upd_same, by show 11 ≤ sizeLine; decide, fun r hr => ?_⟩
    exact q r _ ((x1.trans x2).trans (Ex.new hr)) (fresh_back (x1.trans x2) hr) upd_same
end
end Law

/-! the law's trees, drawn and bent -/
namespace TR
open PySem PySem.Spec L2 Evl
theorem Trs.ok_of {l w n : Nat} : ∀ {ts : List Tr}, (∀ t ∈ ts, t.ok l w n) → (Trs.of ts).ok l w n
  | [], _ => True.intro
  | t :: r, h => ⟨h t List.mem_cons_self, Trs.ok_of fun x hx => h x (List.mem_cons_of_mem _ hx)⟩
theorem Trs.depth_of {d : Nat} : ∀ {ts : List Tr}, (∀ t ∈ ts, t.depth ≤ d) → (Trs.of ts).depth ≤ d
  | [], _ => Nat.zero_le _
  | t :: r, h => Nat.max_le.mpr ⟨h t List.mem_cons_self, Trs.depth_of fun x hx => h x (List.mem_cons_of_mem _ hx)⟩
theorem total_leD {s : Nat} : ∀ {ts : List Tr}, (∀ t ∈ ts, t.size ≤ s) → TR.total ts ≤ ts.length * s
  | [], _ => Nat.zero_le _
  | t :: r, h => by
    have h1 := h t List.mem_cons_self
    have h2 := total_leD (ts := r) fun x hx => h x (List.mem_cons_of_mem _ hx)
    show t.size + TR.total r ≤ (r.length + 1) * s
    rw [Nat.succ_mul]
    omega
end TR
namespace Law
open PySem PySem.Spec PyProof.Rows L2 Evl TR EK SG DN
theorem depth_pos : ∀ t : Tr, 1 ≤ t.depth
  | .go _ _ => Nat.le_refl _
  | .tell _ t => Nat.succ_le_succ (Nat.zero_le _)
  | .read _ ts => Nat.succ_le_succ (Nat.zero_le _)
theorem depth_get : ∀ {ts : Trs} {j : Nat} {t : Tr}, ts.list[j]? = some t → t.depth ≤ ts.depth
  | .cons t r, 0, _, h => by
    cases h
    exact Nat.le_max_left _ _
  | .cons t r, j + 1, _, h => Nat.le_trans (depth_get (ts := r) h) (Nat.le_max_right _ _)
  | .nil, _, _, h => by cases h
/-- draws of a tree, its size -/
def ndT : Nat → Nat
  | 0 => 2
  | d + 1 => 4 + 3 * ndT d
def szT : Nat → Nat
  | 0 => 1
  | d + 1 => 2 + 3 * szT d
theorem ndT_pos : ∀ d, 2 ≤ ndT d
  | 0 => Nat.le_refl _
  | d + 1 => Nat.le_trans (by decide) (Nat.le_add_right 4 _)
theorem szT_pos : ∀ d, 1 ≤ szT d
  | 0 => Nat.le_refl _
  | d + 1 => Nat.le_trans (by decide) (Nat.le_add_right 2 _)
def spTree (k : Nat) : Sp := fun vs H Q _ => ∃ (p : PenI) (H0 : Hp) (n d : Nat) (L : List Nat) (wd m : Nat), vs = [.ref p.d, .str (tx L), .int (wd : Int), .int (m : Int), .int (d : Int)] ∧ d < k ∧ PenAt p H0 H n ∧ n + ndT d < 900000 ∧ 2 ≤ L.length ∧ L.length ≤ 3 ∧ 1 ≤ wd ∧ wd ≤ 8 ∧ 1 ≤ m ∧ m ≤ 64 ∧
  ∀ H1 H' v t, Ex H0 H1 → PenAt p H1 H' (n + ndT d) → TR.TA true H1 v t → t.ok L.length wd m → t.depth ≤ d + 1 → t.size ≤ szT d → Q v H'
structure BtR (l w m : Nat) (t t' : Tr) : Prop where
  sz : t'.size ≤ t.size
  dp : t'.depth ≤ t.depth
  ok : t'.ok l w m
theorem bt_sizes {l w m : Nat} : ∀ {ts : Trs} {us : List Tr}, Paired (BtR l w m) ts.list us → (Trs.of us).size ≤ ts.size
  | .nil, _, .nil => Nat.le_refl _
  | .cons t r, _, .cons h q => by
    have h1 := h.sz
    have h2 := bt_sizes q
    show _ + (Trs.of _).size ≤ t.size + r.size
    omega
theorem bt_depths {l w m : Nat} : ∀ {ts : Trs} {us : List Tr}, Paired (BtR l w m) ts.list us → (Trs.of us).depth ≤ ts.depth
  | .nil, _, .nil => Nat.le_refl _
  | .cons t r, _, .cons h q => by
    have h1 := h.dp
    have h2 := bt_depths q
    show max _ (Trs.of _).depth ≤ max t.depth r.depth
    omega
theorem bt_oks {l w m : Nat} : ∀ {ts : Trs} {us : List Tr}, Paired (BtR l w m) ts.list us → (Trs.of us).ok l w m
  | .nil, _, .nil => True.intro
  | .cons t r, _, .cons h q => ⟨h.ok, bt_oks q⟩
theorem sum_list : ∀ ts : Trs, (ts.list.map Tr.size).sum = ts.size
  | .nil => rfl
  | .cons t r => by
    show t.size + (r.list.map Tr.size).sum = t.size + r.size
    rw [sum_list r]
theorem len_list : ∀ ts : Trs, ts.list.length ≤ ts.size
  | .nil => Nat.le_refl _
  | .cons t r => by
    have h1 := len_list r
    have h2 := SG.size_pos t
    show r.list.length + 1 ≤ t.size + r.size
    omega
def spBent (j : Nat) : Sp := fun vs H Q _ => ∃ (p : PenI) (H0 : Hp) (n : Nat) (v : V) (t : Tr) (l wd m ch : Nat), vs = [.ref p.d, v, .int (wd : Int), .int (m : Int), .int (ch : Int)] ∧ PenAt p H0 H n ∧ TA true H0 v t ∧ t.ok l wd m ∧ 1 ≤ wd ∧ wd ≤ 8 ∧ 1 ≤ m ∧ m ≤ 64 ∧ 1 ≤ ch ∧ ch ≤ 1000 ∧ t.depth ≤ j ∧ t.size ≤ 3000 ∧ n + 3 * t.size < 900000 ∧
  ∀ H1 H' v' t', Ex H0 H1 → PenAt p H1 H' (n + 3 * t.size) → TA true H1 v' t' → BtR l wd m t t' → Q v' H'
section
variable {P : Program} {w : World} {K : PySem.W.Frag} {mg : Str → Option Value} {base : Heap}
theorem ok_ltree_of {f : Addr} {fd : FuncData} (F : Fun K "_law_tree_of" "_law_tree_of" s_ltree_of f fd) (T : Tx mg) (g : mg "_law_tree_of" = some (.ref f)) (b : Binds K fd ["_law_pen", "_law_letters", "_law_width", "_law_many", "_law_depth"] [])
    (c_ldraw : Kn P w K mg base "_law_draw" ["_law_pen", "_law_many"] 1 spDraw) (c_pickL : Kn P w K mg base "_law_pick" ["_law_pen", "_law_menu"] 2 spPickL) : ∀ k : Nat, FnOk P w K mg base CX0 (k + 3) f fd ["_law_pen", "_law_letters", "_law_width", "_law_many", "_law_depth"] (spTree k)
  | 0 => by
    refine F.ok sc_ltree_of (fun vs H Q E h => ?_) (fun cdv A outer s H vs Q E hr h => ?_)
    · obtain ⟨p, H0, n, d, L, wd, m, rfl, _⟩ := h
      rfl
    · obtain ⟨p, H0, n, d, L, wd, m, rfl, hk, _⟩ := h
      exact absurd hk (Nat.not_lt_zero _)
  | k + 1 => by
    have c_ltree_of : Kn P w K mg base "_law_tree_of" ["_law_pen", "_law_letters", "_law_width", "_law_many", "_law_depth"] (k + 3) (spTree k) := ⟨f, fd, ok_ltree_of F T g b c_ldraw c_pickL k, g, F.kp, b⟩
    refine F.ok sc_ltree_of (fun vs H Q E h => ?_) (fun cdv A outer s H vs Q E hr h => ?_)
    · obtain ⟨p, H0, n, d, L, wd, m, rfl, _⟩ := h
      rfl
    · obtain ⟨p, H0, n, d, L, wd, m, rfl, hk, P0, hn, l2, l3, w1, w8, m1, m64, q⟩ := h
      have ndp := ndT_pos d
      refine ⟨_, (pss_cons (ps_set (i := 5) sc_ltree_of.nd rfl (Or.inl rfl) (pe_ifExp (pt_cmpR op_gt (pv 4) pe_int (nomark _)) (pe_call c_ldraw.ok (hr.mono (by omega)) (by rfl) c_ldraw.g c_ldraw.kp c_ldraw.b .nil pass0 (pa_cons (pv 0) (pa_cons pe_int pa_nil))) pe_int))
      (pss_cons (ps_if (pt_cmpR op_eq (pv 5) pe_int (nomark _)) (pss_one (ps_ret (pe_tup (pa_cons pe_str (pa_cons (pe_call c_ldraw.ok (hr.mono (by omega)) (by rfl) c_ldraw.g c_ldraw.kp c_ldraw.b .nil pass0 (pa_cons (pv 0) (pa_cons pe_int pa_nil))) (pa_cons (pe_call c_ltree_of.ok (hr.mono (by omega)) (by rfl) c_ltree_of.g c_ltree_of.kp c_ltree_of.b .nil pass0 (pa_cons (pv 0) (pa_cons (pv 1) (pa_cons (pv 2) (pa_cons (pv 3) (pa_cons pe_int pa_nil)))))) pa_nil)))))) pss_nil)
      (pss_cons (ps_if (pt_cmpR op_lt (pv 5) pe_int (nomark _)) (pss_one (ps_ret (pe_tup (pa_cons pe_str (pa_cons (pe_op op_add pe_int (pe_call c_ldraw.ok (hr.mono (by omega)) (by rfl) c_ldraw.g c_ldraw.kp c_ldraw.b .nil pass0 (pa_cons (pv 0) (pa_cons (pe_op op_add (pv 2) pe_int) pa_nil)))) (pa_cons (pe_call c_ldraw.ok (hr.mono (by omega)) (by rfl) c_ldraw.g c_ldraw.kp c_ldraw.b .nil pass0 (pa_cons (pv 0) (pa_cons (pv 3) pa_nil))) pa_nil)))))) pss_nil)
      (pss_cons (ps_set (i := 6) sc_ltree_of.nd rfl (Or.inl rfl) (pe_call c_pickL.ok (hr.mono (by omega)) (by rfl) c_pickL.g c_pickL.kp c_pickL.b .nil pass0 (pa_cons (pv 0) (pa_cons (pe_op op_cat (pe_op op_rep (pe_listRg rfl (by rfl) T.list (prg_1 (by rfl) T.range (pv 2))) pe_int) (pe_lst (pa_cons (pv 2) pa_nil))) pa_nil))))
      (pss_one (ps_ret (pe_tup (pa_cons pe_str (pa_cons (pv 6) (pa_cons (pe_callTy call_tuple_of (by rfl) T.tuple PyProof.Rows.boot_tuple (pa_cons (pe_lc (own := [("_law_letter", 7)]) (g := gName 7) (tt := tYes) rfl sc_ltree_of.nd (pi_str (pv 1)) (blkOk_by (N := N_ltree_of) (sc := defScope s_ltree_of) (by decide +kernel)) (fun _ _ _ _ _ => (pg_name (i := 7) sc_ltree_of.nd rfl (Or.inl rfl))) (fun _ _ _ _ _ => pts_nil) (fun _ _ _ _ _ => (pe_call c_ltree_of.ok (hr.mono (by omega)) (by rfl) c_ltree_of.g c_ltree_of.kp c_ltree_of.b .nil pass0 (pa_cons (pv 0) (pa_cons (pv 1) (pa_cons (pv 2) (pa_cons (pv 3) (pa_cons (pe_op op_sub (pv 4) pe_int) pa_nil)))))))) pa_nil)) pa_nil)))))))))), ?_⟩
      refine ⟨_, rfl, _, _, rfl, rfl, _, rfl, ite2 (fun hb => ?_) (fun hb => ?_)⟩
      · have hd0 : 0 < (d : Int) := of_decide_eq_true hb
        obtain ⟨d', rfl⟩ : ∃ d', d = d' + 1 := ⟨d - 1, by omega⟩
        have nde : ndT (d' + 1) = 4 + 3 * ndT d' := rfl
        have sze : szT (d' + 1) = 2 + 3 * szT d' := rfl
        have ndp' := ndT_pos d'
        have szp' := szT_pos d'
        have dm : (V.int (((d' + 1 : Nat) : Int) - 1)) = V.int (d' : Int) := congrArg V.int (by omega)
        refine ⟨_, rfl, p, H0, n, 6, rfl, P0, by omega, by decide, by decide, fun H1 r P1 r0 r1 => ?_⟩
        refine ⟨_, rfl, rfl, _, rfl, ite2 (fun hb1 => ?_) (fun hb1 => ?_)⟩
        · refine ⟨_, rfl, p, H0, n + 1, 2, rfl, P1, by omega, by decide, by decide, fun H2 r2 P2 s0 s1 => ?_⟩
          obtain ⟨rn, rfl⟩ : ∃ rn : Nat, r2 = (rn : Int) := ⟨r2.toNat, (Int.toNat_of_nonneg s0).symm⟩
          refine ⟨_, rfl, _, rfl, _, rfl, _, rfl, p, H0, n + 2, 0, L, wd, m, rfl, by omega, P2, by show n + 2 + 2 < _; omega, l2, l3, w1, w8, m1, m64, fun H3 H4 v t e3 P4 hta tok tdp tsz => ⟨by show 3 ≤ sizeLine; decide, fun r3 hr3 => ?_⟩⟩
          obtain ⟨Pd, ed⟩ := P4.made (o := .tup [.str "tell", .int (rn : Int), v]) hr3
          refine q _ _ _ (.tell rn t) (e3.trans ed) (Pd.le ?_) (.tell upd_same (hta.ex ed)) ⟨by omega, tok⟩ ?_ ?_
          · show n + 2 + 2 ≤ _
            omega
          · show t.depth + 1 ≤ _
            omega
          · have : szT 0 = 1 := rfl
            show t.size + 1 ≤ _
            omega
        · refine ⟨_, rfl, _, _, rfl, rfl, _, rfl, ite2 (fun hb2 => ?_) (fun hb2 => ?_)⟩
          · refine ⟨_, rfl, _, rfl, _, _, rfl, rfl, p, H0, n + 1, _, rfl, P1, by omega, by omega, by omega, fun H2 r2 P2 s0 s1 => ⟨_, _, rfl, rfl, ?_⟩⟩
            refine ⟨_, rfl, _, rfl, p, H0, n + 2, _, rfl, P2, by omega, by omega, by omega, fun H3 r3 P3 u0 u1 => ⟨by show 3 ≤ sizeLine; decide, fun r4 hr4 => ?_⟩⟩
            obtain ⟨an, rfl⟩ : ∃ an : Nat, r2 = (an : Int) := ⟨r2.toNat, (Int.toNat_of_nonneg s0).symm⟩
            obtain ⟨bn, rfl⟩ : ∃ bn : Nat, r3 = (bn : Int) := ⟨r3.toNat, (Int.toNat_of_nonneg u0).symm⟩
            obtain ⟨Pd, ed⟩ := P3.made (o := .tup [.str "go", .int (1 + (an : Int)), .int (bn : Int)]) hr4
            refine q _ _ _ (.go (1 + an) bn) ed (Pd.le (by omega)) (.go ?_) ⟨by omega, by omega, by omega⟩ (by show 1 ≤ _; omega) (by show 1 ≤ _; omega)
            rw [upd_same]
            rfl
          · refine ⟨_, rfl, _, rfl, _, rfl, ⟨by decide, by omega, by omega, by omega, by omega⟩, fun a1 h1 => ?_⟩
            have x1 := Ex.new (o := HO.lst (rgV 0 (wd : Int))) h1
            refine ⟨a1, 3, rgV 0 (wd : Int), rfl, rfl, upd_same, by decide, by decide, ?_, fun a2 h2 => ?_⟩
            · rw [rgV_length]
              show _ * 3 ≤ _
              exact sz_le (by omega)
            have x2 := Ex.new (o := HO.lst (List.replicate (3 : Int).toNat (rgV 0 (wd : Int))).flatten) h2
            refine ⟨_, rfl, by show 1 ≤ sizeLine; decide, fun a3 h3 => ?_⟩
            have x3 := Ex.new (o := HO.lst [V.int (wd : Int)]) h3
            have fl : (List.replicate (3 : Int).toNat (rgV 0 (wd : Int))).flatten.length = 3 * wd := by
              show (rgV 0 (wd : Int) ++ (rgV 0 (wd : Int) ++ (rgV 0 (wd : Int) ++ []))).length = _
              rw [List.length_append, List.length_append, List.length_append, rgV_length]
              show _ + (_ + (_ + 0)) = _
              omega
            refine ⟨a2, a3, _, _, rfl, rfl, x3 _ _ upd_same, upd_same, ?_, fun a4 h4 => ?_⟩
            · rw [fl]
              show 3 * wd + 1 ≤ _
              exact sz_le (by omega)
            have x4 := Ex.new (o := HO.lst ((List.replicate (3 : Int).toNat (rgV 0 (wd : Int))).flatten ++ [V.int (wd : Int)])) h4
            have x14 := ((x1.trans x2).trans x3).trans x4
            refine ⟨p, H0, a4, n + 1, _, rfl, P1.ex x14, by omega, upd_same, ?_, ?_, fun H2 v P2 hv => ?_⟩
            · rw [List.length_append, fl]
              show 0 < _ + 1
              omega
            · rw [List.length_append, fl]
              show _ + 1 < _
              omega
            obtain ⟨pn, hpn, rfl⟩ : ∃ pn : Nat, pn ≤ wd ∧ v = .int (pn : Int) := by
              have hm : v ∈ rgV 0 (wd : Int) → ∃ pn : Nat, pn ≤ wd ∧ v = .int (pn : Int) := fun h => by
                obtain ⟨i, hi, rfl⟩ := List.mem_map.mp h
                have := List.mem_range.mp hi
                exact ⟨i, by omega, congrArg V.int (Int.zero_add _)⟩
              rcases List.mem_append.mp hv with h | h
              · obtain ⟨z, hz, hvz⟩ := List.mem_flatten.mp h
                rw [List.eq_of_mem_replicate hz] at hvz
                exact hm hvz
              · exact ⟨wd, Nat.le_refl _, List.mem_singleton.mp h⟩
            refine ⟨_, rfl, _, rfl, _, rfl, fun D hD => ?_⟩
            have d0 := fresh0 P2 hD
            have d1 := fresh_ne P2 hD
            have d2 := fresh_nc P2 hD
            refine lc_str (x := tx L) (fun i H' => ∃ (Hb : Hp) (zs : List V) (ts : List Tr), Ex H0 Hb ∧ PenAt p Hb H' (n + 2 + i * ndT d') ∧ Hb D = some (.lst zs) ∧ Kids true Hb zs ts ∧ ts.length = i ∧ ∀ t ∈ ts, t.ok L.length wd m ∧ t.depth ≤ d' + 1 ∧ t.size ≤ szT d')
              ⟨L2.upd H0 D (.lst []), [], [], Ex.new d0, (P2.both d1 d2).le (by omega), upd_same, .nil, rfl, fun t ht => nomatch ht⟩ (fun i c H' hic hw => ?_) (fun H' hw => ?_)
            · obtain ⟨Hb, zs, ts, e, Pb, hz, KK, hl, hall⟩ := hw
              have hi := (List.getElem?_eq_some_iff.mp (tx_at hic)).1
              have hi4 : (i + 1) * ndT d' ≤ 3 * ndT d' := Nat.mul_le_mul_right _ (by omega)
              rw [Nat.succ_mul] at hi4
              have lz := KK.len
              refine ⟨rfl, _, rfl, _, rfl, _, rfl, _, rfl, _, rfl, _, _, rfl, rfl, p, Hb, n + 2 + i * ndT d', d', L, wd, m, congrArg (fun z => [V.ref p.d, V.str (tx L), V.int (wd : Int), V.int (m : Int), z]) dm, by omega, Pb, by omega, l2, l3, w1, w8, m1, m64, fun H3 H4 v t e3 P4 hta tok tdp tsz => ?_⟩
              have hz1 := e3 _ _ hz
              refine ⟨zs, P4.1 _ _ hz1, sz_lt (by omega), L2.upd H3 D (.lst (zs ++ [v])), zs ++ [v], ts ++ [t], (e.trans e3).mut d0, (P4.both d1 d2).le ?_, upd_same, ?_, ?_, ?_⟩
              · rw [Nat.succ_mul]
                omega
              · refine Kids.upd (fun ys hh => ?_) ((KK.ex e3).snoc hta)
                rw [hz1] at hh
                cases hh
              · rw [List.length_append, hl]
                rfl
              · intro x hx
                rcases List.mem_append.mp hx with h | h
                · exact hall x h
                · rw [List.mem_singleton.mp h]
                  exact ⟨tok, tdp, tsz⟩
            · obtain ⟨Hb, zs, ts, e, Pb, hz, KK, hl, hall⟩ := hw
              rw [tx_size] at hl
              have hn2 : L.length * ndT d' ≤ 3 * ndT d' := Nat.mul_le_mul_right _ l3
              have hs2 : L.length * szT d' ≤ 3 * szT d' := Nat.mul_le_mul_right _ l3
              have tot := total_leD (s := szT d') fun t ht => (hall t ht).2.2
              rw [hl] at tot
              rw [tx_size] at Pb
              refine ⟨D, zs, rfl, .inl ⟨sq_of (Pb.1 _ _ hz), fun t2 ht2 => ⟨by show 3 ≤ sizeLine; decide, fun r2 hr2 => ?_⟩⟩⟩
              obtain ⟨Pc, ec⟩ := Pb.made (o := .tup zs) ht2
              obtain ⟨Pd, ed⟩ := Pc.made (o := .tup [.str "read", .int (pn : Int), .ref t2]) hr2
              refine q _ _ _ (.read pn (Trs.of ts)) ((e.trans ec).trans ed) (Pd.le (by omega)) (.read upd_same (ed _ _ upd_same) ?_) ⟨by omega, ?_, Trs.ok_of fun t ht => (hall t ht).1⟩ ?_ ?_
              · refine Kids.tas ?_
                rw [Trs.of_list]
                exact KK.ex (ec.trans ed)
              · rw [Trs.of_list]
                exact hl
              · exact Nat.succ_le_succ (Trs.depth_of fun t ht => (hall t ht).2.1)
              · show (Trs.of ts).size + 1 ≤ _
                rw [← Trs.total, Trs.of_list]
                omega
      · have hd0 : d = 0 := by
          have : ¬ (0 < (d : Int)) := fun z => hb (decide_eq_true z)
          omega
        subst hd0
        have nde : ndT 0 = 2 := rfl
        refine ⟨_, rfl, rfl, _, rfl, iteF ?_⟩
        refine ⟨_, rfl, _, _, rfl, rfl, _, rfl, iteT ?_⟩
        refine ⟨_, rfl, _, rfl, _, _, rfl, rfl, p, H0, n, _, rfl, P0, by omega, by omega, by omega, fun H2 r2 P2 s0 s1 => ⟨_, _, rfl, rfl, ?_⟩⟩
        refine ⟨_, rfl, _, rfl, p, H0, n + 1, _, rfl, P2, by omega, by omega, by omega, fun H3 r3 P3 u0 u1 => ⟨by show 3 ≤ sizeLine; decide, fun r4 hr4 => ?_⟩⟩
        obtain ⟨an, rfl⟩ : ∃ an : Nat, r2 = (an : Int) := ⟨r2.toNat, (Int.toNat_of_nonneg s0).symm⟩
        obtain ⟨bn, rfl⟩ : ∃ bn : Nat, r3 = (bn : Int) := ⟨r3.toNat, (Int.toNat_of_nonneg u0).symm⟩
        obtain ⟨Pd, ed⟩ := P3.made (o := .tup [.str "go", .int (1 + (an : Int)), .int (bn : Int)]) hr4
        refine q _ _ _ (.go (1 + an) bn) ed (Pd.le (by omega)) (.go ?_) ⟨by omega, by omega, by omega⟩ (by show 1 ≤ _; omega) (by show 1 ≤ 1; omega)
        rw [upd_same]
        rfl
theorem ok_lbent_tree {f : Addr} {fd : FuncData} (F : Fun K "_law_bent_tree" "_law_bent_tree" s_lbent_tree f fd) (T : Tx mg) (g : mg "_law_bent_tree" = some (.ref f)) (b : Binds K fd ["_law_pen", "_law_tree", "_law_width", "_law_many", "_law_chance"] []) (c_ldraw : Kn P w K mg base "_law_draw" ["_law_pen", "_law_many"] 1 spDraw) : ∀ j : Nat, FnOk P w K mg base CX0 (j + 2) f fd ["_law_pen", "_law_tree", "_law_width", "_law_many", "_law_chance"] (spBent j)
  | 0 => by
    refine F.ok sc_lbent_tree (fun vs H Q E h => ?_) (fun cdv A outer s H vs Q E hr h => ?_)
    · obtain ⟨p, H0, n, v, t, l, wd, m, ch, rfl, _⟩ := h
      rfl
    · obtain ⟨p, H0, n, v, t, l, wd, m, ch, rfl, _, _, _, _, _, _, _, _, _, h1, _⟩ := h
      exact absurd (depth_pos t) (by omega)
  | j + 1 => by
    have c_lbent_tree : Kn P w K mg base "_law_bent_tree" ["_law_pen", "_law_tree", "_law_width", "_law_many", "_law_chance"] (j + 2) (spBent j) := ⟨f, fd, ok_lbent_tree F T g b c_ldraw j, g, F.kp, b⟩
    refine F.ok sc_lbent_tree (fun vs H Q E h => ?_) (fun cdv A outer s H vs Q E hr h => ?_)
    · obtain ⟨p, H0, n, v, t, l, wd, m, ch, rfl, _⟩ := h
      rfl
    · obtain ⟨p, H0, n, v, t, l, wd, m, ch, rfl, P0, ta, ok, w1, w8, m1, m64, h1, h2c, hd, hs, hn, q⟩ := h
      have sz0 := SG.size_pos t
      refine ⟨_, (pss_cons (ps_set (i := 5) sc_lbent_tree.nd rfl (Or.inl rfl) (pe_cmpR op_eq (pe_call c_ldraw.ok (hr.mono (by omega)) (by rfl) c_ldraw.g c_ldraw.kp c_ldraw.b .nil pass0 (pa_cons (pv 0) (pa_cons (pv 4) pa_nil))) pe_int (nomark _)))
      (pss_cons (ps_if (pt_cmpR op_eq (pe_ix ix_tup (pv 1) pe_int (fun _ _ => rfl)) pe_str (nomark _)) (pss_cons (ps_if (pt_not (pt_val (pv 5))) (pss_one (ps_ret (pv 1))) pss_nil)
      (pss_one (ps_ret (pe_tup (pa_cons pe_str (pa_cons (pe_op op_add pe_int (pe_call c_ldraw.ok (hr.mono (by omega)) (by rfl) c_ldraw.g c_ldraw.kp c_ldraw.b .nil pass0 (pa_cons (pv 0) (pa_cons (pe_op op_add (pv 2) pe_int) pa_nil)))) (pa_cons (pe_call c_ldraw.ok (hr.mono (by omega)) (by rfl) c_ldraw.g c_ldraw.kp c_ldraw.b .nil pass0 (pa_cons (pv 0) (pa_cons (pv 3) pa_nil))) pa_nil))))))) pss_nil)
      (pss_cons (ps_if (pt_cmpR op_eq (pe_ix ix_tup (pv 1) pe_int (fun _ _ => rfl)) pe_str (nomark _)) (pss_cons (ps_set (i := 6) sc_lbent_tree.nd rfl (Or.inl rfl) (pe_call c_lbent_tree.ok (hr.mono (by omega)) (by rfl) c_lbent_tree.g c_lbent_tree.kp c_lbent_tree.b .nil pass0 (pa_cons (pv 0) (pa_cons (pe_ix ix_tup (pv 1) pe_int (fun _ _ => rfl)) (pa_cons (pv 2) (pa_cons (pv 3) (pa_cons (pv 4) pa_nil)))))))
      (pss_one (ps_ret (pe_ifExp (pt_val (pv 5)) (pv 6) (pe_tup (pa_cons pe_str (pa_cons (pe_ix ix_tup (pv 1) pe_int (fun _ _ => rfl)) (pa_cons (pv 6) pa_nil)))))))) pss_nil)
      (pss_cons (ps_setLc (i := 6) (own := [("_law_one", 7)]) (g := gName 7) (tt := tYes) rfl sc_lbent_tree.nd rfl rfl (sw_true rfl rfl rfl (by decide +kernel)) (pi_tup (pe_ix ix_tup (pv 1) pe_int (fun _ _ => rfl))) (blkOk_by (N := N_lbent_tree) (sc := defScope s_lbent_tree) (by decide +kernel)) (fun _ _ _ _ _ => (pg_name (i := 7) sc_lbent_tree.nd rfl (Or.inl rfl))) (fun _ _ _ _ _ => pts_nil) (fun _ _ _ _ _ => (pe_call c_lbent_tree.ok (hr.mono (by omega)) (by rfl) c_lbent_tree.g c_lbent_tree.kp c_lbent_tree.b .nil pass0 (pa_cons (pv 0) (pa_cons (pv 7) (pa_cons (pv 2) (pa_cons (pv 3) (pa_cons (pv 4) pa_nil))))))))
      (pss_cons (ps_set (i := 8) sc_lbent_tree.nd rfl (Or.inl rfl) (pe_ifExp (PW.pt (pw_and (pt_val (pv 5)) (pw_and1 (pt_cmpR op_eq (pe_call c_ldraw.ok (hr.mono (by omega)) (by rfl) c_ldraw.g c_ldraw.kp c_ldraw.b .nil pass0 (pa_cons (pv 0) (pa_cons pe_int pa_nil))) pe_int (nomark _))))) (pe_call c_ldraw.ok (hr.mono (by omega)) (by rfl) c_ldraw.g c_ldraw.kp c_ldraw.b .nil pass0 (pa_cons (pv 0) (pa_cons (pe_op op_add (pv 2) pe_int) pa_nil))) (pe_ix ix_tup (pv 1) pe_int (fun _ _ => rfl))))
      (pss_one (ps_ret (pe_tup (pa_cons pe_str (pa_cons (pv 8) (pa_cons (pe_callTy call_tuple_of (by rfl) T.tuple PyProof.Rows.boot_tuple (pa_cons (pv 6) pa_nil)) pa_nil))))))))))), ?_⟩
      refine ⟨_, rfl, _, rfl, p, H0, n, _, rfl, P0, by omega, by omega, by omega, fun H1 r P1 r0 r1 => ?_⟩
      refine ⟨rfl, ?_⟩
      generalize hcg : decide (V.int r = V.int 0) = cg
      cases ta with
      | @go a s0 q0 h =>
        have h' := P1.1 _ _ h
        obtain ⟨o1, o2, o3⟩ := id ok
        refine ⟨_, rfl, a, _, _, _, rfl, rfl, st_of h', atI_nat (j := 0) rfl, rfl, _, rfl, iteT ?_⟩
        cases cg with
        | false =>
          refine ⟨_, rfl, _, rfl, ite2 (fun _ => ?_) (fun hb => absurd rfl hb)⟩
          refine ⟨_, rfl, ?_⟩
          refine q H0 H1 _ (.go s0 q0) (Ex.refl _) (P1.le (by omega)) (.go h) ⟨Nat.le_refl _, Nat.le_refl _, ok⟩
        | true =>
          refine ⟨_, rfl, _, rfl, ite2 (fun hb => absurd hb (by decide)) (fun _ => ?_)⟩
          refine ⟨_, rfl, _, rfl, _, _, rfl, rfl, p, H0, n + 1, _, rfl, P1, by omega, by omega, by omega, fun H2 r2 P2 s0 s1 => ⟨_, _, rfl, rfl, ?_⟩⟩
          refine ⟨_, rfl, _, rfl, p, H0, n + 2, _, rfl, P2, by omega, by omega, by omega, fun H3 r3 P3 u0 u1 => ⟨by show 3 ≤ sizeLine; decide, fun r4 hr4 => ?_⟩⟩
          obtain ⟨an, rfl⟩ : ∃ an : Nat, r2 = (an : Int) := ⟨r2.toNat, (Int.toNat_of_nonneg s0).symm⟩
          obtain ⟨bn, rfl⟩ : ∃ bn : Nat, r3 = (bn : Int) := ⟨r3.toNat, (Int.toNat_of_nonneg u0).symm⟩
          obtain ⟨Pd, ed⟩ := P3.made (o := .tup [.str "go", .int (1 + (an : Int)), .int (bn : Int)]) hr4
          refine q _ _ _ (.go (1 + an) bn) ed (Pd.le (by omega)) (.go ?_) ⟨Nat.le_refl _, Nat.le_refl _, ⟨by omega, by omega, by omega⟩⟩
          rw [upd_same]
          rfl
      | @tell a n0 v0 t0 h r =>
        have h' := P1.1 _ _ h
        have esz : (Tr.tell n0 t0).size = t0.size + 1 := rfl
        have edp : (Tr.tell n0 t0).depth = t0.depth + 1 := rfl
        refine ⟨_, rfl, a, _, _, _, rfl, rfl, st_of h', atI_nat (j := 0) rfl, rfl, _, rfl, iteF ?_⟩
        refine ⟨_, rfl, a, _, _, _, rfl, rfl, st_of h', atI_nat (j := 0) rfl, rfl, _, rfl, iteT ?_⟩
        refine ⟨_, rfl, _, rfl, a, _, _, _, rfl, rfl, st_of h', atI_nat (j := 2) rfl, _, rfl, _, rfl, _, rfl, p, H0, n + 1, v0, t0, l, wd, m, ch, rfl, P1, r, ok.2, w1, w8, m1, m64, h1, h2c, by omega, by omega, by omega, fun Ha H2 v' t' x P2 ta' R => ?_⟩
        have s1 := R.sz
        have s2 := R.dp
        cases cg with
        | true =>
          refine ⟨_, rfl, _, rfl, iteT ?_⟩
          refine ⟨_, rfl, q _ _ _ t' x (P2.le (by omega)) ta' ⟨by omega, by omega, R.ok⟩⟩
        | false =>
          refine ⟨_, rfl, _, rfl, iteF ?_⟩
          refine ⟨_, rfl, a, _, _, _, rfl, rfl, st_of (P2.1 _ _ (x _ _ h)), atI_nat (j := 1) rfl, _, rfl, by show 3 ≤ sizeLine; decide, fun T hT => ?_⟩
          obtain ⟨P3, e3⟩ := P2.made (o := .tup [.str "tell", .int (n0 : Nat), v']) hT
          refine q _ _ _ (.tell n0 t') (x.trans e3) (P3.le (by omega)) (.tell upd_same (ta'.ex e3)) ⟨Nat.succ_le_succ s1, Nat.succ_le_succ s2, ok.1, R.ok⟩
      | @read a b0 p0 vs0 ts0 h h2 r =>
        have h' := P1.1 _ _ h
        have ok' := ok
        unfold Tr.ok at ok'
        obtain ⟨k1, k2, k3⟩ := ok'
        have esz : (Tr.read p0 ts0).size = ts0.size + 1 := rfl
        have edp : (Tr.read p0 ts0).depth = ts0.depth + 1 := rfl
        have kd := r.kids
        have lvs := kd.len
        refine ⟨_, rfl, a, _, _, _, rfl, rfl, st_of h', atI_nat (j := 0) rfl, rfl, _, rfl, iteF ?_⟩
        refine ⟨_, rfl, a, _, _, _, rfl, rfl, st_of h', atI_nat (j := 0) rfl, rfl, _, rfl, iteF ?_⟩
        refine ⟨_, rfl, a, _, _, _, rfl, rfl, st_of h', atI_nat (j := 2) rfl, b0, rfl, ⟨_, st_of (P1.1 _ _ h2)⟩, fun D hD => ?_⟩
        have d0 := fresh0 P1 hD
        have d1 := fresh_ne P1 hD
        have d2 := fresh_nc P1 hD
        refine lc_it (walk_tup (K := K) (a := b0) (xs := vs0)) (fun i H' => ∃ (Hb : Hp) (zs : List V) (us : List Tr) (c : Nat), Ex H0 Hb ∧ PenAt p Hb H' (n + 1 + 3 * c) ∧ c + ((ts0.list.drop i).map Tr.size).sum ≤ ts0.size ∧ Hb D = some (.lst zs) ∧ Kids true Hb zs us ∧ Paired (BtR l wd m) (ts0.list.take i) us)
          ⟨L2.upd H0 D (.lst []), [], [], 0, Ex.new d0, P1.both d1 d2, by rw [List.drop_zero, Nat.zero_add]; exact Nat.le_of_eq (sum_list ts0), upd_same, .nil, .nil⟩ (fun i H' _ hp => st_of (by obtain ⟨_, _, _, _, x, Pp, _⟩ := hp; exact Pp.1 _ _ (x _ _ h2))) (fun i x H' H9 hi hp hy => ?_) (fun H' hp => ?_)
        · obtain ⟨Hb, zs, us, c, e, Pb, hc, hz, KK, PP⟩ := hp
          obtain ⟨rfl, hx⟩ := hy
          obtain ⟨t0, ht0, hta⟩ := kd.get hx
          have lz := KK.len
          have lu := PP.length
          have lls := len_list ts0
          rw [List.length_take] at lu
          have hdr : ts0.list.drop i = t0 :: ts0.list.drop (i + 1) := by
            rw [List.drop_eq_getElem_cons (List.getElem?_eq_some_iff.mp ht0).1]
            rw [(List.getElem?_eq_some_iff.mp ht0).2]
          rw [hdr, List.map_cons, List.sum_cons] at hc
          have := depth_get ht0
          have := size_get ht0
          refine ⟨rfl, _, rfl, _, rfl, _, rfl, _, rfl, _, rfl, p, Hb, n + 1 + 3 * c, x, t0, l, wd, m, ch, rfl, Pb, hta.ex e, Trs.ok_mem k3 t0 (List.mem_of_getElem? ht0), w1, w8, m1, m64, h1, h2c, by omega, by omega, by omega, fun Ha H2 v' t' x1 P2 ta' R => ?_⟩
          have hz1 := x1 _ _ hz
          refine ⟨zs, P2.1 _ _ hz1, sz_lt (by omega), L2.upd Ha D (.lst (zs ++ [v'])), zs ++ [v'], us ++ [t'], c + t0.size, (e.trans x1).mut d0, ?_, by omega, upd_same, ?_, ?_⟩
          · rw [show n + 1 + 3 * (c + t0.size) = n + 1 + 3 * c + 3 * t0.size by omega]
            exact P2.both d1 d2
          · refine Kids.upd (fun ys hh => ?_) ((KK.ex x1).snoc ta')
            rw [hz1] at hh
            cases hh
          · rw [take_next' ht0]
            exact Paired.snoc PP R
        · obtain ⟨Hb, zs, us, c, e, Pb, hc, hz, KK, PP⟩ := hp
          rw [lvs, List.take_length] at PP
          rw [lvs, List.drop_length] at hc
          have hc : c ≤ ts0.size := by simpa using hc
          have fin : ∀ (kk : Nat) (H2 : Hp), kk ≤ wd → PenAt p Hb H2 (n + 3 * (Tr.read p0 ts0).size) → ∀ t2, H2 t2 = none → ∀ r2, (L2.upd H2 t2 (.tup zs)) r2 = none → Q (.ref r2) (L2.upd (L2.upd H2 t2 (.tup zs)) r2 (.tup [.str "read", .int (kk : Int), .ref t2])) := by
            intro kk H2 hk P2 t2 ht2 r2 hr2
            obtain ⟨Pc, ec⟩ := P2.made (o := .tup zs) ht2
            obtain ⟨Pd, ed⟩ := Pc.made (o := .tup [.str "read", .int (kk : Int), .ref t2]) hr2
            refine q _ _ _ (.read kk (Trs.of us)) ((e.trans ec).trans ed) Pd (.read upd_same (ed _ _ upd_same) ?_) ⟨?_, ?_, hk, ?_, bt_oks PP⟩
            · refine Kids.tas ?_
              rw [Trs.of_list]
              exact KK.ex (ec.trans ed)
            · exact Nat.succ_le_succ (bt_sizes PP)
            · exact Nat.succ_le_succ (bt_depths PP)
            · rw [Trs.of_list, ← PP.length]
              exact k2
          cases cg with
          | false =>
            refine ⟨_, rfl, _, rfl, iteF ?_⟩
            refine ⟨_, rfl, a, _, _, _, rfl, rfl, st_of (Pb.1 _ _ (e _ _ h)), atI_nat (j := 1) rfl, ?_⟩
            refine ⟨_, rfl, _, rfl, D, zs, rfl, .inl ⟨sq_of (Pb.1 _ _ hz), fun t2 ht2 => ⟨by show 3 ≤ sizeLine; decide, fun r2 hr2 => ?_⟩⟩⟩
            exact fin p0 H' k1 (Pb.le (by omega)) t2 ht2 r2 hr2
          | true =>
            refine ⟨_, rfl, _, rfl, iteT ?_⟩
            refine ⟨_, rfl, p, Hb, _, 3, rfl, Pb, by omega, by decide, by decide, fun H2 r2 P2 s0 s1 => ?_⟩
            refine ⟨rfl, _, rfl, ite2 (fun hb => ?_) (fun hb => ?_)⟩
            · refine ⟨_, rfl, _, rfl, _, _, rfl, rfl, p, Hb, _, _, rfl, P2, by omega, by omega, by omega, fun H3 r3 P3 u0 u1 => ?_⟩
              obtain ⟨an, rfl⟩ : ∃ an : Nat, r3 = (an : Int) := ⟨r3.toNat, (Int.toNat_of_nonneg u0).symm⟩
              refine ⟨_, rfl, _, rfl, D, zs, rfl, .inl ⟨sq_of (P3.1 _ _ hz), fun t2 ht2 => ⟨by show 3 ≤ sizeLine; decide, fun r2 hr2 => ?_⟩⟩⟩
              exact fin an H3 (by omega) (P3.le (by omega)) t2 ht2 r2 hr2
            · refine ⟨_, rfl, a, _, _, _, rfl, rfl, st_of (P2.1 _ _ (e _ _ h)), atI_nat (j := 1) rfl, ?_⟩
              refine ⟨_, rfl, _, rfl, D, zs, rfl, .inl ⟨sq_of (P2.1 _ _ hz), fun t2 ht2 => ⟨by show 3 ≤ sizeLine; decide, fun r2 hr2 => ?_⟩⟩⟩
              exact fin p0 H2 k1 (P2.le (by omega)) t2 ht2 r2 hr2
end
end Law

/-! own errors over an own base whose __init__ they call; several except clauses with a name -/
namespace EK
open PySem PySem.Spec PyProof.Rows L2
section
variable {X : Cx} {C0 : Addr} {x : Str} {e : Expr} {es : List Expr} {ta : TA} {p1 p2 pos : Pos}
/-- B.__init__(self, ..), B an own class over ValueError without an __init__ of its own -/
theorem pe_skinit {pl : Sem Bool} (hg : Gl X x) (hm : X.mg x = some (.ref C0)) (r : ClX.CRead X.K C0 (.type "type")) (k : PySem.W.findCls X.K (.ref C0) (.type "type") "__init__" = some (.val (.builtin "ValueError.__init__"))) (ha : PA X (e :: es) ta)
    (hc : eval (.Call (.Attribute (.Name x p1) "__init__" p2) (e :: es) [] pos) X.env = (do
      let ov ← eval (.Name x p1) X.env
      standAt p2.atName
      let (f, first) ← holding [ov] (getMethod ov "__init__" pl)
      callWith pos f first (backTo pos (starEach (e :: es) X.env)) (backToKw pos (keywordEach [] X.env))) := by rfl)
    (hdb : (x == ("__debug__" : Str)) = false := by decide)
    (he : starEach (e :: es) X.env = (false, eval e X.env) :: starEach es X.env := by rfl) (hpl : (backTo pos (starEach es X.env)).any (·.1) = false := by rfl) :
    PE X (.Call (.Attribute (.Name x p1) "__init__" p2) (e :: es) [] pos) (tVeI X.K ta) := by
  refine ⟨fun pins s σ H Q I h => ?_⟩
  refine PySem.W.methodCall_KW (ld_glob I hg hm ?_ hdb) hc
  refine PySem.W.method_cls I.kIn r.ga (PySem.W.cls_value I.kIn r.rd k rfl ?_)
  show wpAny _ _ (callWith pos (Value.builtin "ValueError.__init__") [] (backTo pos (starEach (e :: es) X.env)) []) _ _ _
  refine PyProof.Rows.callWith_method1 (thn (ha.run pos pins _ σ H _ (I.tok _) h) fun us s1 ⟨vs, H1, I1, r1, a, C, ws, ev, hl, T, ea, q⟩ => ?_) he hpl
  subst ev
  cases r1 with
  | @cons _ u0 _ ur ra rw' =>
    obtain rfl : u0 = Value.ref a := ra
    have hlen : ur.length ≤ sizeLine := by
      rw [← Paired.length rw', sizeLine_eq]
      omega
    exact oinit_ok T I1 ea hlen fun s' J => ⟨.non, H1, J, rfl, q⟩
end
end EK
/-! ### isinstance of a caught error that has its dict -/
namespace PySem.W
open PySem PySem.Spec PySem.Calls PyProof.Rows
section
variable {prog : Program} {w : World} {A : Around} {E : Value → Shared → Prop} {s : Shared} {K : Frag} {x D : Addr} {ox : Obj} {od : Option Obj}
theorem ek_findObj {C : Addr} {name : Str} {a g : Value} (hc : (clsIn K C).isSome = true) (ha : findIn K (.ref C) name = some (some a)) (hg : specialIn K a "__get__" = some (some g)) (ht : takesIn K a = some true) : findObj K C od name = some (.bind g a) := by
  obtain ⟨cd, hc⟩ := Option.isSome_iff_exists.mp hc
  unfold findObj
  rw [hc, Option.bind_some, ha, Option.bind_some]
  simp [hg, ht]
theorem ek_kin_class {Q : Option Value → Shared → Prop} (hga : findIn K (.ref D) "__getattribute__" = some (some (.builtin "BaseException.__getattribute__"))) (hgt : findIn K (.ref D) "__getattr__" = some none) (hsub : subIn K (.ref D) (.type "BaseException") = some true)
    (hdct : hasDictIn K D = true) (ha : findIn K (.ref D) "__class__" = some (some (.builtin "object.__class__")))
    (hn : specialIn K (.builtin "object.__class__") "__get__" = some (some (.builtin "getset_descriptor.__get__"))) (htk : takesIn K (.builtin "object.__class__") = some true) (hm : mroIn K D (.type "object") = some true)
    (X : K.In s.heap) (I : InstAt s.heap x ox D od) (h : Q (some (.ref D)) { s with toks := s.toks + 1 }) : wpAny (model prog w) A (getAttr? (.ref x) "__class__") Q E s := by
  have hf : findObj K D od "__class__" = some (.bind (.builtin "getset_descriptor.__get__") (.builtin "object.__class__")) := ek_findObj (by obtain ⟨cd, hc, _⟩ := any_some hdct; rw [hc]; rfl) ha hn htk
  obtain ⟨hp, g, d, t, os⟩ := s
  have L0 := I.type (M := model prog w)
  have L1 := looks_findIn (M := model prog w) X hga
  have L2 := looks_findIn (M := model prog w) X hgt
  have L3 := looks_find (M := model prog w) X I hf
  have sub : Looks (model prog w) hp (isInstance (.ref x) (.type "BaseException")) true := L0.andThen (looks_subIn X hsub)
  have hx0 : (false && onTheHeap (Value.builtin "BaseException.__getattribute__")) = false := rfl
  have hx2 : (Value.builtin "BaseException.__getattribute__" == Value.builtin "object.__getattribute__") = false := by decide +kernel
  have hx1 : (onTheHeap (Value.ref D) && Value.builtin "BaseException.__getattribute__" == Value.builtin "object.__getattribute__") = false := by rw [hx2]; rfl
  unfold getAttr? getAttrBy? getAttrBy
  refine wpAny_bind (wpAny_mkText (wpAny_bind (wpAny_attempt (wpAny_holding (wpAny_bind (L0.at (wpAny_bind (L1.at ?_))))))))
  show wpAny _ _ (if (onTheHeap (Value.ref D) && Value.builtin "BaseException.__getattribute__" == Value.builtin "object.__getattribute__") = true then _ else _) _ _ _
  rw [hx1, if_neg Bool.false_ne_true]
  unfold getAttrByItsOwn hookBefore
  refine wpAny_bind ?_
  rw [if_pos (show onTheHeap (Value.ref D) = true from rfl)]
  refine L2.at ?_
  refine wpAny_bind (wpAny_attempt (wpAny_holding ?_))
  unfold callGetattribute
  rw [hx0, if_neg Bool.false_ne_true]
  unfold boundAndCalled
  rw [PySem.F.excAttr_ValueError.ga.bind (.ref x)]
  refine wpAny_bind (wpAny_pure ?_)
  show wpAny _ _ (call (.builtin "BaseException.__getattribute__") [.ref x, .str "__class__" t]) _ _ _
  refine wpAny_call (codeAny_call_builtin PySem.F.excAttr_ValueError.ga.plain PySem.F.entry_bexc_ga ?_)
  refine @check_slot (model prog w) _ _ ⟨hp, g, d, t + 1, os⟩ "BaseException.__getattribute__" "BaseException" "__getattribute__" (.ref x) [.str "__class__" t] [] _ (by decide +kernel) (by decide +kernel) sub (PySem.F.args_bexc_ga (.ref x) (.str "__class__" t)) ?_
  unfold Builtin.«object.__getattribute__»
  refine wpAny_bind (wpAny_of_eq (a := ((Value.ref x : Value), [Value.str "__class__" t])) (by first | rfl | (simp only [slotArgs]; rfl)) ?_)
  refine wpAny_bind (wpAny_pure (wpAny_bind (L0.at (wpAny_bind (L3.at ?_)))))
  show wpAny _ _ (holding [Value.builtin "object.__class__"] (call (.builtin "getset_descriptor.__get__") [.builtin "object.__class__", .ref x, .ref D]) >>= ret) _ _ _
  refine wpAny_bind (wpAny_holding (wpAny_call (class_get (s := ⟨hp, g, d, t + 1, os⟩) (ox := ox) (od := od) X I hm ?_)))
  refine wpAny_pure ?_
  show wpAny _ _ (handedOut (.ref D)) _ _ _
  rw [handedOut_of (v := .ref D) rfl]
  first
    | exact wpAny_pure (wpAny_pure h)
    | exact wpAny_pure h
    | exact wpAny_pure (wpAny_bind (wpAny_pure (wpAny_pure h)))
theorem ek_kitx (hga : findIn K (.ref D) "__getattribute__" = some (some (.builtin "BaseException.__getattribute__"))) (hgt : findIn K (.ref D) "__getattr__" = some none) (hsub : subIn K (.ref D) (.type "BaseException") = some true) (hdct : hasDictIn K D = true) (ha : findIn K (.ref D) "__class__" = some (some (.builtin "object.__class__")))
    (hn : specialIn K (.builtin "object.__class__") "__get__" = some (some (.builtin "getset_descriptor.__get__"))) (htk : takesIn K (.builtin "object.__class__") = some true) (hm : mroIn K D (.type "object") = some true) :
    KitX K (.ref x) (.ref D) (fun h => InstAt h x ox D od) where
  ty := fun _ _ _ I => I.type
  it := fun _ _ X _ => by
    obtain ⟨cdD, hcD, _⟩ := any_some hdct
    unfold clsIn at hcD
    split at hcD
    · rename_i c' d' cd' sl' ho
      intro A' Q' E' s' k q
      unfold isType loadHead
      exact wpAny_bind (wpAny_loadPart (k _ _ (X _ _ ho)) (wpAny_pure q))
    · cases hcD
  ne := fun h tp dd its n sl X htp => by
    obtain ⟨cdD, hcD, _⟩ := any_some hdct
    refine Bool.eq_false_iff.mpr fun q => ?_
    have e : D = tp := Value.ref.inj (beq_iff_eq.mp q)
    subst e
    unfold clsIn at hcD
    split at hcD
    · rename_i c' d' cd' sl' ho
      have z := (X _ _ ho).symm.trans htp
      cases z
    · cases hcD
  ca := fun X I k => ek_kin_class hga hgt hsub hdct ha hn htk hm X I k
end
end PySem.W
namespace EK
open PySem PySem.Spec PyProof.Rows L2
/-- isinstance(e, c), e the exception that the suite holds: its class D, its dict at d -/
def rIsE (K : PySem.W.Frag) (cls : Value) (d : Option Addr) (D a : Addr) : List V → Hp → VK → Prop := fun xs H Q => ∃ (c : V) (cv : Value) (b : Bool), xs = [.ref a, c] ∧ cls = .ref D ∧ (∃ dd fs, d = some dd ∧ H dd = some (.xd fs)) ∧ ClsV c cv ∧ PySem.W.kitOne K (.ref D) cv = some b ∧ Q (.bl b) H
theorem call_isE {X : Cx} {a D : Addr} {cls : Value} {d : Option Addr} {oe : Obj} {pn : List (Addr × Obj)} (C : ExcC X.K D) (hz : Zc cls d oe) (hf : ∃ vs, oe.data = .fields vs) : CallR (X.suite a ((a, oe) :: pn)) (.builtin "isinstance") (rIsE X.K cls d D a) := by
  intro pins s σ H xs us Q I r h
  obtain ⟨c, cv, b, rfl, ec, ⟨dd, fs, ed, hd⟩, k, e, q⟩ := h
  obtain ⟨u1, u2, rfl, r1, r2⟩ := vals2 r
  cases r1
  have e2 := k.eq r2
  subst e2 ec ed
  obtain ⟨hget, _⟩ := I.pin (a, oe) (List.mem_append.mpr (.inl List.mem_cons_self))
  obtain ⟨vs, hv⟩ := hf
  have hx : ObjOk X.prog X.w H s.heap dd (.xd fs) := I.hok dd _ hd
  obtain ⟨mA, hns, _⟩ := hx
  obtain ⟨od, ho, _⟩ := lookIn_ns hns
  have J : PySem.W.InstAt s.heap a oe D (some od) := ⟨hget, hz.1, by unfold PySem.W.notCls; rw [hv] <;> rfl, by rw [hz.2]; exact ho⟩
  exact PySem.W.kia_one (PySem.W.ek_kitx C.hg C.hk C.hs C.hd C.ha C.hn C.ht C.hm) I.kIn J e (fun z => nomatch z) fun tk => ⟨.bl b, H, I.kept (t' := tk) fun _ _ z => z, rfl, q⟩
/-! ### several except clauses, all with one name -/
def endsN (D : Ends) (i : Nat) : Ends := { nx := fun σ' H' => D.nx (σ'.set i none) H', rt := D.rt, bk := fun σ' H' => D.bk (σ'.set i none) H', ct := fun σ' H' => D.ct (σ'.set i none) H' }
def wManyN (K : PySem.W.Frag) (Wout : WX) (D : Ends) (i : Nat) : List (Value × (Addr → Value → Option Addr → TS)) → WX
  | [] => Wout
  | (c, ts) :: r => fun cls d σ H => ∃ b, PySem.W.exmOne K cls c = some b ∧ (b = true → ∀ a, H a = none → ts a cls d (endsN D i) (σ.set i (some (.ref a))) H) ∧ (b = false → wManyN K Wout D i r cls d σ H)
inductive HdsN (X : Cx) (n : Str) : List ExceptHandler → List (Value × (Addr → Value → Option Addr → TS)) → Prop
  | nil : HdsN X n [] []
  | cons {x : Str} {c : Value} {ts : Addr → Value → Option Addr → TS} {b₀ : Stmt} {suite : List Stmt} {np pos' : Pos} {hds : List ExceptHandler} {l : List (Value × (Addr → Value → Option Addr → TS))} (hc : Names X x c)
      (hsu : ∀ (a : Addr) (oe : Obj) (cls : Value) (d : Option Addr) (pn : List (Addr × Obj)), Zc cls d oe → (∃ vs, oe.data = .fields vs) → PSs (X.suite a ((a, oe) :: pn)) (b₀ :: suite) (ts a cls d)) (r : HdsN X n hds l) :
      HdsN X n (.ExceptHandler (some (.Name x np)) (some n) (b₀ :: suite) pos' :: hds) ((c, ts) :: l)
section
variable {X : Cx} {n : Str} {i : Nat} {body : List Stmt} {h₀ : ExceptHandler} {hds : List ExceptHandler} {l : List (Value × (Addr → Value → Option Addr → TS))} {pos : Pos} {tb : WX → TS} {Wout : WX}
theorem ps_tryN (hs : X.stack = X.env :: X.outer) (hf : X.env.frame = some X.env.locals) (hN : X.N.Nodup) (hi : X.N[i]? = some n) (hln : X.env.kindOf n = some .local) (tk : Takes X Wout)
    (hb : ∀ (W : WX) (pn : List (Addr × Obj)) (xe : Value → Shared → Prop), Takes (X.tr pn xe) W → PassesOwn (model X.prog X.w) X.A X.env xe → PSs (X.tr pn xe) body (tb W))
    (hh : HdsN X n (h₀ :: hds) l) : PS X (.Try body (h₀ :: hds) [] [] pos) (fun D σ H => tb (wManyN X.K Wout D i l) D σ H) := by
  refine ⟨fun pins s σ H D I h => ?_⟩
  have ok := I.ok
  have hfr : X.A.frames = some (X.env :: X.outer) := by rw [ok.frames, hs]
  have hloc : Loc X.env.scope n := .inl hln
  refine wpAny_Try_except ?_
  refine wpAny_mono ((hb (wManyN X.K Wout D i l) (X.pn ++ pins) (fun e s₁ => wpAny (model X.prog X.w) X.A (noteFrame e X.env) (fun _ s₂ => wpAny (model X.prog X.w) X.A (setFlight e none) (fun _ s₃ =>
    wpAny (model X.prog X.w) X.A (handleBy e X.env (h₀ :: hds)) (SP X pins D) X.xe s₃) X.xe s₂) X.xe s₁) (fun u s' xx => ?_) PassesOwn.looking).run [] s σ H D (I.toTry _) h) (fun f s1 hsp => ?_) (fun e s1 he => he)
  · -- the catch
    obtain ⟨a, B, sI, pins', σ', H', cls, d, rfl, J', nb, up, sky, na, os, ag, w⟩ := xx
    have J : Inv X pins σ' H' sI := J'.ofTry ok
    have sky' : Sky B (X.env :: X.outer) a (Zc cls d) X.env.locals s'.heap := by rw [← hs]; exact sky
    show wpAny (model X.prog X.w) X.A (noteFrame (.ref a) X.env) _ _ _
    refine Sky.land Zc.steady hfr hf sky' fun h3 fl3 up3 => ?_
    have J3 : Inv X pins σ' H' { s' with heap := h3 } := J.landed nb fl3.1 (up.trans up3) os ag
    obtain ⟨oe3, vs3, he3, hz3, hd3⟩ := fl3.there
    have notFr : ∀ {h : Heap} {o : Obj} {vs : Array Value}, h.FunFrames B (X.env :: X.outer) → h.get? a = some o → o.data = .fields vs → a ∉ frs (X.env :: X.outer) := fun {h o vs} ff e dd hm => by
      obtain ⟨_, o', e', hnf⟩ := ff.mem hm
      rw [e] at e'; cases e'
      exact hnf _ dd
    have nfr := notFr fl3.2.2.1 he3 hd3
    have nL : a ≠ X.env.locals := fun z => nfr (List.mem_filterMap.mpr ⟨X.env, List.mem_cons_self, by rw [hf, z]⟩)
    have nF : a ∉ X.fs := fun hm => by
      obtain ⟨e, he, q⟩ := List.mem_filterMap.mp hm
      exact nfr (List.mem_filterMap.mpr ⟨e, List.mem_cons_of_mem _ he, q⟩)
    have S3 := J3.suite he3 hd3 na nL nF
    have go : ∀ {hds' : List ExceptHandler} {l' : List (Value × (Addr → Value → Option Addr → TS))}, HdsN X n hds' l' → wManyN X.K Wout D i l' cls d σ' H' →
        wpAny (model X.prog X.w) X.A (handleBy (.ref a) X.env hds') (SP X pins D) X.xe { s' with heap := h3 } := by
      intro hds' l' hk
      induction hk with
      | nil =>
        intro w
        refine wpAny_handleBy_nil ?_
        obtain ⟨k1, k2, k3, oe, vs, T, oT, ts', he, hz, hd, h1, hr⟩ := id fl3
        unfold PySem.passOn
        refine wpAny_bind (wpAny_field he hd h1 ?_)
        rw [if_neg (show ¬ ((Value.ref T == Value.none) = true) from by simp)]
        have fin : wpAny (model X.prog X.w) X.A (setFlight (.ref a) X.env.frame) (fun _ s4 => wpAny (model X.prog X.w) X.A (throw (.ref a) : Sem Flow) (SP X pins D) X.xe s4) X.xe { s' with heap := h3 } := by
          rw [hf]
          refine HandSPX.setFlight_upZ fl3 fun h4 hh4 up4 => wpAny_throw (tk _ _ ?_)
          exact ⟨a, B, sI, pins, σ', H', cls, d, rfl, J, nb, (up.trans up3).trans up4, .inr (.inr (by rw [hs]; exact hh4)), na, os, ag, w⟩
        first
          | exact wpAny_bind (wpAny_pure (wpAny_bind fin))
          | exact wpAny_bind fin
      | @cons x c ts b₀ suite np pos' hds2 l2 hc hsu r ih =>
        intro w
        obtain ⟨b, hb1, hyes, hno⟩ := w
        refine wpAny_handleBy_cons (codeAny_handlers_test ?_) (by intro q; cases q)
        have LT : PySem.W.Looks (model X.prog X.w) h3 (typeOf (.ref a)) cls := fun A Q E s k q => wpAny_typeOf_ref (k _ _ he3) (by rw [hz3.1]; exact q)
        have LM := PySem.W.exm_one (M := model X.prog X.w) (J3.kIn) LT hb1
        have test : ∀ {Q : Value → Shared → Prop} {E : Value → Shared → Prop}, Q c { s' with heap := h3 } → wpAny (model X.prog X.w) (X.A.mark (some (.ref a))) (eval (.Name x np) X.env) Q E { s' with heap := h3 } := fun {Q E} q => by
          obtain ⟨hg, hdbg, hm | ⟨hm, hv, hnn⟩⟩ := hc
          · exact ld_glob (X := X.suite a ((a, oe3) :: (X.pn ++ pins))) S3 hg hm q hdbg
          · exact ld_blt (X := X.suite a ((a, oe3) :: (X.pn ++ pins))) S3 hg hm hv q hnn hdbg
        refine test (LM.here ?_)
        cases b with
        | true =>
          refine codeAny_handlers_suite_as ?_
          refine HandSPX.lands_againZ fl3 fun h4 fl4 up4 => ?_
          have J4 : Inv X pins σ' H' { s' with heap := h4 } := J.landed nb fl4.1 ((up.trans up3).trans up4) os ag
          obtain ⟨oe4, vs4, he4, hz4, hd4⟩ := fl4.there
          have S4 := J4.suite he4 hd4 na nL nF
          refine store_ok (X := X.suite a ((a, oe4) :: (X.pn ++ pins))) (v := .ref a) S4 hN hi hloc rfl (fun s5 S5 => ?_) (.inr hln)
          refine wpAny_mono ((hsu a oe4 cls d (X.pn ++ pins) hz4 ⟨_, hd4⟩).run [] s5 _ H' _ S5 (hyes rfl a na)) (fun f s6 hsp => ?_) (fun _ _ z => False.elim z)
          have end_ : ∀ {σ6 : L2.St} {H6 : Hp} {Q : Shared → Prop}, Inv (X.suite a ((a, oe4) :: (X.pn ++ pins))) [] σ6 H6 s6 → (∀ s7, Inv X pins (σ6.set i none) H6 s7 → Q s7) →
              wpAny (model X.prog X.w) X.A (do bindName X.env n .none; unbindBehindTheSuite X.env n pos') (fun _ s7 => Q s7) X.xe s6 := fun {σ6 H6 Q} S6 hq => gone_ok (S6.unsuite ok) hN hi hln hq
          cases f with
          | next =>
            obtain ⟨σ6, H6, S6, q6⟩ := hsp
            exact end_ S6 fun s7 J7 => ⟨_, _, J7, q6⟩
          | brk =>
            obtain ⟨σ6, H6, S6, q6⟩ := hsp
            exact end_ S6 fun s7 J7 => ⟨_, _, J7, q6⟩
          | cont =>
            obtain ⟨σ6, H6, S6, q6⟩ := hsp
            exact end_ S6 fun s7 J7 => ⟨_, _, J7, q6⟩
          | ret u =>
            obtain ⟨v6, σ6, H6, S6, r6, q6⟩ := hsp
            exact end_ S6 fun s7 J7 => ⟨_, _, _, J7, r6, q6⟩
        | false =>
          show wpAny _ X.A (handleBy (.ref a) X.env hds2) _ _ _
          exact ih (hno rfl)
    exact go hh w
  · cases f with
    | next =>
      obtain ⟨σ', H', J', q⟩ := hsp
      exact wpAny_execs_nil ⟨σ', H', J'.ofTry ok, q⟩
    | brk =>
      obtain ⟨σ', H', J', q⟩ := hsp
      exact ⟨σ', H', J'.ofTry ok, q⟩
    | cont =>
      obtain ⟨σ', H', J', q⟩ := hsp
      exact ⟨σ', H', J'.ofTry ok, q⟩
    | ret u =>
      obtain ⟨v, σ', H', J', r, q⟩ := hsp
      exact ⟨v, σ', H', J'.ofTry ok, r, q⟩
end
end EK

/-! exceptions of own classes as values: made by position and by name, their fields, isinstance -/
namespace PySem
namespace ExV
open PySem.Spec PySem.W PySem.Calls PyProof.Rows PySem.HandSPX Builtin Builtin.ObjectAttr
section
variable {M : Model} {prog : Program} {w : World} {A : Around} {E : Value → Shared → Prop} {R : Result → Shared → Prop} {h : Heap} {g : Array GenState} {d : Drawn} {t : Nat} {os : OsState}
variable {nm q : Str} {C N : Addr} {bs bm bmB : List Value} {hdct : Bool} {sn : List Str} {sub : List Value} {ab : Bool} {col : Option Bool} {dd : Option Addr} {k0 k1 k2 k3 k5 : Option Value} {B newId initId : String} {kw : List (Str × Value)} {xs : List Value}
theorem own_check (F : ExcBaseFacts B newId initId bmB) (hT : ∀ X : String, bm.contains (.type X) = bmB.contains (.type X)) {Q : Unit → Shared → Prop}
    (hC : h.get? C = some (excClassObj nm q C N bs bm hdct sn sub ab col dd k0 k1 k2 k3 k5 newId)) (z : Q () ⟨h, g, d, t, os⟩) : wpAny M A (checkBuiltinCall newId ⟨.ref C :: xs, kw⟩) Q E ⟨h, g, d, t, os⟩ := by
  have inB : (Value.ref C :: bm).contains (.type B) = true := by
    rw [List.contains_cons, hT, F.hasB, Bool.or_true]
  have st := F.noStar
  simp only [checkBuiltinCall, F.newKind, F.newSplit, F.newRow]
  repeat (first | refine wpAny_loadPart_at hC ?_ | (refine wpAny_isSubtype_exc hC ?_; rw [inB]) | refine wpAny_staticBase_exc hC ?_ | refine wpAny_madeBy_exc hC ?_ | simp only [bne_self_eq_false, Bool.false_eq_true, if_false] | wp_step)
  exact z
theorem own_new (F : ExcBaseFacts B newId initId bmB) (hT : ∀ X : String, bm.contains (.type X) = bmB.contains (.type X))
    (hC : h.get? C = some (excClassObj nm q C N bs bm hdct sn sub ab col dd k0 k1 k2 k3 k5 newId))
    (z : R (.ok (.ret (.ref (h.objs.size + 1)))) ⟨(h.push (W.kdv_tup xs)).push (excO C h.objs.size), g, d, t, os⟩) (hl : xs.length ≤ sizeLine) :
    codeAny (model prog w) A (.builtin newId ⟨.ref C :: xs, kw⟩) R ⟨h, g, d, t, os⟩ := by
  have en := F.ends
  have inB : (Value.ref C :: bm).contains (.type B) = true := by
    rw [List.contains_cons, hT, F.hasB, Bool.or_true]
  have noA : (Value.ref C :: bm).contains (.type "AttributeError") = false := by
    rw [List.contains_cons, hT, F.noAttr]
    rfl
  have noN : (Value.ref C :: bm).contains (.type "NameError") = false := by
    rw [List.contains_cons, hT, F.noName]
    rfl
  refine codeAny_builtinAt F.entry ?_
  unfold Builtin.«BaseException.__new__»
  refine wpAt_bind ?_
  show wpAt _ _ _ (stack >>= _) _ _ _
  refine wpAt_bind (wpAt_stack fun p below => wpAt_of_wpAny ?_)
  wp_walk
  refine wpAt_of_wpAny ?_
  rw [F.owner]
  repeat (first | with_reducible refine wpAny_madeHere_exc F.canon hC ?_ | with_reducible refine wpAny_loadPart_at hC ?_ | (with_reducible refine wpAny_isSubtype_exc hC ?_; first | rw [inB] | rw [noA] | rw [noN]) | wp_step)
  show R _ _
  rw [Heap.size_push]
  exact z
theorem own_type (F : ExcBaseFacts B newId initId bmB) (hT : ∀ X : String, bm.contains (.type X) = bmB.contains (.type X)) {fv : Value} {Q : Fin → Shared → Prop}
    (hC : h.get? C = some (excClassObj nm q C N bs bm hdct sn sub ab col dd k0 k1 k2 k3 k5 newId))
    (hi : W.Looks (model prog w) h (typeLookup (.ref C) "__init__") (some fv)) (hb : ∀ self, W.Looks (model prog w) h (bindSpecial fv self) (fv, [self])) (hl : xs.length ≤ sizeLine)
    (z : codeAny (model prog w) A (.call fv ⟨.ref (h.objs.size + 1) :: xs, kw⟩) (fun r s' => match r with | .ok (.ret v) => v = .none ∧ Q (.done (.ret (.ref (h.objs.size + 1)))) s' | .ok _ => False | .error e => E e s')
      ⟨(h.push (W.kdv_tup xs)).push (excO C h.objs.size), g, d, t, os⟩) :
    wpAny (model prog w) A (Builtin.«type.__call__» ⟨.ref C :: xs, kw⟩) Q E ⟨h, g, d, t, os⟩ := by
  repeat (first | with_reducible refine wpAny_loadPart_at hC ?_ | with_reducible refine wpAny_madeBy_exc hC ?_ | wp_step)
  refine codeAny_call_builtin_code (Code.quiet_builtin _ F.quiet) (own_check F hT hC ?_)
  refine own_new F hT hC ?_ hl
  show wpAny _ _ _ _ _ _
  have kp : ∀ b o, h.get? b = some o → ((h.push (W.kdv_tup xs)).push (excO C h.objs.size)).get? b = some o := fun b o y => Heap.get?_push_of_some _ (Heap.get?_push_of_some _ y)
  have hC2 := kp _ _ hC
  have he : ((h.push (W.kdv_tup xs)).push (excO C h.objs.size)).get? (h.objs.size + 1) = some (excO C h.objs.size) := by heap_get
  have inC : (Value.ref C :: bm).contains (.ref C) = true := by simp
  have hi2 := hi.keeps kp
  have hb2 := (hb (.ref (h.objs.size + 1))).keeps kp
  unfold isInstance
  repeat (first | with_reducible refine wpAny_loadPart_at he ?_ | (with_reducible refine wpAny_isSubtype_exc hC2 ?_; rw [inC]) | wp_step)
  show wpAny _ _ (typeLookup (.ref C) _) _ _ _
  refine hi2.at ?_
  refine wpAny_holding (wpAny_bind (hb2.at ?_))
  refine wpAny_bind (wpAny_call (codeAny_mono z fun r s' y => ?_))
  rcases r with e | (v | _ | _ | _) <;> first | exact y | exact y.elim | skip
  obtain ⟨rfl, y⟩ := y
  first
    | exact wpAny_pure (wpAny_pure y)
    | (wp_walk; exact y)
theorem own_chk {Q : Unit → Shared → Prop} (hC : h.get? C = some (excClassObj nm q C N bs bm hdct sn sub ab col dd k0 k1 k2 k3 k5 newId))
    (hq : Q () ⟨h, g, d, t, os⟩) : wpAny M A (checkBuiltinCall "type.__call__" ⟨.ref C :: xs, kw⟩) Q E ⟨h, g, d, t, os⟩ := by
  have sb := tc_sub
  have ty : (⟨h, g, d, t, os⟩ : Shared).TypeIs (.ref C) "type" := ⟨_, hC, rfl⟩
  simp only [checkBuiltinCall, tc_kind, tc_split]
  repeat (any_goals (first | assumption | with_reducible refine wpAny_loadPart_at hC ?_ | with_reducible refine wpAny_onRaise ?_ | with_reducible refine wpAny_map ?_ | wp_step))
theorem own_call (F : ExcBaseFacts B newId initId bmB) (hT : ∀ X : String, bm.contains (.type X) = bmB.contains (.type X)) {fv : Value}
    (hC : h.get? C = some (excClassObj nm q C N bs bm hdct sn sub ab col dd k0 k1 k2 k3 k5 newId))
    (hi : W.Looks (model prog w) h (typeLookup (.ref C) "__init__") (some fv)) (hb : ∀ self, W.Looks (model prog w) h (bindSpecial fv self) (fv, [self])) (hl : xs.length ≤ sizeLine)
    (z : codeAny (model prog w) (A.under (.builtin "type.__call__" ⟨.ref C :: xs, kw⟩)) (.call fv ⟨.ref (h.objs.size + 1) :: xs, kw⟩) (W.InitBack (h.objs.size + 1) R)
      ⟨(h.push (W.kdv_tup xs)).push (excO C h.objs.size), g, d, t, os⟩) : codeAny (model prog w) A (.call (.ref C) ⟨xs, kw⟩) R ⟨h, g, d, t, os⟩ := by
  have lk := tc_lookup
  have bd := tc_bind (.ref C)
  have ty : (⟨h, g, d, t, os⟩ : Shared).TypeIs (.ref C) "type" := ⟨_, hC, rfl⟩
  refine codeAny_of_tree ?_
  show wpAny _ _ (callAny (.ref C) _) _ _ _
  repeat (any_goals (first | assumption | with_reducible refine wpAny_loadPart_at hC ?_ | wp_step))
  refine ⟨rfl, ?_⟩
  refine codeAny_call_builtin_at (Code.quiet_builtin _ (by decide +kernel)) entry_typeCall (own_chk hC (own_type F hT hC hi hb hl ?_))
  refine codeAny_mono z fun r s' y => ?_
  rcases r with e | (v | _ | _ | _) <;> exact y
end
end ExV
end PySem
namespace EK
open PySem PySem.Spec PyProof.Rows L2
/-- C(..) kept as a value: __init__ keeps sp -/
def tMkV (C : Addr) (sp : Sp) (ta : TA) : TE := fun σ H Q => ta σ H fun vs H1 => vs.length ≤ 1000 ∧ ∀ a, H1 a = none → sp (.ref a :: vs) (upd H1 a (exo a C none)) (fun v H2 => v = .non ∧ Q (.ref a) H2) (fun _ _ _ => False)
/-- .. by names, put in their order by g -/
def tMkN (C : Addr) (sp : Sp) (n : Nat) (g : List V → List V → List V) (tk : TA) : TE := fun σ H Q => tk σ H fun zs H1 => zs.length = n ∧ ∀ a, H1 a = none → sp (g [.ref a] zs) (upd H1 a (exo a C none)) (fun v H2 => v = .non ∧ Q (.ref a) H2) (fun _ _ _ => False)
section
variable {X : Cx} {CX : CXT} {x : Str} {e : Expr} {es : List Expr} {ta tk : TA} {p pos : Pos} {C fI : Addr} {k : Nat} {fd : FuncData} {ps ks : List Str} {sp : Sp} {kws : List Keyword} {pins : List (Addr × Obj)} {σ : L2.St} {H : Hp} {s : Shared} {Q : VK}
theorem run_mkv (T : OexC X.K C) (iC : PySem.W.findIn X.K (.ref C) "__init__" = some (some (.ref fI))) (tI : PySem.W.typeIn X.K (.ref fI) = some (.type "function")) (F1 : FnOk X.prog X.w X.K X.mg X.base CX k fI fd ps sp) (hr : Room (k + 1) X.A)
    (hx : Passes CX X (fun _ _ _ => False)) (I : Inv X pins σ H s) {us : List Value} {kw : List (Str × Value)} (hl : us.length ≤ sizeLine) {G : Value → List Value} {gv : V → List V} (hb : ∀ (s' : Shared) (u : Value), X.K.In s'.heap → BindsTo s' fd ⟨u :: us, kw⟩ (ps.zip (G u)))
    (r2 : ∀ a : Addr, Vals (gv (.ref a)) (G (.ref a))) (h : ∀ a, H a = none → sp (gv (.ref a)) (upd H a (exo a C none)) (fun v H2 => v = .non ∧ Q (.ref a) H2) (fun _ _ _ => False)) : wpAny (model X.prog X.w) X.A (call (.ref C) us kw) (EP X pins σ Q) X.xe s := by
  obtain ⟨nm, q, N, bs, bm, sn, sub, ab, col, dd, k0, k1, k2, k3, k5, hC, hbm⟩ := T.cls
  obtain ⟨hp, g, dr, tk, os⟩ := s
  have up : hp.objs.size ≤ hp.objs.size + 1 := Nat.le_succ _
  have hq := h (hp.objs.size + 1) (I.hok.fresh up)
  have kk : ∀ b o, hp.get? b = some o → ((hp.push (PySem.W.kdv_tup us)).push (PySem.HandSPX.excO C hp.objs.size)).get? b = some o := fun b o y => Heap.get?_push_of_some _ (Heap.get?_push_of_some _ y)
  have he : ((hp.push (PySem.W.kdv_tup us)).push (PySem.HandSPX.excO C hp.objs.size)).get? (hp.objs.size + 1) = some (PySem.HandSPX.excO C hp.objs.size) := by heap_get
  have I2 : Inv X pins σ (upd H (hp.objs.size + 1) (exo (hp.objs.size + 1) C none)) ⟨(hp.push (PySem.W.kdv_tup us)).push (PySem.HandSPX.excO C hp.objs.size), g, dr, tk, os⟩ :=
    I.laid (t' := tk) (a := hp.objs.size + 1) (o := exo (hp.objs.size + 1) C none) (h' := (hp.push (PySem.W.kdv_tup us)).push (PySem.HandSPX.excO C hp.objs.size)) kk up (exo_ok he)
  refine wpAny_call (PySem.ExV.own_call F.excBase_ValueError (fun Y => PySem.HandSPX.refsVE_contains Y bm hbm) (I.kIn _ _ hC) (PySem.W.looks_findIn I.kIn iC) (fun self => PySem.W.bind_fn I.kIn self tI) hl
    (codeAny_mono (F1.run _ X.stack _ _ ⟨Value.ref (hp.objs.size + 1) :: us, kw⟩ (G (.ref (hp.objs.size + 1))) _ _ (fun _ _ _ => False) (hr.make C us kw) (I2.env0.make C us kw) (hb _ _ I2.kIn) (r2 _) hq) fun r s' hq' => ?_))
  cases r with
  | error er => exact hx pins σ _ _ er s' I2 hq'
  | ok fl =>
    cases fl with
    | ret u =>
      obtain ⟨v, H', I3, rv, ev, q3⟩ := I2.after hq'
      subst ev
      exact ⟨rv, ⟨V.ref (hp.objs.size + 1), H', I3, rfl, q3⟩⟩
    | next => exact False.elim hq'
    | brk => exact False.elim hq'
    | cont => exact False.elim hq'
theorem pe_mkv (T : OexC X.K C) (iC : PySem.W.findIn X.K (.ref C) "__init__" = some (some (.ref fI))) (tI : PySem.W.typeIn X.K (.ref fI) = some (.type "function")) (F1 : FnOk X.prog X.w X.K X.mg X.base CX k fI fd ps sp) (hr : Room (k + 1) X.A) (hb : Binds X.K fd ps [])
    (hx : Passes CX X (fun _ _ _ => False)) (hg : Gl X x) (hm : X.mg x = some (.ref C)) (ha : PA X (e :: es) ta) (hdb : (x == ("__debug__" : Str)) = false := by decide) (he : starEach (e :: es) X.env = (false, eval e X.env) :: starEach es X.env := by rfl)
    (hpl : (backTo pos (starEach es X.env)).any (·.1) = false := by rfl) : PE X (.Call (.Name x p) (e :: es) [] pos) (tMkV C sp ta) := by
  refine ⟨fun pins s σ H Q I h => ?_⟩
  refine wpAny_Call_Name_kw (ld_glob I hg hm ?_ hdb)
  refine PySem.W.callWith_K (h₀ := X.base) I.ok.mod.kin T.kC (thn (ha.run pos pins s σ H _ I h) fun us s1 ⟨vs, H1, I1, r1, hz, q1⟩ => ⟨I1.kIn, ?_⟩) he hpl
  have hus : us.length ≤ sizeLine := by
    rw [← Paired.length r1, sizeLine_eq]
    omega
  show wpAny _ _ (call (.ref C) us) _ _ _
  refine run_mkv (gv := fun v => v :: vs) (G := fun u => u :: us) T iC tI F1 hr hx I1 hus (fun s' u X' => ?_) (fun a => .cons rfl r1) q1
  have y := hb s' (u :: us) X' ?_
  · rw [List.append_nil] at y
    exact y
  have el : (Value.ref 0 :: us).length = ps.length := by
    have z := F1.len _ _ _ _ (q1 _ (I1.hok.fresh (Nat.le_refl _)))
    rw [← z]
    exact (Paired.length (F := RelV) (.cons (a := V.ref 0) (b := Value.ref 0) rfl r1)).symm
  simpa using el
theorem pe_mkn {g : List Value → List Value → List Value} {gV : List V → List V → List V} (T : OexC X.K C) (iC : PySem.W.findIn X.K (.ref C) "__init__" = some (some (.ref fI))) (tI : PySem.W.typeIn X.K (.ref fI) = some (.type "function")) (F1 : FnOk X.prog X.w X.K X.mg X.base CX k fI fd ps sp)
    (hr : Room (k + 1) X.A) (hb : KBn X.K fd ps 1 ks g gV) (hx : Passes CX X (fun _ _ _ => False)) (hg : Gl X x) (hm : X.mg x = some (.ref C)) (hkw : PK X kws tk) (hall : (backToKw pos (keywordEach kws X.env)).all (·.1.isSome) = true := by rfl)
    (hks : (backToKw pos (keywordEach kws X.env)).filterMap (·.1) = ks := by rfl) (hdb : (x == ("__debug__" : Str)) = false := by decide) (hpl : ((backTo pos (starEach [] X.env)).any (·.1) || (backToKw pos (keywordEach kws X.env)).any (·.1.isNone)) = false := by rfl) :
    PE X (.Call (.Name x p) [] kws pos) (tMkN C sp ks.length gV tk) := by
  refine ⟨fun pins s σ H Q I h => ?_⟩
  refine wpAny_Call_Name_kw (ld_glob I hg hm ?_ hdb)
  refine PySem.W.callWith_KW0 (h₀ := X.base) I.ok.mod.kin T.kC hall ?_ hpl
  refine thn (hkw.run pos pins s σ H _ I h) fun ws s2 ⟨zs, H2, I2, rz, l1, q2⟩ => ⟨I2.kIn, ?_⟩
  rw [hks]
  exact run_mkv (gv := fun v => gV [v] zs) (G := fun u => g [u] ws) T iC tI F1 hr hx I2 (Nat.zero_le _) (fun s' u X' => hb.to s' [u] ws X' rfl (rz.length.symm.trans l1)) (fun a => hb.rel (.cons rfl .nil) rz) q2
/-- C(), C without an __init__ of its own -/
def tMk0 (C : Addr) : TE := fun _ H Q => ∀ a, H a = none → Q (.ref a) (upd H a (exo a C none))
theorem pe_mk0 (T : OexC X.K C) (iC : PySem.W.findIn X.K (.ref C) "__init__" = some (some (.builtin "ValueError.__init__"))) (hg : Gl X x) (hm : X.mg x = some (.ref C)) (hdb : (x == ("__debug__" : Str)) = false := by decide) :
    PE X (.Call (.Name x p) [] [] pos) (tMk0 C) := by
  refine ⟨fun pins s σ H Q I h => ?_⟩
  refine wpAny_Call_Name_kw (ld_glob I hg hm ?_ hdb)
  refine PySem.W.callWith_K0 (first := []) I.kIn T.kC ?_
  show wpAny _ _ (call (.ref C) []) _ _ _
  obtain ⟨nm, q, N, bs, bm, sn, sub, ab, col, dd, k0, k1, k2, k3, k5, hC, hbm⟩ := T.cls
  obtain ⟨hp, g, dr, tk, os⟩ := s
  have up : hp.objs.size ≤ hp.objs.size + 1 := Nat.le_succ _
  have kk : ∀ b o, hp.get? b = some o → ((hp.push (PySem.W.kdv_tup [])).push (PySem.HandSPX.excO C hp.objs.size)).get? b = some o := fun b o y => Heap.get?_push_of_some _ (Heap.get?_push_of_some _ y)
  have he : ((hp.push (PySem.W.kdv_tup [])).push (PySem.HandSPX.excO C hp.objs.size)).get? (hp.objs.size + 1) = some (PySem.HandSPX.excO C hp.objs.size) := by heap_get
  have I2 : Inv X pins σ (upd H (hp.objs.size + 1) (exo (hp.objs.size + 1) C none)) ⟨(hp.push (PySem.W.kdv_tup [])).push (PySem.HandSPX.excO C hp.objs.size), g, dr, tk, os⟩ :=
    I.laid (t' := tk) (a := hp.objs.size + 1) (o := exo (hp.objs.size + 1) C none) (h' := (hp.push (PySem.W.kdv_tup [])).push (PySem.HandSPX.excO C hp.objs.size)) kk up (exo_ok he)
  refine wpAny_call (PySem.ExV.own_call (fv := .builtin "ValueError.__init__") F.excBase_ValueError (fun Y => PySem.HandSPX.refsVE_contains Y bm hbm) (I.kIn _ _ hC) (PySem.W.looks_findIn I.kIn iC) (fun self => .of_pure (F.excBase_ValueError.init.bind self)) (Nat.zero_le _)
    (PySem.HandSPX.init_base F.excBase_ValueError (fun Y => PySem.HandSPX.refsVE_contains Y bm hbm) (I2.kIn _ _ hC) he (Nat.zero_le _) fun h' t2 kh hx => ?_))
  have eu : upd (upd H (hp.objs.size + 1) (exo (hp.objs.size + 1) C none)) (hp.objs.size + 1) (exo (hp.objs.size + 1) C none) = upd H (hp.objs.size + 1) (exo (hp.objs.size + 1) C none) := upd_upd
  have J := I2.write (t' := tk) (x := hp.objs.size + 1) (e := hp.objs.size + 1) (o := exo (hp.objs.size + 1) C none) (by rw [upd_same]; exact True.intro) (.inl rfl) kh ⟨_, hx⟩ (exo_ok hx)
  rw [eu] at J
  exact ⟨rfl, V.ref (hp.objs.size + 1), _, J, rfl, h _ (I.hok.fresh up)⟩
/-- e.f, e an exception that stands in the heap -/
def tEf (K : PySem.W.Frag) (f : Str) (te : TE) : TE := fun σ H Q => te σ H fun x H1 => ∃ (a C d : Addr) (fs : List (Str × V)) (v : V), x = .ref a ∧ XfC K C ∧ PySem.W.findIn K (.ref C) f = some none ∧ H1 a = some (exo a C (some d)) ∧ H1 d = some (exd d fs) ∧ fs.lookup f = some v ∧ Q v H1
theorem pe_ef {te : TE} {n : Str} (he : PE X e te) (hb : attributeBase e n X.env (eval e X.env) = eval e X.env := by rfl) : PE X (.Attribute e n pos) (tEf X.K n te) := by
  refine ⟨fun pins s σ H Q I h => ?_⟩
  refine attr_of hb (thn (he.run pins s σ H _ I h) fun u s1 hh => ?_)
  obtain ⟨x, H1, I1, rx, a, C, d, fs, v, ex, T, hno, ha, hd, l, q⟩ := hh
  subst ex
  obtain rfl : u = Value.ref a := rx
  obtain ⟨t1, ho⟩ := exo_at I1.hok ha
  obtain ⟨mA, hns, hr⟩ := exd_at I1.hok hd
  obtain ⟨od, ho2, hl⟩ := lookIn_ns hns
  obtain ⟨u, hu, ru⟩ := RelO.some_of (v := v) (o := mA n) (by rw [← l]; exact hr n)
  have J : PySem.W.InstAt s1.heap a _ C (some od) := ⟨ho, rfl, rfl, ho2⟩
  exact HandSPX.exc_get I1.kIn J T.ga T.gg T.exC (PySem.W.findObj_own T.hdC hno rfl (by rw [hl, hu])) (handed_of ru) ⟨v, H1, I1.tok _, ru, q⟩
/-- isinstance(e, D), e an exception that stands in the heap -/
def rIsX (K : PySem.W.Frag) : List V → Hp → VK → Prop := fun xs H Q => ∃ (a C : Addr) (d : Option Addr) (c : V) (cv : Value) (b : Bool), xs = [.ref a, c] ∧ ExcC K C ∧ H a = some (exo a C d) ∧ (∀ dd, d = some dd → ∃ fs, H dd = some (exd dd fs)) ∧ ClsV c cv ∧ PySem.W.kitOne K (.ref C) cv = some b ∧ Q (.bl b) H
theorem call_isX : CallR X (.builtin "isinstance") (rIsX X.K) := by
  intro pins s σ H xs us Q I r h
  obtain ⟨a, C, d, c, cv, b, rfl, EC, ha, hd, kc, e, q⟩ := h
  obtain ⟨u1, u2, rfl, r1, r2⟩ := vals2 r
  cases r1
  have e2 := kc.eq r2
  subst e2
  obtain ⟨t1, ho⟩ := exo_at I.hok ha
  cases d with
  | none =>
    have J : PySem.W.InstAt s.heap a _ C none := ⟨ho, rfl, rfl, trivial⟩
    exact PySem.W.kia_one (PySem.W.ek_kitx EC.hg EC.hk EC.hs EC.hd EC.ha EC.hn EC.ht EC.hm) I.kIn J e (fun z => nomatch z) fun tk => ⟨.bl b, H, I.kept (t' := tk) fun _ _ z => z, rfl, q⟩
  | some dd =>
    obtain ⟨fs, hx⟩ := hd dd rfl
    obtain ⟨mA, hns, _⟩ := exd_at I.hok hx
    obtain ⟨od, ho2, _⟩ := lookIn_ns hns
    have J : PySem.W.InstAt s.heap a _ C (some od) := ⟨ho, rfl, rfl, ho2⟩
    exact PySem.W.kia_one (PySem.W.ek_kitx EC.hg EC.hk EC.hs EC.hd EC.ha EC.hn EC.ht EC.hm) I.kIn J e (fun z => nomatch z) fun tk => ⟨.bl b, H, I.kept (t' := tk) fun _ _ z => z, rfl, q⟩
end
end EK

/-! the law's state; letters, words and trees -/
namespace Law
open PySem PySem.Spec PyProof.Rows L2 Evl TR NdefX LamX
theorem PenAt.now {p : PenI} {H0 H : Hp} {n : Nat} (P : PenAt p H0 H n) : PenAt p (del H p.d) H n ∧ Ex H0 (del H p.d) := by
  obtain ⟨e0, h0, hc, hl, op, lf, ho, hd⟩ := P
  have nc : p.c ≠ p.d := fun z => by
    rw [z, h0] at hc
    cases hc
  refine ⟨⟨fun b o h => ?_, del_same, by rw [del_ne nc]; exact e0 _ _ hc, hl, op, lf, ho, hd⟩, fun b o h => ?_⟩
  · by_cases hb : b = p.d
    · rw [hb, del_same] at h
      cases h
    · rw [del_ne hb] at h
      exact h
  · rw [del_ne (fun z => by rw [z, h0] at h; cases h)]
    exact e0 _ _ h
theorem tabsN_del {T : List NTab} {H : Hp} {d : Addr} {kvs : List (Key × V)} (t : TabsN T H) (hD : H d = some (.dK kvs)) : TabsN T (del H d) := fun p hp => by
  obtain ⟨ps, h1, h2, h3⟩ := t p hp
  have q : p.1 ≠ d := fun z => by
    rw [z, hD] at h1
    cases h1
  refine ⟨ps, (del_ne q).trans h1, h2, fun pos cv hc => ?_⟩
  obtain ⟨c, e1, e2⟩ := h3 pos cv hc
  refine ⟨c, e1, (del_ne fun z => ?_).trans e2⟩
  rw [z, hD] at e2
  have e3 := Option.some.inj e2
  unfold CodeO at e3
  cases e3
/-- the law's state: the pen over a base without tables, and the tables -/
structure Sta (T : List NTab) (p : PenI) (B H : Hp) (n : Nat) : Prop where
  pen : PenAt p B H n
  nt : NT B
  tabs : TabsN T H
section
variable {T : List NTab} {p : PenI} {B H H' H1 : Hp} {n m : Nat}
theorem Sta.plus (S : Sta T p B H n) : PenAt p (del H p.d) H n := S.pen.now.1
theorem Sta.up (S : Sta T p B H n) : Ex B (del H p.d) := S.pen.now.2
theorem Sta.td (S : Sta T p B H n) : TabsN T (del H p.d) := by
  obtain ⟨kvs, h⟩ := S.pen.dict
  exact tabsN_del S.tabs h
theorem Sta.back (S : Sta T p B H n) (P' : PenAt p (del H p.d) H' m) : Sta T p B H' m where
  pen := ⟨S.up.trans P'.1, S.pen.2.1, S.pen.2.2.1, S.pen.2.2.2.1, P'.2.2.2.2⟩
  nt := S.nt
  tabs := S.td.ext P'.1
theorem Sta.ex (S : Sta T p B H n) (e : Ex H H') : Sta T p B H' n := ⟨S.pen.ex e, S.nt, S.tabs.ext e⟩
theorem Sta.le (S : Sta T p B H n) (h : n ≤ m) : Sta T p B H m := ⟨S.pen.le h, S.nt, S.tabs⟩
theorem Sta.exN (S : Sta T p B H n) (e : ExtN H H') (t : TabsN T H') : Sta T p B H' n where
  pen := by
    obtain ⟨e0, h0, hc, hl, op, lf, ho, hd⟩ := S.pen
    exact ⟨fun b o h => e b o (e0 b o h) (fun ps z => S.nt b ps (by rw [h, z])), h0, hc, hl, op, lf, ho, e _ _ hd (fun ps z => by cases z)⟩
  nt := S.nt
  tabs := t
theorem Sta.bn (S : Sta T p B H n) (e : ExtN H H') : Ex B H' := fun b o h => e b o (S.pen.1 b o h) (fun ps z => S.nt b ps (by rw [h, z]))
theorem Sta.grow (S : Sta T p B H n) (P' : PenAt p H1 H' m) (e : Ex (del H p.d) H1) : Sta T p (noT H1) H' m ∧ Ex B (noT H1) := by
  obtain ⟨e0, h0, hc, hl, op, lf, ho, hd⟩ := P'
  refine ⟨⟨⟨(noT_ex H1).trans e0, noT_none h0, noT_of hc (fun ps z => by cases z), hl, op, lf, ho, hd⟩, noT_nt H1, S.td.ext (e.trans e0)⟩, fun b o h => ?_⟩
  exact noT_of ((S.up.trans e) b o h) (fun ps z => S.nt b ps (by rw [h, z]))
/-- all that stands is kept -/
theorem Sta.hold (S : Sta T p B H n) : ∃ B', Sta T p B' H n ∧ Ex B B' ∧ ∀ b o, H b = some o → b ≠ p.d → (∀ ps, o ≠ .tbl ps) → B' b = some o := by
  obtain ⟨S', e⟩ := S.grow S.plus (Ex.refl _)
  exact ⟨_, S', e, fun b o h nb nt => noT_of (by rw [del_ne nb]; exact h) nt⟩
end
end Law
namespace Law
open PySem PySem.Spec PyProof.Rows L2 Evl TR EK SG DN NdefX LamX
theorem ta_tup {H H' : Hp} (e : ∀ b ys, H b = some (.tup ys) → H' b = some (.tup ys)) {t : Tr} {v : V} (h : TA true H v t) : TA true H' v t := by
  refine TA.rec (motive_1 := fun v t _ => TA true H' v t) (motive_2 := fun vs ts _ => TAs true H' vs ts) ?_ ?_ ?_ ?_ ?_ h
  · intro a s q h
    exact .go (e _ _ h)
  · intro a n v t h _ ih
    exact .tell (e _ _ h) ih
  · intro a b p vs ts h hb _ ih
    exact .read (e _ _ h) (e _ _ hb) ih
  · exact .nil
  · intro v vs t r _ _ i1 i2
    exact .cons i1 i2
theorem kids_tup {H H' : Hp} (e : ∀ b ys, H b = some (.tup ys) → H' b = some (.tup ys)) : ∀ {vs : List V} {ts : List Tr}, Kids true H vs ts → Kids true H' vs ts
  | _, _, .nil => .nil
  | _, _, .cons h r => .cons (ta_tup e h) (kids_tup e r)
theorem SObj.exN {C : Addr} {H H' : Hp} {o : Addr} {L : List Nat} {w : Nat} {ts : List Tr} (S : SObj C H o L w ts) (e : ExtN H H') : SObj C H' o L w ts := by
  obtain ⟨dx, st, us, h1, h2, h3⟩ := S.ex
  exact ⟨dx, st, us, e _ _ h1 (fun ps z => by cases z), e _ _ h2 (fun ps z => by cases z), kids_tup (fun b ys h => e _ _ h fun ps z => by cases z) h3⟩
theorem bt_total {l w m : Nat} : ∀ {ts us : List Tr}, Paired (BtR l w m) ts us → total us ≤ total ts
  | [], _, .nil => Nat.le_refl _
  | t :: r, _, .cons h q => by
    have h1 := h.sz
    have h2 := bt_total q
    show _ + total _ ≤ t.size + total r
    omega
theorem bt_get {l w m : Nat} : ∀ {ts us : List Tr} {i : Nat} {u : Tr}, Paired (BtR l w m) ts us → us[i]? = some u → ∃ t, ts[i]? = some t ∧ BtR l w m t u
  | _, _, _, _, .nil, h => by simp at h
  | _, _, 0, _, .cons h _, e => ⟨_, rfl, by rw [← Option.some.inj e]; exact h⟩
  | _, _, i + 1, _, .cons _ r, e => bt_get (i := i) r e
structure MatOk (L u : List Nat) (ts : List Tr) : Prop where
  lg : LG L
  l3 : L.length ≤ 3
  w1 : 1 ≤ u.length
  w4 : u.length ≤ 4
  wok : WOk L.length u.length ts
  p81 : L.length ^ (u.length + 1) ≤ 81
  uL : ∀ c ∈ u, c ∈ L
def spMat (Tn : List NTab) : Sp := fun vs H Q _ => ∃ (p : PenI) (B : Hp) (n : Nat), vs = [.ref p.d, .int 4] ∧ Sta Tn p B H n ∧ n ≤ 700000 ∧
  ∀ H' B' r wa ta L u more us ts, Ex B B' → Sta Tn p B' H' (n + 20000) → B' r = some (.tup [.str (tx L), .ref wa, .ref ta]) → B' wa = some (.lst (.str (tx u) :: more)) → B' ta = some (.lst us) → Kids true B' us ts → MatOk L u ts → Q (.ref r) H'
section
variable {P : Program} {w : World} {K : PySem.W.Frag} {mg : Str → Option Value} {base : Heap} {Tn : List NTab} {CS : Addr} {ws : List Way}
theorem ok_lmatter {f : Addr} {fd : FuncData} (F : Fun K "_law_matter_of" "_law_matter_of" s_lmatter_of f fd) (T : Tx mg) (SS : SC K CS) (hws : ∀ z ∈ waysS, ∃ p ∈ ws, p.1 = z ∧ ∀ L W : List Nat, WdG L W → W.length ≤ 6 → WOk L.length W.length (p.2.2 L W))
    (c_ldraw : Kn P w K mg base "_law_draw" ["_law_pen", "_law_many"] 1 spDraw) (c_pickL : Kn P w K mg base "_law_pick" ["_law_pen", "_law_menu"] 2 spPickL) (c_lletters_of : Kn P w K mg base "_law_letters_of" ["_law_pen", "_law_many"] 2 spLetOf)
    (c_lword_of : Kn P w K mg base "_law_word_of" ["_law_pen", "_law_letters", "_law_size"] 3 spWordOf) (c_ltree_of : Kn P w K mg base "_law_tree_of" ["_law_pen", "_law_letters", "_law_width", "_law_many", "_law_depth"] 7 (spTree 4))
    (c_made : Kn P w K mg base "made" ["letters", "word", "way"] 44 (spMade Tn CS ws)) (c_lmade_ways : Kn P w K mg base "_law_made_ways" [] 1 spWays) (c_lbent_tree : Kn P w K mg base "_law_bent_tree" ["_law_pen", "_law_tree", "_law_width", "_law_many", "_law_chance"] 42 (spBent 40)) :
    FnOk P w K mg base CX0 45 f fd ["_law_pen", "_law_most"] (spMat Tn) := by
  refine F.ok sc_lmatter_of (fun vs H Q E h => ?_) (fun cdv A outer s H vs Q E hr h => ?_)
  · obtain ⟨p, B, n, rfl, _⟩ := h
    rfl
  · obtain ⟨p, B, n, rfl, S0, hn, q⟩ := h
    refine ⟨_, (pss_cons (ps_set (i := 2) sc_lmatter_of.nd rfl (Or.inr rfl) (pe_call c_lletters_of.ok (hr.mono (by decide)) (by rfl) c_lletters_of.g c_lletters_of.kp c_lletters_of.b .nil pass0 (pa_cons (pv 0) (pa_cons (pe_call c_pickL.ok (hr.mono (by decide)) (by rfl) c_pickL.g c_pickL.kp c_pickL.b .nil pass0 (pa_cons (pv 0) (pa_cons (pe_lst (pa_cons pe_int (pa_cons pe_int (pa_cons pe_int pa_nil)))) pa_nil))) pa_nil))))
      (pss_cons (ps_set (i := 3) sc_lmatter_of.nd rfl (Or.inr rfl) (pe_op op_add pe_int (pe_call c_ldraw.ok (hr.mono (by decide)) (by rfl) c_ldraw.g c_ldraw.kp c_ldraw.b .nil pass0 (pa_cons (pv 0) (pa_cons (pe_ifExp (pt_cmpR op_eq (pe_callB call_len_str (by rfl) T.len PySem.boot_len (pa_cons (pv 2) pa_nil)) pe_int (nomark _)) (pv 1) (pe_op op_sub (pv 1) pe_int)) pa_nil)))))
      (pss_cons (ps_set (i := 4) sc_lmatter_of.nd rfl (Or.inl rfl) (pe_lst (pa_cons (pe_call c_lword_of.ok (hr.mono (by decide)) (by rfl) c_lword_of.g c_lword_of.kp c_lword_of.b .nil pass0 (pa_cons (pv 0) (pa_cons (pv 2) (pa_cons (pv 3) pa_nil)))) pa_nil)))
      (pss_cons (ps_set (i := 5) sc_lmatter_of.nd rfl (Or.inr rfl) (pe_call c_ldraw.ok (hr.mono (by decide)) (by rfl) c_ldraw.g c_ldraw.kp c_ldraw.b .nil pass0 (pa_cons (pv 0) (pa_cons pe_int pa_nil))))
      (pss_cons (ps_if (pt_cmpR op_eq (pv 5) pe_int (nomark _)) (pss_cons (ps_set (i := 6) sc_lmatter_of.nd rfl (Or.inl rfl) (pe_call c_lword_of.ok (hr.mono (by decide)) (by rfl) c_lword_of.g c_lword_of.kp c_lword_of.b .nil pass0 (pa_cons (pv 0) (pa_cons (pv 2) (pa_cons (pv 3) pa_nil)))))
      (pss_one (ps_set (i := 4) sc_lmatter_of.nd rfl (Or.inl rfl) (pe_op op_cat (pv 4) (pe_op op_rep (pe_lst (pa_cons (pv 6) pa_nil)) (pe_callTy call_int1 (by rfl) T.int PyProof.Rows.boot_int (pa_cons (pe_cmpR op_ne (pv 6) (pe_ix ix_list (pv 4) pe_int (fun _ _ => rfl)) (nomark _)) pa_nil))))))) pss_nil)
      (pss_cons (ps_if (pt_cmpR op_ge (pv 5) pe_int (nomark _)) (pss_cons (ps_set (i := 7) sc_lmatter_of.nd rfl (Or.inr rfl) (pe_op op_add pe_int (pe_call c_ldraw.ok (hr.mono (by decide)) (by rfl) c_ldraw.g c_ldraw.kp c_ldraw.b .nil pass0 (pa_cons (pv 0) (pa_cons pe_int pa_nil)))))
      (pss_one (ps_ret (pe_tup (pa_cons (pv 2) (pa_cons (pv 4) (pa_cons (pe_lc (own := [("_law_k", 8)]) (g := gName 8) (tt := tYes) rfl sc_lmatter_of.nd (pi_range1 (by rfl) T.range (pa_cons (pv 7) pa_nil)) (blkOk_by (N := N_lmatter_of) (sc := defScope s_lmatter_of) (by decide +kernel)) (fun _ _ _ _ _ => (pg_name (i := 8) sc_lmatter_of.nd rfl (Or.inl rfl))) (fun _ _ _ _ _ => pts_nil) (fun _ _ _ _ _ => (pe_call c_ltree_of.ok (hr.mono (by decide)) (by rfl) c_ltree_of.g c_ltree_of.kp c_ltree_of.b .nil pass0 (pa_cons (pv 0) (pa_cons (pv 2) (pa_cons (pv 3) (pa_cons (pv 7) (pa_cons pe_int pa_nil)))))))) pa_nil))))))) pss_nil)
      (pss_cons (ps_set (i := 9) sc_lmatter_of.nd rfl (Or.inr rfl) (pe_callTy call_list_of (by rfl) T.list PyProof.Rows.boot_list (pa_cons (pe_fld (pe_call c_made.ok (hr.mono (by decide)) (by rfl) c_made.g c_made.kp c_made.b .nil pass0 (pa_cons (pv 2) (pa_cons (pe_ix ix_list (pv 4) pe_int (fun _ _ => rfl)) (pa_cons (pe_call c_pickL.ok (hr.mono (by decide)) (by rfl) c_pickL.g c_pickL.kp c_pickL.b .nil pass0 (pa_cons (pv 0) (pa_cons (pe_call0 c_lmade_ways.ok (hr.mono (by decide)) (by rfl) c_lmade_ways.g c_lmade_ways.kp c_lmade_ways.b .nil pass0) pa_nil))) pa_nil)))) rfl) pa_nil)))
      (pss_cons (ps_if (pt_cmpR op_gt (pv 5) pe_int (nomark _)) (pss_one (ps_set (i := 9) sc_lmatter_of.nd rfl (Or.inr rfl) (pe_lc (own := [("_law_tree", 10)]) (g := gName 10) (tt := tYes) rfl sc_lmatter_of.nd (pi_list (pv 9)) (blkOk_by (N := N_lmatter_of) (sc := defScope s_lmatter_of) (by decide +kernel)) (fun _ _ _ _ _ => (pg_name (i := 10) sc_lmatter_of.nd rfl (Or.inl rfl))) (fun _ _ _ _ _ => pts_nil) (fun _ _ _ _ _ => (pe_call c_lbent_tree.ok (hr.mono (by decide)) (by rfl) c_lbent_tree.g c_lbent_tree.kp c_lbent_tree.b .nil pass0 (pa_cons (pv 0) (pa_cons (pv 10) (pa_cons (pv 3) (pa_cons (pe_callB (show CallR _ _ (TR.rLenQ K) from call_len_seq) (by rfl) T.len PySem.boot_len (pa_cons (pv 9) pa_nil)) (pa_cons (pe_op op_mul pe_int (pv 5)) pa_nil)))))))))) pss_nil)
      (pss_one (ps_ret (pe_tup (pa_cons (pv 2) (pa_cons (pv 4) (pa_cons (pv 9) pa_nil)))))))))))))), ?_⟩
    refine ⟨_, rfl, _, rfl, by show 3 ≤ sizeLine; decide, fun a1 h1 => ?_⟩
    have S1 := S0.ex (Ex.new (o := HO.lst [.int 2, .int 2, .int 3]) h1)
    refine ⟨p, _, a1, n, _, rfl, S1.plus, by omega, upd_same, by show 0 < 3; decide, by show 3 < 1000; decide, fun H2 v P2 hv => ?_⟩
    have S2 := S1.back P2
    obtain ⟨m, m2, m3, rfl⟩ : ∃ m : Nat, 2 ≤ m ∧ m ≤ 3 ∧ v = .int (m : Nat) := by
      rcases List.mem_cons.mp hv with h | hv
      · exact ⟨2, by decide, by decide, h⟩
      rcases List.mem_cons.mp hv with h | hv
      · exact ⟨2, by decide, by decide, h⟩
      exact ⟨3, by decide, by decide, List.mem_singleton.mp hv⟩
    refine ⟨p, _, n + 1, m, rfl, S2.plus, by omega, m2, by omega, fun H3 L P3 hL lL => ?_⟩
    have S3 := S2.back P3
    subst lL
    dsimp only [gName]
    refine st_eq (show _ = [some (.ref p.d), some (.int 4), some (.str (tx L)), none, none, none, none, none, none, none, none] from rfl) ?_
    have l2 := hL.lo
    refine' cut2 (fun σ' H' => ∃ wd : Nat, σ' = [some (.ref p.d), some (.int 4), some (.str (tx L)), some (.int (wd : Nat)), none, none, none, none, none, none, none] ∧ Sta Tn p B H' (n + 5) ∧ 1 ≤ wd ∧ wd ≤ 4 ∧ L.length ^ (wd + 1) ≤ 81) (fun kk => ?_) ?_
    rotate_left
    · refine ⟨_, rfl, _, rfl, _, rfl, tx_le (by omega), rfl, _, rfl, ?_⟩
      rw [tx_len]
      by_cases h2 : L.length = 2
      · refine ite2 (fun _ => ?_) (fun hb => absurd (decide_eq_true (by rw [h2]; rfl)) hb)
        refine ⟨_, rfl, p, _, _, 4, rfl, S3.plus, by omega, by decide, by decide, fun H4 r P4 r0 r1 => ⟨_, _, rfl, rfl, ?_⟩⟩
        obtain ⟨rn, rfl⟩ : ∃ rn : Nat, r = (rn : Int) := ⟨r.toNat, (Int.toNat_of_nonneg r0).symm⟩
        refine kk _ _ ⟨1 + rn, rfl, (S3.back P4).le (by omega), by omega, by omega, ?_⟩
        rw [h2]
        exact Nat.le_trans (Nat.pow_le_pow_right (by decide) (show 1 + rn + 1 ≤ 5 by omega)) (by decide)
      · refine ite2 (fun hb => absurd (V.int.inj (of_decide_eq_true hb)) (by omega)) (fun _ => ?_)
        refine ⟨_, rfl, _, _, rfl, rfl, p, _, _, 3, rfl, S3.plus, by omega, by decide, by decide, fun H4 r P4 r0 r1 => ⟨_, _, rfl, rfl, ?_⟩⟩
        obtain ⟨rn, rfl⟩ : ∃ rn : Nat, r = (rn : Int) := ⟨r.toNat, (Int.toNat_of_nonneg r0).symm⟩
        refine kk _ _ ⟨1 + rn, rfl, (S3.back P4).le (by omega), by omega, by omega, ?_⟩
        rw [show L.length = 3 by omega]
        exact Nat.le_trans (Nat.pow_le_pow_right (by decide) (show 1 + rn + 1 ≤ 4 by omega)) (by decide)
    intro σ' H4 hh
    obtain ⟨wd, rfl, S4, w1, w4, p81⟩ := hh
    refine ⟨_, rfl, _, rfl, _, rfl, p, _, _, wd, L, rfl, S4.plus, by omega, by omega, by omega, by omega, fun H5 u P5 hu => ⟨by show 1 ≤ sizeLine; decide, fun wa hwa => ?_⟩⟩
    have S5 := (S4.back P5).ex (Ex.new (o := HO.lst [.str (tx u)]) hwa)
    have hwa5 : (L2.upd H5 wa (.lst [.str (tx u)])) wa = some (.lst [.str (tx u)]) := upd_same
    have nwd : wa ≠ p.d := fun z => by
      obtain ⟨kvs, hd⟩ := S5.pen.dict
      rw [← z, hwa5] at hd
      cases hd
    generalize (L2.upd H5 wa (.lst [.str (tx u)])) = H6 at S5 hwa5 ⊢
    dsimp only [gName]
    refine st_eq (show _ = [some (.ref p.d), some (.int 4), some (.str (tx L)), some (.int (wd : Nat)), some (.ref wa), none, none, none, none, none, none] from rfl) ?_
    refine ⟨_, rfl, p, _, _, 6, rfl, S5.plus, by omega, by decide, by decide, fun H7 r P7 r0 r1 => ?_⟩
    obtain ⟨wy, rfl⟩ : ∃ wy : Nat, r = (wy : Int) := ⟨r.toNat, (Int.toNat_of_nonneg r0).symm⟩
    have S7 := S5.back P7
    have hwa7 := P7.1 _ _ (show (del H6 p.d) wa = _ by rw [del_ne nwd]; exact hwa5)
    dsimp only [gName]
    refine st_eq (show _ = [some (.ref p.d), some (.int 4), some (.str (tx L)), some (.int (wd : Nat)), some (.ref wa), some (.int (wy : Nat)), none, none, none, none, none] from rfl) ?_
    obtain ⟨lu, hof⟩ := hu
    refine' cut2 (fun σ' H' => ∃ (y6 : Option V) (wb : Addr) (more : List V) (B1 : Hp), σ' = [some (.ref p.d), some (.int 4), some (.str (tx L)), some (.int (wd : Nat)), some (.ref wb), some (.int (wy : Nat)), y6, none, none, none, none] ∧ Ex B B1 ∧ Sta Tn p B1 H' (n + 20) ∧ B1 wb = some (.lst (.str (tx u) :: more)) ∧ 0 ≤ wy) (fun kk => ?_) ?_
    rotate_left
    · refine ⟨_, rfl, rfl, _, rfl, ite2 (fun hb => ?_) (fun hb => ?_)⟩
      · refine ⟨_, rfl, _, rfl, _, rfl, p, _, _, wd, L, rfl, S7.plus, by omega, by omega, by omega, by omega, fun H8 o P8 ho => ?_⟩
        have S8 := S7.back P8
        have hwa8 := P8.1 _ _ (show (del H7 p.d) wa = _ by rw [del_ne nwd]; exact hwa7)
        dsimp only [gName]
        refine st_eq (show _ = [some (.ref p.d), some (.int 4), some (.str (tx L)), some (.int (wd : Nat)), some (.ref wa), some (.int (wy : Nat)), some (.str (tx o)), none, none, none, none] from rfl) ?_
        refine ⟨_, rfl, _, rfl, by show 1 ≤ sizeLine; decide, fun a2 h2 => ?_⟩
        have z2 := Ex.new (o := HO.lst [.str (tx o)]) h2
        refine ⟨_, rfl, _, rfl, wa, _, _, _, rfl, rfl, sq_of (z2 _ _ hwa8), atI_nat (j := 0) rfl, rfl, ?_⟩
        generalize (!decide (V.str (tx o) = V.str (tx u))) = c
        refine .inr ⟨c, rfl, ?_⟩
        obtain ⟨k, hk1, hk⟩ : ∃ k : Nat, k ≤ 1 ∧ (if c = true then (1 : Int) else 0) = (k : Int) := by
          cases c
          · exact ⟨0, by decide, rfl⟩
          · exact ⟨1, by decide, rfl⟩
        rw [hk]
        refine ⟨a2, (k : Int), _, rfl, rfl, upd_same, by omega, by omega, ?_, fun a3 h3 => ?_⟩
        · rw [Int.toNat_natCast]
          show 1 * k ≤ _
          exact sz_le (by omega)
        rw [Int.toNat_natCast]
        have lk : (List.replicate k [V.str (tx o)]).flatten.length ≤ 1 := by
          rcases Nat.le_one_iff_eq_zero_or_eq_one.mp hk1 with z | z
          · rw [z]
            exact Nat.zero_le _
          · rw [z]
            exact Nat.le_refl 1
        generalize (List.replicate k [V.str (tx o)]).flatten = more at h3 lk
        have z3 := Ex.new (o := HO.lst more) h3
        refine ⟨wa, a3, _, _, rfl, rfl, (z2.trans z3) _ _ hwa8, upd_same, ?_, fun a4 h4 => ?_⟩
        · show 1 + more.length ≤ _
          exact sz_le (by omega)
        have z4 := Ex.new (o := HO.lst ([.str (tx u)] ++ more)) h4
        have S9 := S8.ex ((z2.trans z3).trans z4)
        have hw9 : (L2.upd (L2.upd (L2.upd H8 a2 (.lst [.str (tx o)])) a3 (.lst more)) a4 (.lst ([.str (tx u)] ++ more))) a4 = some (.lst ([.str (tx u)] ++ more)) := upd_same
        have nw4 : a4 ≠ p.d := fun z => by
          obtain ⟨kvs, hd⟩ := S9.pen.dict
          rw [← z, hw9] at hd
          cases hd
        obtain ⟨B1, S10, e1, hk⟩ := S9.hold
        dsimp only [gName]
        refine kk _ _ ⟨_, a4, more, B1, rfl, e1, S10.le (by omega), hk _ _ hw9 nw4 (fun ps z => by cases z), Nat.zero_le _⟩
      · obtain ⟨B1, S8, e1, hk⟩ := S7.hold
        exact kk _ _ ⟨none, wa, [], B1, rfl, e1, S8.le (by omega), hk _ _ hwa7 nwd (fun ps z => by cases z), Nat.zero_le _⟩
    intro σ' H8 hh
    obtain ⟨y6, wb, more, B1, rfl, e1, S8, hwb, _⟩ := hh
    have hwb8 := S8.pen.1 _ _ hwb
    refine' cut2 (fun σ' H' => σ' = [some (.ref p.d), some (.int 4), some (.str (tx L)), some (.int (wd : Nat)), some (.ref wb), some (.int (wy : Nat)), y6, none, none, none, none] ∧ H' = H8 ∧ wy < 4) (fun kk => ?_) ?_
    rotate_left
    · refine ⟨_, rfl, _, _, rfl, rfl, _, rfl, ite2 (fun hb => ?_) (fun hb => ?_)⟩
      · refine ⟨_, rfl, p, _, _, 3, rfl, S8.plus, by omega, by decide, by decide, fun H9 r9 P9 q0 q1 => ⟨_, _, rfl, rfl, ?_⟩⟩
        obtain ⟨mm, rfl⟩ : ∃ mm : Nat, r9 = (mm : Int) := ⟨r9.toNat, (Int.toNat_of_nonneg q0).symm⟩
        have S9 := S8.back P9
        dsimp only [gName]
        refine st_eq (show _ = [some (.ref p.d), some (.int 4), some (.str (tx L)), some (.int (wd : Nat)), some (.ref wb), some (.int (wy : Nat)), y6, some (.int ((1 + mm : Nat) : Int)), none, none, none] from rfl) ?_
        have mb : 1 + mm ≤ 3 := by omega
        have m1 : 1 ≤ 1 + mm := by omega
        generalize 1 + mm = m at mb m1 ⊢
        have P9' := S9.plus
        have up9 := S9.up
        refine ⟨_, rfl, _, rfl, _, rfl, _, rfl, by omega, by omega, fun D hD => ?_⟩
        rw [Int.toNat_natCast]
        have d0 := fresh0 P9' hD
        have d1 := fresh_ne P9' hD
        have d2 := fresh_nc P9' hD
        have n3 : ndT 3 = 106 := rfl
        have s3 : szT 3 = 53 := rfl
        refine lc_range (lo := 0) (n := m) (fun i H' => ∃ (Hb : Hp) (zs : List V) (ts : List Tr), Ex (del H9 p.d) Hb ∧ PenAt p Hb H' (n + 21 + i * 106) ∧ Hb D = some (.lst zs) ∧ Kids true Hb zs ts ∧ ts.length = i ∧ ∀ t ∈ ts, t.ok L.length wd m ∧ t.depth ≤ 4 ∧ t.size ≤ 53)
          ⟨L2.upd (del H9 p.d) D (.lst []), [], [], Ex.new d0, (P9'.both d1 d2).le (by omega), upd_same, .nil, rfl, fun t ht => nomatch ht⟩ (fun i H' hi hw => ?_) (fun H' hw => ?_)
        · obtain ⟨Hb, zs, ts, e, Pb, hz, KK, hl, hall⟩ := hw
          have lz := KK.len
          refine ⟨rfl, _, rfl, _, rfl, _, rfl, _, rfl, p, Hb, _, 3, L, wd, m, rfl, by decide, Pb, by omega, l2, by omega, w1, by omega, m1, by omega, fun H3 H4 v t e3 P4 hta tok tdp tsz => ?_⟩
          have hz1 := e3 _ _ hz
          refine ⟨zs, P4.1 _ _ hz1, sz_lt (by omega), L2.upd H3 D (.lst (zs ++ [v])), zs ++ [v], ts ++ [t], (e.trans e3).mut d0, (P4.both d1 d2).le (by omega), upd_same, ?_, ?_, ?_⟩
          · refine Kids.upd (fun ys hh => ?_) ((KK.ex e3).snoc hta)
            rw [hz1] at hh
            cases hh
          · rw [List.length_append, hl]
            rfl
          · intro x hx
            rcases List.mem_append.mp hx with h | h
            · exact hall x h
            · rw [List.mem_singleton.mp h]
              exact ⟨tok, tdp, tsz⟩
        · obtain ⟨Hb, zs, ts, e, Pb, hz, KK, hl, hall⟩ := hw
          refine ⟨by show 3 ≤ sizeLine; decide, fun r hr => ?_⟩
          obtain ⟨Pd, ed⟩ := Pb.made (o := .tup [.str (tx L), .ref wb, .ref D]) hr
          obtain ⟨S10, e10⟩ := S9.grow Pd (e.trans ed)
          have tot := total_leD (s := 53) fun t ht => (hall t ht).2.2
          rw [hl] at tot
          have hn := noT_n (L2.upd Hb r (.tup [.str (tx L), .ref wb, .ref D]))
          refine q _ _ r wb D L u more zs ts (e1.trans e10) (S10.le (by omega)) (noT_of upd_same fun ps z => by cases z) (e10 _ _ hwb) (noT_of (ed _ _ hz) fun ps z => by cases z) (kids_tup (fun b ys h => hn _ _ h fun ps z => by cases z) (KK.ex ed)) ⟨hL, m3, by rw [lu]; exact w1, by rw [lu]; exact w4, ?_, by rw [lu]; exact p81, hof⟩
          rw [lu]
          exact ⟨by omega, by omega, fun t ht => by rw [hl]; exact ⟨(hall t ht).1, by have := (hall t ht).2.1; omega⟩, by omega⟩
      · refine kk _ _ ⟨rfl, rfl, ?_⟩
        have : ¬ ((4 : Int) ≤ (wy : Int)) := fun z => hb (decide_eq_true z)
        omega
    intro σ' H8' hh
    obtain ⟨rfl, rfl, e80⟩ := hh
    have nwb : wb ≠ p.d := fun z => by
      obtain ⟨kvs, hd⟩ := S8.pen.dict
      rw [← z, hwb8] at hd
      cases hd
    refine ⟨_, rfl, _, rfl, wb, _, _, _, rfl, rfl, sq_of hwb8, atI_nat (j := 0) rfl, _, rfl, rfl, fun wl H9 e9 hwl0 hwl => ?_⟩
    have S9 := S8.ex e9
    refine ⟨p, _, wl, n + 20, _, rfl, S9.plus, by omega, hwl, by show 0 < 11; decide, by show 11 < 1000; decide, fun H10 v P10 hv => ?_⟩
    have S10 := S9.back P10
    obtain ⟨z, hz, rfl⟩ := List.mem_map.mp hv
    obtain ⟨wp, hwp, rfl, hwok⟩ := hws z hz
    have hWd : WdG L u := ⟨hL, by omega, by omega, hof⟩
    have wok := hwok L u hWd (by omega)
    refine ⟨L, u, wp, rfl, hWd, hwp, wok, S10.tabs, fun o H11 e11 T11 SO => ?_⟩
    have S11 := S10.exN e11 T11
    generalize wp.2.2 L u = ts at wok SO
    obtain ⟨dx, sta, us, hob, hsta, KK⟩ := SO.ex
    refine ⟨o, CS, dx, _, _, rfl, hob, SS.cl, SS.ns, sF3, sta, us, rfl, .inr (st_of hsta), fun tl htl => ?_⟩
    have S12 := S11.ex (Ex.new (o := HO.lst us) htl)
    have x12 := Ex.new (o := HO.lst us) htl
    have htl12 : (L2.upd H11 tl (.lst us)) tl = some (.lst us) := upd_same
    have KK12 := KK.ex x12
    generalize (L2.upd H11 tl (.lst us)) = H12 at S12 htl12 KK12 ⊢
    have ntl : tl ≠ p.d := fun z => by
      obtain ⟨kvs, hd⟩ := S12.pen.dict
      rw [← z, htl12] at hd
      cases hd
    have lus := KK12.len
    obtain ⟨ln1, ln64, lok, lsz⟩ := id wok
    rw [lu] at lok
    dsimp only [gName]
    refine st_eq (show _ = [some (.ref p.d), some (.int 4), some (.str (tx L)), some (.int (wd : Nat)), some (.ref wb), some (.int (wy : Nat)), y6, none, none, some (.ref tl), none] from rfl) ?_
    have fin : ∀ (H' B' : Hp) (m : Nat) (ta : Addr) (zs : List V) (ts' : List Tr), Ex B1 B' → Sta Tn p B' H' m → m ≤ n + 19000 → B' ta = some (.lst zs) → Kids true B' zs ts' → WOk L.length u.length ts' → ∀ r, H' r = none → Q (.ref r) (L2.upd H' r (.tup [.str (tx L), .ref wb, .ref ta])) := by
      intro H' B' m ta zs ts' x1 S hm hta KK' wok' r hr
      have S' := S.ex (Ex.new (o := HO.tup [.str (tx L), .ref wb, .ref ta]) hr)
      obtain ⟨B2, S2, x2, hk⟩ := S'.hold
      have nr : r ≠ p.d := fun z => by
        obtain ⟨kvs, hd⟩ := S.pen.dict
        rw [z, hd] at hr
        cases hr
      exact q _ B2 r wb ta L u more zs ts' ((e1.trans x1).trans x2) (S2.le (by omega)) (hk _ _ upd_same nr (fun ps z => by cases z)) (x2 _ _ (x1 _ _ hwb)) (x2 _ _ hta) (KK'.ex x2) ⟨hL, m3, by rw [lu]; exact w1, by rw [lu]; exact w4, wok', by rw [lu]; exact p81, hof⟩
    obtain ⟨B2, S13, e13, hk13⟩ := S12.hold
    refine' cut2 (fun σ' H' => ∃ (B' : Hp) (m : Nat) (ta : Addr) (zs : List V) (ts' : List Tr) (y10 : Option V), σ' = [some (.ref p.d), some (.int 4), some (.str (tx L)), some (.int (wd : Nat)), some (.ref wb), some (.int (wy : Nat)), y6, none, none, some (.ref ta), y10] ∧ Ex B1 B' ∧ Sta Tn p B' H' m ∧ m ≤ n + 19000 ∧ B' ta = some (.lst zs) ∧ Kids true B' zs ts' ∧ WOk L.length u.length ts') (fun kk => ?_) ?_
    rotate_left
    · refine ⟨_, rfl, _, _, rfl, rfl, _, rfl, ite2 (fun hb => ?_) (fun hb => ?_)⟩
      · have hwy : 0 < wy := by
          have := of_decide_eq_true hb
          omega
        have P12 := S12.plus
        have up12 := S12.up
        refine ⟨_, rfl, tl, rfl, ⟨us, sq_of htl12⟩, fun D hD => ?_⟩
        have d0 := fresh0 P12 hD
        have d1 := fresh_ne P12 hD
        have d2 := fresh_nc P12 hD
        have ntb : (del H12 p.d) tl = some (.lst us) := by rw [del_ne ntl]; exact htl12
        have KKb : Kids true (del H12 p.d) us ts := kids_tup (fun b ys h => by
          rw [del_ne (fun z => by
            obtain ⟨kvs, hd⟩ := S12.pen.dict
            rw [z, hd] at h
            cases h)]
          exact h) KK12
        refine lc_it (walk_list (K := K) (a := tl) (xs := us)) (fun i H' => ∃ (Hb : Hp) (zs : List V) (us' : List Tr) (c : Nat), Ex (del H12 p.d) Hb ∧ PenAt p Hb H' (n + 21 + 3 * c) ∧ c + total (ts.drop i) ≤ total ts ∧ Hb D = some (.lst zs) ∧ Kids true Hb zs us' ∧ Paired (BtR L.length wd ts.length) (ts.take i) us')
          ⟨L2.upd (del H12 p.d) D (.lst []), [], [], 0, Ex.new d0, (P12.both d1 d2).le (by omega), by rw [List.drop_zero, Nat.zero_add]; exact Nat.le_refl _, upd_same, .nil, .nil⟩ (fun i H' _ hp => sq_of (by obtain ⟨_, _, _, _, x, Pp, _⟩ := hp; exact Pp.1 _ _ (x _ _ ntb))) (fun i x H' H9 hi hp hy => ?_) (fun H' hp => ?_)
        · obtain ⟨Hb, zs, us', c, e, Pb, hc, hz, KK', PP⟩ := hp
          obtain ⟨rfl, hx⟩ := hy
          obtain ⟨t0, ht0, hta⟩ := KKb.get hx
          have lz := KK'.len
          have lup := PP.length
          rw [List.length_take] at lup
          have hdr : ts.drop i = t0 :: ts.drop (i + 1) := by
            rw [List.drop_eq_getElem_cons (List.getElem?_eq_some_iff.mp ht0).1]
            rw [(List.getElem?_eq_some_iff.mp ht0).2]
          rw [hdr] at hc
          have hc : c + (t0.size + total (ts.drop (i + 1))) ≤ total ts := hc
          have hm := lok t0 (List.mem_of_getElem? ht0)
          refine ⟨rfl, _, rfl, _, rfl, _, rfl, _, rfl, tl, us, rfl, .inl (sq_of (Pb.1 _ _ (e _ _ ntb))), _, rfl, _, _, rfl, rfl, .inl ⟨by decide, by decide⟩, p, Hb, n + 21 + 3 * c, x, t0, L.length, wd, ts.length, 9 * wy, ?_, Pb, hta.ex e, hm.1, w1, by omega, ln1, ln64, by omega, by omega, hm.2, by omega, by omega, fun Ha H2 v' t' x1 P2 ta' R => ?_⟩
          · rw [lus]
            rfl
          have hz1 := x1 _ _ hz
          refine ⟨zs, P2.1 _ _ hz1, sz_lt (by omega), L2.upd Ha D (.lst (zs ++ [v'])), zs ++ [v'], us' ++ [t'], c + t0.size, (e.trans x1).mut d0, ?_, by omega, upd_same, ?_, ?_⟩
          · rw [show n + 21 + 3 * (c + t0.size) = n + 21 + 3 * c + 3 * t0.size by omega]
            exact P2.both d1 d2
          · refine Kids.upd (fun ys hh => ?_) ((KK'.ex x1).snoc ta')
            rw [hz1] at hh
            cases hh
          · rw [take_next' ht0]
            exact Paired.snoc PP R
        · obtain ⟨Hb, zs, us', c, e, Pb, hc, hz, KK', PP⟩ := hp
          rw [lus, List.take_length] at PP
          have hc : c ≤ total ts := by omega
          obtain ⟨S14, e14⟩ := S12.grow Pb e
          have hn := noT_n Hb
          have lp := PP.length
          dsimp only [gName]
          refine kk _ _ ⟨noT Hb, _, D, zs, us', none, rfl, e14, S14, by omega, noT_of hz (fun ps z => by cases z), kids_tup (fun b ys h => hn _ _ h fun ps z => by cases z) KK', ?_⟩
          rw [lu]
          refine ⟨by omega, by omega, fun t ht => ?_, Nat.le_trans (bt_total PP) lsz⟩
          rw [← lp]
          obtain ⟨i, hi⟩ := List.getElem?_of_mem ht
          obtain ⟨t1, h1, h2⟩ := bt_get PP hi
          exact ⟨h2.ok, by have := h2.dp; have := (lok t1 (List.mem_of_getElem? h1)).2; omega⟩
      · refine kk _ _ ⟨B2, _, tl, us, ts, none, rfl, e13, S13, by omega, hk13 _ _ htl12 ntl (fun ps z => by cases z), kids_tup (fun b ys h => hk13 _ _ h (fun z => ?_) fun ps z => by cases z) KK12, wok⟩
        obtain ⟨kvs, hd⟩ := S12.pen.dict
        rw [z, hd] at h
        cases h
    intro σ' H' hh
    obtain ⟨B', m, ta, zs, ts', y10, rfl, x1, S, hm, hta, KK', wok'⟩ := hh
    exact ⟨_, rfl, _, rfl, _, rfl, by show 3 ≤ sizeLine; decide, fun r hr => fin H' B' m ta zs ts' x1 S hm hta KK' wok' r hr⟩
end
end Law

namespace TR
open PySem PySem.Spec L2 Evl
/-- the place of a letter -/
def ixN : List Nat → Nat → Nat
  | [], _ => 0
  | a :: r, c => if a = c then 0 else ixN r c + 1
theorem ixN_at : ∀ {L : List Nat} {i c : Nat}, L.Nodup → L[i]? = some c → ixN L c = i
  | a :: r, 0, c, _, h => by
    have h2 : a = c := Option.some.inj h
    unfold ixN
    rw [if_pos h2]
  | a :: r, i + 1, c, hn, h => by
    have h2 : r[i]? = some c := h
    have hc := List.mem_of_getElem? h2
    have hne : a ≠ c := fun e => by
      rw [List.nodup_cons] at hn
      exact hn.1 (e ▸ hc)
    unfold ixN
    rw [if_neg hne, ixN_at (List.nodup_cons.mp hn).2 h2]
  | [], _, _, _, h => by cases h
/-! a turn over signs: the reads, the numbers told, the go at the end or none -/
mutual
def Tr.run (L S : List Nat) : Tr → List (Nat × Nat) × List Nat × Option (Nat × Nat)
  | .go s q => ([], [], some (s, q))
  | .tell n t => ((t.run L S).1, n :: (t.run L S).2.1, (t.run L S).2.2)
  | .read p ts => match S[p]? with
    | none => ([], [], none)
    | some c => ((p, c) :: (ts.runAt L S (ixN L c)).1, (ts.runAt L S (ixN L c)).2.1, (ts.runAt L S (ixN L c)).2.2)
def Trs.runAt (L S : List Nat) : Trs → Nat → List (Nat × Nat) × List Nat × Option (Nat × Nat)
  | .nil, _ => ([], [], none)
  | .cons t r, i => match i with
    | 0 => t.run L S
    | j + 1 => r.runAt L S j
end
theorem Trs.runAt_get {L S : List Nat} : ∀ {ts : Trs} {i : Nat} {t : Tr}, ts.list[i]? = some t → ts.runAt L S i = t.run L S
  | .cons t r, 0, u, h => by
    have h2 : t = u := Option.some.inj h
    rw [← h2]
    simp only [Trs.runAt]
  | .cons t r, j + 1, _, h => by
    have h2 := Trs.runAt_get (L := L) (S := S) (ts := r) (i := j) h
    rw [← h2]
    simp only [Trs.runAt]
  | .nil, _, _, h => by cases h
theorem run_go (L S : List Nat) (s q : Nat) : (Tr.go s q).run L S = ([], [], some (s, q)) := by simp only [Tr.run]
theorem run_tell (L S : List Nat) (n : Nat) (t : Tr) : (Tr.tell n t).run L S = ((t.run L S).1, n :: (t.run L S).2.1, (t.run L S).2.2) := by simp only [Tr.run]
theorem run_none {L S : List Nat} {p : Nat} {ts : Trs} (h : S[p]? = none) : (Tr.read p ts).run L S = ([], [], none) := by simp only [Tr.run, h]
theorem run_some {L S : List Nat} {p c i : Nat} {ts : Trs} {t : Tr} (h : S[p]? = some c) (hn : L.Nodup) (hi : L[i]? = some c) (ht : ts.list[i]? = some t) : (Tr.read p ts).run L S = ((p, c) :: (t.run L S).1, (t.run L S).2.1, (t.run L S).2.2) := by
  simp only [Tr.run, h, ixN_at hn hi, Trs.runAt_get ht]
end TR
namespace Law
open PySem PySem.Spec PyProof.Rows L2 Evl TR EK
/-- reads in memory -/
inductive RdA (H : Hp) : List V → List (Nat × Nat) → Prop
  | nil : RdA H [] []
  | cons {a : Addr} {p c : Nat} {us : List V} {rs : List (Nat × Nat)} : H a = some (.tup [.int (p : Nat), .str (sg c)]) → RdA H us rs → RdA H (.ref a :: us) ((p, c) :: rs)
theorem RdA.ex {H H' : Hp} (e : Ex H H') : ∀ {us : List V} {rs : List (Nat × Nat)}, RdA H us rs → RdA H' us rs
  | _, _, .nil => .nil
  | _, _, .cons h r => .cons (e _ _ h) (RdA.ex e r)
theorem RdA.upd {H : Hp} {a : Addr} {o : HO} (hn : ∀ xs, H a ≠ some (.tup xs)) : ∀ {us : List V} {rs : List (Nat × Nat)}, RdA H us rs → RdA (L2.upd H a o) us rs
  | _, _, .nil => .nil
  | _, _, .cons (a := b) h r => .cons (by rw [upd_ne (fun q : b = a => hn _ (by rw [← q]; exact h))]; exact h) (RdA.upd hn r)
theorem RdA.snoc {H : Hp} {a : Addr} {p c : Nat} (h : H a = some (.tup [.int (p : Nat), .str (sg c)])) : ∀ {us : List V} {rs : List (Nat × Nat)}, RdA H us rs → RdA H (us ++ [.ref a]) (rs ++ [(p, c)])
  | _, _, .nil => .cons h .nil
  | _, _, .cons h1 r => .cons h1 (RdA.snoc h r)
theorem RdA.len {H : Hp} : ∀ {us : List V} {rs : List (Nat × Nat)}, RdA H us rs → us.length = rs.length
  | _, _, .nil => rfl
  | _, _, .cons _ r => congrArg Nat.succ (RdA.len r)
/-- the go, or None -/
def GoA (H : Hp) (g : V) : Option (Nat × Nat) → Prop
  | none => g = .non
  | some (s, q) => ∃ a, g = .ref a ∧ H a = some (.tup [.str "go", .int (s : Nat), .int (q : Nat)])
abbrev nv (ns : List Nat) : List V := ns.map fun n => V.int (n : Nat)
theorem nv_snoc (ns : List Nat) (n : Nat) : nv ns ++ [.int (n : Nat)] = nv (ns ++ [n]) := by
  unfold nv
  rw [List.map_append]
  rfl
theorem lst_no {H : Hp} {a : Addr} {xs : List V} (h : H a = some (.lst xs)) (ys : List V) : H a ≠ some (.tup ys) := fun z => by
  rw [h] at z
  cases z
theorem sz_m {n : Nat} (h : n ≤ 100000) : n ≤ sizeLine := Nat.le_trans h (by decide)
theorem sz_k {n : Nat} (h : n < 100000) : n < sizeLine := Nat.lt_of_lt_of_le h (by decide)
theorem tx_m {l : List Nat} (h : l.length ≤ 100000) : (tx l).length ≤ sizeLine := by
  rw [tx_len]
  exact sz_m h
theorem iteN {c A B : Prop} [Decidable c] (hc : ¬ c) (h : A) : if (!decide c) = true then A else B := by
  rw [decide_eq_false hc]
  exact (if_pos rfl).mpr h
theorem iteNn {c A B : Prop} [Decidable c] (hc : c) (h : B) : if (!decide c) = true then A else B := by
  rw [decide_eq_true hc]
  exact (if_neg (by decide)).mpr h
def spFol : Sp := fun vs H Q _ => ∃ (t : Tr) (v : V) (L S : List Nat) (wd n : Nat), vs = [v, .str (tx L), .str (tx S)] ∧ TA true H v t ∧ t.ok L.length wd n ∧ L.Nodup ∧ (∀ c ∈ S, c ∈ L) ∧ L.length ≤ 10 ∧ S.length ≤ 100 ∧ t.size ≤ 10000 ∧
  ∀ H' r r1 r2 g us, Ex H H' → H' r = some (.tup [.ref r1, .ref r2, g]) → H' r1 = some (.tup us) → RdA H' us (t.run L S).1 → H' r2 = some (.tup (nv (t.run L S).2.1)) → GoA H' g (t.run L S).2.2 → Q (.ref r) H'
section
variable {P : Program} {w : World} {K : PySem.W.Frag} {mg : Str → Option Value} {base : Heap}
theorem ok_fol {f : Addr} {fd : FuncData} (F : Fun K "followed" "followed" s_followed f fd) (T : Tx mg) : FnOk P w K mg base CX0 1 f fd ["tree", "letters", "signs"] spFol := by
  refine F.ok sc_followed (fun vs H Q E h => ?_) (fun cdv A outer s H vs Q E hr h => ?_)
  · obtain ⟨t, v, L, S, wd, n, rfl, _⟩ := h
    rfl
  · obtain ⟨t, v, L, S, wd, n, rfl, hT, hok, hnd, hS, hL, hS9, hsz, q⟩ := h
    refine ⟨_, (pss_cons (ps_set (i := 3) sc_followed.nd rfl (Or.inl rfl) (pe_lst pa_nil))
      (pss_cons (ps_set (i := 4) sc_followed.nd rfl (Or.inl rfl) (pe_lst pa_nil))
      (pss_cons (ps_while PassesOwn.never (pt_cmpR op_ne (pe_ix ix_seq (pv 0) pe_int (fun _ _ => rfl)) pe_str (nomark _)) (pss_cons (ps_asg (pv 0) (TR.pg_seq (by rfl) (pgs_cons (pg_name (i := 5) sc_followed.nd rfl (Or.inl rfl)) (pgs_cons (pg_name (i := 6) sc_followed.nd rfl (Or.inl rfl)) (pgs_cons (pg_name (i := 7) sc_followed.nd rfl (Or.inl rfl)) pgs_nil)))))
      (pss_one (ps_if (pt_cmpR op_eq (pv 5) pe_str (nomark _)) (pss_cons (ps_expr (pe_bm PySem.F.plainAttrs_list PySem.F.slot_list_append PySem.F.type_list_append mt_append (pv 4) (pa_cons (pv 6) pa_nil)))
      (pss_one (ps_set (i := 0) sc_followed.nd rfl (Or.inl rfl) (pv 7)))) (pss_one (ps_if (pt_cmpR op_lt (pv 6) (pe_callB call_len_str (by rfl) T.len PySem.boot_len (pa_cons (pv 2) pa_nil)) (nomark _)) (pss_cons (ps_expr (pe_bm PySem.F.plainAttrs_list PySem.F.slot_list_append PySem.F.type_list_append mt_append (pv 3) (pa_cons (pe_tup (pa_cons (pv 6) (pa_cons (pe_ix ix_str (pv 2) (pv 6) (fun _ _ => rfl)) pa_nil))) pa_nil)))
      (pss_one (ps_set (i := 0) sc_followed.nd rfl (Or.inl rfl) (pe_ix ix_seq (pv 7) (pe_bm PySem.F.plainAttrs_str PySem.F.slot_str_index PySem.F.type_str_index mt_sindex (pv 1) (pa_cons (pe_ix ix_str (pv 2) (pv 6) (fun _ _ => rfl)) pa_nil)) (fun _ _ => rfl))))) (pss_one (ps_ret (pe_tup (pa_cons (pe_callTy call_tuple_of (by rfl) T.tuple PyProof.Rows.boot_tuple (pa_cons (pv 3) pa_nil)) (pa_cons (pe_callTy call_tuple_of (by rfl) T.tuple PyProof.Rows.boot_tuple (pa_cons (pv 4) pa_nil)) (pa_cons pe_non pa_nil))))))))))))
      (pss_one (ps_ret (pe_tup (pa_cons (pe_callTy call_tuple_of (by rfl) T.tuple PyProof.Rows.boot_tuple (pa_cons (pv 3) pa_nil)) (pa_cons (pe_callTy call_tuple_of (by rfl) T.tuple PyProof.Rows.boot_tuple (pa_cons (pv 4) pa_nil)) (pa_cons (pv 0) pa_nil))))))))), ?_⟩
    refine ⟨Nat.zero_le _, fun l1 hl1 => ⟨Nat.zero_le _, fun l2 hl2 => ?_⟩⟩
    have hl20 : H l2 = none := fresh_back (Ex.new hl1) hl2
    have n12 : l1 ≠ l2 := fun z => by
      rw [← z, upd_same] at hl2
      cases hl2
    have e0 := (Ex.new (o := .lst []) hl1).trans (Ex.new (o := .lst []) hl2)
    refine ⟨fun m σ H' => ∃ (u : Tr) (x : V) (rs : List (Nat × Nat)) (ns : List Nat) (us : List V) (y5 y6 y7 : Option V), σ = [some x, some (.str (tx L)), some (.str (tx S)), some (.ref l1), some (.ref l2), y5, y6, y7] ∧
        Ex H H' ∧ H' l1 = some (.lst us) ∧ RdA H' us rs ∧ H' l2 = some (.lst (nv ns)) ∧ TA true H x u ∧ u.ok L.length wd n ∧ rs ++ (u.run L S).1 = (t.run L S).1 ∧ ns ++ (u.run L S).2.1 = (t.run L S).2.1 ∧ (u.run L S).2.2 = (t.run L S).2.2 ∧
        m = u.size ∧ rs.length + ns.length + u.size ≤ 10000,
      ⟨t.size, t, v, [], [], [], none, none, none, rfl, e0, (by rw [upd_ne n12, upd_same]), .nil, upd_same, hT, hok, rfl, rfl, rfl, rfl, by show 0 + 0 + t.size ≤ 10000; omega⟩, fun m σ H' hw => ?_⟩
    obtain ⟨u, x, rs, ns, us, y5, y6, y7, rfl, e, h1, hR, h2, hX, uok, q1, q2, q3, hm, hb⟩ := hw
    have lus := hR.len
    -- the end: two new tuples and the triple
    have fin : ∀ (g : V) (H1 : Hp), Ex H' H1 → (∀ H2, Ex H1 H2 → GoA H2 g (t.run L S).2.2) → rs = (t.run L S).1 → ns = (t.run L S).2.1 → ∀ t1, H1 t1 = none → ∀ t2, (L2.upd H1 t1 (.tup us)) t2 = none → ∀ r, (L2.upd (L2.upd H1 t1 (.tup us)) t2 (.tup (nv ns))) r = none →
        Q (.ref r) (L2.upd (L2.upd (L2.upd H1 t1 (.tup us)) t2 (.tup (nv ns))) r (.tup [.ref t1, .ref t2, g])) := fun g H1 e1 hg er en t1 ht1 t2 ht2 r hr2 => by
      have f1 := Ex.new (o := .tup us) ht1
      have f2 := Ex.new (o := .tup (nv ns)) ht2
      have f3 := Ex.new (o := .tup [.ref t1, .ref t2, g]) hr2
      refine q _ r t1 t2 g us (e.trans (e1.trans (f1.trans (f2.trans f3)))) upd_same (f3 _ _ (f2 _ _ upd_same)) ?_ ?_ (hg _ (f1.trans (f2.trans f3)))
      · rw [← er]
        exact hR.ex (e1.trans (f1.trans (f2.trans f3)))
      · rw [← en]
        exact f3 _ _ upd_same
    cases hX with
    | @go a s' q' h =>
      rw [run_go] at q1 q2 q3
      rw [List.append_nil] at q1 q2
      refine ⟨_, rfl, ix_at (e _ _ h) (atI_nat (j := 0) rfl) ⟨rfl, _, rfl, iteNn rfl ?_⟩⟩
      refine ⟨_, rfl, l1, _, rfl, .inl ⟨sq_of h1, fun t1 ht1 => ?_⟩⟩
      have f1 := Ex.new (o := .tup us) ht1
      refine ⟨_, rfl, l2, _, rfl, .inl ⟨sq_of (f1 _ _ h2), fun t2 ht2 => ⟨_, rfl, by show 3 ≤ sizeLine; decide, fun r hr2 => ?_⟩⟩⟩
      exact fin _ _ (Ex.refl _) (fun H2 e2 => by rw [← q3]; exact ⟨a, rfl, e2 _ _ (e _ _ h)⟩) q1 q2 t1 ht1 t2 ht2 r hr2
    | @tell a n' x' u' h r0 =>
      rw [run_tell] at q1 q2 q3
      refine ⟨_, rfl, ix_at (e _ _ h) (atI_nat (j := 0) rfl) ⟨rfl, _, rfl, iteN tell_ne_go ?_⟩⟩
      refine ⟨fun σ2 H2 => ∃ m', m' < m ∧ ∃ (u : Tr) (x : V) (rs : List (Nat × Nat)) (ns : List Nat) (us : List V) (y5 y6 y7 : Option V), σ2 = [some x, some (.str (tx L)), some (.str (tx S)), some (.ref l1), some (.ref l2), y5, y6, y7] ∧
        Ex H H2 ∧ H2 l1 = some (.lst us) ∧ RdA H2 us rs ∧ H2 l2 = some (.lst (nv ns)) ∧ TA true H x u ∧ u.ok L.length wd n ∧ rs ++ (u.run L S).1 = (t.run L S).1 ∧ ns ++ (u.run L S).2.1 = (t.run L S).2.1 ∧ (u.run L S).2.2 = (t.run L S).2.2 ∧
        m' = u.size ∧ rs.length + ns.length + u.size ≤ 10000, fun σ2 H2 h => h, ?_⟩
      have hsz2 : u'.size + 1 = m := hm.symm
      refine ⟨_, rfl, gSeq_of (e _ _ h) rfl ⟨_, _, rfl, _, _, rfl, _, _, rfl, rfl, ?_⟩⟩
      refine ⟨_, rfl, rfl, _, rfl, iteD rfl ?_⟩
      refine ⟨_, rfl, .inl ⟨rfl, _, sq_of h2⟩, _, rfl, l2, _, _, rfl, rfl, h2, ?_, ?_⟩
      · rw [List.length_map]
        exact sz_k (by omega)
      refine ⟨_, rfl, u'.size, by omega, u', x', rs, ns ++ [n'], us, _, _, _, rfl, e.mut hl20, ?_, hR.upd (lst_no h2), ?_, r0, uok.2, q1, ?_, q3, rfl, ?_⟩
      · rw [upd_ne n12]
        exact h1
      · rw [upd_same, nv_snoc]
      · rw [List.append_assoc]
        exact q2
      · rw [List.length_append]
        show rs.length + (ns.length + 1) + u'.size ≤ 10000
        omega
    | @read a b p us' ts h hb' r0 =>
      have KK := r0.kids
      have hts : ts.list.length = L.length := uok.2.1
      refine ⟨_, rfl, ix_at (e _ _ h) (atI_nat (j := 0) rfl) ⟨rfl, _, rfl, iteN read_ne_go ?_⟩⟩
      refine ⟨fun σ2 H2 => ∃ m', m' < m ∧ ∃ (u : Tr) (x : V) (rs : List (Nat × Nat)) (ns : List Nat) (us : List V) (y5 y6 y7 : Option V), σ2 = [some x, some (.str (tx L)), some (.str (tx S)), some (.ref l1), some (.ref l2), y5, y6, y7] ∧
        Ex H H2 ∧ H2 l1 = some (.lst us) ∧ RdA H2 us rs ∧ H2 l2 = some (.lst (nv ns)) ∧ TA true H x u ∧ u.ok L.length wd n ∧ rs ++ (u.run L S).1 = (t.run L S).1 ∧ ns ++ (u.run L S).2.1 = (t.run L S).2.1 ∧ (u.run L S).2.2 = (t.run L S).2.2 ∧
        m' = u.size ∧ rs.length + ns.length + u.size ≤ 10000, fun σ2 H2 h => h, ?_⟩
      have hsz2 : ts.size + 1 = m := hm.symm
      refine ⟨_, rfl, gSeq_of (e _ _ h) rfl ⟨_, _, rfl, _, _, rfl, _, _, rfl, rfl, ?_⟩⟩
      refine ⟨_, rfl, rfl, _, rfl, iteDn read_ne_tell ?_⟩
      refine ⟨_, rfl, _, rfl, _, rfl, tx_m (by omega), _, _, rfl, rfl, _, rfl, ite2 (fun hlt => ?_) (fun hlt => ?_)⟩
      · have hp : p < S.length := by
          have := of_decide_eq_true hlt
          rw [tx_len] at this
          omega
        have hc : S[p]? = some S[p] := List.getElem?_eq_getElem hp
        generalize S[p] = c at hc
        have hcL := hS c (List.mem_of_getElem? hc)
        have hat : atI (tx S).cps.toList ((p : Nat) : Int) = some c := atI_nat hc
        obtain ⟨i, rest, ho, hi⟩ := idx_of hcL
        have hi2 : i < us'.length := by
          have := (List.getElem?_eq_some_iff.mp hi).1
          rw [KK.len, hts]
          exact this
        obtain ⟨kt, hkt, hka⟩ := KK.get (List.getElem?_eq_getElem hi2)
        have mem := List.mem_of_getElem? hkt
        rw [run_some hc hnd hi hkt] at q1 q2 q3
        refine ⟨_, rfl, .inl ⟨rfl, _, sq_of h1⟩, _, rfl, _, rfl, _, rfl, tx S, _, c, rfl, rfl, tx_m (by omega), hat, by show 2 ≤ sizeLine; decide, fun r hr2 => ?_⟩
        have f1 := Ex.new (o := .tup [.int (p : Nat), .str (sg c)]) hr2
        refine ⟨l1, _, _, rfl, rfl, f1 _ _ h1, sz_k (by omega), ?_⟩
        have hr3 : (L2.upd H' r (.tup [.int (p : Nat), .str (sg c)])) r = some (.tup [.int (p : Nat), .str (sg c)]) := upd_same
        have h13 := f1 _ _ h1
        have h23 := f1 _ _ h2
        have e3 := e.trans f1
        have R3 := (hR.ex f1).snoc hr3
        have hsk := size_mem mem
        rw [Trs.total] at hsk
        refine ⟨_, rfl, _, rfl, rfl, _, rfl, _, rfl, tx S, _, c, rfl, rfl, tx_m (by omega), hat, tx L, sg c, i, rest, rfl, rfl, ho, ix_at ((e3.mut hl1) _ _ hb') (atI_nat (List.getElem?_eq_getElem hi2)) ?_⟩
        refine ⟨kt.size, by omega, kt, _, rs ++ [(p, c)], ns, us ++ [V.ref r], _, _, _, rfl, e3.mut hl1, upd_same, R3.upd (lst_no h13), ?_, hka, Trs.ok_mem uok.2.2 kt mem, ?_, q2, q3, rfl, ?_⟩
        · rw [upd_ne n12.symm]
          exact h23
        · rw [List.append_assoc]
          exact q1
        · rw [List.length_append]
          show rs.length + 1 + ns.length + kt.size ≤ 10000
          have hb2 : rs.length + ns.length + (ts.size + 1) ≤ 10000 := hb
          omega
      · have hp : S[p]? = none := by
          rw [List.getElem?_eq_none_iff]
          have : ¬ _ := fun z => hlt (decide_eq_true z)
          rw [tx_len] at this
          omega
        rw [run_none hp] at q1 q2 q3
        rw [List.append_nil] at q1 q2
        refine ⟨_, rfl, l1, _, rfl, .inl ⟨sq_of h1, fun t1 ht1 => ?_⟩⟩
        have f1 := Ex.new (o := .tup us) ht1
        refine ⟨_, rfl, l2, _, rfl, .inl ⟨sq_of (f1 _ _ h2), fun t2 ht2 => ⟨by show 3 ≤ sizeLine; decide, fun r hr2 => ?_⟩⟩⟩
        exact fin _ _ (Ex.refl _) (fun H2 e2 => by rw [← q3]; exact rfl) q1 q2 t1 ht1 t2 ht2 r hr2
end
end Law

namespace TR
open PySem PySem.Spec L2 Evl
abbrev Win := Nat × Nat × List (Nat × Nat)
/-- a search: the windows, the told pairs -/
def search (w : Nat) (ts : List Tr) (L X : List Nat) : Nat → Nat → Nat → List Win × List (Nat × Nat)
  | 0, _, _ => ([], [])
  | f + 1, p, q => if p + w ≤ X.length then
      match ts[q]? with
      | none => ([], [])
      | some t => match (t.run L ((X.drop p).take (w + 1))).2.2 with
        | none => ([(p, q, (t.run L ((X.drop p).take (w + 1))).1)], (t.run L ((X.drop p).take (w + 1))).2.1.map fun n => (p, n))
        | some (s, q') => ((p, q, (t.run L ((X.drop p).take (w + 1))).1) :: (search w ts L X f (p + s) q').1, ((t.run L ((X.drop p).take (w + 1))).2.1.map fun n => (p, n)) ++ (search w ts L X f (p + s) q').2)
    else ([], [])
section
variable {w : Nat} {ts : List Tr} {L X : List Nat} {f p q : Nat} {t : Tr}
theorem search_end (h : ¬ p + w ≤ X.length) : search w ts L X f p q = ([], []) := by
  cases f with
  | zero => rfl
  | succ f => unfold search; rw [if_neg h]
theorem search_cut (h : p + w ≤ X.length) (ht : ts[q]? = some t) (hr : (t.run L ((X.drop p).take (w + 1))).2.2 = none) :
    search w ts L X (f + 1) p q = ([(p, q, (t.run L ((X.drop p).take (w + 1))).1)], (t.run L ((X.drop p).take (w + 1))).2.1.map fun n => (p, n)) := by
  rw [search, if_pos h, ht]
  simp only [hr]
theorem search_go {s q' : Nat} (h : p + w ≤ X.length) (ht : ts[q]? = some t) (hr : (t.run L ((X.drop p).take (w + 1))).2.2 = some (s, q')) :
    search w ts L X (f + 1) p q = ((p, q, (t.run L ((X.drop p).take (w + 1))).1) :: (search w ts L X f (p + s) q').1, ((t.run L ((X.drop p).take (w + 1))).2.1.map fun n => (p, n)) ++ (search w ts L X f (p + s) q').2) := by
  rw [search, if_pos h, ht]
  simp only [hr]
end
/-! the go of a right tree -/
mutual
theorem Tr.run_ok {L S : List Nat} {l w n : Nat} : ∀ {t : Tr} {s q : Nat}, t.ok l w n → (t.run L S).2.2 = some (s, q) → 1 ≤ s ∧ s ≤ w + 1 ∧ q < n
  | .go s' q', s, q, h, e => by
    rw [run_go] at e
    have e2 : (s', q') = (s, q) := Option.some.inj e
    cases e2
    exact h
  | .tell k t, s, q, h, e => by
    rw [run_tell] at e
    exact Tr.run_ok h.2 e
  | .read p ts, s, q, h, e => by
    cases hp : S[p]? with
    | none =>
      rw [run_none hp] at e
      cases e
    | some c =>
      simp only [Tr.run, hp] at e
      exact Trs.run_ok h.2.2 e
theorem Trs.run_ok {L S : List Nat} {l w n : Nat} : ∀ {ts : Trs} {i s q : Nat}, ts.ok l w n → (ts.runAt L S i).2.2 = some (s, q) → 1 ≤ s ∧ s ≤ w + 1 ∧ q < n
  | .nil, i, s, q, _, e => by
    simp only [Trs.runAt] at e
    cases e
  | .cons t r, 0, s, q, h, e => by
    simp only [Trs.runAt] at e
    exact Tr.run_ok h.1 e
  | .cons t r, j + 1, s, q, h, e => by
    simp only [Trs.runAt] at e
    exact Trs.run_ok h.2 e
end
mutual
theorem Tr.run_len {L S : List Nat} : ∀ (t : Tr), (t.run L S).1.length + (t.run L S).2.1.length ≤ t.size
  | .go s q => by
    rw [run_go]
    exact Nat.zero_le _
  | .tell k t => by
    have := Tr.run_len (L := L) (S := S) t
    rw [run_tell]
    show (t.run L S).1.length + ((t.run L S).2.1.length + 1) ≤ t.size + 1
    omega
  | .read p ts => by
    show _ ≤ ts.size + 1
    cases hp : S[p]? with
    | none =>
      rw [run_none hp]
      exact Nat.zero_le _
    | some c =>
      have := Trs.run_len (L := L) (S := S) ts (ixN L c)
      simp only [Tr.run, hp, List.length_cons]
      omega
theorem Trs.run_len {L S : List Nat} : ∀ (ts : Trs) (i : Nat), (ts.runAt L S i).1.length + (ts.runAt L S i).2.1.length ≤ ts.size
  | .nil, i => by
    simp only [Trs.runAt]
    exact Nat.zero_le _
  | .cons t r, 0 => by
    have := Tr.run_len (L := L) (S := S) t
    simp only [Trs.runAt]
    show _ ≤ t.size + r.size
    omega
  | .cons t r, j + 1 => by
    have := Trs.run_len (L := L) (S := S) r j
    simp only [Trs.runAt]
    show _ ≤ t.size + r.size
    omega
end
end TR
namespace Law
open PySem PySem.Spec PyProof.Rows L2 Evl TR EK
theorem sFs_l (l w s n : V) : (sFs l w s n).lookup ("letters" : Str) = some l := rfl
theorem sFs_w (l w s n : V) : (sFs l w s n).lookup ("width" : Str) = some w := rfl
theorem sFs_s (l w s n : V) : (sFs l w s n).lookup ("states" : Str) = some s := rfl
theorem sFs_n (l w s n : V) : (sFs l w s n).lookup ("nodes" : Str) = some n := rfl
theorem SObj.up {C o : Addr} {H H' : Hp} {L : List Nat} {w : Nat} {ts : List Tr} (S : SObj C H o L w ts) (e : Ex H H') : SObj C H' o L w ts := by
  obtain ⟨dx, st, us, h1, h2, h3⟩ := S.ex
  exact ⟨dx, st, us, e _ _ h1, e _ _ h2, h3.ex e⟩
/-- windows in memory -/
inductive WnA (H : Hp) : List V → List Win → Prop
  | nil : WnA H [] []
  | cons {a b : Addr} {p q : Nat} {us vs : List V} {rs : List (Nat × Nat)} {ws : List Win} : H a = some (.tup [.int (p : Nat), .int (q : Nat), .ref b]) → H b = some (.tup us) → RdA H us rs → WnA H vs ws → WnA H (.ref a :: vs) ((p, q, rs) :: ws)
theorem WnA.ex {H H' : Hp} (e : Ex H H') : ∀ {vs : List V} {ws : List Win}, WnA H vs ws → WnA H' vs ws
  | _, _, .nil => .nil
  | _, _, .cons h1 h2 r s => .cons (e _ _ h1) (e _ _ h2) (r.ex e) (WnA.ex e s)
theorem WnA.upd {H : Hp} {a : Addr} {o : HO} (hn : ∀ xs, H a ≠ some (.tup xs)) : ∀ {vs : List V} {ws : List Win}, WnA H vs ws → WnA (L2.upd H a o) vs ws
  | _, _, .nil => .nil
  | _, _, .cons (a := x) (b := y) h1 h2 r s => .cons (by rw [upd_ne (fun q : x = a => hn _ (by rw [← q]; exact h1))]; exact h1) (by rw [upd_ne (fun q : y = a => hn _ (by rw [← q]; exact h2))]; exact h2) (r.upd hn) (WnA.upd hn s)
theorem WnA.snoc {H : Hp} {a b : Addr} {p q : Nat} {us : List V} {rs : List (Nat × Nat)} (h1 : H a = some (.tup [.int (p : Nat), .int (q : Nat), .ref b])) (h2 : H b = some (.tup us)) (h3 : RdA H us rs) : ∀ {vs : List V} {ws : List Win}, WnA H vs ws → WnA H (vs ++ [V.ref a]) (ws ++ [(p, q, rs)])
  | _, _, .nil => .cons h1 h2 h3 .nil
  | _, _, .cons k1 k2 k3 s => .cons k1 k2 k3 (WnA.snoc h1 h2 h3 s)
theorem WnA.len {H : Hp} : ∀ {vs : List V} {ws : List Win}, WnA H vs ws → vs.length = ws.length
  | _, _, .nil => rfl
  | _, _, .cons _ _ _ s => congrArg Nat.succ (WnA.len s)
theorem WnA.get {H : Hp} : ∀ {vs : List V} {ws : List Win} {i : Nat} {v : V}, WnA H vs ws → vs[i]? = some v → ∃ a b p q us rs, v = .ref a ∧ ws[i]? = some (p, q, rs) ∧ H a = some (.tup [.int (p : Nat), .int (q : Nat), .ref b]) ∧ H b = some (.tup us) ∧ RdA H us rs
  | _, _, 0, _, .cons (a := a) (b := b) (p := p) (q := q) (us := us) (rs := rs) h1 h2 h3 _, h => ⟨a, b, p, q, us, rs, (Option.some.inj h).symm, rfl, h1, h2, h3⟩
  | _, _, i + 1, _, .cons _ _ _ s, h => WnA.get (i := i) s h
  | _, _, _, _, .nil, h => by cases h
/-- pairs of ints in memory -/
inductive PrA (H : Hp) : List V → List (Nat × Nat) → Prop
  | nil : PrA H [] []
  | cons {a : Addr} {p n : Nat} {us : List V} {ps : List (Nat × Nat)} : H a = some (.tup [.int (p : Nat), .int (n : Nat)]) → PrA H us ps → PrA H (.ref a :: us) ((p, n) :: ps)
theorem PrA.ex {H H' : Hp} (e : Ex H H') : ∀ {us : List V} {ps : List (Nat × Nat)}, PrA H us ps → PrA H' us ps
  | _, _, .nil => .nil
  | _, _, .cons h r => .cons (e _ _ h) (PrA.ex e r)
theorem PrA.upd {H : Hp} {a : Addr} {o : HO} (hn : ∀ xs, H a ≠ some (.tup xs)) : ∀ {us : List V} {ps : List (Nat × Nat)}, PrA H us ps → PrA (L2.upd H a o) us ps
  | _, _, .nil => .nil
  | _, _, .cons (a := b) h r => .cons (by rw [upd_ne (fun q : b = a => hn _ (by rw [← q]; exact h))]; exact h) (PrA.upd hn r)
theorem PrA.app {H : Hp} : ∀ {us vs : List V} {ps qs : List (Nat × Nat)}, PrA H us ps → PrA H vs qs → PrA H (us ++ vs) (ps ++ qs)
  | _, _, _, _, .nil, h => h
  | _, _, _, _, .cons h1 r, h => .cons h1 (PrA.app r h)
theorem PrA.len {H : Hp} : ∀ {us : List V} {ps : List (Nat × Nat)}, PrA H us ps → us.length = ps.length
  | _, _, .nil => rfl
  | _, _, .cons _ r => congrArg Nat.succ (PrA.len r)
def tFs (a b c : V) : List (Str × V) := [("windows", a), ("told", b), ("cost", c)]
theorem tFs_w (a b c : V) : (tFs a b c).lookup ("windows" : Str) = some a := rfl
theorem tFs_t (a b c : V) : (tFs a b c).lookup ("told" : Str) = some b := rfl
theorem tFs_c (a b c : V) : (tFs a b c).lookup ("cost" : Str) = some c := rfl
theorem putF3 (a b c : V) : putF "cost" c (putF "told" b (putF "windows" a [])) = tFs a b c := by
  have a1 : ¬ (("windows" : Str) = "told") := by decide +kernel
  have a2 : ¬ (("windows" : Str) = "cost") := by decide +kernel
  have a3 : ¬ (("told" : Str) = "cost") := by decide +kernel
  simp [putF, tFs, a1, a2, a3]
def costN (ws : List Win) : Nat := (ws.map fun w => w.2.2.length).sum
/-- a trace -/
structure TrO (C : Addr) (H : Hp) (o : Addr) (ws : List Win) (td : List (Nat × Nat)) : Prop where
  ex : ∃ (dx a b : Addr) (us vs : List V), H o = some (.ins C dx (tFs (.ref a) (.ref b) (.int (costN ws : Nat)))) ∧ H a = some (.tup us) ∧ WnA H us ws ∧ H b = some (.tup vs) ∧ PrA H vs td
theorem TrO.up {C o : Addr} {H H' : Hp} {ws : List Win} {td : List (Nat × Nat)} (S : TrO C H o ws td) (e : Ex H H') : TrO C H' o ws td := by
  obtain ⟨dx, a, b, us, vs, h1, h2, h3, h4, h5⟩ := S.ex
  exact ⟨dx, a, b, us, vs, e _ _ h1, e _ _ h2, h3.ex e, e _ _ h4, h5.ex e⟩
structure TRC (K : PySem.W.Frag) (C : Addr) : Prop where
  cl : Cls K C
  nw : NoAttr K C "windows"
  nt : NoAttr K C "told"
  nc : NoAttr K C "cost"
def spTInit (C : Addr) : Sp := fun vs H Q _ => ∃ (o dx a b : Addr) (us ts : List V) (ws : List Win) (td : List (Nat × Nat)) (H0 : Hp), vs = [.ref o, .ref a, .ref b] ∧ Ex H0 H ∧ H0 o = none ∧ H o = some (.ins C dx []) ∧ H0 a = some (.tup us) ∧ WnA H0 us ws ∧ H0 b = some (.tup ts) ∧ PrA H0 ts td ∧ ws.length ≤ 10000 ∧
  ∀ H', Ex H0 H' → TrO C H' o ws td → Q .non H'
theorem sum_wins : ∀ ws : List Win, (ws.map fun w => (w.2.2.length : Int)).sum = ((costN ws : Nat) : Int)
  | [] => rfl
  | w :: r => by
    rw [List.map_cons, List.sum_cons, sum_wins r]
    show _ = (((w.2.2.length + costN r : Nat)) : Int)
    omega
section
variable {P : Program} {w : World} {K : PySem.W.Frag} {mg : Str → Option Value} {base : Heap}
theorem ok_tinit {f C : Addr} {fd : FuncData} (F : Fun K "__init__" "Trace.__init__" s_Trace_init f fd) (T : Tx mg) (S : TRC K C) : FnOk P w K mg base CX0 1 f fd ["self", "windows", "told"] (spTInit C) := by
  refine F.ok sc_Trace_init (fun vs H Q E h => ?_) (fun cdv A outer s H vs Q E hr h => ?_)
  · obtain ⟨o, dx, a, b, us, ts, ws, td, H0, rfl, _⟩ := h
    rfl
  · obtain ⟨o, dx, a, b, us, ts, ws, td, H0, rfl, e0, ho0, ho, ha, hW, hb, hP, hlen, q⟩ := h
    have lus := hW.len
    refine ⟨_, (pss_cons (ps_fld (pv 0) (pv 1) rfl)
      (pss_cons (ps_fld (pv 0) (pv 2) rfl)
      (pss_one (ps_fld (pv 0) (pe_callB (cr_sum rfl) (by rfl) T.sum (by decide +kernel) (pa_cons (pe_lc (own := [("_", 3), ("_", 3), ("reads", 4)]) (g := gTup K 3 (gCons (gName 3) (gCons (gName 3) (gCons (gName 4) gNil)))) (tt := tYes) rfl sc_Trace_init.nd (pi_tup (pv 1)) (blkOk_by (N := N_Trace_init) (sc := defScope s_Trace_init) (by decide +kernel)) (fun _ _ _ _ _ => (pg_tup (by rfl) (pgs_cons (pg_name (i := 3) sc_Trace_init.nd rfl (Or.inl rfl)) (pgs_cons (pg_name (i := 3) sc_Trace_init.nd rfl (Or.inl rfl)) (pgs_cons (pg_name (i := 4) sc_Trace_init.nd rfl (Or.inl rfl)) pgs_nil))))) (fun _ _ _ _ _ => pts_nil) (fun _ _ _ _ _ => (pe_callB (show CallR _ _ (TR.rLenQ K) from call_len_seq) (by rfl) T.len PySem.boot_len (pa_cons (pv 4) pa_nil)))) pa_nil)) rfl)))), ?_⟩
    refine ⟨_, rfl, _, rfl, o, C, dx, _, rfl, ho, S.cl, S.nw, by show 0 < 1000; decide, ?_⟩
    have e1 := e0.mut (o := .ins C dx (putF "windows" (.ref a) [])) ho0
    have h1 : (L2.upd H o (.ins C dx (putF "windows" (.ref a) []))) o = _ := upd_same
    generalize (L2.upd H o (.ins C dx (putF "windows" (.ref a) []))) = H1 at e1 h1 ⊢
    refine ⟨_, rfl, _, rfl, o, C, dx, _, rfl, h1, S.cl, S.nt, by show 1 < 1000; decide, ?_⟩
    generalize hf2 : putF "told" (.ref b) (putF "windows" (.ref a) []) = f2
    have lf2 : f2.length < 1000 := by
      rw [← hf2]
      show 2 < 1000
      decide
    have e2 := e1.mut (o := .ins C dx f2) ho0
    have h2 : (L2.upd H1 o (.ins C dx f2)) o = _ := upd_same
    generalize (L2.upd H1 o (.ins C dx f2)) = H2 at e2 h2 ⊢
    refine ⟨_, rfl, a, rfl, ⟨us, st_of (e2 _ _ ha)⟩, fun D hD => ?_⟩
    refine lc_tup (fun i H' => Ex H2 H' ∧ H' D = some (.lst (((ws.take i).map fun w => (w.2.2.length : Int)).map V.int))) ⟨Ex.new hD, upd_same⟩ (fun i H' _ p => st_of (p.1 _ _ (e2 _ _ ha))) (fun i x H' hx p => ?_) (fun H' p => ?_)
    · obtain ⟨e3, hz⟩ := p
      obtain ⟨x', b', p', q', us', rs', rfl, hw, k1, k2, k3⟩ := hW.get hx
      have e4 := e2.trans e3
      refine ⟨x', _, rfl, st_of (e4 _ _ k1), rfl, _, _, rfl, _, _, rfl, _, _, rfl, rfl, rfl, ?_⟩
      refine ⟨_, rfl, b', us', rfl, .inr (st_of (e4 _ _ k2)), _, hz, ?_, e3.mut hD, ?_⟩
      · have hi := (List.getElem?_eq_some_iff.mp hw).1
        rw [List.length_map, List.length_map, List.length_take]
        exact sz_k (by omega)
      · rw [upd_same, take_next' hw, List.map_append, List.map_append, k3.len]
        rfl
    · obtain ⟨e3, hz⟩ := p
      rw [lus, List.take_length] at hz
      refine ⟨D, _, rfl, sq_of hz, ?_⟩
      rw [sum_wins]
      refine ⟨_, rfl, o, C, dx, _, rfl, e3 _ _ h2, S.cl, S.nc, lf2, ?_⟩
      have e4 := (e2.trans e3).mut (o := .ins C dx (putF "cost" (.int (costN ws : Nat)) f2)) ho0
      refine q _ e4 ⟨dx, a, b, us, ts, ?_, e4 _ _ ha, hW.ex e4, e4 _ _ hb, hP.ex e4⟩
      rw [upd_same, ← hf2, putF3]
end
end Law

namespace Law
open PySem PySem.Spec PyProof.Rows L2 Evl TR EK
theorem mk_tr {C x dx a b : Addr} {H1 : Hp} {us vs : List V} {ws : List Win} {td : List (Nat × Nat)} {Q : VK} {E : XK} (hx : H1 x = none) (hd : H1 dx = none) (ne : dx ≠ x) (ha : H1 a = some (.tup us)) (hW : WnA H1 us ws) (hb : H1 b = some (.tup vs)) (hP : PrA H1 vs td) (hl : ws.length ≤ 10000)
    (q : ∀ H2, Ex H1 H2 → TrO C H2 x ws td → Q .non H2) : spTInit C [.ref x, .ref a, .ref b] (L2.upd (L2.upd H1 dx (.own x)) x (.ins C dx [])) Q E :=
  ⟨x, dx, a, b, us, vs, ws, td, H1, rfl, (Ex.new hd).trans (Ex.new (by rw [upd_ne ne.symm]; exact hx)), hx, upd_same, ha, hW, hb, hP, hl, q⟩
/-- a pair's list in memory grows by a comprehension's list -/
theorem told_len (p : Nat) (ns : List Nat) : (ns.map fun n => (p, n)).length = ns.length := List.length_map ..
structure Sch (C : Addr) (H : Hp) (o : Addr) (L : List Nat) (wd : Nat) (ts : List Tr) : Prop where
  o : SObj C H o L wd ts
  g : LG L
  w1 : 1 ≤ wd
  w8 : wd ≤ 8
  n1 : 1 ≤ ts.length
  n64 : ts.length ≤ 64
  ok : ∀ t ∈ ts, t.ok L.length wd ts.length
  tot : total ts ≤ 3000
def spWS (K : PySem.W.Frag) : Sp := fun vs H Q _ => ∃ L : List Nat, L.length ≤ 10 ∧ ((∃ T, vs = [.str (tx L), .str (tx T)] ∧ (∀ H', Ex H H' → (∀ c ∈ T, c ∈ L) → Q .non H') ∧
    ∀ H' i c, Ex H H' → T[i]? = some c → c ∉ L → (∀ j d, j < i → T[j]? = some d → d ∈ L) → Q (.int (i : Nat)) H') ∨
  ∃ v t, vs = [.str (tx L), v] ∧ TyX K H v t ∧ PySem.W.kitOne K t (.type "str") = some false ∧ Q (.int 0) H)
def spTraceN (CS CT : Addr) : Sp := fun vs H Q _ => ∃ (o : Addr) (L : List Nat) (wd : Nat) (ts : List Tr) (X : List Nat), Sch CS H o L wd ts ∧ vs = [.ref o, .str (tx X)] ∧ (∀ c ∈ X, c ∈ L) ∧ X.length ≤ 5000 ∧ ∀ H' r, Ex H H' → TrO CT H' r (search wd ts L X (X.length + 1) 0 0).1 (search wd ts L X (X.length + 1) 0 0).2 → Q (.ref r) H'
def spSearched (CS CT : Addr) : Sp := fun vs H Q _ => ∃ (o : Addr) (L : List Nat) (wd : Nat) (ts : List Tr) (X : List Nat), Sch CS H o L wd ts ∧ vs = [.ref o, .str (tx X)] ∧ (∀ c ∈ X, c ∈ L) ∧ X.length ≤ 5000 ∧ ∀ H' r, Ex H H' → TrO CT H' r (search wd ts L X (X.length + 1) 0 0).1 (search wd ts L X (X.length + 1) 0 0).2 → Q (.ref r) H'
theorem Sch.up {C o : Addr} {H H' : Hp} {L : List Nat} {wd : Nat} {ts : List Tr} (S : Sch C H o L wd ts) (e : Ex H H') : Sch C H' o L wd ts := ⟨S.o.up e, S.g, S.w1, S.w8, S.n1, S.n64, S.ok, S.tot⟩
section
variable {P : Program} {w : World} {K : PySem.W.Frag} {mg : Str → Option Value} {base : Heap}
theorem ok_searched {f C_Searcher C_Trace ft : Addr} {fd fdt : FuncData} (F : Fun K "searched" "searched" s_searched f fd) (T : Tx mg) (S : SC K C_Searcher) (ST : TRC K C_Trace) (M_Trace : Mk K C_Trace ft) (F_Trace : FnOk P w K mg base CX0 1 ft fdt ["self", "windows", "told"] (spTInit C_Trace)) (g_Trace : mg "Trace" = some (.ref C_Trace))
    (b_Trace : Binds K fdt ["self", "windows", "told"] []) (c_followed : Kn P w K mg base "followed" ["tree", "letters", "signs"] 1 spFol) : FnOk P w K mg base CX0 3 f fd ["searcher", "text"] (spSearched C_Searcher C_Trace) := by
  refine F.ok sc_searched (fun vs H Q E h => ?_) (fun cdv A outer s H vs Q E hr h => ?_)
  · obtain ⟨o, L, wd, ts, X, _, rfl, _⟩ := h
    rfl
  · obtain ⟨o, L, wd, ts, X, SS, rfl, hX, hXl, q⟩ := h
    obtain ⟨SO, hLG, w1, w8, n1, n64, hok, htot⟩ := SS
    obtain ⟨dxo, sa, us, s1, s2, s3⟩ := SO.ex
    have L4 := hLG.hi
    refine ⟨_, (pss_cons (ps_set (i := 2) sc_searched.nd rfl (Or.inl rfl) (pe_lst pa_nil))
      (pss_cons (ps_set (i := 3) sc_searched.nd rfl (Or.inl rfl) (pe_lst pa_nil))
      (pss_cons (ps_asg (pe_tup (pa_cons pe_int (pa_cons pe_int pa_nil))) (pg_tup (by rfl) (pgs_cons (pg_name (i := 4) sc_searched.nd rfl (Or.inr rfl)) (pgs_cons (pg_name (i := 5) sc_searched.nd rfl (Or.inl rfl)) pgs_nil))))
      (pss_cons (ps_while PassesOwn.never (pt_cmpR op_le (pe_op op_add (pv 4) (pe_fld (pv 0) rfl)) (pe_callB call_len_str (by rfl) T.len PySem.boot_len (pa_cons (pv 1) pa_nil)) (nomark _)) (pss_cons (ps_set (i := 6) sc_searched.nd rfl (Or.inl rfl) (pe_slice sl_str (pv 1) (po_some (pv 4)) (po_some (pe_op op_add (pe_op op_add (pv 4) (pe_fld (pv 0) rfl)) pe_int))))
      (pss_cons (ps_asg (pe_call c_followed.ok (hr.mono (by decide)) (by rfl) c_followed.g c_followed.kp c_followed.b .nil pass0 (pa_cons (pe_ix ix_tup (pe_fld (pv 0) rfl) (pv 5) (fun _ _ => rfl)) (pa_cons (pe_fld (pv 0) rfl) (pa_cons (pv 6) pa_nil)))) (pg_tup (by rfl) (pgs_cons (pg_name (i := 7) sc_searched.nd rfl (Or.inl rfl)) (pgs_cons (pg_name (i := 8) sc_searched.nd rfl (Or.inl rfl)) (pgs_cons (pg_name (i := 9) sc_searched.nd rfl (Or.inl rfl)) pgs_nil)))))
      (pss_cons (ps_expr (pe_bm PySem.F.plainAttrs_list PySem.F.slot_list_append PySem.F.type_list_append mt_append (pv 2) (pa_cons (pe_tup (pa_cons (pv 4) (pa_cons (pv 5) (pa_cons (pv 7) pa_nil)))) pa_nil)))
      (pss_cons (ps_expr (pe_bm PySem.F.plainAttrs_list PySem.F.slot_list_extend PySem.F.type_list_extend mt_extend (pv 3) (pa_cons (pe_lc (own := [("number", 10)]) (g := gName 10) (tt := tYes) rfl sc_searched.nd (pi_tup (pv 8)) (blkOk_by (N := N_searched) (sc := defScope s_searched) (by decide +kernel)) (fun _ _ _ _ _ => (pg_name (i := 10) sc_searched.nd rfl (Or.inl rfl))) (fun _ _ _ _ _ => pts_nil) (fun _ _ _ _ _ => (pe_tup (pa_cons (pv 4) (pa_cons (pv 10) pa_nil))))) pa_nil)))
      (pss_cons (ps_if (pt_cmpR op_isN (pv 9) pe_non (nomark _)) (pss_one ps_break) pss_nil)
      (pss_cons (ps_asg (pv 9) (pg_tup (by rfl) (pgs_cons (pg_name (i := 11) sc_searched.nd rfl (Or.inl rfl)) (pgs_cons (pg_name (i := 12) sc_searched.nd rfl (Or.inl rfl)) (pgs_cons (pg_name (i := 5) sc_searched.nd rfl (Or.inl rfl)) pgs_nil)))))
      (pss_one (ps_aug (i := 4) sc_searched.nd rfl (Or.inr rfl) (pv 12) ip_add)))))))))
      (pss_one (ps_ret (pe_make M_Trace F_Trace (hr.mono (by decide)) (by rfl) g_Trace b_Trace .nil pass0 (pa_cons (pe_callTy call_tuple_of (by rfl) T.tuple PyProof.Rows.boot_tuple (pa_cons (pv 2) pa_nil)) (pa_cons (pe_callTy call_tuple_of (by rfl) T.tuple PyProof.Rows.boot_tuple (pa_cons (pv 3) pa_nil)) pa_nil))))))))), ?_⟩
    have e1 : Ex H H := Ex.refl _
    refine ⟨Nat.zero_le _, fun l1 hl1 => ⟨Nat.zero_le _, fun l2 hl2 => ⟨by show 2 ≤ sizeLine; decide, fun pr hpr => ?_⟩⟩⟩
    refine ⟨pr, _, rfl, .inl (.inl upd_same), rfl, _, _, rfl, _, _, rfl, rfl, ?_⟩
    have hl10 := fresh_back e1 hl1
    have n12 : l1 ≠ l2 := fun z => by
      rw [← z, upd_same] at hl2
      cases hl2
    have hl2' := fresh_back (Ex.new hl1) hl2
    have hl20 := fresh_back e1 hl2'
    have g1 : (L2.upd (L2.upd (L2.upd H l1 (.lst [])) l2 (.lst [])) pr (.tup [.int 0, .int 0])) l1 = some (.lst []) := Ex.new hpr _ _ (by rw [upd_ne n12, upd_same])
    have g2 : (L2.upd (L2.upd (L2.upd H l1 (.lst [])) l2 (.lst [])) pr (.tup [.int 0, .int 0])) l2 = some (.lst []) := Ex.new hpr _ _ upd_same
    have e2 := e1.trans ((Ex.new (o := .lst []) hl1).trans ((Ex.new (o := .lst []) hl2).trans (Ex.new (o := .tup [.int 0, .int 0]) hpr)))
    generalize (L2.upd (L2.upd (L2.upd H l1 (.lst [])) l2 (.lst [])) pr (.tup [.int 0, .int 0])) = H2 at g1 g2 e2 ⊢
    obtain ⟨R, hR⟩ : ∃ R, search wd ts L X (X.length + 1) 0 0 = R := ⟨_, rfl⟩
    rw [hR] at q
    refine ⟨fun m σ H' => ∃ (p st : Nat) (vs us' : List V) (ws : List Win) (td : List (Nat × Nat)) (y7 y8 y9 y10 y11 y12 y13 : Option V), σ = [some (.ref o), some (.str (tx X)), some (.ref l1), some (.ref l2), some (.int (p : Nat)), some (.int (st : Nat)), y7, y8, y9, y10, y11, y12, y13] ∧
        Ex H H' ∧ H' l1 = some (.lst vs) ∧ WnA H' vs ws ∧ H' l2 = some (.lst us') ∧ PrA H' us' td ∧ st < ts.length ∧ X.length + 1 ≤ m + p ∧ ws ++ (search wd ts L X m p st).1 = R.1 ∧ td ++ (search wd ts L X m p st).2 = R.2 ∧ ws.length + m ≤ 5001 ∧ td.length + 3000 * m ≤ 3000 * 5001,
      ⟨X.length + 1, 0, 0, [], [], [], [], none, none, none, none, none, none, none, rfl, e2, g1, .nil, g2, .nil, n1, Nat.le_refl _, by rw [hR]; rfl, by rw [hR]; rfl, by show 0 + (X.length + 1) ≤ 5001; omega, by show 0 + 3000 * (X.length + 1) ≤ _; omega⟩, fun m σ H' hw => ?_⟩
    obtain ⟨p, st, vs, us', ws, td, y7, y8, y9, y10, y11, y12, y13, rfl, e, h1, hW, h2, hP, hst, hm, q1, q2, hb1, hb2⟩ := hw
    have lvs := hW.len
    have lus := hP.len
    have so := e _ _ s1
    -- the end
    have fin : ∀ (σ : L2.St) (H3 : Hp) (vs3 us3 : List V), Ex H H3 → H3 l1 = some (.lst vs3) → WnA H3 vs3 R.1 → H3 l2 = some (.lst us3) → PrA H3 us3 R.2 → R.1.length ≤ 10000 → ∀ t1, H3 t1 = none → ∀ t2, (L2.upd H3 t1 (.tup vs3)) t2 = none → ∀ x dx, (L2.upd (L2.upd H3 t1 (.tup vs3)) t2 (.tup us3)) x = none → (L2.upd (L2.upd H3 t1 (.tup vs3)) t2 (.tup us3)) dx = none → dx ≠ x →
        spTInit C_Trace [.ref x, .ref t1, .ref t2] (L2.upd (L2.upd (L2.upd (L2.upd H3 t1 (.tup vs3)) t2 (.tup us3)) dx (.own x)) x (.ins C_Trace dx [])) (fun v H4 => v = .non ∧ Q (.ref x) H4) (fun _ _ _ => False) := by
      intro σ H3 vs3 us3 e3 k1 kW k2 kP hlen t1 ht1 t2 ht2 x dx hx hdx hne
      have f1 := Ex.new (o := .tup vs3) ht1
      have f2 := Ex.new (o := .tup us3) ht2
      exact mk_tr hx hdx hne (f2 _ _ upd_same) (kW.ex (f1.trans f2)) upd_same (kP.ex (f1.trans f2)) hlen fun H4 e4 TO => ⟨rfl, q H4 x (e3.trans (f1.trans (f2.trans e4))) TO⟩
    refine ⟨_, rfl, _, rfl, o, _, dxo, _, _, rfl, so, S.cl, S.nw, sFs_w _ _ _ _, _, _, rfl, rfl, _, rfl, _, rfl, tx_m (by omega), _, _, rfl, rfl, _, rfl, ite2 (fun hlt => ?_) (fun hlt => ?_)⟩
    · have hpw : p + wd ≤ X.length := by
        have := of_decide_eq_true hlt
        rw [tx_len] at this
        omega
      obtain ⟨m', rfl⟩ : ∃ m', m = m' + 1 := ⟨m - 1, by omega⟩
      refine ⟨fun σ2 H2 => ∃ m2, m2 < m' + 1 ∧ ∃ (p st : Nat) (vs us' : List V) (ws : List Win) (td : List (Nat × Nat)) (y7 y8 y9 y10 y11 y12 y13 : Option V), σ2 = [some (.ref o), some (.str (tx X)), some (.ref l1), some (.ref l2), some (.int (p : Nat)), some (.int (st : Nat)), y7, y8, y9, y10, y11, y12, y13] ∧
        Ex H H2 ∧ H2 l1 = some (.lst vs) ∧ WnA H2 vs ws ∧ H2 l2 = some (.lst us') ∧ PrA H2 us' td ∧ st < ts.length ∧ X.length + 1 ≤ m2 + p ∧ ws ++ (search wd ts L X m2 p st).1 = R.1 ∧ td ++ (search wd ts L X m2 p st).2 = R.2 ∧ ws.length + m2 ≤ 5001 ∧ td.length + 3000 * m2 ≤ 3000 * 5001, fun σ2 H2 h => h, ?_⟩
      refine ⟨_, rfl, _, rfl, _, rfl, _, rfl, _, rfl, o, _, dxo, _, _, rfl, so, S.cl, S.nw, sFs_w _ _ _ _, _, _, rfl, rfl, _, _, rfl, rfl, _, rfl, _, rfl, tx_m (by omega), ?_⟩
      have hcut : cutS (tx X) (some ((p : Nat) : Int)) (some (((p : Nat) : Int) + (wd : Int) + 1)) = tx ((X.drop p).take (wd + 1)) := by
        rw [show ((p : Nat) : Int) + (wd : Int) + 1 = ((p : Nat) : Int) + ((wd + 1 : Nat) : Int) by omega, cut_mid]
      rw [hcut]
      obtain ⟨Y, hY⟩ : ∃ Y, (X.drop p).take (wd + 1) = Y := ⟨_, rfl⟩
      have hYL : ∀ c ∈ Y, c ∈ L := fun c hc => by
        rw [← hY] at hc
        exact hX c (List.mem_of_mem_drop (List.mem_of_mem_take hc))
      have hYl : Y.length ≤ 9 := by
        rw [← hY, List.length_take]
        omega
      rw [hY]
      -- the tree
      have hsu : st < us.length := by
        rw [s3.len]
        exact hst
      obtain ⟨t, ht, hta⟩ := s3.get (List.getElem?_eq_getElem hsu)
      have mem := List.mem_of_getElem? ht
      have tsz := size_mem mem
      have tok := hok t mem
      have hrl := Tr.run_len (L := L) (S := Y) t
      refine ⟨_, rfl, o, _, dxo, _, _, rfl, so, S.cl, S.ns, sFs_s _ _ _ _, _, rfl, sa, us, _, _, rfl, rfl, st_of (e _ _ s2), atI_nat (List.getElem?_eq_getElem hsu), _, rfl, o, _, dxo, _, _, rfl, so, S.cl, S.nl, sFs_l _ _ _ _, _, rfl, t, _, L, Y, wd, ts.length, rfl, hta.ex e, tok, hLG.nd, hYL, by omega, by omega, by omega, fun H3 r r1 r2 g rv e3 hr hr1 hRd hr2 hG => ?_⟩
      refine ⟨r, _, rfl, st_of hr, rfl, _, _, rfl, _, _, rfl, _, _, rfl, rfl, ?_⟩
      -- windows.append
      refine ⟨_, rfl, .inl ⟨rfl, _, sq_of (e3 _ _ h1)⟩, _, rfl, _, rfl, _, rfl, by show 3 ≤ sizeLine; decide, fun tw htw => ?_⟩
      have f1 := Ex.new (o := .tup [.int (p : Nat), .int (st : Nat), .ref r1]) htw
      refine ⟨l1, _, _, rfl, rfl, f1 _ _ (e3 _ _ h1), sz_k (by omega), ?_⟩
      have htw1 : (L2.upd H3 tw (.tup [.int (p : Nat), .int (st : Nat), .ref r1])) tw = some (.tup [.int (p : Nat), .int (st : Nat), .ref r1]) := upd_same
      have hW4 := ((hW.ex (e3.trans f1)).snoc htw1 (f1 _ _ hr1) (hRd.ex f1)).upd (a := l1) (o := .lst (vs ++ [.ref tw])) (lst_no (f1 _ _ (e3 _ _ h1)))
      have hP4 := (hP.ex (e3.trans f1)).upd (a := l1) (o := .lst (vs ++ [.ref tw])) (lst_no (f1 _ _ (e3 _ _ h1)))
      have e4 : Ex H (L2.upd (L2.upd H3 tw (.tup [.int (p : Nat), .int (st : Nat), .ref r1])) l1 (.lst (vs ++ [.ref tw]))) := (e.trans (e3.trans f1)).mut hl10
      have k1 : (L2.upd (L2.upd H3 tw (.tup [.int (p : Nat), .int (st : Nat), .ref r1])) l1 (.lst (vs ++ [.ref tw]))) l1 = some (.lst (vs ++ [.ref tw])) := upd_same
      have k2 : (L2.upd (L2.upd H3 tw (.tup [.int (p : Nat), .int (st : Nat), .ref r1])) l1 (.lst (vs ++ [.ref tw]))) l2 = some (.lst us') := by
        rw [upd_ne n12.symm]
        exact f1 _ _ (e3 _ _ h2)
      have n1r : ∀ {a : Addr} {xs : List V}, H3 a = some (.tup xs) → a ≠ l1 := fun {a xs} z z2 => by
        rw [z2, e3 _ _ h1] at z
        cases z
      have k3 : (L2.upd (L2.upd H3 tw (.tup [.int (p : Nat), .int (st : Nat), .ref r1])) l1 (.lst (vs ++ [.ref tw]))) r2 = some (.tup (nv (t.run L Y).2.1)) := by
        rw [upd_ne (n1r hr2)]
        exact f1 _ _ hr2
      have kG : GoA (L2.upd (L2.upd H3 tw (.tup [.int (p : Nat), .int (st : Nat), .ref r1])) l1 (.lst (vs ++ [.ref tw]))) g (t.run L Y).2.2 := by
        cases hz : (t.run L Y).2.2 with
        | none =>
          rw [hz] at hG
          exact hG
        | some z =>
          obtain ⟨z1, z2⟩ := z
          rw [hz] at hG
          obtain ⟨a, e5, h5⟩ := hG
          exact ⟨a, e5, by rw [upd_ne (n1r h5)]; exact f1 _ _ h5⟩
      generalize (L2.upd (L2.upd H3 tw (.tup [.int (p : Nat), .int (st : Nat), .ref r1])) l1 (.lst (vs ++ [.ref tw]))) = H4 at hW4 hP4 e4 k1 k2 k3 kG ⊢
      -- told.extend
      obtain ⟨ns, hns⟩ : ∃ ns, (t.run L Y).2.1 = ns := ⟨_, rfl⟩
      rw [hns] at k3 hrl
      refine ⟨_, rfl, .inl ⟨rfl, _, sq_of k2⟩, _, rfl, r2, rfl, ⟨_, st_of k3⟩, fun D hD => ?_⟩
      refine lc_tup (fun i H' => Ex H4 H' ∧ ∃ zs, H' D = some (.lst zs) ∧ PrA H' zs ((ns.take i).map fun n => (p, n))) ⟨Ex.new hD, [], upd_same, .nil⟩ (fun i H' _ p => st_of (p.1 _ _ k3)) (fun i x H' hx hw => ?_) (fun H5 hw => ?_)
      · obtain ⟨e5, zs, hz, Z⟩ := hw
        obtain ⟨nn, hnn, rfl⟩ : ∃ nn, ns[i]? = some nn ∧ x = .int (nn : Nat) := by
          rw [List.getElem?_map] at hx
          cases hq : ns[i]? with
          | none =>
            rw [hq] at hx
            cases hx
          | some nn =>
            rw [hq] at hx
            exact ⟨nn, rfl, (Option.some.inj hx).symm⟩
        have hi := (List.getElem?_eq_some_iff.mp hnn).1
        have lz := Z.len
        rw [List.length_map, List.length_take] at lz
        refine ⟨rfl, _, rfl, _, rfl, by show 2 ≤ sizeLine; decide, fun x2 hx2 => ?_⟩
        have f2 := Ex.new (o := .tup [.int (p : Nat), .int (nn : Nat)]) hx2
        refine ⟨zs, f2 _ _ hz, sz_k (by omega), (e5.trans f2).mut hD, zs ++ [.ref x2], upd_same, ?_⟩
        rw [take_next' hnn, List.map_append]
        exact ((Z.ex f2).app (.cons upd_same .nil)).upd (lst_no (f2 _ _ hz))
      obtain ⟨e5, zs, hz, Z⟩ := hw
      rw [show (List.map (fun n => V.int (n : Nat)) ns).length = ns.length from List.length_map .., List.take_length] at Z
      have lz := Z.len
      rw [List.length_map] at lz
      have hns3 : ns.length ≤ 3000 := by omega
      refine ⟨l2, D, _, zs, rfl, rfl, e5 _ _ k2, hz, ?_, ?_⟩
      · rw [sizeLine_eq, lus, lz]
        omega
      have e6 : Ex H (L2.upd H5 l2 (.lst (us' ++ zs))) := (e4.trans e5).mut hl20
      have j1 : (L2.upd H5 l2 (.lst (us' ++ zs))) l1 = some (.lst (vs ++ [.ref tw])) := by
        rw [upd_ne n12]
        exact e5 _ _ k1
      have j2 : (L2.upd H5 l2 (.lst (us' ++ zs))) l2 = some (.lst (us' ++ zs)) := upd_same
      have jW := (hW4.ex e5).upd (a := l2) (o := .lst (us' ++ zs)) (lst_no (e5 _ _ k2))
      have jP := ((hP4.ex e5).app Z).upd (a := l2) (o := .lst (us' ++ zs)) (lst_no (e5 _ _ k2))
      have jG : GoA (L2.upd H5 l2 (.lst (us' ++ zs))) g (t.run L Y).2.2 := by
        cases hz2 : (t.run L Y).2.2 with
        | none =>
          rw [hz2] at kG
          exact kG
        | some z =>
          obtain ⟨z1, z2⟩ := z
          rw [hz2] at kG
          obtain ⟨a, e7, h7⟩ := kG
          refine ⟨a, e7, ?_⟩
          rw [upd_ne (fun z3 : a = l2 => by
            rw [z3, k2] at h7
            cases h7)]
          exact e5 _ _ h7
      generalize (L2.upd H5 l2 (.lst (us' ++ zs))) = H6 at e6 j1 j2 jW jP jG ⊢
      have hrun := hns
      rw [← hY] at hrun
      cases hz3 : (t.run L Y).2.2 with
      | none =>
        have hcut2 := search_cut (f := m') hpw ht (by rw [hY]; exact hz3)
        rw [hcut2, hY, hns] at q1 q2
        rw [hz3] at jG
        have jg : g = .non := jG
        subst jg
        refine ⟨_, rfl, rfl, _, rfl, ite2 (fun _ => ?_) (fun hb => absurd (by decide) hb)⟩
        refine ⟨_, rfl, l1, _, rfl, .inl ⟨sq_of j1, fun t1 ht1 => ?_⟩⟩
        have f2 := Ex.new (o := .tup (vs ++ [.ref tw])) ht1
        refine ⟨_, rfl, l2, _, rfl, .inl ⟨sq_of (f2 _ _ j2), fun t2 ht2 => ?_⟩⟩
        intro x dx hx hdx hne
        exact fin [] H6 _ _ e6 j1 (by rw [← q1]; exact jW) j2 (by rw [← q2]; exact jP) (by rw [← q1, List.length_append]; show ws.length + 1 ≤ _; omega) t1 ht1 t2 ht2 x dx hx hdx hne
      | some z =>
        obtain ⟨s', q'⟩ := z
        have hgo := search_go (f := m') hpw ht (by rw [hY]; exact hz3)
        rw [hgo, hY, hns] at q1 q2
        rw [hz3] at jG
        obtain ⟨ga, rfl, hga⟩ := jG
        obtain ⟨s1', s2', s3'⟩ := Tr.run_ok tok hz3
        refine ⟨_, rfl, rfl, _, rfl, ite2 (fun hb => absurd hb (by simp)) (fun _ => ?_)⟩
        refine ⟨_, rfl, ga, _, rfl, .inl (.inl hga), rfl, _, _, rfl, _, _, rfl, _, _, rfl, rfl, ?_⟩
        refine ⟨_, rfl, _, rfl, _, _, rfl, rfl, ?_⟩
        refine ⟨m', by omega, p + s', q', _, _, _, _, _, _, _, _, _, _, _, congrArg (fun z => [some (V.ref o), some (V.str (tx X)), some (V.ref l1), some (V.ref l2), some (V.int z), some (V.int (q' : Nat)), some (V.str (tx Y)), some (V.ref r1), some (V.ref r2), some (V.ref ga), y11, some (V.str "go"), some (V.int (s' : Nat))]) (show (p : Int) + (s' : Int) = ((p + s' : Nat) : Int) by omega), e6, j1, jW, j2, jP, s3', by omega, ?_, ?_, ?_, ?_⟩
        · rw [List.append_assoc]
          exact q1
        · rw [List.append_assoc]
          exact q2
        · rw [List.length_append]
          show ws.length + 1 + m' ≤ 5001
          omega
        · rw [List.length_append, List.length_map]
          omega
    · rw [search_end (by
        have : ¬ _ := fun z => hlt (decide_eq_true z)
        rw [tx_len] at this
        omega)] at q1 q2
      rw [List.append_nil] at q1 q2
      refine ⟨_, rfl, l1, _, rfl, .inl ⟨sq_of h1, fun t1 ht1 => ?_⟩⟩
      have f1 := Ex.new (o := .tup vs) ht1
      refine ⟨_, rfl, l2, _, rfl, .inl ⟨sq_of (f1 _ _ h2), fun t2 ht2 => ?_⟩⟩
      intro x dx hx hdx hne
      exact fin [] H' vs us' e h1 (by rw [← q1]; exact hW) h2 (by rw [← q2]; exact hP) (by rw [← q1]; omega) t1 ht1 t2 ht2 x dx hx hdx hne
theorem ok_ws {f : Addr} {fd : FuncData} (F : Fun K "wrong_sign" "wrong_sign" s_wrong_sign f fd) (T : Tx mg) : FnOk P w K mg base CX0 1 f fd ["letters", "text"] (spWS K) := by
  refine F.ok sc_wrong_sign (fun vs H Q E h => ?_) (fun cdv A outer s H vs Q E hr h => ?_)
  · obtain ⟨L, _, ⟨T, rfl, _⟩ | ⟨v, t, rfl, _⟩⟩ := h <;> rfl
  · obtain ⟨L, hL, h⟩ := h
    refine ⟨_, (pss_cons (ps_if (pt_not (pt_val (pe_callB call_isi (by rfl) T.isinstance PyProof.Rows.boot_isinstance (pa_cons (pv 1) (pa_cons (pe_bltn (v := .ty "str") (by rfl) T.str PyProof.Rows.boot_str rfl) pa_nil))))) (pss_one (ps_ret pe_int)) pss_nil)
      (pss_cons (ps_for PassesOwn.never rfl (EN.pi_enumS (by rfl) T.enumerate (pa_cons (pv 1) pa_nil)) (pg_tup (by rfl) (pgs_cons (pg_name (i := 2) sc_wrong_sign.nd rfl (Or.inl rfl)) (pgs_cons (pg_name (i := 3) sc_wrong_sign.nd rfl (Or.inl rfl)) pgs_nil))) (pss_one (ps_if (pt_cmpR op_notIn_sign (pv 3) (pv 0) rfl) (pss_one (ps_ret (pv 2))) pss_nil)))
      (pss_one (ps_ret pe_non)))), ?_⟩
    rcases h with ⟨T, rfl, q1, q2⟩ | ⟨v, t, rfl, ty, kk, q⟩
    · refine ⟨_, rfl, _, _, _, _, true, rfl, .ty _, .base (.str _), kit_ss, true, rfl, ?_⟩
      refine ⟨_, rfl, _, rfl, ?_⟩
      refine EN.for_enumS (x := tx T) (fun i σ H' => ∃ y2 y3 : Option V, σ = [some (.str (tx L)), some (.str (tx T)), y2, y3] ∧ Ex H H' ∧ ∀ j d, j < i → T[j]? = some d → d ∈ L) ⟨none, none, rfl, Ex.refl _, fun j d hj => absurd hj (Nat.not_lt_zero _)⟩ (fun i c T' σ H' hic hw hT => ?_) (fun σ H' hw => ?_)
      · obtain ⟨y2, y3, rfl, e, ih⟩ := hw
        have hc := tx_at hic
        refine ⟨T', _, rfl, .inl (.inl upd_same), rfl, _, _, rfl, _, _, rfl, rfl, ?_⟩
        refine ⟨_, rfl, _, rfl, c, _, rfl, rfl, _, rfl, ?_⟩
        rw [show (tx L).cps.toList = L from rfl]
        by_cases hm : c ∈ L
        · rw [decide_eq_true hm]
          refine ⟨_, _, rfl, e.trans (Ex.new hT), fun j d hj hd => ?_⟩
          by_cases hji : j = i
          · rw [hji, hc] at hd
            rw [← Option.some.inj hd]
            exact hm
          · exact ih j d (by omega) hd
        · rw [decide_eq_false hm]
          exact ⟨_, rfl, q2 _ i c (e.trans (Ex.new hT)) hc hm ih⟩
      · obtain ⟨y2, y3, rfl, e, ih⟩ := hw
        refine q1 _ e fun c hc => ?_
        obtain ⟨j, hj, rfl⟩ := List.mem_iff_getElem.mp hc
        exact ih j _ (by rw [tx_size]; exact hj) (List.getElem?_eq_getElem hj)
    · refine ⟨_, rfl, _, _, _, _, false, rfl, .ty _, ty, kk, false, rfl, ?_⟩
      exact q
theorem ok_traceN {f C_Searcher C_Trace : Addr} {fd : FuncData} (F : Fun K "trace" "trace" s_trace f fd) (T : Tx mg) (S : SC K C_Searcher)
    (c_wrong_sign : Kn P w K mg base "wrong_sign" ["letters", "text"] 1 (spWS K)) (c_searched : Kn P w K mg base "searched" ["searcher", "text"] 3 (spSearched C_Searcher C_Trace)) : FnOk P w K mg base CX0 4 f fd ["searcher", "text"] (spTraceN C_Searcher C_Trace) := by
  refine F.ok sc_trace (fun vs H Q E h => ?_) (fun cdv A outer s H vs Q E hr h => ?_)
  · obtain ⟨o, L, wd, ts, X, _, rfl, _⟩ := h
    rfl
  · obtain ⟨o, L, wd, ts, X, SS, rfl, hX, hXl, q⟩ := h
    obtain ⟨SO, hLG, w1, w8, n1, n64, hok, htot⟩ := SS
    obtain ⟨dxo, sa, us, s1, s2, s3⟩ := SO.ex
    have L4 := hLG.hi
    refine ⟨_, (pss_cons (ps_set (i := 2) sc_trace.nd rfl (Or.inl rfl) (pe_call c_wrong_sign.ok (hr.mono (by decide)) (by rfl) c_wrong_sign.g c_wrong_sign.kp c_wrong_sign.b .nil pass0 (pa_cons (pe_fld (pv 0) rfl) (pa_cons (pv 1) pa_nil))))
      (pss_cons (ps_if (pt_cmpR op_notN (pv 2) pe_non (nomark _)) (pss_one ps_never) pss_nil)
      (pss_cons (ps_if (pt_cmpR op_gt (pe_callB call_len_str (by rfl) T.len PySem.boot_len (pa_cons (pv 1) pa_nil)) (pe_glob (v := .int 5000) rfl T.m_MOST_LETTERS ⟨_, rfl⟩) (nomark _)) (pss_one ps_never) pss_nil)
      (pss_one (ps_ret (pe_call c_searched.ok (hr.mono (by decide)) (by rfl) c_searched.g c_searched.kp c_searched.b .nil pass0 (pa_cons (pv 0) (pa_cons (pv 1) pa_nil)))))))), ?_⟩
    refine ⟨_, rfl, o, _, dxo, _, _, rfl, s1, S.cl, S.nl, sFs_l _ _ _ _, _, rfl, L, by omega, .inl ⟨X, rfl, fun H1 e1 _ => ?_, fun H1 i c e1 hi hc _ => absurd (hX c (List.mem_of_getElem? hi)) hc⟩⟩
    refine ⟨_, rfl, rfl, _, rfl, ite2 (fun hb => absurd hb (by decide)) (fun _ => ?_)⟩
    refine ⟨_, rfl, _, rfl, tx_m (by omega), _, _, rfl, rfl, _, rfl, iteDn (by rw [tx_len]; omega) ?_⟩
    exact ⟨_, rfl, _, rfl, o, L, wd, ts, X, (show Sch C_Searcher H1 o L wd ts from Sch.up ⟨SO, hLG, w1, w8, n1, n64, hok, htot⟩ e1), rfl, hX, hXl, fun H' r e TO => q H' r (e1.trans e) TO⟩
end
end Law

/-! one turn of a standing is the turn that the signs make; pure -/
namespace SG
open TR
/-- what is known is true of the signs -/
def Tru (S kn : List Nat) : Prop := ∀ (i c : Nat), kn[i]? = some c → c = 46 ∨ S[i]? = some c
mutual
theorem pre_tnT (L : List Nat) (w : Nat) : ∀ (t : Tr) (kn : List Nat) (rd : List (Nat × Nat)) (tl : List Nat), ∀ T ∈ tnT L w t kn rd tl, ∃ r, T.rd = rd ++ r
  | .go s q, kn, rd, tl, T, hT => by
    unfold tnT at hT
    rw [List.mem_singleton.mp hT]
    exact ⟨[], (List.append_nil _).symm⟩
  | .tell n t, kn, rd, tl, T, hT => by
    unfold tnT at hT
    exact pre_tnT L w t kn rd _ T hT
  | .read p ts, kn, rd, tl, T, hT => by
    unfold tnT at hT
    rcases List.mem_append.mp hT with hT | hT
    · split at hT
      · rw [List.mem_singleton.mp hT]
        exact ⟨[], (List.append_nil _).symm⟩
      · cases hT
    · obtain ⟨c, r, _, h⟩ := pre_tnA L w ts p L kn rd tl T hT
      exact ⟨_, h⟩
theorem pre_tnA (L : List Nat) (w : Nat) : ∀ (ts : Trs) (p : Nat) (ls kn : List Nat) (rd : List (Nat × Nat)) (tl : List Nat), ∀ T ∈ tnA L w ts p ls kn rd tl, ∃ c r, c ∈ ls ∧ T.rd = rd ++ (p, c) :: r
  | .nil, p, ls, kn, rd, tl, T, hT => by
    unfold tnA at hT
    cases hT
  | .cons t r, p, [], kn, rd, tl, T, hT => by
    unfold tnA at hT
    exact pre_tnA L w r p [] kn rd tl T hT
  | .cons t r, p, c :: ls, kn, rd, tl, T, hT => by
    unfold tnA at hT
    rcases List.mem_append.mp hT with hT | hT
    · have hT : T ∈ (if kn.getD p 0 = 46 ∨ kn.getD p 0 = c then tnT L w t (kn.set p c) (rd ++ [(p, c)]) tl else []) := hT
      split at hT
      · obtain ⟨r', h⟩ := pre_tnT L w t _ _ _ T hT
        exact ⟨c, r', List.mem_cons_self, by rw [h, List.append_assoc]; rfl⟩
      · cases hT
    · obtain ⟨d, r', h1, h2⟩ := pre_tnA L w r p ls kn rd tl T hT
      exact ⟨d, r', List.mem_cons_of_mem _ h1, h2⟩
end
def rdF (X : List (Nat × Nat)) (T : Trn) : Bool := decide (T.rd = X)
theorem filt_none {X : List (Nat × Nat)} {xs : List Trn} (h : ∀ T ∈ xs, T.rd ≠ X) : xs.filter (rdF X) = [] := List.filter_eq_nil_iff.mpr fun T hT z => h T hT (of_decide_eq_true z)
theorem one_kid {L : List Nat} {w p c : Nat} {kn : List Nat} {rd Y : List (Nat × Nat)} {tl : List Nat} (hk : kn.getD p 0 = 46 ∨ kn.getD p 0 = c) : ∀ (ts : Trs) (ls : List Nat) (j : Nat) (t : Tr), ls.Nodup → ls[j]? = some c → ts.list[j]? = some t →
    (tnA L w ts p ls kn rd tl).filter (rdF (rd ++ (p, c) :: Y)) = (tnT L w t (kn.set p c) (rd ++ [(p, c)]) tl).filter (rdF (rd ++ (p, c) :: Y))
  | .nil, _, _, _, _, _, ht => by
    unfold Trs.list at ht
    simp at ht
  | .cons t r, [], j, _, _, hj, _ => by simp at hj
  | .cons t r, d :: ls, 0, t', nd, hj, ht => by
    have e1 : d = c := Option.some.inj hj
    have e2 : t = t' := Option.some.inj ht
    subst e1 e2
    unfold tnA
    show ((if _ then _ else _) ++ tnA L w r p ls kn rd tl).filter _ = _
    rw [if_pos hk, List.filter_append, filt_none (xs := tnA L w r p ls kn rd tl) ?_, List.append_nil]
    intro T hT z
    obtain ⟨e, r', h1, h2⟩ := pre_tnA L w r p ls kn rd tl T hT
    rw [h2] at z
    have z := List.append_cancel_left z
    cases z
    exact (List.nodup_cons.mp nd).1 h1
  | .cons t r, d :: ls, j + 1, t', nd, hj, ht => by
    obtain ⟨n1, n2⟩ := List.nodup_cons.mp nd
    have hj : ls[j]? = some c := hj
    have ht : r.list[j]? = some t' := ht
    unfold tnA
    show ((if _ then tnT L w t (kn.set p d) (rd ++ [(p, d)]) tl else []) ++ tnA L w r p ls kn rd tl).filter _ = _
    rw [List.filter_append, one_kid hk r ls j t' n2 hj ht, filt_none, List.nil_append]
    intro T hT z
    split at hT
    · obtain ⟨r', h⟩ := pre_tnT L w t _ _ _ T hT
      rw [h, List.append_assoc] at z
      have z := List.append_cancel_left z
      have z : (p, d) :: r' = (p, c) :: Y := z
      cases z
      exact n1 (List.mem_of_getElem? hj)
    · cases hT
theorem known_at {S kn : List Nat} {p c : Nat} (hT : Tru S kn) (hp : p < kn.length) (h : S[p]? = some c) : kn.getD p 0 = 46 ∨ kn.getD p 0 = c := by
  have e : kn[p]? = some (kn.getD p 0) := by
    rw [List.getD_eq_getElem?_getD, List.getElem?_eq_getElem hp]
    rfl
  rcases hT p _ e with z | z
  · exact .inl z
  · rw [h] at z
    exact .inr (Option.some.inj z).symm
theorem known_none {S kn : List Nat} {p : Nat} (hT : Tru S kn) (hp : p < kn.length) (h : S[p]? = none) : kn.getD p 0 = 46 := by
  have e : kn[p]? = some (kn.getD p 0) := by
    rw [List.getD_eq_getElem?_getD, List.getElem?_eq_getElem hp]
    rfl
  rcases hT p _ e with z | z
  · exact z
  · rw [h] at z
    cases z
theorem Tru.set {S kn : List Nat} {p c : Nat} (hT : Tru S kn) (h : S[p]? = some c) : Tru S (kn.set p c) := fun i d hd => by
  by_cases q : i = p
  · rw [q] at hd ⊢
    by_cases hp : p < kn.length
    · rw [List.getElem?_set_self hp] at hd
      rw [← Option.some.inj hd]
      exact .inr h
    · rw [List.getElem?_eq_none (by rw [List.length_set]; omega)] at hd
      cases hd
  · rw [List.getElem?_set_ne (fun z => q z.symm)] at hd
    exact hT i d hd
theorem one_turn {L S : List Nat} {w n : Nat} (nd : L.Nodup) (hS : ∀ c ∈ S, c ∈ L) (l1 : w ≤ S.length) : ∀ (m : Nat) (t : Tr) (kn : List Nat) (rd : List (Nat × Nat)) (tl : List Nat), t.size ≤ m → t.ok L.length w n → kn.length = w + 1 → Tru S kn →
    ∃ kn', (tnT L w t kn rd tl).filter (rdF (rd ++ (t.run L S).1)) = [⟨rd ++ (t.run L S).1, tl ++ (t.run L S).2.1, kn', (t.run L S).2.2⟩] ∧ kn'.length = w + 1 ∧ Tru S kn'
  | 0, t, _, _, _, h, _, _, _ => absurd (size_pos t) (by omega)
  | m + 1, .go s q, kn, rd, tl, _, _, hk, hT => by
    refine ⟨kn, ?_, hk, hT⟩
    unfold tnT
    rw [run_go]
    simp [rdF]
  | m + 1, .tell k t, kn, rd, tl, h, ok, hk, hT => by
    unfold Tr.ok at ok
    obtain ⟨kn', h1, h2, h3⟩ := one_turn nd hS l1 m t kn rd (tl ++ [k]) (Nat.le_of_succ_le_succ h) ok.2 hk hT
    refine ⟨kn', ?_, h2, h3⟩
    unfold tnT
    rw [run_tell]
    dsimp only
    rw [h1, List.append_assoc]
    rfl
  | m + 1, .read p ts, kn, rd, tl, h, ok, hk, hT => by
    unfold Tr.ok at ok
    obtain ⟨k1, k2, k3⟩ := ok
    have hp : p < kn.length := by omega
    cases hc : S[p]? with
    | none =>
      have hpw : p = w := by
        have := List.getElem?_eq_none_iff.mp hc
        omega
      refine ⟨kn, ?_, hk, hT⟩
      unfold tnT
      rw [run_none hc, if_pos ⟨hpw, known_none hT hp hc⟩, List.filter_append, filt_none (xs := tnA L w ts p L kn rd tl) ?_]
      · simp [rdF]
      · intro T hT z
        obtain ⟨e, r', _, h2⟩ := pre_tnA L w ts p L kn rd tl T hT
        rw [h2] at z
        have z := List.append_cancel_left z
        cases z
    | some c =>
      have hcL := hS c (List.mem_of_getElem? hc)
      obtain ⟨j, hj⟩ := List.getElem?_of_mem hcL
      obtain ⟨t, ht⟩ : ∃ t, ts.list[j]? = some t := ⟨_, List.getElem?_eq_getElem (by have := (List.getElem?_eq_some_iff.mp hj).1; omega)⟩
      have hsz := size_get ht
      have hts : ts.size ≤ m := Nat.le_of_succ_le_succ h
      obtain ⟨kn', h1, h2, h3⟩ := one_turn nd hS l1 m t (kn.set p c) (rd ++ [(p, c)]) tl (by omega) (Trs.ok_mem k3 t (List.mem_of_getElem? ht)) (by rw [List.length_set]; exact hk) (hT.set hc)
      refine ⟨kn', ?_, h2, h3⟩
      unfold tnT
      rw [run_some hc nd hj ht]
      dsimp only
      rw [List.filter_append, one_kid (known_at hT hp hc) ts L j t nd hj ht]
      have e : rd ++ (p, c) :: (t.run L S).1 = rd ++ [(p, c)] ++ (t.run L S).1 := by rw [List.append_assoc]; rfl
      rw [e, h1, filt_none, List.nil_append]
      intro T hT z
      split at hT
      · rw [List.mem_singleton.mp hT] at z
        have z := congrArg List.length z
        simp at z
      · cases hT
theorem run_short {L S : List Nat} {w n : Nat} (nd : L.Nodup) (hS : ∀ c ∈ S, c ∈ L) : ∀ (m : Nat) (t : Tr), t.size ≤ m → t.ok L.length w n → (t.run L S).2.2 = none → S.length ≤ w
  | 0, t, h, _, _ => absurd (size_pos t) (by omega)
  | m + 1, .go s q, _, _, h => by
    rw [run_go] at h
    cases h
  | m + 1, .tell k t, h, ok, hr => by
    unfold Tr.ok at ok
    rw [run_tell] at hr
    exact run_short nd hS m t (Nat.le_of_succ_le_succ h) ok.2 hr
  | m + 1, .read p ts, h, ok, hr => by
    unfold Tr.ok at ok
    obtain ⟨k1, k2, k3⟩ := ok
    cases hc : S[p]? with
    | none =>
      have := List.getElem?_eq_none_iff.mp hc
      omega
    | some c =>
      obtain ⟨j, hj⟩ := List.getElem?_of_mem (hS c (List.mem_of_getElem? hc))
      obtain ⟨t, ht⟩ : ∃ t, ts.list[j]? = some t := ⟨_, List.getElem?_eq_getElem (by have := (List.getElem?_eq_some_iff.mp hj).1; omega)⟩
      have hsz := size_get ht
      have hts : ts.size ≤ m := Nat.le_of_succ_le_succ h
      rw [run_some hc nd hj ht] at hr
      exact run_short nd hS m t (by omega) (Trs.ok_mem k3 t (List.mem_of_getElem? ht)) hr
theorem search_len (w : Nat) (ts : List Tr) (L X : List Nat) : ∀ (f p q : Nat), (search w ts L X f p q).1.length ≤ f
  | 0, _, _ => Nat.le_refl _
  | f + 1, p, q => by
    by_cases h : p + w ≤ X.length
    · cases ht : ts[q]? with
      | none =>
        unfold search
        rw [if_pos h, ht]
        exact Nat.zero_le _
      | some t =>
        cases hr : (t.run L ((X.drop p).take (w + 1))).2.2 with
        | none =>
          rw [search_cut h ht hr]
          exact Nat.succ_le_succ (Nat.zero_le _)
        | some sq =>
          obtain ⟨s, q'⟩ := sq
          rw [search_go h ht hr]
          exact Nat.succ_le_succ (search_len w ts L X f (p + s) q')
    · rw [search_end h]
      exact Nat.zero_le _
theorem tru_dots (S : List Nat) (n : Nat) : Tru S (List.replicate n 46) := fun i c h => .inl (List.eq_of_mem_replicate (List.mem_of_getElem? h))
theorem tru_sg {L S kn : List Nat} (hS : ∀ c ∈ S, c ∈ L) (h : Tru S kn) : ∀ c ∈ kn, c = 46 ∨ c ∈ L := fun c hc => by
  obtain ⟨i, hi⟩ := List.getElem?_of_mem hc
  exact (h i c hi).imp id fun z => hS c (List.mem_of_getElem? z)
end SG
namespace Law
open TR SG
theorem tru_slid {X kn : List Nat} {p w s : Nat} (hk : kn.length = w + 1) (h : Tru ((X.drop p).take (w + 1)) kn) : Tru ((X.drop (p + s)).take (w + 1)) (slidF kn s) := fun i c hc => by
  have hi : i < kn.length := by
    rw [← slidF_len kn s]
    exact (List.getElem?_eq_some_iff.mp hc).1
  rw [slidF_get _ _ _ hi] at hc
  by_cases q : i + s < kn.length
  · rw [if_pos q] at hc
    rcases h (i + s) c (by rw [← Option.some.inj hc]; exact getD_at q) with z | z
    · exact .inl z
    · rw [List.getElem?_take_of_lt (by omega), List.getElem?_drop] at z
      refine .inr ?_
      rw [List.getElem?_take_of_lt (by omega), List.getElem?_drop, ← z]
      congr 1
      omega
  · rw [if_neg q] at hc
    exact .inl (Option.some.inj hc).symm
end Law

/-! the law's own search -/

namespace Law
open PySem PySem.Spec PyProof.Rows L2 Evl TR EK SG
def spLSearch : Sp := fun vs H Q _ => ∃ (L X : List Nat) (wd : Nat) (sa : Addr) (us : List V) (ts : List Tr), vs = [.str (tx L), .int (wd : Nat), .ref sa, .str (tx X)] ∧ H sa = some (.lst us) ∧ Kids true H us ts ∧ LG L ∧ 1 ≤ wd ∧ wd ≤ 8 ∧ 1 ≤ ts.length ∧ (∀ t ∈ ts, t.ok L.length wd ts.length ∧ t.depth ≤ 50 ∧ t.size ≤ 3000) ∧ (∀ c ∈ X, c ∈ L) ∧ X.length ≤ 5000 ∧
  ∀ H' r l1 l2 us' vs', Ex H H' → H' r = some (.tup [.ref l1, .ref l2]) → H' l1 = some (.lst us') → PrA H' us' (search wd ts L X (X.length + 1) 0 0).2 → H' l2 = some (.lst vs') → WnA H' vs' (search wd ts L X (X.length + 1) 0 0).1 → Q (.ref r) H'
/-- the go at a turn's end, or no slide -/
def GoSl (H : Hp) (u sv : V) : Option (Nat × Nat) → Prop
  | none => sv = .non
  | some (s, q) => sv = .int (s : Nat) ∧ ∃ a, u = .ref a ∧ H a = some (.tup [.str "go", .int (s : Nat), .int (q : Nat)])
theorem GoSl.ex {H H' : Hp} (e : ∀ b xs, H b = some (.tup xs) → H' b = some (.tup xs)) {u sv : V} : ∀ {g : Option (Nat × Nat)}, GoSl H u sv g → GoSl H' u sv g
  | none, h => h
  | some (_, _), ⟨h1, a, h2, h3⟩ => ⟨h1, a, h2, e _ _ h3⟩
theorem depth_kid {ts : Trs} {j : Nat} {t : Tr} : ts.list[j]? = some t → t.depth ≤ ts.depth := by
  induction ts using Trs.rec (motive_1 := fun _ => True) generalizing j with
  | go => trivial
  | tell => trivial
  | read => trivial
  | nil => intro h; unfold Trs.list at h; simp at h
  | cons t0 r _ ih =>
    intro h
    cases j with
    | zero =>
      have e : t0 = t := Option.some.inj h
      rw [← e]
      exact Nat.le_max_left _ _
    | succ j => exact Nat.le_trans (ih (j := j) h) (Nat.le_max_right _ _)
section
variable {P : Program} {w : World} {K : PySem.W.Frag} {mg : Str → Option Value} {base : Heap}
theorem ok_lsearch {f : Addr} {fd : FuncData} (F : Fun K "_law_search" "_law_search" s_lsearch f fd) (T : Tx mg) : FnOk P w K mg base CX0 1 f fd ["_law_letters", "_law_width", "_law_trees", "_law_text"] spLSearch := by
  refine F.ok sc_lsearch (fun vs H Q E h => ?_) (fun cdv A outer s H vs Q E hr h => ?_)
  · obtain ⟨L, X, wd, sa, us, ts, rfl, _⟩ := h
    rfl
  · obtain ⟨L, X, wd, sa, us, ts, rfl, hsa, KK, hLG, w1, w8, n1, hall, hX, hXl, q⟩ := h
    have L4 := hLG.hi
    refine ⟨_, (pss_cons (ps_asg (pe_tup (pa_cons (pe_lst pa_nil) (pa_cons (pe_lst pa_nil) (pa_cons pe_int (pa_cons pe_int pa_nil))))) (pg_tup (by rfl) (pgs_cons (pg_name (i := 4) sc_lsearch.nd rfl (Or.inl rfl)) (pgs_cons (pg_name (i := 5) sc_lsearch.nd rfl (Or.inl rfl)) (pgs_cons (pg_name (i := 6) sc_lsearch.nd rfl (Or.inl rfl)) (pgs_cons (pg_name (i := 7) sc_lsearch.nd rfl (Or.inl rfl)) pgs_nil))))))
      (pss_cons (ps_for PassesOwn.never rfl (pi_range1 (by rfl) T.range (pa_cons (pe_op op_add (pe_callB call_len_str (by rfl) T.len PySem.boot_len (pa_cons (pv 3) pa_nil)) pe_int) pa_nil)) (pg_name (i := 8) sc_lsearch.nd rfl (Or.inl rfl)) (pss_cons (ps_if (pt_cmpR op_gt (pe_op op_add (pv 6) (pv 1)) (pe_callB call_len_str (by rfl) T.len PySem.boot_len (pa_cons (pv 3) pa_nil)) (nomark _)) (pss_one ps_break) pss_nil)
      (pss_cons (ps_par3 (i := 9) (j := 10) (l := 11) (by rfl) sc_lsearch.nd rfl rfl rfl (by decide) (by decide) (by decide) rfl rfl rfl (pa_cons (pe_ix ix_list (pv 2) (pv 7) (fun _ _ => rfl)) (pa_cons (pe_lst pa_nil) (pa_cons pe_non pa_nil))) (by rfl))
      (pss_cons (ps_for PassesOwn.never rfl (pi_range1 (by rfl) T.range (pa_cons pe_int pa_nil)) (pg_name (i := 12) sc_lsearch.nd rfl (Or.inl rfl)) (pss_cons (ps_if (pt_cmpR op_eq (pe_ix ix_tup (pv 9) pe_int (fun _ _ => rfl)) pe_str (nomark _)) (pss_cons (ps_set (i := 11) sc_lsearch.nd rfl (Or.inl rfl) (pe_ix ix_tup (pv 9) pe_int (fun _ _ => rfl)))
      (pss_one ps_break)) pss_nil)
      (pss_one (ps_if (pt_cmpR op_eq (pe_ix ix_tup (pv 9) pe_int (fun _ _ => rfl)) pe_str (nomark _)) (pss_cons (ps_expr (pe_bm PySem.F.plainAttrs_list PySem.F.slot_list_append PySem.F.type_list_append mt_append (pv 4) (pa_cons (pe_tup (pa_cons (pv 6) (pa_cons (pe_ix ix_tup (pv 9) pe_int (fun _ _ => rfl)) pa_nil))) pa_nil)))
      (pss_one (ps_set (i := 9) sc_lsearch.nd rfl (Or.inl rfl) (pe_ix ix_tup (pv 9) pe_int (fun _ _ => rfl))))) (pss_one (ps_if (pt_cmpR op_eq (pe_op op_add (pv 6) (pe_ix ix_tup (pv 9) pe_int (fun _ _ => rfl))) (pe_callB call_len_str (by rfl) T.len PySem.boot_len (pa_cons (pv 3) pa_nil)) (nomark _)) (pss_one ps_break) (pss_cons (ps_set (i := 13) sc_lsearch.nd rfl (Or.inl rfl) (pe_ix ix_str (pv 3) (pe_op op_add (pv 6) (pe_ix ix_tup (pv 9) pe_int (fun _ _ => rfl))) (fun _ _ => rfl)))
      (pss_cons (ps_expr (pe_bm PySem.F.plainAttrs_list PySem.F.slot_list_append PySem.F.type_list_append mt_append (pv 10) (pa_cons (pe_tup (pa_cons (pe_ix ix_tup (pv 9) pe_int (fun _ _ => rfl)) (pa_cons (pv 13) pa_nil))) pa_nil)))
      (pss_one (ps_set (i := 9) sc_lsearch.nd rfl (Or.inl rfl) (pe_ix ix_tup (pe_ix ix_tup (pv 9) pe_int (fun _ _ => rfl)) (pe_bm PySem.F.plainAttrs_str PySem.F.slot_str_index PySem.F.type_str_index mt_sindex (pv 0) (pa_cons (pv 13) pa_nil)) (fun _ _ => rfl))))))))))))
      (pss_cons (ps_expr (pe_bm PySem.F.plainAttrs_list PySem.F.slot_list_append PySem.F.type_list_append mt_append (pv 5) (pa_cons (pe_tup (pa_cons (pv 6) (pa_cons (pv 7) (pa_cons (pe_callTy call_tuple_of (by rfl) T.tuple PyProof.Rows.boot_tuple (pa_cons (pv 10) pa_nil)) pa_nil)))) pa_nil)))
      (pss_cons (ps_if (pt_cmpR op_isN (pv 11) pe_non (nomark _)) (pss_one ps_break) pss_nil)
      (pss_one (ps_par (i := 6) (j := 7) (by rfl) sc_lsearch.nd rfl rfl (by decide) rfl rfl (pa_cons (pe_op op_add (pv 6) (pv 11)) (pa_cons (pe_ix ix_tup (pv 9) pe_int (fun _ _ => rfl)) pa_nil)) (by rfl)))))))))
      (pss_one (ps_ret (pe_tup (pa_cons (pv 4) (pa_cons (pv 5) pa_nil))))))), ?_⟩
    refine ⟨Nat.zero_le _, fun l1 hl1 => ⟨Nat.zero_le _, fun l2 hl2 => ⟨by show 4 ≤ sizeLine; decide, fun pr hpr => ?_⟩⟩⟩
    refine ⟨pr, _, rfl, st_of upd_same, rfl, _, _, rfl, _, _, rfl, _, _, rfl, _, _, rfl, rfl, ?_⟩
    have n12 : l1 ≠ l2 := fun z => by
      rw [← z, upd_same] at hl2
      cases hl2
    have n21 := n12.symm
    have hl20 : H l2 = none := fresh_back (Ex.new hl1) hl2
    have g1 : (L2.upd (L2.upd (L2.upd H l1 (.lst [])) l2 (.lst [])) pr (.tup [.ref l1, .ref l2, .int 0, .int 0])) l1 = some (.lst []) := Ex.new hpr _ _ (by rw [upd_ne n12, upd_same])
    have g2 : (L2.upd (L2.upd (L2.upd H l1 (.lst [])) l2 (.lst [])) pr (.tup [.ref l1, .ref l2, .int 0, .int 0])) l2 = some (.lst []) := Ex.new hpr _ _ upd_same
    have e2 := (Ex.new (o := .lst []) hl1).trans ((Ex.new (o := .lst []) hl2).trans (Ex.new (o := .tup [.ref l1, .ref l2, .int 0, .int 0]) hpr))
    generalize (L2.upd (L2.upd (L2.upd H l1 (.lst [])) l2 (.lst [])) pr (.tup [.ref l1, .ref l2, .int 0, .int 0])) = H2 at g1 g2 e2 ⊢
    obtain ⟨R, hR⟩ : ∃ R, search wd ts L X (X.length + 1) 0 0 = R := ⟨_, rfl⟩
    rw [hR] at q
    refine st_eq (show _ = [some (.str (tx L)), some (.int (wd : Nat)), some (.ref sa), some (.str (tx X)), some (.ref l1), some (.ref l2), some (.int (0 : Nat)), some (.int (0 : Nat)), none, none, none, none, none, none] from rfl) ?_
    -- the end
    have fin : ∀ (H' : Hp) (us' vs : List V), Ex H H' → H' l1 = some (.lst us') → PrA H' us' R.2 → H' l2 = some (.lst vs) → WnA H' vs R.1 → ∀ r, H' r = none → Q (.ref r) (L2.upd H' r (.tup [.ref l1, .ref l2])) := fun H' us' vs e h1 hP h2 hW r hr2 => by
      have f3 := Ex.new (o := .tup [.ref l1, .ref l2]) hr2
      exact q _ r l1 l2 us' vs (e.trans f3) upd_same (f3 _ _ h1) (hP.ex f3) (f3 _ _ h2) (hW.ex f3)
    refine ⟨_, rfl, _, rfl, tx_m (by omega), _, _, rfl, rfl, _, rfl, by rw [tx_len]; omega, by rw [tx_len]; omega, ?_⟩
    have hN : (((tx X).length : Int) + 1).toNat = X.length + 1 := by rw [tx_len]; omega
    rw [hN]
    refine for_it walk_range (n := X.length + 1) (fun i σ H' => ∃ (p st : Nat) (us' vs : List V) (td : List (Nat × Nat)) (ws : List Win) (y8 y9 y10 y11 y12 y13 : Option V), σ = [some (.str (tx L)), some (.int (wd : Nat)), some (.ref sa), some (.str (tx X)), some (.ref l1), some (.ref l2), some (.int (p : Nat)), some (.int (st : Nat)), y8, y9, y10, y11, y12, y13] ∧
        Ex H H' ∧ H' l1 = some (.lst us') ∧ PrA H' us' td ∧ H' l2 = some (.lst vs) ∧ WnA H' vs ws ∧ st < ts.length ∧ i ≤ p ∧ ws ++ (search wd ts L X (X.length + 1 - i) p st).1 = R.1 ∧ td ++ (search wd ts L X (X.length + 1 - i) p st).2 = R.2 ∧ ws.length ≤ i ∧ td.length ≤ 3000 * i)
      ⟨0, 0, [], [], [], [], _, _, _, _, _, _, rfl, e2, g1, .nil, g2, .nil, n1, Nat.le_refl _, by rw [Nat.sub_zero, hR]; rfl, by rw [Nat.sub_zero, hR]; rfl, Nat.le_refl _, Nat.zero_le _⟩ (fun _ _ _ _ _ => True.intro) (fun i x σ H' H9 hi hp hy => ?_) (fun σ H' hp => ?_)
    · obtain ⟨p, st, us', vs, td, ws, y8, y9, y10, y11, y12, y13, rfl, e, h1, hP, h2, hW, hst, hip, q1, q2, hb1, hb2⟩ := hp
      obtain ⟨rfl, hxe⟩ := hy
      have lvs := hW.len
      have lus := hP.len
      dsimp only [gName]
      refine st_eq (show _ = [some (.str (tx L)), some (.int (wd : Nat)), some (.ref sa), some (.str (tx X)), some (.ref l1), some (.ref l2), some (.int (p : Nat)), some (.int (st : Nat)), some x, y9, y10, y11, y12, y13] from rfl) ?_
      refine ⟨_, rfl, _, rfl, _, _, rfl, rfl, _, rfl, _, rfl, tx_m (by omega), _, _, rfl, rfl, _, rfl, ite2 (fun hb => ?_) (fun hb => ?_)⟩
      · have hn : ¬ p + wd ≤ X.length := by
          have := of_decide_eq_true hb
          rw [tx_len] at this
          omega
        rw [search_end hn] at q1 q2
        rw [List.append_nil] at q1 q2
        subst q1 q2
        exact ⟨_, rfl, _, rfl, by show 2 ≤ sizeLine; decide, fun r hr2 => fin H9 us' vs e h1 hP h2 hW r hr2⟩
      have hpw : p + wd ≤ X.length := by
        have : ¬ _ := fun z => hb (decide_eq_true z)
        rw [tx_len] at this
        omega
      have hsu : st < us.length := by
        rw [KK.len]
        exact hst
      obtain ⟨t, ht, hta⟩ := KK.get (List.getElem?_eq_getElem hsu)
      have mem := List.mem_of_getElem? ht
      obtain ⟨tok, tdp, tsz⟩ := hall t mem
      obtain ⟨Y, hY⟩ : ∃ Y, (X.drop p).take (wd + 1) = Y := ⟨_, rfl⟩
      have hYat : ∀ k, k ≤ wd → Y[k]? = X[p + k]? := fun k hk => by
        rw [← hY, List.getElem?_take_of_lt (by omega), List.getElem?_drop]
      have hrl := Tr.run_len (L := L) (S := Y) t
      refine ⟨_, rfl, _, rfl, sa, us, _, _, rfl, rfl, sq_of (e _ _ hsa), atI_nat (List.getElem?_eq_getElem hsu), Nat.zero_le _, fun rl hrl2 => ⟨_, _, _, rfl, ?_⟩⟩
      generalize us[st] = xt at hta
      have x3 := Ex.new (o := HO.lst []) hrl2
      have rl0 : H rl = none := fresh_back e hrl2
      have nr1 : rl ≠ l1 := fun z => by rw [z, h1] at hrl2; cases hrl2
      have nr2 : rl ≠ l2 := fun z => by rw [z, h2] at hrl2; cases hrl2
      have e3 := e.trans x3
      have h13 := x3 _ _ h1
      have h23 := x3 _ _ h2
      have hP3 := hP.ex x3
      have hW3 := hW.ex x3
      have hrl3 : (L2.upd H9 rl (.lst [])) rl = some (.lst []) := upd_same
      have hta3 := hta.ex e3
      generalize (L2.upd H9 rl (.lst [])) = H3 at e3 h13 h23 hP3 hW3 hrl3 hta3 ⊢
      refine st_eq (show _ = [some (.str (tx L)), some (.int (wd : Nat)), some (.ref sa), some (.str (tx X)), some (.ref l1), some (.ref l2), some (.int (p : Nat)), some (.int (st : Nat)), some x, some xt, some (.ref rl), some .non, y12, y13] from rfl) ?_
      refine ⟨_, rfl, by decide, by decide, ?_⟩
      refine' cut2 (fun σ' H' => ∃ (us2 : List V) (u' sv : V) (rus : List V) (y12 y13 : Option V), σ' = [some (.str (tx L)), some (.int (wd : Nat)), some (.ref sa), some (.str (tx X)), some (.ref l1), some (.ref l2), some (.int (p : Nat)), some (.int (st : Nat)), some x, some u', some (.ref rl), some sv, y12, y13] ∧
          Ex H H' ∧ H' l1 = some (.lst us2) ∧ PrA H' us2 (td ++ (t.run L Y).2.1.map fun n => (p, n)) ∧ H' l2 = some (.lst vs) ∧ WnA H' vs ws ∧ H' rl = some (.lst rus) ∧ RdA H' rus (t.run L Y).1 ∧ GoSl H' u' sv (t.run L Y).2.2) (fun kk => ?_) ?_
      rotate_left
      · refine for_it walk_range (n := 60) (fun j σ H' => ∃ (u : Tr) (xv : V) (us2 rus : List V) (td2 rd : List (Nat × Nat)) (y12 y13 : Option V), σ = [some (.str (tx L)), some (.int (wd : Nat)), some (.ref sa), some (.str (tx X)), some (.ref l1), some (.ref l2), some (.int (p : Nat)), some (.int (st : Nat)), some x, some xv, some (.ref rl), some .non, y12, y13] ∧
            Ex H H' ∧ H' l1 = some (.lst us2) ∧ PrA H' us2 td2 ∧ H' l2 = some (.lst vs) ∧ WnA H' vs ws ∧ H' rl = some (.lst rus) ∧ RdA H' rus rd ∧ TA true H' xv u ∧ u.ok L.length wd ts.length ∧ rd ++ (u.run L Y).1 = (t.run L Y).1 ∧ (td2 ++ (u.run L Y).2.1.map fun n => (p, n)) = (td ++ (t.run L Y).2.1.map fun n => (p, n)) ∧ (u.run L Y).2.2 = (t.run L Y).2.2 ∧ u.depth + j ≤ 50 ∧ rd.length ≤ j ∧ td2.length ≤ td.length + j)
          ⟨t, xt, us', [], td, [], _, _, rfl, e3, h13, hP3, h23, hW3, hrl3, .nil, hta3, tok, rfl, rfl, rfl, by omega, Nat.le_refl _, Nat.le_refl _⟩ (fun _ _ _ _ _ => True.intro) (fun j z σ H' H10 hj hp hz => ?_) (fun σ H' hp => ?_)
        · obtain ⟨u, xv, us2, rus, td2, rd, y12, y13, rfl, e4, k1, kP, k2, kW, kr, kR, hX1, uok, r1, r2, r3, udp, rl1, rl2⟩ := hp
          obtain ⟨rfl, hze⟩ := hz
          have hj60 : j < 60 := hj
          have lk := kP.len
          have lr := kR.len
          dsimp only [gName]
          refine st_eq (show _ = [some (.str (tx L)), some (.int (wd : Nat)), some (.ref sa), some (.str (tx X)), some (.ref l1), some (.ref l2), some (.int (p : Nat)), some (.int (st : Nat)), some x, some xv, some (.ref rl), some .non, some z, y13] from rfl) ?_
          cases hX1 with
          | @go a s' q' h =>
            rw [run_go] at r1 r2 r3
            dsimp only at r1 r2 r3
            rw [List.append_nil] at r1
            rw [List.map_nil, List.append_nil] at r2
            refine ⟨_, rfl, a, _, _, _, rfl, rfl, st_of h, atI_nat (j := 0) rfl, rfl, _, rfl, iteD rfl ?_⟩
            refine ⟨_, rfl, a, _, _, _, rfl, rfl, st_of h, atI_nat (j := 1) rfl, ?_⟩
            dsimp only [gName, tBreak]
            refine st_eq (show _ = [some (.str (tx L)), some (.int (wd : Nat)), some (.ref sa), some (.str (tx X)), some (.ref l1), some (.ref l2), some (.int (p : Nat)), some (.int (st : Nat)), some x, some (.ref a), some (.ref rl), some (.int (s' : Nat)), some z, y13] from rfl) ?_
            refine kk _ _ ⟨us2, .ref a, .int (s' : Nat), rus, some z, y13, rfl, e4, k1, by rw [← r2]; exact kP, k2, kW, kr, by rw [← r1]; exact kR, ?_⟩
            rw [← r3]
            exact ⟨rfl, a, rfl, h⟩
          | @tell a n' x' u' h r0 =>
            rw [run_tell] at r1 r2 r3
            dsimp only at r1 r2 r3
            unfold Tr.ok at uok
            refine ⟨_, rfl, a, _, _, _, rfl, rfl, st_of h, atI_nat (j := 0) rfl, rfl, _, rfl, iteDn tell_ne_go ?_⟩
            refine ⟨_, rfl, a, _, _, _, rfl, rfl, st_of h, atI_nat (j := 0) rfl, rfl, _, rfl, iteD rfl ?_⟩
            refine ⟨_, rfl, .inl ⟨rfl, _, sq_of k1⟩, _, rfl, _, rfl, a, _, _, _, rfl, rfl, st_of h, atI_nat (j := 1) rfl, by show 2 ≤ sizeLine; decide, fun tp htp => ?_⟩
            have f1 := Ex.new (o := HO.tup [.int (p : Nat), .int (n' : Nat)]) htp
            refine ⟨l1, _, _, rfl, rfl, f1 _ _ k1, by rw [sizeLine_eq]; omega, ?_⟩
            have n5 : ∀ b xs, (L2.upd H10 tp (.tup [.int (p : Nat), .int (n' : Nat)])) b = some (.tup xs) → (L2.upd (L2.upd H10 tp (.tup [.int (p : Nat), .int (n' : Nat)])) l1 (.lst (us2 ++ [.ref tp]))) b = some (.tup xs) := fun b xs hb => by
              rw [upd_ne (fun z => by rw [z, f1 _ _ k1] at hb; cases hb)]
              exact hb
            have kP5 := ((kP.ex f1).app (.cons upd_same .nil : PrA _ [.ref tp] [(p, n')])).upd (a := l1) (o := .lst (us2 ++ [.ref tp])) (lst_no (f1 _ _ k1))
            have kW5 := (kW.ex f1).upd (a := l1) (o := .lst (us2 ++ [.ref tp])) (lst_no (f1 _ _ k1))
            have kR5 := (kR.ex f1).upd (a := l1) (o := .lst (us2 ++ [.ref tp])) (lst_no (f1 _ _ k1))
            have e5 := (e4.trans f1).mut (o := .lst (us2 ++ [.ref tp])) hl1
            have k15 : (L2.upd (L2.upd H10 tp (.tup [.int (p : Nat), .int (n' : Nat)])) l1 (.lst (us2 ++ [.ref tp]))) l1 = some (.lst (us2 ++ [.ref tp])) := upd_same
            have k25 : (L2.upd (L2.upd H10 tp (.tup [.int (p : Nat), .int (n' : Nat)])) l1 (.lst (us2 ++ [.ref tp]))) l2 = some (.lst vs) := by rw [upd_ne n21]; exact f1 _ _ k2
            have kr5 : (L2.upd (L2.upd H10 tp (.tup [.int (p : Nat), .int (n' : Nat)])) l1 (.lst (us2 ++ [.ref tp]))) rl = some (.lst rus) := by rw [upd_ne nr1]; exact f1 _ _ kr
            have h5 := n5 _ _ (f1 _ _ h)
            have r05 := ta_tup (fun b xs hb => n5 b xs (f1 _ _ hb)) r0
            generalize (L2.upd (L2.upd H10 tp (.tup [.int (p : Nat), .int (n' : Nat)])) l1 (.lst (us2 ++ [.ref tp]))) = H5 at kP5 kW5 kR5 e5 k15 k25 kr5 h5 r05 ⊢
            refine ⟨_, rfl, a, _, _, _, rfl, rfl, st_of h5, atI_nat (j := 2) rfl, ?_⟩
            refine ⟨u', x', us2 ++ [.ref tp], rus, td2 ++ [(p, n')], rd, _, _, rfl, e5, k15, kP5, k25, kW5, kr5, kR5, r05, uok.2, r1, ?_, r3, ?_, by omega, by rw [List.length_append]; show td2.length + 1 ≤ _; omega⟩
            · rw [List.append_assoc]
              exact r2
            · have : (Tr.tell n' u').depth = u'.depth + 1 := rfl
              omega
          | @read a b pl us3 ts' h hb0 r0 =>
            have KT := r0.kids
            unfold Tr.ok at uok
            obtain ⟨o1, o2, o3⟩ := uok
            refine ⟨_, rfl, a, _, _, _, rfl, rfl, st_of h, atI_nat (j := 0) rfl, rfl, _, rfl, iteDn read_ne_go ?_⟩
            refine ⟨_, rfl, a, _, _, _, rfl, rfl, st_of h, atI_nat (j := 0) rfl, rfl, _, rfl, iteDn read_ne_tell ?_⟩
            refine ⟨_, rfl, _, rfl, a, _, _, _, rfl, rfl, st_of h, atI_nat (j := 1) rfl, _, _, rfl, rfl, _, rfl, _, rfl, tx_m (by omega), rfl, _, rfl, ite2 (fun hc => ?_) (fun hc => ?_)⟩
            · have hpe : p + pl = X.length := by
                have := V.int.inj (of_decide_eq_true hc)
                rw [tx_len] at this
                omega
              have hYn : Y[pl]? = none := by
                rw [hYat pl o1]
                exact List.getElem?_eq_none (by omega)
              rw [run_none hYn] at r1 r2 r3
              dsimp only at r1 r2 r3
              rw [List.append_nil] at r1
              rw [List.map_nil, List.append_nil] at r2
              dsimp only [tBreak]
              refine kk _ _ ⟨us2, .ref a, .non, rus, some z, y13, rfl, e4, k1, by rw [← r2]; exact kP, k2, kW, kr, by rw [← r1]; exact kR, ?_⟩
              rw [← r3]
              exact rfl
            · have hpe : p + pl ≠ X.length := fun z => hc (decide_eq_true (by rw [tx_len]; exact congrArg V.int (by omega)))
              have hpl : p + pl < X.length := by omega
              have hc1 : X[p + pl]? = some X[p + pl] := List.getElem?_eq_getElem hpl
              generalize X[p + pl] = c at hc1
              have hcL := hX c (List.mem_of_getElem? hc1)
              have hYc : Y[pl]? = some c := by rw [hYat pl o1]; exact hc1
              obtain ⟨k, rest, ho, hk⟩ := idx_of hcL
              have hk2 : k < us3.length := by
                rw [KT.len, o2]
                exact (List.getElem?_eq_some_iff.mp hk).1
              obtain ⟨kt, hkt, hka⟩ := KT.get (List.getElem?_eq_getElem hk2)
              have kmem := List.mem_of_getElem? hkt
              have kdp := depth_kid hkt
              rw [run_some hYc hLG.nd hk hkt] at r1 r2 r3
              dsimp only at r1 r2 r3
              have hat : atI (tx X).cps.toList ((p : Int) + (pl : Int)) = some c := by
                rw [show (p : Int) + (pl : Int) = ((p + pl : Nat) : Int) by omega]
                exact atI_nat hc1
              refine ⟨_, rfl, _, rfl, _, rfl, a, _, _, _, rfl, rfl, st_of h, atI_nat (j := 1) rfl, _, _, rfl, rfl, tx X, _, c, rfl, rfl, tx_m (by omega), hat, ?_⟩
              refine ⟨_, rfl, .inl ⟨rfl, _, sq_of kr⟩, _, rfl, a, _, _, _, rfl, rfl, st_of h, atI_nat (j := 1) rfl, _, rfl, by show 2 ≤ sizeLine; decide, fun tp htp => ?_⟩
              have f1 := Ex.new (o := HO.tup [.int (pl : Nat), .str ⟨#[c]⟩]) htp
              refine ⟨rl, _, _, rfl, rfl, f1 _ _ kr, sz_k (by omega), ?_⟩
              have n5 : ∀ b xs, (L2.upd H10 tp (.tup [.int (pl : Nat), .str ⟨#[c]⟩])) b = some (.tup xs) → (L2.upd (L2.upd H10 tp (.tup [.int (pl : Nat), .str ⟨#[c]⟩])) rl (.lst (rus ++ [.ref tp]))) b = some (.tup xs) := fun b xs hb => by
                rw [upd_ne (fun z => by rw [z, f1 _ _ kr] at hb; cases hb)]
                exact hb
              have kP5 := (kP.ex f1).upd (a := rl) (o := .lst (rus ++ [.ref tp])) (lst_no (f1 _ _ kr))
              have kW5 := (kW.ex f1).upd (a := rl) (o := .lst (rus ++ [.ref tp])) (lst_no (f1 _ _ kr))
              have kR5 := ((kR.ex f1).snoc (a := tp) (p := pl) (c := c) upd_same).upd (a := rl) (o := .lst (rus ++ [.ref tp])) (lst_no (f1 _ _ kr))
              have e5 := (e4.trans f1).mut (o := .lst (rus ++ [.ref tp])) rl0
              have k15 : (L2.upd (L2.upd H10 tp (.tup [.int (pl : Nat), .str ⟨#[c]⟩])) rl (.lst (rus ++ [.ref tp]))) l1 = some (.lst us2) := by rw [upd_ne nr1.symm]; exact f1 _ _ k1
              have k25 : (L2.upd (L2.upd H10 tp (.tup [.int (pl : Nat), .str ⟨#[c]⟩])) rl (.lst (rus ++ [.ref tp]))) l2 = some (.lst vs) := by rw [upd_ne nr2.symm]; exact f1 _ _ k2
              have kr5 : (L2.upd (L2.upd H10 tp (.tup [.int (pl : Nat), .str ⟨#[c]⟩])) rl (.lst (rus ++ [.ref tp]))) rl = some (.lst (rus ++ [.ref tp])) := upd_same
              have h5 := n5 _ _ (f1 _ _ h)
              have hb5 := n5 _ _ (f1 _ _ hb0)
              have hka5 := ta_tup (fun b xs hb => n5 b xs (f1 _ _ hb)) hka
              generalize (L2.upd (L2.upd H10 tp (.tup [.int (pl : Nat), .str ⟨#[c]⟩])) rl (.lst (rus ++ [.ref tp]))) = H5 at kP5 kW5 kR5 e5 k15 k25 kr5 h5 hb5 hka5 ⊢
              refine ⟨_, rfl, a, _, _, _, rfl, rfl, st_of h5, atI_nat (j := 2) rfl, _, rfl, rfl, _, rfl, _, _, k, rest, rfl, rfl, ho, b, us3, _, _, rfl, rfl, st_of hb5, atI_nat (List.getElem?_eq_getElem hk2), ?_⟩
              refine ⟨kt, _, us2, rus ++ [.ref tp], td2, rd ++ [(pl, c)], _, _, rfl, e5, k15, kP5, k25, kW5, kr5, kR5, hka5, Trs.ok_mem o3 kt kmem, ?_, r2, r3, ?_, by rw [List.length_append]; show rd.length + 1 ≤ _; omega, by omega⟩
              · rw [List.append_assoc]
                exact r1
              · have : (Tr.read pl ts').depth = ts'.depth + 1 := rfl
                omega
        · obtain ⟨u, xv, us2, rus, td2, rd, y12, y13, rfl, e4, k1, kP, k2, kW, kr, kR, hX1, uok, r1, r2, r3, udp, rl1, rl2⟩ := hp
          omega
      intro σ' H4 hh
      obtain ⟨us2, u', sv, rus, y12', y13', rfl, e4, k1, kP, k2, kW, kr, kR, hG⟩ := hh
      clear hP3 hW3 h13 h23 hrl3 hta3 e3
      have lk := kP.len
      rw [List.length_append, List.length_map] at lk
      -- windows.append
      refine ⟨_, rfl, .inl ⟨rfl, _, sq_of k2⟩, _, rfl, _, rfl, _, rfl, rl, _, rfl, .inl ⟨sq_of kr, fun tr htr => ?_⟩⟩
      have f0 := Ex.new (o := .tup rus) htr
      refine ⟨by show 3 ≤ sizeLine; decide, fun tw htw => ?_⟩
      have f1 := Ex.new (o := .tup [.int (p : Nat), .int (st : Nat), .ref tr]) htw
      have f01 := f0.trans f1
      refine ⟨l2, _, _, rfl, rfl, f01 _ _ k2, sz_k (by omega), ?_⟩
      have htw1 : (L2.upd (L2.upd H4 tr (.tup rus)) tw (.tup [.int (p : Nat), .int (st : Nat), .ref tr])) tw = some (.tup [.int (p : Nat), .int (st : Nat), .ref tr]) := upd_same
      have htr1 : (L2.upd (L2.upd H4 tr (.tup rus)) tw (.tup [.int (p : Nat), .int (st : Nat), .ref tr])) tr = some (.tup rus) := f1 _ _ upd_same
      have hW4 := ((kW.ex f01).snoc htw1 htr1 (kR.ex f01)).upd (a := l2) (o := .lst (vs ++ [.ref tw])) (lst_no (f01 _ _ k2))
      have hP4 := (kP.ex f01).upd (a := l2) (o := .lst (vs ++ [.ref tw])) (lst_no (f01 _ _ k2))
      have hG4 : GoSl (L2.upd (L2.upd (L2.upd H4 tr (.tup rus)) tw (.tup [.int (p : Nat), .int (st : Nat), .ref tr])) l2 (.lst (vs ++ [.ref tw]))) u' sv (t.run L Y).2.2 := hG.ex fun b xs hb => by
        have hb2 := f01 _ _ hb
        rw [upd_ne (fun z => by rw [z, f01 _ _ k2] at hb2; cases hb2)]
        exact hb2
      have e5 := (e4.trans f01).mut (o := .lst (vs ++ [.ref tw])) hl20
      have j2 : (L2.upd (L2.upd (L2.upd H4 tr (.tup rus)) tw (.tup [.int (p : Nat), .int (st : Nat), .ref tr])) l2 (.lst (vs ++ [.ref tw]))) l2 = some (.lst (vs ++ [.ref tw])) := upd_same
      have j1 : (L2.upd (L2.upd (L2.upd H4 tr (.tup rus)) tw (.tup [.int (p : Nat), .int (st : Nat), .ref tr])) l2 (.lst (vs ++ [.ref tw]))) l1 = some (.lst us2) := by
        rw [upd_ne n12]
        exact f01 _ _ k1
      generalize (L2.upd (L2.upd (L2.upd H4 tr (.tup rus)) tw (.tup [.int (p : Nat), .int (st : Nat), .ref tr])) l2 (.lst (vs ++ [.ref tw]))) = H5 at hW4 hP4 hG4 e5 j2 j1 ⊢
      obtain ⟨f', hf'⟩ : ∃ f', X.length + 1 - i = f' + 1 := ⟨X.length - i, by omega⟩
      have hf2 : X.length + 1 - (i + 1) = f' := by omega
      rw [hf'] at q1 q2
      cases hg : (t.run L Y).2.2 with
      | none =>
        rw [hg] at hG4
        have hG4 : sv = .non := hG4
        subst hG4
        have hr := hg
        rw [← hY] at hr
        rw [search_cut hpw ht hr, hY] at q1 q2
        dsimp only at q1 q2
        refine ⟨_, rfl, rfl, _, rfl, iteT ?_⟩
        rw [q1] at hW4
        rw [q2] at hP4
        exact ⟨_, rfl, _, rfl, by show 2 ≤ sizeLine; decide, fun r hr2 => fin H5 us2 _ e5 j1 hP4 j2 hW4 r hr2⟩
      | some sq =>
        obtain ⟨s', q'⟩ := sq
        rw [hg] at hG4
        obtain ⟨rfl, a, rfl, ha⟩ := hG4
        have hgo := Tr.run_ok tok hg
        have hr := hg
        rw [← hY] at hr
        rw [search_go hpw ht hr, hY] at q1 q2
        dsimp only at q1 q2
        refine ⟨_, rfl, rfl, _, rfl, iteF ?_⟩
        refine ⟨_, rfl, _, rfl, _, _, rfl, rfl, _, rfl, a, _, _, _, rfl, rfl, st_of ha, atI_nat (j := 2) rfl, _, _, rfl, ?_⟩
        refine st_eq (σ' := [some (.str (tx L)), some (.int (wd : Nat)), some (.ref sa), some (.str (tx X)), some (.ref l1), some (.ref l2), some (.int ((p + s' : Nat) : Int)), some (.int (q' : Nat)), some x, some (.ref a), some (.ref rl), some (.int (s' : Nat)), y12', y13']) (by rw [show ((p + s' : Nat) : Int) = (p : Int) + (s' : Int) by omega]; rfl) ?_
        refine ⟨p + s', q', us2, vs ++ [.ref tw], _, ws ++ [(p, st, (t.run L Y).1)], _, _, _, _, _, _, rfl, e5, j1, hP4, j2, hW4, hgo.2.2, by omega, ?_, ?_, ?_, ?_⟩
        · rw [hf2, List.append_assoc]
          exact q1
        · rw [hf2, List.append_assoc]
          exact q2
        · rw [List.length_append]
          show ws.length + 1 ≤ i + 1
          omega
        · rw [List.length_append, List.length_map]
          omega
    · obtain ⟨p, st, us', vs, td, ws, y8, y9, y10, y11, y12, y13, rfl, e, h1, hP, h2, hW, hst, hip, q1, q2, hb1, hb2⟩ := hp
      rw [Nat.sub_self] at q1 q2
      have q1 : ws ++ [] = R.1 := q1
      have q2 : td ++ [] = R.2 := q2
      rw [List.append_nil] at q1 q2
      rw [q1] at hW
      rw [q2] at hP
      exact ⟨_, rfl, _, rfl, by show 2 ≤ sizeLine; decide, fun r hr2 => fin H' us' vs e h1 hP h2 hW r hr2⟩
end
end Law

/-! == and != of data without dicts; nothing is asked of the texts in it -/
namespace EQ
open PySem PySem.Spec PyProof.Rows L2
section
variable {X : Cx}
def rEqP (K : PySem.W.Frag) : R2 := fun x y H Q => ∃ d e, Dp K H x d ∧ Dp K H y e ∧ d.plain = true ∧ e.plain = true ∧ d.depth ≤ 60 ∧ Q (.bl (PyData.eqv d e)) H
def rNeP (K : PySem.W.Frag) : R2 := fun x y H Q => ∃ d e, Dp K H x d ∧ Dp K H y e ∧ d.plain = true ∧ e.plain = true ∧ d.depth ≤ 60 ∧ Q (.bl (!PyData.eqv d e)) H
theorem op_eqP (hu : X.A.units + 64 < cLine) : OpR X (compareOp .Eq) (rEqP X.K) := by
  intro pins s σ H x y v u Q I rx ry h
  obtain ⟨d, e, hd, he, sd, se, hp, q⟩ := h
  obtain ⟨as, r1⟩ := Dp.reads I d x v hd rx
  obtain ⟨bs, r2⟩ := Dp.reads I e y u he ry
  exact SeqAt.eq_plain r1 r2 sd se (by omega) ⟨.bl _, H, I, rfl, q⟩
theorem op_neP (hu : X.A.units + 64 < cLine) : OpR X (compareOp .NotEq) (rNeP X.K) := by
  intro pins s σ H x y v u Q I rx ry h
  obtain ⟨d, e, hd, he, sd, se, hp, q⟩ := h
  obtain ⟨as, r1⟩ := Dp.reads I d x v hd rx
  obtain ⟨bs, r2⟩ := Dp.reads I e y u he ry
  exact SeqAt.ne_plain r1 r2 sd se (by omega) ⟨.bl _, H, I, rfl, q⟩
end
end EQ

/-! windows, told pairs and reads as data; whether a search is gone by turns -/
namespace EK
open PySem PySem.Spec L2
theorem pe_fldK {X : Cx} {K : PySem.W.Frag} {e : Expr} {te : TE} {f : Str} {pos : Pos} (hk : X.K = K) (he : PE X e te) (hb : attributeBase e f X.env (eval e X.env) = eval e X.env) : PE X (.Attribute e f pos) (tFld K te f) := by
  subst hk
  exact pe_fld he hb
end EK
namespace Law
open PySem PySem.Spec PyProof.Rows L2 Evl TR EK SG
def rdD (rd : List (Nat × Nat)) : PyData := .tuple (rd.map fun q => .tuple [.int (q.1 : Nat), .str (sg q.2)])
def prD (q : Nat × Nat) : PyData := .tuple [.int (q.1 : Nat), .int (q.2 : Nat)]
def wnD (x : Win) : PyData := .tuple [.int (x.1 : Nat), .int (x.2.1 : Nat), rdD x.2.2]
theorem plain_all {α : Type} (f : α → PyData) (k : Nat) : ∀ xs : List α, (∀ x, (f x).plain = true ∧ (f x).depth ≤ k) → PyData.plainAll (xs.map f) = true ∧ PyData.depthAll (xs.map f) ≤ k
  | [], _ => ⟨rfl, Nat.zero_le _⟩
  | x :: r, h => by
    obtain ⟨h1, h2⟩ := plain_all f k r h
    obtain ⟨g1, g2⟩ := h x
    rw [List.map_cons]
    refine ⟨?_, ?_⟩
    · show ((f x).plain && _) = true
      rw [g1, Bool.true_and]
      exact h1
    · show max (f x).depth (PyData.depthAll _) ≤ k
      omega
theorem plain_list {α : Type} (f : α → PyData) (k : Nat) (xs : List α) (h : ∀ x, (f x).plain = true ∧ (f x).depth ≤ k) : (PyData.list (xs.map f)).plain = true ∧ (PyData.list (xs.map f)).depth ≤ k + 1 := by
  obtain ⟨h1, h2⟩ := plain_all f k xs h
  exact ⟨h1, by show PyData.depthAll _ + 1 ≤ _; omega⟩
theorem plain_rd (rd : List (Nat × Nat)) : (rdD rd).plain = true ∧ (rdD rd).depth ≤ 2 := by
  obtain ⟨h1, h2⟩ := plain_all (fun q : Nat × Nat => PyData.tuple [.int (q.1 : Nat), .str (sg q.2)]) 1 rd fun x => ⟨rfl, Nat.le_refl 1⟩
  exact ⟨h1, by show PyData.depthAll _ + 1 ≤ 2; omega⟩
theorem plain_pr (q : Nat × Nat) : (prD q).plain = true ∧ (prD q).depth ≤ 1 := ⟨rfl, Nat.le_refl 1⟩
theorem plain_wn (x : Win) : (wnD x).plain = true ∧ (wnD x).depth ≤ 3 := by
  obtain ⟨h1, h2⟩ := plain_rd x.2.2
  refine ⟨?_, ?_⟩
  · show (true && (true && ((rdD x.2.2).plain && true))) = true
    rw [h1]
    rfl
  · show max 0 (max 0 (max (rdD x.2.2).depth 0)) + 1 ≤ 3
    omega
theorem sg_injW {a b : Nat} (h : (sg a : Str) = sg b) : a = b := by
  have h2 := congrArg (fun s : Str => s.cps.toList) h
  have h3 : [a] = [b] := h2
  exact (List.cons.inj h3).1
theorem eqv_rd (a b : List (Nat × Nat)) : PyData.eqv (rdD a) (rdD b) = decide (a = b) := by
  have e : ∀ l : List (Nat × Nat), rdD l = PySem.W.Datum.toD (PySem.W.Tup.mk (l.map fun q => ((q.1 : Int), sg q.2))) := fun l => by
    show PyData.tuple _ = PyData.tuple (List.map _ (List.map _ l))
    rw [List.map_map]
    rfl
  rw [e, e, PySem.W.Datum.eqv]
  refine decide_eq_decide.mpr ⟨fun h => ?_, fun h => by rw [h]⟩
  have h2 := congrArg PySem.W.Tup.items h
  have h2 : (a.map fun q => ((q.1 : Int), sg q.2)) = b.map fun q => ((q.1 : Int), sg q.2) := h2
  refine (List.map_inj_right fun x y hxy => ?_).mp h2
  obtain ⟨q1, q2⟩ := Prod.mk.inj hxy
  exact Prod.ext (Int.ofNat.inj q1) (sg_injW q2)
section
variable {K : PySem.W.Frag} {H : Hp}
theorem dp_rdA : ∀ {us : List V} {rd : List (Nat × Nat)}, RdA H us rd → DpAll K H us (rd.map fun q => .tuple [.int (q.1 : Nat), .str (sg q.2)])
  | _, _, .nil => .nil
  | _, _, .cons h t => .cons (.tup (st_of h) (.cons (.int _) (.cons (.str _) .nil))) (dp_rdA t)
theorem dp_rds : ∀ {us : List V} {rd : List (Nat × Nat)}, Paired (rdOne H) us rd → DpAll K H us (rd.map fun q => .tuple [.int (q.1 : Nat), .str (sg q.2)])
  | _, _, .nil => .nil
  | _, _, .cons h t => by
    obtain ⟨b, rfl, hb⟩ := h
    exact .cons (.tup (st_of hb) (.cons (.int _) (.cons (.str _) .nil))) (dp_rds t)
theorem dp_rdAt {v : V} {rd : List (Nat × Nat)} (h : RdAt H v rd) : Dp K H v (rdD rd) := by
  obtain ⟨a, us, rfl, ha, P⟩ := h
  exact .tup (st_of ha) (dp_rds P)
theorem dp_prs : ∀ {us : List V} {ps : List (Nat × Nat)}, PrA H us ps → DpAll K H us (ps.map prD)
  | _, _, .nil => .nil
  | _, _, .cons h t => .cons (.tup (st_of h) (.cons (.int _) (.cons (.int _) .nil))) (dp_prs t)
theorem dp_wns : ∀ {us : List V} {ws : List Win}, WnA H us ws → DpAll K H us (ws.map wnD)
  | _, _, .nil => .nil
  | _, _, .cons h1 h2 r t => .cons (.tup (st_of h1) (.cons (.int _) (.cons (.int _) (.cons (.tup (st_of h2) (dp_rdA r)) .nil)))) (dp_wns t)
end
theorem paired_getQ {α β : Type} {F : α → β → Prop} : ∀ {xs : List α} {ys : List β} {i : Nat} {x : α}, Paired F xs ys → xs[i]? = some x → ∃ y, ys[i]? = some y ∧ F x y
  | _, _, _, _, .nil, h => by simp at h
  | _, _, 0, _, .cons (b := b) h _, e => ⟨b, rfl, by rw [← Option.some.inj e]; exact h⟩
  | _, _, i + 1, _, .cons _ r, e => paired_getQ (i := i) r e
theorem filt_snoc {X : List (Nat × Nat)} {fd : List Trn} {i : Nat} {T : Trn} (h : fd[i]? = some T) : (fd.take (i + 1)).filter (rdF X) = (fd.take i).filter (rdF X) ++ (if T.rd = X then [T] else []) := by
  rw [take_next' h, List.filter_append]
  congr 1
  by_cases q : T.rd = X
  · rw [if_pos q, List.filter_cons_of_pos (by exact decide_eq_true q)]
    rfl
  · rw [if_neg q, List.filter_cons_of_neg (by
      intro z
      exact q (of_decide_eq_true z))]
    rfl
end Law

/-! whether a search is gone by turns -/
namespace Law
open PySem PySem.Spec PyProof.Rows L2 Evl TR EK SG
theorem dots_mul (n : Nat) : Txt.mul (Str.ofString ".") ((n : Int) + 1) = tx (List.replicate (n + 1) 46) := by
  have e : Str.ofString "." = tx [46] := by decide +kernel
  rw [e, mul_tx [46] (by omega), show ((n : Int) + 1).toNat = n + 1 by omega]
  congr 1
  generalize n + 1 = j
  induction j with
  | zero => rfl
  | succ j ih => rw [List.replicate_succ, List.flatten_cons, ih, List.replicate_succ]; rfl
def spFollows (CS : Addr) : Sp := fun vs H Q _ => ∃ (o : Addr) (L : List Nat) (wd : Nat) (ts : List Tr) (X : List Nat) (ta : Addr) (us : List V), vs = [.ref o, .str (tx L), .int (wd : Nat), .ref ta, .str (tx X)] ∧ Sch CS H o L wd ts ∧ H ta = some (.lst us) ∧ Kids true H us ts ∧ (∀ t ∈ ts, t.depth ≤ 50) ∧ (∀ c ∈ X, c ∈ L) ∧ X.length ≤ 200 ∧ ∀ H', Ex H H' → Q (.bl true) H'
/-- the search stands before a window -/
structure FolI (H : Hp) (L : List Nat) (wd : Nat) (ts : List Tr) (X : List Nat) (R : List Win × List (Nat × Nat)) (lp : Addr) (k : Nat) (H' : Hp) (sd : Addr) (p q f : Nat) (kn : List Nat) (pu : List V) (pd : List (Nat × Nat)) : Prop where
  ex : Ex H H'
  lp : H' lp = some (.lst pu)
  pr : PrA H' pu pd
  sd : H' sd = some (.tup [.int (q : Nat), .str (tx kn)])
  kl : kn.length = wd + 1
  tr : Tru ((X.drop p).take (wd + 1)) kn
  ql : q < ts.length
  fu : X.length + 1 ≤ f + p
  w1 : (search wd ts L X f p q).1 = R.1.drop k
  t1 : pd ++ (search wd ts L X f p q).2 = R.2
  pl : pd.length ≤ 3000 * k
theorem FolI.up {H : Hp} {L : List Nat} {wd : Nat} {ts : List Tr} {X : List Nat} {R : List Win × List (Nat × Nat)} {lp : Addr} {k : Nat} {H1 H2 : Hp} {sd : Addr} {p q f : Nat} {kn : List Nat} {pu : List V} {pd : List (Nat × Nat)} (I : FolI H L wd ts X R lp k H1 sd p q f kn pu pd) (e : Ex H1 H2) : FolI H L wd ts X R lp k H2 sd p q f kn pu pd :=
  ⟨I.ex.trans e, e _ _ I.lp, I.pr.ex e, e _ _ I.sd, I.kl, I.tr, I.ql, I.fu, I.w1, I.t1, I.pl⟩
section
variable {P : Program} {w : World} {K : PySem.W.Frag} {mg : Str → Option Value} {base : Heap} {C CS CT : Addr}
theorem ok_lfollows {f pp fc : Addr} {fd fdc : FuncData} (F : Fun K "_law_follows" "_law_follows" s_lfollows f fd) (T : Tx mg) (TN : TC K C) (TT : TRC K CT) (PO : PropOf K C "is_cut" pp fc) (F_cut : FnOk P w K mg base CX0 1 fc fdc ["self"] (spCut C)) (b_cut : Binds K fdc ["self"] [])
    (c_lsearch : Kn P w K mg base "_law_search" ["_law_letters", "_law_width", "_law_trees", "_law_text"] 1 spLSearch) (c_trace : Kn P w K mg base "trace" ["searcher", "text"] 4 (spTraceN CS CT)) (c_turns : Kn P w K mg base "turns" ["searcher", "standing"] 3 (spTurns C CS)) :
    FnOk P w K mg base CX0 5 f fd ["_law_searcher", "_law_letters", "_law_width", "_law_trees", "_law_text"] (spFollows CS) := by
  refine F.ok sc_lfollows (fun vs H Q E h => ?_) (fun cdv A outer s H vs Q E hr h => ?_)
  · obtain ⟨o, L, wd, ts, X, ta, us, rfl, _⟩ := h
    rfl
  · obtain ⟨o, L, wd, ts, X, ta, us, rfl, SS, hta, KK, hdp, hX, hXl, q⟩ := h
    refine ⟨_, (pss_cons (ps_asg (pe_call c_lsearch.ok (hr.mono (by decide)) (by rfl) c_lsearch.g c_lsearch.kp c_lsearch.b .nil pass0 (pa_cons (pv 1) (pa_cons (pv 2) (pa_cons (pv 3) (pa_cons (pv 4) pa_nil))))) (pg_tup (by rfl) (pgs_cons (pg_name (i := 5) sc_lfollows.nd rfl (Or.inl rfl)) (pgs_cons (pg_name (i := 6) sc_lfollows.nd rfl (Or.inl rfl)) pgs_nil))))
      (pss_cons (ps_set (i := 7) sc_lfollows.nd rfl (Or.inl rfl) (pe_call c_trace.ok (hr.mono (by decide)) (by rfl) c_trace.g c_trace.kp c_trace.b .nil pass0 (pa_cons (pv 0) (pa_cons (pv 4) pa_nil))))
      (pss_cons (ps_if (PW.pt (pw_or (pt_cmpR (EQ.op_neP hr.units) (pe_callTy call_list_of (by rfl) T.list PyProof.Rows.boot_list (pa_cons (pe_fld (pv 7) rfl) pa_nil)) (pv 5) (nomark _)) (pw_or (pt_cmpR (EQ.op_neP hr.units) (pe_callTy call_list_of (by rfl) T.list PyProof.Rows.boot_list (pa_cons (pe_fld (pv 7) rfl) pa_nil)) (pv 6) (nomark _)) (pw_or1 (pt_cmpR op_ne (pe_fld (pv 7) rfl) (pe_callB (cr_sum rfl) (by rfl) T.sum (by decide +kernel) (pa_cons (pe_lc (own := [("_law_one", 8)]) (g := gName 8) (tt := tYes) rfl sc_lfollows.nd (pi_list (pv 6)) (blkOk_by (N := N_lfollows) (sc := defScope s_lfollows) (by decide +kernel)) (fun _ _ _ _ _ => (pg_name (i := 8) sc_lfollows.nd rfl (Or.inl rfl))) (fun _ _ _ _ _ => pts_nil) (fun _ _ _ _ _ => (pe_callB (show CallR _ _ (TR.rLenQ K) from call_len_seq) (by rfl) T.len PySem.boot_len (pa_cons (pe_ix (show IxR _ (rIxT K) from ix_tup) (pv 8) pe_int (fun _ _ => rfl)) pa_nil)))) pa_nil)) (nomark _)))))) (pss_one (ps_ret pe_bl)) pss_nil)
      (pss_cons (ps_par3 (i := 9) (j := 10) (l := 11) (by rfl) sc_lfollows.nd rfl rfl rfl (by decide) (by decide) (by decide) rfl rfl rfl (pa_cons (pe_tup (pa_cons pe_int (pa_cons (pe_op ZS.op_mulS pe_str (pe_op op_add (pv 2) pe_int)) pa_nil))) (pa_cons pe_int (pa_cons (pe_lst pa_nil) pa_nil))) (by rfl))
      (pss_cons (ps_for PassesOwn.never rfl (pi_list (pv 6)) (pg_tup (by rfl) (pgs_cons (pg_name (i := 12) sc_lfollows.nd rfl (Or.inr rfl)) (pgs_cons (pg_name (i := 13) sc_lfollows.nd rfl (Or.inl rfl)) (pgs_cons (pg_name (i := 14) sc_lfollows.nd rfl (Or.inr rfl)) pgs_nil)))) (pss_cons (ps_setLc (i := 15) (own := [("_law_turn", 16)]) (g := gName 16) rfl sc_lfollows.nd rfl rfl (sw_true rfl rfl rfl (by decide +kernel)) (pi_list (pe_call c_turns.ok (hr.mono (by decide)) (by rfl) c_turns.g c_turns.kp c_turns.b .nil pass0 (pa_cons (pv 0) (pa_cons (pv 9) pa_nil)))) (blkOk_by (N := N_lfollows) (sc := defScope s_lfollows) (by decide +kernel)) (fun _ _ _ _ _ => (pg_name (i := 16) sc_lfollows.nd rfl (Or.inl rfl))) (fun _ _ _ _ _ => (pts_one (pt_cmpR (show OpR _ (compareOp .Eq) (EQ.rEqP K) from EQ.op_eqP hr.units) (EK.pe_fldK (K := K) rfl (pv 16) rfl) (pv 14) (nomark _)))) (fun _ _ _ _ _ => (pv 16)))
      (pss_cons (ps_if (PW.pt (pw_or (pt_cmpR op_ne (pv 12) (pv 10) (nomark _)) (pw_or (pt_cmpR op_ne (pv 13) (pe_ix ix_tup (pv 9) pe_int (fun _ _ => rfl)) (nomark _)) (pw_or1 (pt_cmpR op_ne (pe_callB call_len_seq (by rfl) T.len PySem.boot_len (pa_cons (pv 15) pa_nil)) pe_int (nomark _)))))) (pss_one (ps_ret pe_bl)) pss_nil)
      (pss_cons (ps_set (i := 16) sc_lfollows.nd rfl (Or.inl rfl) (pe_ix ix_list (pv 15) pe_int (fun _ _ => rfl)))
      (pss_cons (ps_if (PW.pt (pw_and (pt_val (pe_prop (pv 16) TN.cl PO F_cut (hr.mono (by decide)) b_cut .nil pass0 rfl)) (pw_and1 (pt_cmpR op_ne (pe_op op_add (pv 12) (pv 2)) (pe_callB call_len_str (by rfl) T.len PySem.boot_len (pa_cons (pv 4) pa_nil)) (nomark _))))) (pss_one (ps_ret pe_bl)) pss_nil)
      (pss_cons (ps_for PassesOwn.never rfl (pi_range1 (by rfl) T.range (pa_cons (pe_op op_add (pv 2) pe_int) pa_nil)) (pg_name (i := 17) sc_lfollows.nd rfl (Or.inl rfl)) (pss_one (ps_if (PW.pt (pw_and (pt_cmpR op_ne (pe_ix ix_str (pe_fld (pv 16) rfl) (pv 17) (fun _ _ => rfl)) pe_str (nomark _)) (pw_and1 (pt_cmpR op_ne (pe_slice sl_str (pv 4) (po_some (pe_op op_add (pv 12) (pv 17))) (po_some (pe_op op_add (pe_op op_add (pv 12) (pv 17)) pe_int))) (pe_ix ix_str (pe_fld (pv 16) rfl) (pv 17) (fun _ _ => rfl)) (nomark _))))) (pss_one (ps_ret pe_bl)) pss_nil)))
      (pss_cons (ps_expr (pe_bm PySem.F.plainAttrs_list PySem.F.slot_list_extend PySem.F.type_list_extend mt_extend (pv 11) (pa_cons (pe_lc (own := [("_law_number", 18)]) (g := gName 18) (tt := tYes) rfl sc_lfollows.nd (pi_tup (pe_fld (pv 16) rfl)) (blkOk_by (N := N_lfollows) (sc := defScope s_lfollows) (by decide +kernel)) (fun _ _ _ _ _ => (pg_name (i := 18) sc_lfollows.nd rfl (Or.inl rfl))) (fun _ _ _ _ _ => pts_nil) (fun _ _ _ _ _ => (pe_tup (pa_cons (pv 12) (pa_cons (pv 18) pa_nil))))) pa_nil)))
      (pss_cons (ps_if (pt_val (pe_prop (pv 16) TN.cl PO F_cut (hr.mono (by decide)) b_cut .nil pass0 rfl)) (pss_one (ps_ret (pe_and (pe_cmpR (EQ.op_eqP hr.units) (pv 11) (pv 5) (nomark _)) (pe_one (pe_cmpR op_eq (pv 12) (pe_ix ix_tup (pe_ix ix_list (pv 6) (pe_un un_neg pe_int) (fun _ _ => rfl)) pe_int (fun _ _ => rfl)) (nomark _)))))) pss_nil)
      (pss_one (ps_par (i := 10) (j := 9) (by rfl) sc_lfollows.nd rfl rfl (by decide) rfl rfl (pa_cons (pe_op op_add (pv 12) (pe_fld (pv 16) rfl)) (pa_cons (pe_fld (pv 16) rfl) pa_nil)) (by rfl)))))))))))
      (pss_one (ps_ret (pe_and (pe_cmpR (EQ.op_eqP hr.units) (pv 11) (pv 5) (nomark _)) (pe_one (pe_cmpR op_gt (pe_op op_add (pv 10) (pv 2)) (pe_callB call_len_str (by rfl) T.len PySem.boot_len (pa_cons (pv 4) pa_nil)) (nomark _))))))))))), ?_⟩
    obtain ⟨SO0, hLG, w1, w8, n1, n64, hok, htot⟩ := id SS
    have L4 := hLG.hi
    have hsz : ∀ t ∈ ts, t.size ≤ 3000 := fun t ht => Nat.le_trans (size_mem ht) htot
    refine ⟨_, rfl, _, rfl, _, rfl, _, rfl, L, X, wd, ta, us, ts, rfl, hta, KK, hLG, w1, w8, n1, fun t ht => ⟨hok t ht, hdp t ht, hsz t ht⟩, hX, by omega, fun H1 r l1 l2 us1 vs1 e1 hr1 h1 hP h2 hW => ?_⟩
    refine ⟨r, _, rfl, st_of hr1, rfl, _, _, rfl, _, _, rfl, rfl, ?_⟩
    dsimp only [gName]
    refine st_eq (show _ = [some (.ref o), some (.str (tx L)), some (.int (wd : Nat)), some (.ref ta), some (.str (tx X)), some (.ref l1), some (.ref l2), none, none, none, none, none, none, none, none, none, none, none, none] from rfl) ?_
    refine ⟨_, rfl, _, rfl, o, L, wd, ts, X, SS.up e1, rfl, hX, by omega, fun H2 tr e2 TO => ?_⟩
    dsimp only [gName]
    refine st_eq (show _ = [some (.ref o), some (.str (tx L)), some (.int (wd : Nat)), some (.ref ta), some (.str (tx X)), some (.ref l1), some (.ref l2), some (.ref tr), none, none, none, none, none, none, none, none, none, none, none] from rfl) ?_
    obtain ⟨R, hR⟩ : ∃ R, search wd ts L X (X.length + 1) 0 0 = R := ⟨_, rfl⟩
    rw [hR] at hP hW TO
    obtain ⟨dxt, wa, tda, uw, ut, hob, hwa, hWt, htd, hPt⟩ := TO.ex
    have h12 := e2 _ _ h1
    have h22 := e2 _ _ h2
    have hP2 := hP.ex e2
    have hW2 := hW.ex e2
    have lvs := hW.len
    have lR := search_len wd ts L X (X.length + 1) 0 0
    rw [hR] at lR
    have pd1 := plain_list prD 1 R.2 plain_pr
    have pd2 := plain_list wnD 3 R.1 plain_wn
    refine ⟨_, rfl, tr, CT, dxt, _, _, rfl, hob, TT.cl, TT.nt, tFs_t _ _ _, tda, ut, rfl, .inr (st_of htd), fun a1 ha1 => ?_⟩
    have x1 := Ex.new (o := HO.lst ut) ha1
    refine ⟨_, rfl, _, _, .lst (sq_of upd_same) (dp_prs (hPt.ex x1)), .lst (sq_of (x1 _ _ h12)) (dp_prs (hP2.ex x1)), pd1.1, pd1.1, by have := pd1.2; omega, _, rfl, ?_⟩
    rw [SeqAt.eqv_refl_plain _ pd1.1]
    refine ite2 (fun hb => by cases hb) (fun _ => ?_)
    refine ⟨_, rfl, tr, CT, dxt, _, _, rfl, x1 _ _ hob, TT.cl, TT.nw, tFs_w _ _ _, wa, uw, rfl, .inr (st_of (x1 _ _ hwa)), fun a2 ha2 => ?_⟩
    have x2 := Ex.new (o := HO.lst uw) ha2
    have x12 := x1.trans x2
    refine ⟨_, rfl, _, _, .lst (sq_of upd_same) (dp_wns (hWt.ex x12)), .lst (sq_of (x12 _ _ h22)) (dp_wns (hW2.ex x12)), pd2.1, pd2.1, by have := pd2.2; omega, _, rfl, ?_⟩
    rw [SeqAt.eqv_refl_plain _ pd2.1]
    refine ite2 (fun hb => by cases hb) (fun _ => ?_)
    have e3 := (e1.trans e2).trans x12
    have h13 := x12 _ _ h12
    have h23 := x12 _ _ h22
    have hP3 := hP2.ex x12
    have hW3 := hW2.ex x12
    have hob3 := x12 _ _ hob
    generalize (L2.upd (L2.upd H2 a1 (.lst ut)) a2 (.lst uw)) = H3 at e3 h13 h23 hP3 hW3 hob3 ⊢
    refine ⟨_, rfl, tr, CT, dxt, _, _, rfl, hob3, TT.cl, TT.nc, tFs_c _ _ _, _, rfl, l2, rfl, ⟨vs1, sq_of h23⟩, fun D hD => ?_⟩
    refine lc_it (walk_list (K := K) (a := l2) (xs := vs1)) (fun i H' => Ex H3 H' ∧ H' D = some (.lst (((R.1.take i).map fun w => (w.2.2.length : Int)).map V.int))) ⟨Ex.new hD, upd_same⟩ (fun i H' _ p => sq_of (p.1 _ _ h23)) (fun i x H' H9 hi p hy => ?_) (fun H4 p => ?_)
    · obtain ⟨e4, hz⟩ := p
      obtain ⟨rfl, hx⟩ := hy
      obtain ⟨x', b', p', q', us', rs', rfl, hw, k1, k2, k3⟩ := hW3.get hx
      refine ⟨rfl, _, rfl, x', _, _, _, rfl, rfl, st_of (e4 _ _ k1), atI_nat (j := 2) rfl, b', us', rfl, .inr (st_of (e4 _ _ k2)), _, hz, ?_, e4.mut hD, ?_⟩
      · have hi := (List.getElem?_eq_some_iff.mp hw).1
        rw [List.length_map, List.length_map, List.length_take]
        exact sz_k (by omega)
      · rw [upd_same, take_next' hw, List.map_append, List.map_append, k3.len]
        rfl
    obtain ⟨e4, hz⟩ := p
    rw [lvs, List.take_length] at hz
    refine ⟨D, _, rfl, sq_of hz, ?_⟩
    rw [sum_wins]
    refine ⟨rfl, _, rfl, ite2 (fun hb => absurd hb (by simp)) (fun _ => ?_)⟩
    have e5 := e3.trans e4
    have h15 := e4 _ _ h13
    have h25 := e4 _ _ h23
    have hP5 := hP3.ex e4
    have hW5 := hW3.ex e4
    have SS5 := SS.up e5
    clear hob3 hP3 hW3 h13 h23 hP2 hW2 h12 h22 hob hwa hWt htd hPt x1 x2 x12 e4 hz hD
    -- the first standing
    refine ⟨_, rfl, _, _, rfl, rfl, _, _, rfl, rfl, ?_, by show 2 ≤ sizeLine; decide, fun sd hsd => ⟨by show 0 ≤ sizeLine; decide, fun lp hlp => ⟨_, _, _, rfl, ?_⟩⟩⟩
    · rw [dot_sg]
      exact mulOk_of 1 1000 (by rw [sg_len]; omega) (by omega) (by omega) (by decide) (by decide)
    rw [dots_mul] at hlp ⊢
    have z1 := Ex.new (o := HO.tup [.int 0, .str (tx (List.replicate (wd + 1) 46))]) hsd
    have z2 := Ex.new (o := HO.lst []) hlp
    have hlpH : H4 lp = none := fresh_back z1 hlp
    have I0 : FolI H4 L wd ts X R lp 0 (L2.upd (L2.upd H4 sd (.tup [.int 0, .str (tx (List.replicate (wd + 1) 46))])) lp (.lst [])) sd 0 0 (X.length + 1) (List.replicate (wd + 1) 46) [] [] :=
      ⟨z1.trans z2, upd_same, .nil, z2 _ _ upd_same, List.length_replicate, tru_dots _ _, n1, by omega, by rw [hR]; rfl, by rw [hR]; rfl, Nat.zero_le _⟩
    generalize (L2.upd (L2.upd H4 sd (.tup [.int 0, .str (tx (List.replicate (wd + 1) 46))])) lp (.lst [])) = H6 at I0 ⊢
    refine st_eq (show _ = [some (.ref o), some (.str (tx L)), some (.int (wd : Nat)), some (.ref ta), some (.str (tx X)), some (.ref l1), some (.ref l2), some (.ref tr), none, some (.ref sd), some (.int (0 : Nat)), some (.ref lp), none, none, none, none, none, none, none] from rfl) ?_
    refine ⟨_, rfl, l2, rfl, ⟨vs1, sq_of (I0.ex _ _ h25)⟩, ?_⟩
    refine for_it (walk_list (K := K) (a := l2) (xs := vs1)) (fun k σ H' => ∃ (sd : Addr) (p q f : Nat) (kn : List Nat) (pu : List V) (pd : List (Nat × Nat)) (y12 y13 y14 y15 y16 y17 : Option V), σ = [some (.ref o), some (.str (tx L)), some (.int (wd : Nat)), some (.ref ta), some (.str (tx X)), some (.ref l1), some (.ref l2), some (.ref tr), none, some (.ref sd), some (.int (p : Nat)), some (.ref lp), y12, y13, y14, y15, y16, y17, none] ∧ FolI H4 L wd ts X R lp k H' sd p q f kn pu pd)
      ⟨sd, 0, 0, X.length + 1, _, [], [], _, _, _, _, _, _, rfl, I0⟩ (fun k σ H' _ hp => sq_of (by obtain ⟨_, _, _, _, _, _, _, _, _, _, _, _, _, _, I⟩ := hp; exact I.ex _ _ h25)) (fun k x σ H' H9 hk hp hy => ?_) (fun σ H' hp => ?_)
    · obtain ⟨sd, p, q0, f, kn, pu, pd, y12, y13, y14, y15, y16, y17, rfl, I⟩ := hp
      obtain ⟨rfl, hx⟩ := hy
      obtain ⟨xw, xr, p', q', rus, rs, rfl, hwk, hxw, hxr, hRd⟩ := (hW5.ex I.ex).get hx
      -- what the search does here
      have hdr : R.1.drop k = (p', q', rs) :: R.1.drop (k + 1) := by
        rw [List.drop_eq_getElem_cons (List.getElem?_eq_some_iff.mp hwk).1, (List.getElem?_eq_some_iff.mp hwk).2]
      have w1' := I.w1
      have t1' := I.t1
      rw [hdr] at w1'
      have hpw : p + wd ≤ X.length := Decidable.byContradiction fun z => by
        rw [search_end z] at w1'
        cases w1'
      obtain ⟨f', rfl⟩ : ∃ f', f = f' + 1 := by
        cases f with
        | zero => cases w1'
        | succ f' => exact ⟨f', rfl⟩
      obtain ⟨t, ht⟩ : ∃ t, ts[q0]? = some t := ⟨_, List.getElem?_eq_getElem I.ql⟩
      have mem := List.mem_of_getElem? ht
      have tok := hok t mem
      obtain ⟨S, hS⟩ : ∃ S, (X.drop p).take (wd + 1) = S := ⟨_, rfl⟩
      have hSL : ∀ c ∈ S, c ∈ L := fun c hc => by
        rw [← hS] at hc
        exact hX c (List.mem_of_mem_drop (List.mem_of_mem_take hc))
      have hSl : wd ≤ S.length := by
        rw [← hS, List.length_take, List.length_drop]
        omega
      have hSat : ∀ i, i ≤ wd → S[i]? = X[p + i]? := fun i hi => by
        rw [← hS, List.getElem?_take_of_lt (by omega), List.getElem?_drop]
      have tru := I.tr
      rw [hS] at tru
      have hks := tru_sg hSL tru
      obtain ⟨kn', hone, hkl', tru'⟩ := one_turn hLG.nd hSL hSl t.size t kn [] [] (Nat.le_refl _) tok I.kl tru
      rw [List.nil_append, List.nil_append] at hone
      have hrl := Tr.run_len (L := L) (S := S) t
      have htsz := hsz t mem
      have hhead : p' = p ∧ q' = q0 ∧ rs = (t.run L S).1 ∧ (((t.run L S).2.2 = none ∧ R.1.drop (k + 1) = [] ∧ pd ++ ((t.run L S).2.1.map fun n => (p, n)) = R.2) ∨
          ∃ s q2, (t.run L S).2.2 = some (s, q2) ∧ R.1.drop (k + 1) = (search wd ts L X f' (p + s) q2).1 ∧ pd ++ (((t.run L S).2.1.map fun n => (p, n)) ++ (search wd ts L X f' (p + s) q2).2) = R.2) := by
        cases hg : (t.run L S).2.2 with
        | none =>
          have hr := hg
          rw [← hS] at hr
          rw [search_cut hpw ht hr, hS] at w1' t1'
          dsimp only at w1' t1'
          injection w1' with a1 a2
          injection a1 with b1 b2
          injection b2 with b2 b3
          exact ⟨b1.symm, b2.symm, b3.symm, .inl ⟨rfl, a2.symm, t1'⟩⟩
        | some sq =>
          obtain ⟨s, q2⟩ := sq
          have hr := hg
          rw [← hS] at hr
          rw [search_go hpw ht hr, hS] at w1' t1'
          dsimp only at w1' t1'
          injection w1' with a1 a2
          injection a1 with b1 b2
          injection b2 with b2 b3
          exact ⟨b1.symm, b2.symm, b3.symm, .inr ⟨s, q2, rfl, a2.symm, t1'⟩⟩
      obtain ⟨rfl, rfl, hrs, hnext⟩ := hhead
      rw [← hrs] at hone
      clear w1' t1' hdr
      refine ⟨xw, _, rfl, st_of hxw, rfl, _, _, rfl, _, _, rfl, _, _, rfl, rfl, ?_⟩
      dsimp only [gName]
      refine st_eq (show _ = [some (.ref o), some (.str (tx L)), some (.int (wd : Nat)), some (.ref ta), some (.str (tx X)), some (.ref l1), some (.ref l2), some (.ref tr), none, some (.ref sd), some (.int (p' : Nat)), some (.ref lp), some (.int (p' : Nat)), some (.int (q' : Nat)), some (.ref xr), y15, y16, y17, none] from rfl) ?_
      -- the turns of the standing, those with the same reads
      have SS9 := SS5.up I.ex
      refine ⟨_, rfl, _, rfl, o, sd, L, wd, ts, t, q', kn, rfl, SS9.o, hLG, by omega, I.sd, ht, I.kl, hks, tok, htsz, fun r2 H10 us2 e10 hr2 hl2 P2 => ?_⟩
      have lfd := len_tnT L wd t kn [] []
      generalize tnT L wd t kn [] [] = fd at hone P2 lfd
      have lP2 := P2.length
      refine ⟨r2, rfl, ⟨us2, sq_of hl2⟩, fun D2 hD2 => ?_⟩
      refine lc_it (walk_list (K := K) (a := r2) (xs := us2)) (fun i H' => ∃ zs, Ex H10 H' ∧ H' D2 = some (.lst zs) ∧ Paired (TnAt C H') zs ((fd.take i).filter (rdF rs)))
        ⟨[], Ex.new hD2, upd_same, .nil⟩ (fun i H' _ hp => sq_of (by obtain ⟨_, e, _⟩ := hp; exact e _ _ hl2)) (fun i v H' H12 hi hp hy => ?_) (fun H12 hp => ?_)
      · obtain ⟨zs, e12, hz, PZ⟩ := hp
        obtain ⟨rfl, hx2⟩ := hy
        obtain ⟨T0, hT0, hTA⟩ := paired_getQ P2 hx2
        have hTA2 := hTA.nl (NL.of e12)
        obtain ⟨xa, dx, vr, vl, v4, va, rfl, hxa, hrd, htl, hgo⟩ := id hTA2
        have lz := PZ.length
        have lz2 := List.length_filter_le (rdF rs) (fd.take i)
        rw [List.length_take] at lz2
        refine ⟨rfl, _, rfl, xa, C, dx, _, _, rfl, hxa, TN.cl, TN.n1, tnf1, _, rfl, _, _, dp_rdAt hrd, .tup (st_of (e12 _ _ (e10 _ _ hxr))) (dp_rdA (hRd.ex (e10.trans e12))), (plain_rd _).1, (plain_rd rs).1, by have := (plain_rd T0.rd).2; omega, ?_⟩
        rw [show PyData.tuple (rs.map fun q => .tuple [.int (q.1 : Nat), .str (sg q.2)]) = rdD rs from rfl, eqv_rd]
        by_cases hq : T0.rd = rs
        · rw [decide_eq_true hq]
          refine ⟨_, rfl, (if_pos rfl).mpr ?_⟩
          have n5 := NL.upd (ys := zs ++ [.ref xa]) hz
          refine ⟨_, rfl, zs, hz, sz_k (by omega), zs ++ [.ref xa], e12.mut hD2, upd_same, ?_⟩
          rw [filt_snoc hT0, if_pos hq]
          exact Paired.snoc (Paired.mapP PZ fun _ _ h => h.nl n5) (hTA2.nl n5)
        · rw [decide_eq_false hq]
          refine ⟨_, rfl, (if_neg (by decide)).mpr ?_⟩
          refine ⟨zs, e12, hz, ?_⟩
          rw [filt_snoc hT0, if_neg hq, List.append_nil]
          exact PZ
      obtain ⟨zs, e12, hz, PZ⟩ := hp
      rw [lP2, List.take_length, hone] at PZ
      obtain ⟨z0, rfl, hTA⟩ : ∃ z0, zs = [z0] ∧ TnAt C H12 z0 ⟨rs, (t.run L S).2.1, kn', (t.run L S).2.2⟩ := by
        cases PZ with
        | cons h r =>
          cases r with
          | nil => exact ⟨_, rfl, h⟩
      have I12 := I.up (e10.trans e12)
      obtain ⟨ns, hns⟩ : ∃ ns, (t.run L S).2.1 = ns := ⟨_, rfl⟩
      obtain ⟨go, hgo⟩ : ∃ go, (t.run L S).2.2 = go := ⟨_, rfl⟩
      have hrun : ∀ s q2, go = some (s, q2) → 1 ≤ s ∧ s ≤ wd + 1 ∧ q2 < ts.length := fun s q2 h => Tr.run_ok tok (hgo.trans h)
      rw [hns] at hTA hnext hrl
      rw [hgo] at hTA hnext
      obtain ⟨xa, dx, vr, vl, v4, va, rfl, hxa, hrd, ⟨la, rfl, hla⟩, hgoA⟩ := id hTA
      dsimp only at hxa hla hgoA
      dsimp only [gName]
      refine st_eq (show _ = [some (.ref o), some (.str (tx L)), some (.int (wd : Nat)), some (.ref ta), some (.str (tx X)), some (.ref l1), some (.ref l2), some (.ref tr), none, some (.ref sd), some (.int (p' : Nat)), some (.ref lp), some (.int (p' : Nat)), some (.int (q' : Nat)), some (.ref xr), some (.ref D2), y16, y17, none] from rfl) ?_
      refine ⟨_, rfl, _, rfl, rfl, _, rfl, ite2 (fun hb => absurd hb (by simp)) (fun _ => ?_)⟩
      refine ⟨_, rfl, _, rfl, sd, _, _, _, rfl, rfl, st_of I12.sd, atI_nat (j := 0) rfl, rfl, _, rfl, ite2 (fun hb => absurd hb (by simp)) (fun _ => ?_)⟩
      refine ⟨_, rfl, D2, _, rfl, .inl (sq_of hz), rfl, _, rfl, ite2 (fun hb => absurd hb (by simp)) (fun _ => ?_)⟩
      refine ⟨_, rfl, D2, _, _, _, rfl, rfl, sq_of hz, atI_nat (j := 0) rfl, ?_⟩
      dsimp only [gName]
      refine st_eq (show _ = [some (.ref o), some (.str (tx L)), some (.int (wd : Nat)), some (.ref ta), some (.str (tx X)), some (.ref l1), some (.ref l2), some (.ref tr), none, some (.ref sd), some (.int (p' : Nat)), some (.ref lp), some (.int (p' : Nat)), some (.int (q' : Nat)), some (.ref xr), some (.ref D2), some (.ref xa), y17, none] from rfl) ?_
      have hpX : (X.drop p').length = X.length - p' := List.length_drop
      have hSle : S.length ≤ X.length - p' := by
        rw [← hS, List.length_take]
        omega
      have hcutX : go = none → p' + wd = X.length := fun hg => by
        have h1 := run_short hLG.nd hSL t.size t (Nat.le_refl _) tok (hgo.trans hg)
        have h2 : S.length = min (wd + 1) (X.length - p') := by rw [← hS, List.length_take, List.length_drop]
        omega
      refine' cut2 (fun σ' H' => σ' = [some (.ref o), some (.str (tx L)), some (.int (wd : Nat)), some (.ref ta), some (.str (tx X)), some (.ref l1), some (.ref l2), some (.ref tr), none, some (.ref sd), some (.int (p' : Nat)), some (.ref lp), some (.int (p' : Nat)), some (.int (q' : Nat)), some (.ref xr), some (.ref D2), some (.ref xa), y17, none] ∧ H' = H12) (fun kk => ?_) ?_
      rotate_left
      · refine ⟨_, rfl, xa, dx, _, rfl, hxa, xa, _, rfl, hTA, _, rfl, ?_⟩
        dsimp only
        cases hg : go with
        | none =>
          refine ite2 (fun _ => ?_) (fun hb => absurd rfl hb)
          refine ⟨_, rfl, _, rfl, _, _, rfl, rfl, _, rfl, _, rfl, tx_m (by omega), rfl, _, rfl, ite2 (fun hb => ?_) (fun _ => kk _ _ ⟨rfl, rfl⟩)⟩
          have hc := hcutX hg
          rw [tx_len] at hb
          have e9 : (p' : Int) + (wd : Int) = (X.length : Int) := by omega
          rw [Bool.not_eq_true'] at hb
          exact absurd (congrArg V.int e9) (of_decide_eq_false hb)
        | some sq => exact ite2 (fun hb => by cases hb) (fun _ => kk _ _ ⟨rfl, rfl⟩)
      intro σ' H' hh
      obtain ⟨rfl, rfl⟩ := hh
      -- what is known is true of the text
      refine ⟨_, rfl, _, _, rfl, rfl, _, rfl, by omega, by omega, ?_⟩
      have hN : ((wd : Int) + 1).toNat = wd + 1 := by omega
      rw [hN]
      refine for_it walk_range (n := wd + 1) (fun i σ Hx => ∃ y17 : Option V, σ = [some (.ref o), some (.str (tx L)), some (.int (wd : Nat)), some (.ref ta), some (.str (tx X)), some (.ref l1), some (.ref l2), some (.ref tr), none, some (.ref sd), some (.int (p' : Nat)), some (.ref lp), some (.int (p' : Nat)), some (.int (q' : Nat)), some (.ref xr), some (.ref D2), some (.ref xa), y17, none] ∧ Hx = H')
        ⟨_, rfl, rfl⟩ (fun _ _ _ _ _ => True.intro) (fun i x σ Hx H13 hi hp hy => ?_) (fun σ Hx hp => ?_)
      · obtain ⟨y17, rfl, rfl⟩ := hp
        obtain ⟨rfl, rfl⟩ := hy
        have hi1 : i < wd + 1 := hi
        have hik : i < kn'.length := by omega
        dsimp only [gName]
        refine st_eq (show _ = [some (.ref o), some (.str (tx L)), some (.int (wd : Nat)), some (.ref ta), some (.str (tx X)), some (.ref l1), some (.ref l2), some (.ref tr), none, some (.ref sd), some (.int (p' : Nat)), some (.ref lp), some (.int (p' : Nat)), some (.int (q' : Nat)), some (.ref xr), some (.ref D2), some (.ref xa), some (.int (0 + (i : Int))), none] from rfl) ?_
        refine ⟨_, rfl, xa, C, dx, _, _, rfl, hxa, TN.cl, TN.n3, tnf3, _, rfl, tx kn', _, kn'.getD i 0, rfl, rfl, tx_m (by omega), by rw [Int.zero_add]; exact at_of_lt hik, rfl, _, rfl, ?_⟩
        refine ite2 (fun hb => ?_) (fun _ => ⟨_, rfl, rfl⟩)
        have h46 : kn'.getD i 0 ≠ 46 := fun z => by
          rw [z] at hb
          exact absurd hb (by decide +kernel)
        have hXc : X[p' + i]? = some (kn'.getD i 0) := by
          rw [← hSat i (by omega)]
          exact (tru' i _ (getD_at hik)).elim (fun z => absurd z h46) id
        have hcut : cutS (tx X) (some ((p' : Int) + (0 + (i : Int)))) (some ((p' : Int) + (0 + (i : Int)) + 1)) = sg (kn'.getD i 0) := by
          rw [show (p' : Int) + (0 + (i : Int)) = ((p' + i : Nat) : Int) by omega, show ((p' + i : Nat) : Int) + 1 = ((p' + i : Nat) : Int) + ((1 : Nat) : Int) from rfl, cut_mid, List.drop_eq_getElem_cons (List.getElem?_eq_some_iff.mp hXc).1, (List.getElem?_eq_some_iff.mp hXc).2, sg_tx]
          rfl
        refine ⟨_, rfl, _, rfl, _, rfl, _, _, rfl, rfl, _, rfl, _, rfl, _, rfl, _, _, rfl, rfl, _, _, rfl, rfl, _, rfl, _, rfl, tx_m (by omega), _, rfl, xa, C, dx, _, _, rfl, hxa, TN.cl, TN.n3, tnf3, _, rfl, tx kn', _, kn'.getD i 0, rfl, rfl, tx_m (by omega), by rw [Int.zero_add]; exact at_of_lt hik, rfl, _, rfl, ?_⟩
        rw [hcut]
        exact ite2 (fun hb => by rw [Bool.not_eq_true'] at hb; exact absurd rfl (of_decide_eq_false hb)) (fun _ => ⟨_, rfl, rfl⟩)
      obtain ⟨y17', rfl, rfl⟩ := hp
      -- told pairs
      have lpu := I12.pr.len
      refine ⟨_, rfl, .inl ⟨rfl, _, sq_of I12.lp⟩, _, rfl, xa, C, dx, _, _, rfl, hxa, TN.cl, TN.n2, tnf2, la, rfl, ⟨_, st_of hla⟩, fun D hD => ?_⟩
      refine lc_tup (fun i H' => Ex Hx H' ∧ ∃ zs, H' D = some (.lst zs) ∧ PrA H' zs ((ns.take i).map fun n => (p', n))) ⟨Ex.new hD, [], upd_same, .nil⟩ (fun i H' _ p => st_of (p.1 _ _ hla)) (fun i x H' hx hw => ?_) (fun H14 hw => ?_)
      · obtain ⟨e5, zs, hz, Z⟩ := hw
        obtain ⟨nn, hnn, rfl⟩ : ∃ nn, ns[i]? = some nn ∧ x = .int (nn : Nat) := by
          have hx : (ns.map fun n => V.int (n : Nat))[i]? = some x := hx
          rw [List.getElem?_map] at hx
          cases hq : ns[i]? with
          | none =>
            rw [hq] at hx
            cases hx
          | some nn =>
            rw [hq] at hx
            exact ⟨nn, rfl, (Option.some.inj hx).symm⟩
        have hi := (List.getElem?_eq_some_iff.mp hnn).1
        have lz := Z.len
        rw [List.length_map, List.length_take] at lz
        refine ⟨rfl, _, rfl, _, rfl, by show 2 ≤ sizeLine; decide, fun x2 hx2 => ?_⟩
        have f2 := Ex.new (o := .tup [.int (p' : Nat), .int (nn : Nat)]) hx2
        refine ⟨zs, f2 _ _ hz, sz_k (by omega), (e5.trans f2).mut hD, zs ++ [.ref x2], upd_same, ?_⟩
        rw [take_next' hnn, List.map_append]
        exact ((Z.ex f2).app (.cons upd_same .nil)).upd (lst_no (f2 _ _ hz))
      obtain ⟨e14, zs, hz14, Z⟩ := hw
      rw [show (nV ns).length = ns.length from List.length_map .., List.take_length] at Z
      have lz := Z.len
      rw [List.length_map] at lz
      have I14 := I12.up e14
      have k201 : k < X.length + 1 := by
        have := (List.getElem?_eq_some_iff.mp hwk).1
        omega
      have hpl := I12.pl
      refine ⟨lp, D, _, zs, rfl, rfl, I14.lp, hz14, ?_, ?_⟩
      · rw [sizeLine_eq, lpu, lz]
        omega
      have n15 := NL.upd (ys := pu ++ zs) I14.lp
      have e15 : Ex H4 (L2.upd H14 lp (.lst (pu ++ zs))) := I14.ex.mut hlpH
      have lp15 : (L2.upd H14 lp (.lst (pu ++ zs))) lp = some (.lst (pu ++ zs)) := upd_same
      have pr15 : PrA (L2.upd H14 lp (.lst (pu ++ zs))) (pu ++ zs) (pd ++ ns.map fun n => (p', n)) := (I14.pr.app Z).upd (lst_no I14.lp)
      have hTA15 := (hTA.nl (NL.of e14)).nl n15
      have hxw15 := n15.tup (e14 _ _ (e12 _ _ (e10 _ _ hxw)))
      clear n15 hTA hxa hrd hla hgoA
      generalize (L2.upd H14 lp (.lst (pu ++ zs))) = H15 at e15 lp15 pr15 hTA15 hxw15 ⊢
      obtain ⟨xa', dx, vr, vl, v4, va, exa, hxa, hrd, ⟨la, rfl, hla⟩, hgoA⟩ := id hTA15
      cases exa
      dsimp only at hxa hla hgoA
      refine ⟨_, rfl, xa, dx, _, rfl, hxa, xa, _, rfl, hTA15, _, rfl, ?_⟩
      dsimp only
      cases hg : go with
      | none =>
        rw [hg] at hnext
        rcases hnext with ⟨_, hd1, ht1⟩ | ⟨s, q2, h, _⟩
        · refine ite2 (fun _ => ?_) (fun hb => absurd rfl hb)
          have pdq := plain_list prD 1 (pd ++ ns.map fun n => (p', n)) plain_pr
          rw [← ht1] at hP5
          refine ⟨_, rfl, _, rfl, _, _, .lst (sq_of lp15) (dp_prs pr15), .lst (sq_of (e15 _ _ h15)) (dp_prs (hP5.ex e15)), pdq.1, pdq.1, by have := pdq.2; omega, _, rfl, ?_⟩
          rw [SeqAt.eqv_refl_plain _ pdq.1]
          refine (if_pos rfl).mpr ?_
          have hk1 : k + 1 = R.1.length := by
            have h1 := List.drop_eq_nil_iff.mp hd1
            have h2 := (List.getElem?_eq_some_iff.mp hwk).1
            omega
          have hlast : atI vs1 (-1) = some (.ref xw) := by
            have h1 : vs1 = vs1.take k ++ [.ref xw] := by
              have h2 := take_next' hx
              rw [List.take_of_length_le (by omega)] at h2
              exact h2
            rw [h1]
            exact atI_last _ _
          refine ⟨_, rfl, _, rfl, _, rfl, l2, _, _, _, rfl, rfl, sq_of (e15 _ _ h25), hlast, xw, _, _, _, rfl, rfl, st_of hxw15, atI_nat (j := 0) rfl, rfl, ?_⟩
          rw [decide_eq_true rfl]
          exact q H15 (e5.trans e15)
        · cases h
      | some sq =>
        obtain ⟨s, q2⟩ := sq
        rw [hg] at hnext hgoA
        rcases hnext with ⟨h, _⟩ | ⟨s', q2', h, hd1, ht1⟩
        · cases h
        cases h
        obtain ⟨rfl, aa, rfl, haa⟩ := hgoA
        obtain ⟨s1, s2, s3⟩ := hrun s q2 hg
        refine ite2 (fun hb => by cases hb) (fun _ => ?_)
        refine ⟨_, rfl, _, rfl, xa, C, dx, _, _, rfl, hxa, TN.cl, TN.n4, tnf4, _, _, rfl, rfl, _, rfl, xa, C, dx, _, _, rfl, hxa, TN.cl, TN.n5, tnf5, _, _, rfl, ?_⟩
        refine st_eq (σ' := [some (.ref o), some (.str (tx L)), some (.int (wd : Nat)), some (.ref ta), some (.str (tx X)), some (.ref l1), some (.ref l2), some (.ref tr), none, some (.ref aa), some (.int ((p' + s : Nat) : Int)), some (.ref lp), some (.int (p' : Nat)), some (.int (q' : Nat)), some (.ref xr), some (.ref D2), some (.ref xa), y17', none]) (by rw [show ((p' + s : Nat) : Int) = (p' : Int) + (s : Int) by omega]; rfl) ?_
        refine ⟨aa, p' + s, q2, f', slidF kn' s, pu ++ zs, _, _, _, _, _, _, _, rfl, ⟨e15, lp15, pr15, haa, by rw [slidF_len]; exact hkl', tru_slid hkl' (by rw [hS]; exact tru'), s3, by have := I12.fu; omega, hd1.symm, by rw [List.append_assoc]; exact ht1, ?_⟩⟩
        rw [List.length_append, List.length_map]
        omega
    · obtain ⟨sd, p, q0, f, kn, pu, pd, y12, y13, y14, y15, y16, y17, rfl, I⟩ := hp
      have w1' := I.w1
      have t1' := I.t1
      have hfu := I.fu
      rw [lvs, List.drop_length] at w1'
      have hpw : ¬ p + wd ≤ X.length := fun hpw => by
        obtain ⟨f', rfl⟩ : ∃ f', f = f' + 1 := ⟨f - 1, by omega⟩
        obtain ⟨t, ht⟩ : ∃ t, ts[q0]? = some t := ⟨_, List.getElem?_eq_getElem I.ql⟩
        cases hg : (t.run L ((X.drop p).take (wd + 1))).2.2 with
        | none =>
          rw [search_cut hpw ht hg] at w1'
          cases w1'
        | some sq =>
          obtain ⟨s, q2⟩ := sq
          rw [search_go hpw ht hg] at w1'
          cases w1'
      rw [search_end hpw, List.append_nil] at t1'
      have pdq := plain_list prD 1 R.2 plain_pr
      have pr := I.pr
      rw [t1'] at pr
      refine ⟨_, rfl, _, rfl, _, _, .lst (sq_of I.lp) (dp_prs pr), .lst (sq_of (I.ex _ _ h15)) (dp_prs (hP5.ex I.ex)), pdq.1, pdq.1, by have := pdq.2; omega, _, rfl, ?_⟩
      rw [SeqAt.eqv_refl_plain _ pdq.1]
      refine (if_pos rfl).mpr ?_
      refine ⟨_, rfl, _, rfl, _, _, rfl, rfl, _, rfl, _, rfl, tx_m (by omega), _, _, rfl, rfl, ?_⟩
      show Q (.bl (decide (((tx X).length : Int) < (p : Int) + (wd : Int)))) H'
      rw [decide_eq_true (show ((tx X).length : Int) < (p : Int) + (wd : Int) by rw [tx_len]; omega)]
      exact q H' (e5.trans I.ex)
end
end Law

namespace GD
open PySem PySem.Spec PyProof.Rows L2
/-- a law's promise, where no text of an object is being made -/
structure Gd (P : Program) (w : World) (K : PySem.W.Frag) (mg : Str → Option Value) (base : Heap) (k : Nat) (f : Addr) (fd : FuncData) (ps : List Str) (sp : Sp) : Prop where
  run : ∀ (A : Around) (outer : List Env) (s : Shared) (H : Hp) (args : Args) (us : List Value) (vs : List V) (Q : VK) (E : XK), Room k A → A.guards = some [] → Env0 P w K mg base A outer s H → BindsTo s fd args (ps.zip us) → Vals vs us → sp vs H Q E →
    codeAny (model P w) A (.call (.ref f) args) (CR CX0 outer P w H s Q E) s
section
variable {P : Program} {w : World} {K : PySem.W.Frag} {mg : Str → Option Value} {base : Heap}
theorem deeper_guards {A : Around} {env : Env} (h : A.guards = some []) : (A.deeper env).guards = some [] := h
/-- the rule for a def, once more -/
theorem okG {x qual : Str} {st : Stmt} {f : Addr} {fd : FuncData} {N ps : List Str} {k : Nat} {sp : Sp} (F : Fun K x qual st f fd) (S : FnScope N ps (defScope st)) (len : ∀ vs H Q E, sp vs H Q E → vs.length = ps.length)
    (hbody : ∀ (cdv : Value) (A : Around) (outer : List Env) (s : Shared) (H : Hp) (vs : List V) (Q : VK) (E : XK), Room k (A.deeper (envOfC qual (defScope st) s.heap.objs.size f cdv)) → (A.deeper (envOfC qual (defScope st) s.heap.objs.size f cdv)).guards = some [] → sp vs H Q E →
      ∃ t, PSs (cxOf CX0 P w K mg base N qual (defScope st) f cdv A outer s H E).nox (defBody st) t ∧ t { nx := fun _ H' => Q .non H', rt := Q } (start N vs) H) : Gd P w K mg base (k + 1) f fd ps sp := by
  obtain ⟨oc, od, kV, doc, pm, an, cdv, ct, osl, rfl, lk, hcd⟩ := F.ex
  refine ⟨fun A outer s H args us vs Q E hr hg e0 hb r hsp => ?_⟩
  have kin : K.In s.heap := e0.mod.kin.keeps fun b o e => (e0.bs b o e).1
  have nolim : s.heap.NoLimit := e0.mod.nolimit.keeps fun b o e => (e0.bs b o e).1
  have names : ∀ y ∈ ps.zip us, (defScope st).names.lookup y.1 = some .local ∨ ((defScope st).names.lookup y.1 = some .cell ∧ ((cellsFrom (s.heap.objs.size + 1) (defScope st).names []).lookup y.1).isSome = true) := by
    rintro ⟨n, v⟩ hy
    rcases S.par n (List.of_mem_zip hy).1 with q | q
    · exact .inl q
    · exact .inr ⟨q, PySem.W.cellsFrom_some _ _ _ (.inl q)⟩
  refine codeAny_call_function hr.depth (kin _ _ lk) rfl S.co S.gen rfl (PySem.W.codeRec_of kin hcd) (hb _ _ _ _ (wpAny_newFunctionEnv_cells S.kind names fun env he s1 z => ?_))
  subst he
  refine ⟨nolim.keeps z.toInCall.keep, codeAny_func ?_⟩
  obtain ⟨t, ht, hq⟩ := hbody cdv A outer s H vs Q E (hr.deeper _) (deeper_guards hg) hsp
  have I := inv_start (CX := CX0) (E := E) S hr.hd e0 (len _ _ _ _ hsp) r z
  refine wpAny_mono (ht.nox.run [] s1 (start N vs) H _ I hq) (fun fl s' hs => ?_) fun e s' hs => hs
  cases fl with
  | ret u =>
    obtain ⟨v, σ', H', J, rv, q⟩ := hs
    exact ⟨v, H', J.os, J.bare, J.base, J.hok, rv, q⟩
  | next =>
    obtain ⟨σ', H', J, q⟩ := hs
    exact ⟨V.non, H', J.os, J.bare, J.base, J.hok, rfl, q⟩
  | brk =>
    obtain ⟨_, _, _, q⟩ := hs
    exact q.elim
  | cont =>
    obtain ⟨_, _, _, q⟩ := hs
    exact q.elim
end
/-! ### the end: the law's promise at the heap behind the top -/
/-- the script alone is known -/
def one (a : Addr) (vs : List Value) (ns : List Int) : Hp := fun b => if b = a then some (.frz { cls := .type "list", data := .seq vs.toArray } (.lst (ns.map V.int))) else none
theorem callG {P : Program} {w : World} {K : PySem.W.Frag} {mg mb : Str → Option Value} {k : Nat} {fa a : Addr} {fd : FuncData} {x : Str} {sp : Sp} {s : Shared} {vs : List Value} {ns : List Int}
    (kin : K.In s.heap) (hns : s.heap.Ns mainGlobals mg) (hb : s.heap.Ns builtinsNs mb) (hbb : ∀ x : Str, x ≠ "__name__" → mb x = bootBuiltins x) (nolim : s.heap.NoLimit) (gens : s.gens = #[])
    (ha : s.heap.get? a = some { cls := .type "list", data := .seq vs.toArray }) (hi : IntsAre vs ns) (hl : ns.length ≤ sizeLine) (room : Room k callerA)
    (F : ∀ base : Heap, K.In base → base.Ns mainGlobals mg → Gd P w K mg base k fa fd [x] sp) (binds : ∀ (s : Shared) (u : Value), BindsTo s fd ⟨[u], []⟩ [(x, u)])
    (hsp : ∀ H : Hp, SqL K H a (ns.map V.int) → sp [.ref a] H (fun v _ => v = .bl true) E0) :
    codeAny (model P w) callerA (.call (.ref fa) ⟨[.ref a], []⟩) (fun r s' => r = .ok (.ret (.bool true)) ∧ OldK s.heap s'.heap ∧ s'.os = s.os ∧ AllBare s'.gens) s := by
  have rv := vals_ints hi
  have step : ∀ H : Hp, (∀ b u, H b = some u → b = a ∧ K.lookup a = none ∧ ∃ o xs, u = .frz o (.lst xs)) → HOk P w H s.heap → SqL K H a (ns.map V.int) →
      codeAny (model P w) callerA (.call (.ref fa) ⟨[.ref a], []⟩) (fun r s' => r = .ok (.ret (.bool true)) ∧ OldK s.heap s'.heap ∧ s'.os = s.os ∧ AllBare s'.gens) s := by
    intro H only hok hS
    have free : ∀ {b : Addr}, b ≠ a → H b = none := fun {b} n => by
      cases e : H b with
      | none => rfl
      | some u => exact absurd (only b u e).1 n
    have stays : ∀ {b : Addr} {m : Str → Option Value}, s.heap.Ns b m → (hidT s.heap H).Ns b m := fun {b m} ⟨o, es, ep, e, d, r⟩ => by
      refine ⟨o, es, ep, hidT_get e (free fun z => ?_), d, r⟩
      rw [z, ha] at e
      cases e
      cases (show Data.seq vs.toArray _ = Data.dict es ep from d)
    have kinB : K.In (hidT s.heap H) := fun b o e => hidT_get (kin b o e) (by
      cases q : H b with
      | none => rfl
      | some u =>
        obtain ⟨h1, h2, _⟩ := only b u q
        rw [h1, h2] at e
        cases e)
    have e0 : Env0 P w K mg (hidT s.heap H) callerA [] s H :=
      ⟨rfl, ⟨kinB, stays hns, ⟨mb, stays hb, hbb⟩, let ⟨mc, h1, h2⟩ := nolim; ⟨mc, stays h1, h2⟩⟩, fun b o e => of_hidT e, Nat.le_of_eq (hidT_size _ _), trivial, fun b hb => (nomatch (show b ∈ ([] : List Addr) from hb)), hok, .of_eq gens⟩
    refine codeAny_mono ((F _ kinB (stays hns)).run callerA [] s H ⟨[.ref a], []⟩ [.ref a] [.ref a] _ E0 room rfl e0 (binds s (.ref a)) (.cons rfl .nil) (hsp H hS)) fun r s' h => ?_
    cases r with
    | error e => exact h.elim
    | ok fl =>
      cases fl with
      | ret u =>
        obtain ⟨v, H', os, bare, un, hok', r', q⟩ := h
        obtain rfl : v = .bl true := q
        obtain rfl : u = Value.bool true := r'
        refine ⟨rfl, OldK.of_keep fun b o e => ?_, os, bare⟩
        cases q : H b with
        | none => exact un.keep b o e q (by intro z; exact (nomatch (show b ∈ ([] : List Addr) from z))) (by simp)
        | some u =>
          obtain ⟨_, _, ob, xs, rfl⟩ := only b u q
          obtain ⟨e1, _⟩ := hok b _ q
          obtain ⟨e2, _⟩ := hok' b _ (un.frzs b ob _ q)
          rw [e] at e1
          cases e1
          exact e2
      | next => exact h.elim
      | brk => exact h.elim
      | cont => exact h.elim
  cases hk : K.lookup a with
  | some o =>
    have e := kin a o hk
    rw [ha] at e
    cases e
    refine step (fun _ => none) (fun b u z => by cases z) (fun b u z => by cases z) (.inr ⟨_, vs.toArray, _, hk, rfl, rfl, rfl, ?_, by simpa using rv⟩)
    rw [List.size_toArray, hi.length]
    exact hl
  | none =>
    refine step (one a vs ns) (fun b u z => ?_) (fun b u z => ?_) (.inl (.inr ⟨_, if_pos rfl⟩))
    · unfold one at z
      by_cases q : b = a
      · rw [if_pos q] at z
        cases z
        exact ⟨q, hk, _, _, rfl⟩
      · rw [if_neg q] at z
        cases z
    · unfold one at z
      by_cases q : b = a
      · rw [if_pos q] at z
        cases z
        subst q
        exact ⟨ha, by rw [List.length_map]; exact hl, vs, _, rv, ha⟩
      · rw [if_neg q] at z
        cases z
theorem walkG {l : PySem.W.OpenLaw} {n k : Nat} {q : Program} {loose : List Str} {XP : (Str → Option Value) → Heap → Prop} {YP : World → Heap → Prop} {d : DefRec} {K : Params → PySem.W.Frag} {sp : World → Sp} {x : Str}
    (hn : l.most = some n) (hn2 : n ≤ sizeLine) (hdf : d.params.defaults = []) (hr : Room k callerA) (hY : ∀ (w : World) (h : Heap), YP w h → (K w.params).In h)
    (F : ∀ (w : World) (mg : Str → Option Value) (fa : Addr) (h : Heap), (K w.params).In h → h.Ns mainGlobals mg → mg d.name = some (.ref fa) →
      ∃ fd : FuncData, (∀ (s : Shared) (u : Value), BindsTo s fd ⟨[u], []⟩ [(x, u)]) ∧ ∀ base : Heap, (K w.params).In base → base.Ns mainGlobals mg → Gd l.prog w (K w.params) mg base k fa fd [x] (sp w))
    (hsp : ∀ (w : World) (H : Hp) (a : Addr) (ns : List Int), ns.length ≤ n → SqL (K w.params) H a (ns.map V.int) → sp w [.ref a] H (fun v _ => v = .bl true) E0) :
    PySem.W.WalkO q loose XP YP l.row.toRowW d [] (fun f vs => PySem.call f vs) := by
  refine Att.attach_call hn hdf fun w s₀ s₁ mg mb fa o pm cd doc a vs ns G Y ho hd hcd hmg hobj hints hlen hg => ?_
  have kin := hY w _ Y
  obtain ⟨fd, hb, hF⟩ := F w mg fa _ kin G.T.g hmg
  exact callG kin G.T.g G.T.b G.T.builtins G.T.nolimit hg hobj hints (Nat.le_trans hlen hn2) hr hF hb fun H hS => hsp w H a ns hlen hS
end GD

/-! the law -/
namespace Law
open PySem PySem.Spec PyProof.Rows L2 Evl TR EK SG NdefX LamX
theorem kids_kx {H : Hp} : ∀ {vs : List V} {ts : List Tr}, Kids true H vs ts → KidX true H vs ts
  | _, _, .nil => .nil
  | _, _, .cons h r => .cons h.tx (kids_kx r)
theorem SObj.to {C : Addr} {H H' : Hp} {o : Addr} {L : List Nat} {w : Nat} {ts : List Tr} (S : SObj C H o L w ts) (e : ∀ b u, H b = some u → (∀ kvs, u ≠ .dK kvs) → (∀ ps, u ≠ .tbl ps) → H' b = some u) : SObj C H' o L w ts := by
  obtain ⟨dx, st, us, h1, h2, h3⟩ := S.ex
  exact ⟨dx, st, us, e _ _ h1 (fun ps z => by cases z) (fun ps z => by cases z), e _ _ h2 (fun ps z => by cases z) (fun ps z => by cases z), kids_tup (fun b ys h => e _ _ h (fun ps z => by cases z) fun ps z => by cases z) h3⟩
theorem Sta.hold2 {T : List NTab} {p : PenI} {B H : Hp} {n : Nat} (S : Sta T p B H n) : ∃ B', Sta T p B' H n ∧ Ex B B' ∧ ∀ b u, H b = some u → (∀ kvs, u ≠ .dK kvs) → (∀ ps, u ≠ .tbl ps) → B' b = some u := by
  obtain ⟨B', S', e, h⟩ := S.hold
  refine ⟨B', S', e, fun b u hb h1 h2 => h b u hb (fun z => ?_) h2⟩
  obtain ⟨kvs, hd⟩ := S.pen.dict
  rw [z, hd] at hb
  exact h1 kvs (Option.some.inj hb).symm
def spLaw (K : PySem.W.Frag) (Tn : List NTab) : Sp := fun vs H Q _ => ∃ (a : Addr) (ns : List Int), vs = [.ref a] ∧ TabsN Tn H ∧ SqL K H a (ns.map V.int) ∧ ns.length ≤ 63 ∧ ∀ H', Q (.bl true) H'
section
variable {P : Program} {w : World} {K : PySem.W.Frag} {mg : Str → Option Value} {base : Heap} {Tn : List NTab} {CS fS : Addr} {fdS : FuncData}
theorem ok_law {f : Addr} {fd : FuncData} (F : Fun K "law" "law" s_law f fd) (T : Tx mg) (M_Searcher : Mk K CS fS) (F_Searcher : FnOk P w K mg base CX0 42 fS fdS ["self", "letters", "width", "states"] (spInit CS)) (g_Searcher : mg "Searcher" = some (.ref CS)) (b_Searcher : Binds K fdS ["self", "letters", "width", "states"] [])
    (c_lpen_of : Kn P w K mg base "_law_pen_of" ["_law_script"] 1 (spPen K)) (c_ldraw : Kn P w K mg base "_law_draw" ["_law_pen", "_law_many"] 1 spDraw) (c_pickL : Kn P w K mg base "_law_pick" ["_law_pen", "_law_menu"] 2 spPickL) (c_pickS : Kn P w K mg base "_law_pick" ["_law_pen", "_law_menu"] 2 spPickS) (c_lmatter_of : Kn P w K mg base "_law_matter_of" ["_law_pen", "_law_most"] 45 (spMat Tn))
    (c_lfollows : Kn P w K mg base "_law_follows" ["_law_searcher", "_law_letters", "_law_width", "_law_trees", "_law_text"] 5 (spFollows CS)) :
    GD.Gd P w K mg base 50 f fd ["_law_script"] (spLaw K Tn) := by
  refine GD.okG F sc_law (fun vs H Q E h => ?_) (fun cdv A outer s H vs Q E hr hg h => ?_)
  · obtain ⟨a, ns, rfl, _⟩ := h
    rfl
  · obtain ⟨a, ns, rfl, TN, hS, hl, q⟩ := h
    refine ⟨_, (pss_cons (ps_set (i := 1) sc_law.nd rfl (Or.inr rfl) (pe_call c_lpen_of.ok (hr.mono (by decide)) (by rfl) c_lpen_of.g c_lpen_of.kp c_lpen_of.b .nil pass0 (pa_cons (pv 0) pa_nil)))
      (pss_cons (ps_for PassesOwn.never rfl (pi_range1 (by rfl) T.range (pa_cons pe_int pa_nil)) (pg_name (i := 2) sc_law.nd rfl (Or.inl rfl)) (pss_cons (ps_asg (pe_call c_lmatter_of.ok (hr.mono (by decide)) (by rfl) c_lmatter_of.g c_lmatter_of.kp c_lmatter_of.b .nil pass0 (pa_cons (pv 1) (pa_cons pe_int pa_nil))) (pg_tup (by rfl) (pgs_cons (pg_name (i := 3) sc_law.nd rfl (Or.inr rfl)) (pgs_cons (pg_name (i := 4) sc_law.nd rfl (Or.inl rfl)) (pgs_cons (pg_name (i := 5) sc_law.nd rfl (Or.inl rfl)) pgs_nil)))))
      (pss_cons (ps_set (i := 6) sc_law.nd rfl (Or.inl rfl) (pe_make M_Searcher F_Searcher (hr.mono (by decide)) (by rfl) g_Searcher b_Searcher .nil pass0 (pa_cons (pv 3) (pa_cons (pe_callB call_len_str (by rfl) T.len PySem.boot_len (pa_cons (pe_ix ix_list (pv 4) pe_int (fun _ _ => rfl)) pa_nil)) (pa_cons (pv 5) pa_nil)))))
      (pss_one (ps_for PassesOwn.never rfl (pi_range1 (by rfl) T.range (pa_cons pe_int pa_nil)) (pg_name (i := 7) sc_law.nd rfl (Or.inl rfl)) (pss_cons (ps_set (i := 8) sc_law.nd rfl (Or.inl rfl) (pe_call c_pickL.ok (hr.mono (by decide)) (by rfl) c_pickL.g c_pickL.kp c_pickL.b .nil pass0 (pa_cons (pv 1) (pa_cons (pe_lst (pa_cons (pe_call c_ldraw.ok (hr.mono (by decide)) (by rfl) c_ldraw.g c_ldraw.kp c_ldraw.b .nil pass0 (pa_cons (pv 1) (pa_cons pe_int pa_nil))) (pa_cons (pe_call c_ldraw.ok (hr.mono (by decide)) (by rfl) c_ldraw.g c_ldraw.kp c_ldraw.b .nil pass0 (pa_cons (pv 1) (pa_cons pe_int pa_nil))) pa_nil))) pa_nil))))
      (pss_cons (ps_set (i := 9) sc_law.nd rfl (Or.inl rfl) (pe_join pe_str (pe_lc (own := [("_law_j", 10)]) (g := gName 10) (tt := tYes) rfl sc_law.nd (pi_range1 (by rfl) T.range (pa_cons (pv 8) pa_nil)) (blkOk_by (N := N_law) (sc := defScope s_law) (by decide +kernel)) (fun _ _ _ _ _ => (pg_name (i := 10) sc_law.nd rfl (Or.inl rfl))) (fun _ _ _ _ _ => pts_nil) (fun _ _ _ _ _ => (pe_call c_pickS.ok (hr.mono (by decide)) (by rfl) c_pickS.g c_pickS.kp c_pickS.b .nil pass0 (pa_cons (pv 1) (pa_cons (pv 3) pa_nil)))))))
      (pss_cons (ps_if (pt_cmpR op_eq (pe_call c_ldraw.ok (hr.mono (by decide)) (by rfl) c_ldraw.g c_ldraw.kp c_ldraw.b .nil pass0 (pa_cons (pv 1) (pa_cons pe_int pa_nil))) pe_int (nomark _)) (pss_one (ps_set (i := 9) sc_law.nd rfl (Or.inl rfl) (pe_op op_add_str (pv 9) (pe_op ZS.op_mulS (pe_ix ix_list (pv 4) pe_int (fun _ _ => rfl)) pe_int)))) pss_nil)
      (pss_one (ps_if (pt_not (pt_val (pe_call c_lfollows.ok (hr.mono (by decide)) (by rfl) c_lfollows.g c_lfollows.kp c_lfollows.b .nil pass0 (pa_cons (pv 6) (pa_cons (pv 3) (pa_cons (pe_callB call_len_str (by rfl) T.len PySem.boot_len (pa_cons (pe_ix ix_list (pv 4) pe_int (fun _ _ => rfl)) pa_nil)) (pa_cons (pv 5) (pa_cons (pv 9) pa_nil)))))))) (pss_one (ps_ret pe_bl)) pss_nil))))))))))
      (pss_one (ps_ret pe_bl)))), ?_⟩
    refine ⟨_, rfl, a, ns, rfl, hS, hl, fun p H0 H1 eH P0 => ?_⟩
    have S0 : Sta Tn p (noT H0) H1 0 := by
      have tn := TN.ext (eH.trans P0.1)
      obtain ⟨e0, h0, hc, hl', op, lf, ho, hd⟩ := P0
      exact ⟨⟨(noT_ex H0).trans e0, noT_none h0, noT_of hc (fun ps z => by cases z), hl', op, lf, ho, hd⟩, noT_nt H0, tn⟩
    clear P0
    dsimp only [gName]
    refine st_eq (show _ = [some (.ref a), some (.ref p.d), none, none, none, none, none, none, none, none, none] from rfl) ?_
    refine ⟨_, rfl, by decide, by decide, ?_⟩
    refine for_it walk_range (fun i σ H' => ∃ (B : Hp) (y2 y3 y4 y5 y6 y7 y8 y9 : Option V), σ = [some (.ref a), some (.ref p.d), y2, y3, y4, y5, y6, y7, y8, y9, none] ∧ Sta Tn p B H' (i * 30000))
      ⟨_, _, _, _, _, _, _, _, _, rfl, S0⟩ (fun _ _ _ _ _ => True.intro) (fun i x σ H' H9 hi hp hy => ?_) (fun σ H' hp => ?_)
    · obtain ⟨B, y2, y3, y4, y5, y6, y7, y8, y9, rfl, S⟩ := hp
      obtain ⟨rfl, hxe⟩ := hy
      have hi3 : i < 3 := hi
      dsimp only [gName]
      refine st_eq (show _ = [some (.ref a), some (.ref p.d), some x, y3, y4, y5, y6, y7, y8, y9, none] from rfl) ?_
      refine ⟨_, rfl, p, B, i * 30000, rfl, S, by omega, fun H2 B2 r wa ta L u more us ts e2 S2 hr hwa hta KK M => ?_⟩
      refine ⟨r, _, rfl, st_of (S2.pen.1 _ _ hr), rfl, _, _, rfl, _, _, rfl, _, _, rfl, rfl, ?_⟩
      refine st_eq (show _ = [some (.ref a), some (.ref p.d), some x, some (.str (tx L)), some (.ref wa), some (.ref ta), y6, y7, y8, y9, none] from rfl) ?_
      obtain ⟨hL, l3, w1, w4, wok, p81, huL⟩ := M
      obtain ⟨n1, n64, tok, tsz⟩ := id wok
      have hta2 := S2.pen.1 _ _ hta
      have KK2 := KK.ex S2.pen.1
      have lL2 := hL.lo
      refine ⟨_, rfl, _, rfl, wa, _, _, _, rfl, rfl, sq_of (S2.pen.1 _ _ hwa), atI_nat (j := 0) rfl, _, rfl, tx_le (by omega), ?_⟩
      rw [tx_len]
      refine ⟨_, rfl, fun o dx ho hdx hne => mk_spX (kt := false) (k := true) ho hdx hne hta2 (kids_kx KK2) hL w1 (by omega) wok fun H3 e3 SO => ⟨rfl, ?_⟩⟩
      obtain ⟨B3, S3, e23, hk3⟩ := (S2.ex e3).hold2
      have SO3 := SO.to hk3
      have hta3 := e23 _ _ hta
      have hwa3 := e23 _ _ hwa
      have KK3 := KK.ex e23
      dsimp only [gName]
      refine st_eq (show _ = [some (.ref a), some (.ref p.d), some x, some (.str (tx L)), some (.ref wa), some (.ref ta), some (.ref o), y7, y8, y9, none] from rfl) ?_
      refine ⟨_, rfl, by decide, by decide, ?_⟩
      refine for_it walk_range (fun k σ H' => ∃ (B' : Hp) (y7 y8 y9 : Option V), σ = [some (.ref a), some (.ref p.d), some x, some (.str (tx L)), some (.ref wa), some (.ref ta), some (.ref o), y7, y8, y9, none] ∧ Ex B3 B' ∧ Sta Tn p B' H' (i * 30000 + 20000 + k * 100))
        ⟨B3, _, _, _, rfl, Ex.refl _, S3.le (by omega)⟩ (fun _ _ _ _ _ => True.intro) (fun k z σ H' H9' hk hp hy => ?_) (fun σ H' hp => ?_)
      · obtain ⟨B', y7, y8, y9, rfl, eB, S4⟩ := hp
        obtain ⟨rfl, hze⟩ := hy
        have hk4 : k < 4 := hk
        dsimp only [gName]
        refine st_eq (show _ = [some (.ref a), some (.ref p.d), some x, some (.str (tx L)), some (.ref wa), some (.ref ta), some (.ref o), some z, y8, y9, none] from rfl) ?_
        -- the size
        refine ⟨_, rfl, _, rfl, p, _, _, 9, rfl, S4.plus, by omega, by decide, by decide, fun H5 r1 P5 r10 r11 => ?_⟩
        have S5 := S4.back P5
        obtain ⟨rn1, rfl⟩ : ∃ rn : Nat, r1 = (rn : Int) := ⟨r1.toNat, (Int.toNat_of_nonneg r10).symm⟩
        refine ⟨_, rfl, p, _, _, 41, rfl, S5.plus, by omega, by decide, by decide, fun H6 r2 P6 r20 r21 => ⟨by show 2 ≤ sizeLine; decide, fun a1 h1 => ?_⟩⟩
        obtain ⟨rn2, rfl⟩ : ∃ rn : Nat, r2 = (rn : Int) := ⟨r2.toNat, (Int.toNat_of_nonneg r20).symm⟩
        have S6 := (S5.back P6).ex (Ex.new (o := HO.lst [.int (rn1 : Nat), .int (rn2 : Nat)]) h1)
        refine ⟨p, _, a1, _, _, rfl, S6.plus, by omega, upd_same, by show 0 < 2; decide, by show 2 < 1000; decide, fun H7 v P7 hv => ?_⟩
        have S7 := S6.back P7
        obtain ⟨m, hm, rfl⟩ : ∃ m : Nat, m ≤ 40 ∧ v = .int (m : Nat) := by
          rcases List.mem_cons.mp hv with h | hv
          · exact ⟨rn1, by omega, h⟩
          · exact ⟨rn2, by omega, List.mem_singleton.mp hv⟩
        clear P5 P6 P7
        dsimp only [gName]
        refine st_eq (show _ = [some (.ref a), some (.ref p.d), some x, some (.str (tx L)), some (.ref wa), some (.ref ta), some (.ref o), some z, some (.int (m : Nat)), y9, none] from rfl) ?_
        -- the text
        refine ⟨⟨_, rfl⟩, _, rfl, _, rfl, by omega, by omega, fun D hD => ?_⟩
        rw [Int.toNat_natCast]
        have d0 := fresh0 S7.plus hD
        have d1 := fresh_ne S7.plus hD
        have P0 := S7.plus
        refine lc_range (lo := 0) (n := m) (Picks p (del H7 p.d) _ (tx L) D) ⟨P0.upd d0 d1, [], rfl, (fun c h => nomatch h), upd_same⟩ (fun i H hi hw => ?_) (fun H8 hw => ?_)
        · obtain ⟨Q1, cs, hcs, hcz, hL'⟩ := hw
          refine ⟨rfl, _, rfl, _, rfl, p, upd (del H7 p.d) D (.lst ((cs.map sg).map V.str)), _, tx L, rfl, Q1.keep hL' d1, by omega, by rw [tx_len]; omega, by rw [tx_len]; omega, fun H5 c P5 hc => ?_⟩
          have hL5 := P5.1 _ _ upd_same
          refine ⟨_, hL5, ?_, (Q1.drop hL' P5).upd d0 d1, cs ++ [c], by rw [List.length_append, hcs]; rfl, fun x hx => ?_, ?_⟩
          · rw [List.length_map, List.length_map, hcs]
            exact sz_lt (by omega)
          · rcases List.mem_append.mp hx with h | h
            · exact hcz x h
            · rw [List.mem_singleton.mp h]
              exact hc
          · rw [upd_same, ← sg_snoc]
            rfl
        obtain ⟨Q1, X, hXl, hXc, hD8⟩ := hw
        have S8 := S7.back Q1
        refine ⟨_, D, X.map sg, rfl, rfl, .inl (sq_of hD8), join_bound X (by omega), ?_⟩
        rw [join_sg]
        have hXL : ∀ c ∈ X, c ∈ L := hXc
        dsimp only [gName]
        refine st_eq (show _ = [some (.ref a), some (.ref p.d), some x, some (.str (tx L)), some (.ref wa), some (.ref ta), some (.ref o), some z, some (.int (m : Nat)), some (.str (tx X)), none] from rfl) ?_
        refine' cut2 (fun σ' H' => ∃ X' : List Nat, σ' = [some (.ref a), some (.ref p.d), some x, some (.str (tx L)), some (.ref wa), some (.ref ta), some (.ref o), some z, some (.int (m : Nat)), some (.str (tx X')), none] ∧ Sta Tn p B' H' (i * 30000 + 20000 + k * 100 + 60) ∧ X'.length ≤ 100 ∧ ∀ c ∈ X', c ∈ L) (fun kk => ?_) ?_
        rotate_left
        · refine ⟨_, rfl, p, _, _, 2, rfl, S8.plus, by omega, by decide, by decide, fun H9 r3 P9 r30 r31 => ?_⟩
          have S9 := S8.back P9
          refine ⟨rfl, _, rfl, ite2 (fun hb => ?_) (fun hb => ?_)⟩
          · have x9 : Ex B3 H9 := eB.trans S9.pen.1
            refine ⟨_, rfl, _, rfl, wa, _, _, _, rfl, rfl, sq_of (x9 _ _ hwa3), atI_nat (j := 0) rfl, _, _, rfl, rfl, mulOk_of 10 1000 (by rw [tx_len]; omega) (by omega) (by omega) (by decide) (by decide), _, _, rfl, rfl, ?_, ?_⟩
            · rw [mul_tx u (by omega), tx_len, tx_len]
              show X.length + (u ++ (u ++ [])).length ≤ _
              rw [List.length_append, List.length_append]
              exact sz_le (by show X.length + (u.length + (u.length + 0)) < 1000; omega)
            · rw [mul_tx u (by omega), tx_app]
              dsimp only [gName]
              refine kk _ _ ⟨X ++ (List.replicate ((2 : Int)).toNat u).flatten, rfl, S9.le (by omega), ?_, fun c hc => ?_⟩
              · rw [List.length_append]
                show X.length + (u ++ (u ++ [])).length ≤ _
                rw [List.length_append, List.length_append]
                show X.length + (u.length + (u.length + 0)) ≤ 100
                omega
              · rcases List.mem_append.mp hc with h | h
                · exact hXL c h
                · obtain ⟨l, h1, h2⟩ := List.mem_flatten.mp h
                  rw [List.eq_of_mem_replicate h1] at h2
                  exact huL c h2
          · exact kk _ _ ⟨X, rfl, S9.le (by omega), by omega, hXL⟩
        intro σ' H10 hh
        obtain ⟨X', rfl, S10, hX1, hX2⟩ := hh
        have x10 : Ex B3 H10 := eB.trans S10.pen.1
        refine ⟨_, rfl, _, rfl, _, rfl, wa, _, _, _, rfl, rfl, sq_of (x10 _ _ hwa3), atI_nat (j := 0) rfl, _, rfl, tx_le (by omega), _, rfl, _, rfl, ?_⟩
        rw [tx_len]
        refine ⟨o, L, u.length, ts, X', ta, us, rfl, ⟨SO3.up x10, hL, w1, by omega, n1, n64, fun t ht => (tok t ht).1, tsz⟩, x10 _ _ hta3, KK3.ex x10, fun t ht => by have := (tok t ht).2; omega, hX2, by omega, fun H11 e11 => ?_⟩
        refine ⟨_, rfl, ite2 (fun hb => by cases hb) (fun _ => ?_)⟩
        exact ⟨B', _, _, _, rfl, eB, (S10.ex e11).le (by omega)⟩
      · obtain ⟨B', y7, y8, y9, rfl, eB, S4⟩ := hp
        exact ⟨B', _, _, _, _, _, _, _, _, rfl, S4.le (by show i * 30000 + 20000 + 4 * 100 ≤ (i + 1) * 30000; omega)⟩
    · exact q H'
end
end Law

namespace Law
open PySem PySem.Spec PyProof.Rows L2 Evl TR NdefX LamX
theorem kvO_at : ∀ (ks : List (List Nat)) (n i : Nat) (k : List Nat), ks[i]? = some k → ((kvO n ks).map fun kv => kV kv.1)[i]? = some (.str (tx k))
  | x :: r, n, 0, k, h => by
    cases h
    rfl
  | x :: r, n, i + 1, k, h => kvO_at r (n + 1) i k h
section
variable {P : Program} {w : World} {K : PySem.W.Frag} {mg : Str → Option Value} {base : Heap}
theorem ok_allk {f : Addr} {fd : FuncData} {Tn : List NTab} (F : Fun K "_by_all_knowledge" "_by_all_knowledge" s_by_all_knowledge f fd) (T : Tx mg) (c_known_tree : Kn P w K mg base "_known_tree" ["letters", "word", "known", "places", "numbers"] 11 (spKT 9)) : FnOk P w K mg base CX0 12 f fd ["letters", "word"] (spMk Tn allL) := by
  refine F.ok sc_by_all_knowledge (fun vs H Q E h => ?_) (fun cdv A outer s H vs Q E hr h => ?_)
  · obtain ⟨L, W, B, rfl, _⟩ := h
    rfl
  · obtain ⟨L, W, B, rfl, hL, w1, w8, hWL, eB, TN, nB, q⟩ := h
    have hL4 := hL.hi
    refine ⟨_, (pss_cons (ps_set (i := 2) sc_by_all_knowledge.nd rfl (Or.inl rfl) (pe_disp (pps_cons (pe_op ZS.op_mulS pe_str (pe_op op_add (pe_callB call_len_str (by rfl) T.len PySem.boot_len (pa_cons (pv 1) pa_nil)) pe_int)) pe_int pps_nil) (by rfl) (by rfl) (fun z => by cases z) (by decide)))
      (pss_cons (ps_set (i := 3) sc_by_all_knowledge.nd rfl (Or.inl rfl) (pe_lst pa_nil))
      (pss_cons (ps_while PassesOwn.never (pt_cmpR op_lt (pe_callB call_len_seq (by rfl) T.len PySem.boot_len (pa_cons (pv 3) pa_nil)) (pe_callB call_lenD (by rfl) T.len PySem.boot_len (pa_cons (pv 2) pa_nil)) (nomark _)) (pss_cons (ps_set (i := 4) sc_by_all_knowledge.nd rfl (Or.inr rfl) (pe_ix ix_list (pe_callTy (call_list_dK rfl) (by rfl) T.list PyProof.Rows.boot_list (pa_cons (pv 2) pa_nil)) (pe_callB call_len_seq (by rfl) T.len PySem.boot_len (pa_cons (pv 3) pa_nil)) (fun _ _ => rfl)))
      (pss_cons (ps_setLc (i := 5) (own := [("place", 6)]) (g := gName 6) rfl sc_by_all_knowledge.nd rfl rfl (sw_true rfl rfl rfl (by decide +kernel)) (pi_range1 (by rfl) T.range (pa_cons (pe_callB call_len_str (by rfl) T.len PySem.boot_len (pa_cons (pv 1) pa_nil)) pa_nil)) (blkOk_by (N := N_by_all_knowledge) (sc := defScope s_by_all_knowledge) (by decide +kernel)) (fun _ _ _ _ _ => (pg_name (i := 6) sc_by_all_knowledge.nd rfl (Or.inl rfl))) (fun _ _ _ _ _ => (pts_one (pt_cmpR op_eq (pe_ix ix_str (pv 4) (pv 6) (fun _ _ => rfl)) pe_str (nomark _)))) (fun _ _ _ _ _ => (pv 6)))
      (pss_one (ps_expr (pe_bm PySem.F.plainAttrs_list PySem.F.slot_list_append PySem.F.type_list_append mt_append (pv 3) (pa_cons (pe_call c_known_tree.ok (hr.mono (by decide)) (by rfl) c_known_tree.g c_known_tree.kp c_known_tree.b .nil pass0 (pa_cons (pv 0) (pa_cons (pv 1) (pa_cons (pv 4) (pa_cons (pv 5) (pa_cons (pv 2) pa_nil)))))) pa_nil)))))))
      (pss_one (ps_ret (pv 3)))))), ?_⟩
    intro d hd
    have e0 : Ex H (upd H d (.dK [])) := Ex.new hd
    refine ⟨_, rfl, _, rfl, tx_le (by omega), ?_⟩
    rw [tx_len]
    refine ⟨_, _, rfl, rfl, _, _, rfl, rfl, ?_, ?_⟩
    · rw [dot_sg]
      exact mulOk_of 1 1000 (by rw [sg_len]; omega) (by omega) (by omega) (by decide) (by decide)
    rw [dot_sg, show ((W.length : Int) + 1) = ((W.length + 1 : Nat) : Int) by omega, mul_dot]
    refine ⟨upd_same, kvO 0 (aK L W 0), rfl, by show 1 ≤ 15; decide, ?_⟩
    rw [show mergeK [] (kvO 0 (aK L W 0)) = kvO 0 (aK L W 0) from rfl]
    have e1 : Ex H (upd (upd H d (.dK [])) d (.dK (kvO 0 (aK L W 0)))) := e0.mut hd
    have hd1 : (upd (upd H d (.dK [])) d (.dK (kvO 0 (aK L W 0)))) d = some (.dK (kvO 0 (aK L W 0))) := upd_same
    generalize (upd (upd H d (.dK [])) d (.dK (kvO 0 (aK L W 0)))) = H1 at e1 hd1 ⊢
    have x1 : Ex H (hid d H1) := fun b o h => by
      have n : b ≠ d := fun z => by
        rw [z, hd] at h
        cases h
      rw [hid_ne n]
      exact e1 _ _ h
    have eB1 : Ex B (hid d H1) := eB.trans x1
    refine ⟨Nat.zero_le _, fun D hD => ?_⟩
    have nD : D ≠ d := fun z => by
      rw [z, hd1] at hD
      cases hD
    have hD1 : hid d H1 D = none := by rw [hid_ne nD]; exact hD
    have bD1 : B D = none := fresh_back eB1 hD1
    have hb : ∀ i, (aK L W i).length ≤ 256 := fun i => Nat.le_trans (aK_ok w1 i).len (Nat.pow_le_pow_right (n := 2) (by decide) w8)
    have k8 : kcnt 4 8 = 390625 := rfl
    have kc : ∀ n, n ≤ 8 → kcnt 4 n ≤ 390625 := by decide
    refine ⟨fun m σ H' => ∃ (i : Nat) (B' : Hp) (zs : List V) (y4 y5 y6 : Option V), σ = [some (.str (tx L)), some (.str (tx W)), some (.ref d), some (.ref D), y4, y5, y6] ∧ Grows B (hid d H1) B' (hid d H') ∧ B' D = none ∧ H' D = some (.lst zs) ∧ KidX true B' zs ((List.range i).map (aT L W)) ∧ H' d = some (.dK (kvO 0 (aK L W i))) ∧ (∀ j, j < i → j < (aK L W j).length) ∧ m = 300 - i,
      ⟨300, 0, B, [], none, none, none, rfl, ?_, bD1, upd_same, .nil, Ex.new hD _ _ hd1, fun j hj => absurd hj (Nat.not_lt_zero _), rfl⟩, fun m σ H' hw => ?_⟩
    · rw [hid_upd nD]
      exact (Grows.refl eB1).put hD1 bD1
    obtain ⟨i, B', zs, y4, y5, y6, rfl, gw, bD, hz, Z, hd', hj, hm⟩ := hw
    have lz := Z.len
    rw [List.length_map, List.length_range] at lz
    have i256 : i ≤ 256 := by
      by_cases q0 : i = 0
      · omega
      · have h1 := hj (i - 1) (by omega)
        have h2 := hb (i - 1)
        omega
    refine ⟨_, rfl, D, _, rfl, .inl (sq_of hz), _, rfl, d, _, rfl, hd', _, _, rfl, rfl, _, rfl, ?_⟩
    rw [kvO_len, lz]
    by_cases hlt : i < (aK L W i).length
    · refine iteD (by omega) ?_
      obtain ⟨k, hk⟩ : ∃ k, (aK L W i)[i]? = some k := ⟨_, List.getElem?_eq_getElem hlt⟩
      have ko := (aK_ok (L := L) w1 i).all k (List.mem_of_getElem? hk)
      refine ⟨fun σ2 H2 => ∃ m', m' < m ∧ ∃ (i : Nat) (B' : Hp) (zs : List V) (y4 y5 y6 : Option V), σ2 = [some (.str (tx L)), some (.str (tx W)), some (.ref d), some (.ref D), y4, y5, y6] ∧ Grows B (hid d H1) B' (hid d H2) ∧ B' D = none ∧ H2 D = some (.lst zs) ∧ KidX true B' zs ((List.range i).map (aT L W)) ∧ H2 d = some (.dK (kvO 0 (aK L W i))) ∧ (∀ j, j < i → j < (aK L W j).length) ∧ m' = 300 - i, fun σ2 H2 h => h, ?_⟩
      refine ⟨_, rfl, d, _, rfl, hd', fun kl hkl => ?_⟩
      have e2 : Ex H' (upd H' kl (.lst ((kvO 0 (aK L W i)).map fun kv => kV kv.1))) := Ex.new hkl
      have hkl2 : (upd H' kl (.lst ((kvO 0 (aK L W i)).map fun kv => kV kv.1))) kl = some (.lst ((kvO 0 (aK L W i)).map fun kv => kV kv.1)) := upd_same
      generalize (upd H' kl (.lst ((kvO 0 (aK L W i)).map fun kv => kV kv.1))) = H2 at e2 hkl2 ⊢
      refine ⟨_, rfl, D, _, rfl, .inl (sq_of (e2 _ _ hz)), ?_⟩
      rw [lz]
      refine ⟨kl, _, _, _, rfl, rfl, sq_of hkl2, atI_nat (kvO_at _ 0 _ _ hk), ?_⟩
      refine ⟨_, rfl, _, rfl, tx_le (by omega), ?_⟩
      rw [tx_len]
      refine ⟨_, rfl, by omega, by omega, fun E3 hE3 => ?_⟩
      rw [Int.toNat_natCast]
      refine lc_range (lo := 0) (n := W.length) (g := gName 6) (vs := [6]) (fun i' H6 => Ex H2 H6 ∧ H6 E3 = some (.lst (nV ((List.range i').filter fun p => k.getD p 0 == 46)))) ⟨Ex.new hE3, upd_same⟩ (fun i' H6 hi hw => ?_) (fun H6 hw => ?_)
      · obtain ⟨e6, hz6⟩ := hw
        rw [Int.zero_add]
        have hki : k[i']? = some (k.getD i' 0) := getD_at (by rw [ko.len]; omega)
        refine ⟨rfl, _, rfl, _, rfl, _, _, k.getD i' 0, rfl, rfl, tx_le (by rw [ko.len]; omega), atI_nat (j := i') (by rw [tx_list]; exact hki), rfl, _, rfl, ?_⟩
        have ln : (nV ((List.range i').filter fun p => k.getD p 0 == 46)).length ≤ i' := by
          rw [nV_len]
          exact Nat.le_trans (List.length_filter_le _ _) (by rw [List.length_range]; exact Nat.le_refl _)
        have sp : (List.range (i' + 1)).filter (fun p => k.getD p 0 == 46) = (List.range i').filter (fun p => k.getD p 0 == 46) ++ [i'].filter (fun p => k.getD p 0 == 46) := by
          rw [List.range_succ, List.filter_append]
        by_cases c46 : k.getD i' 0 = 46
        · refine iteD (sg_inj.mpr c46) ?_
          refine ⟨_, rfl, _, hz6, sz_lt (by omega), e6.mut hE3, ?_⟩
          rw [upd_same, sp, List.filter_cons_of_pos (by rw [c46]; rfl)]
          unfold nV
          rw [List.map_append]
          rfl
        · refine iteDn (fun z => c46 ((sg_inj (c := k.getD i' 0)).mp z)) ?_
          refine ⟨e6, ?_⟩
          rw [sp, List.filter_cons_of_neg (by simpa using c46)]
          show H6 E3 = some (.lst (nV (_ ++ [])))
          rw [List.append_nil]
          exact hz6
      · obtain ⟨e6, hz6⟩ := hw
        have e3 : Ex (hid d H') (hid d H6) := hid_ex fun b o _ h => e6 _ _ (e2 _ _ h)
        have g0 : Grows B' (hid d H') B' (hid d H6) := ⟨Ex.refl _, e3, gw.s.trans e3, fun _ _ _ => rfl, id⟩
        have hz6' : H6 E3 = some (.lst (nV (plc W k).reverse.reverse)) := by
          rw [List.reverse_reverse]
          exact hz6
        have pl8 := plc_len (W := W) (k := k)
        have kc8 := kc _ (Nat.le_trans pl8 w8)
        refine ⟨_, rfl, .inl ⟨rfl, _, sq_of (e6 _ _ (e2 _ _ hz))⟩, _, rfl, _, rfl, _, rfl, _, rfl, _, rfl, L, W, k, (plc W k).reverse, E3, d, aK L W i, B', rfl, by omega, hz6', hL4, w1, w8, ko.len, ko.last, plc_lt, e6 _ _ (e2 _ _ hd'), by have := hb i; omega, g0.s, fun B2 H5 v g3 hv hd5 => ?_⟩
        have g4 := g0.trans g3
        have hzh : hid d H' D = some (.lst zs) := by rw [hid_ne nD]; exact hz
        have hz2 := g4.h _ _ hzh
        rw [hid_ne nD] at hz2
        have bD2 : B2 D = none := by rw [g4.l D zs hzh]; exact bD
        refine ⟨D, _, _, rfl, rfl, hz2, sz_lt (by omega), ?_⟩
        refine ⟨_, by omega, i + 1, B2, zs ++ [v], _, _, _, rfl, ?_, bD2, upd_same, ?_, ?_, fun j hj2 => ?_, rfl⟩
        · rw [hid_upd nD]
          exact (gw.trans g4).put hD1 bD2
        · rw [List.range_succ, List.map_append, show [i].map (aT L W) = [aT L W i] from rfl, aT_eq hk]
          exact (Z.ex g4.b).snoc hv
        · rw [upd_ne nD.symm, aK_succ hk]
          exact hd5
        · by_cases q2 : j = i
          · rw [q2]
            exact hlt
          · exact hj j (by omega)
    · refine iteDn (by omega) ?_
      have eN : aN L W = i := aN_eq hj (by omega) (by omega)
      have g := gw.fin hD1 bD (by rw [hid_ne nD]; exact hz)
      have xe : Ex H H' := fun b o h => (hid_some (g.h _ _ (x1 _ _ h))).2
      have fD : fz B' (hid d H') D = none := by
        rw [fz_lst (by rw [hid_ne nD]; exact hz)]
        exact bD
      refine ⟨_, rfl, q _ H' D zs ⟨g.b, ExtN.of xe, g.s.trans hid_sub, TN.ext xe, g.nt nB⟩ upd_same ?_⟩
      unfold allL
      rw [eN]
      exact Z.ex ((fz_sub gw.s).trans (Ex.new fD))
end
end Law

/-! a law that makes lambdas and the text of values: its code object and that one's table -/
namespace GT
open PySem PySem.Spec PyProof.Rows L2 GD
/-- a def of which the code object is known -/
structure FunC (K : PySem.W.Frag) (x qual : Str) (st : Stmt) (f : Addr) (fd : FuncData) (c : Addr) : Prop where
  ex : ∃ (oc : Value) (od : Option Addr) (kV doc pm : Value) (an : Option Addr) (ct : Value) (osl : Array (Option Value)),
    fd = PySem.W.fnOf x qual (defArgs st) (defBody st) (defScope st) .none kV doc pm an (.ref c) ct ∧ K.lookup f = some ⟨oc, od, .func fd, osl⟩ ∧ PySem.W.codeIn K (.ref c) qual = true
section
variable {P : Program} {w : World} {K : PySem.W.Frag} {mg : Str → Option Value} {base : Heap}
theorem okGC {x qual : Str} {st : Stmt} {f c : Addr} {fd : FuncData} {N ps : List Str} {k : Nat} {sp : Sp} (F : FunC K x qual st f fd c) (S : FnScope N ps (defScope st)) (len : ∀ vs H Q E, sp vs H Q E → vs.length = ps.length)
    (hbody : ∀ (A : Around) (outer : List Env) (s : Shared) (H : Hp) (vs : List V) (Q : VK) (E : XK), Room k (A.deeper (envOfC qual (defScope st) s.heap.objs.size f (.ref c))) → (A.deeper (envOfC qual (defScope st) s.heap.objs.size f (.ref c))).guards = some [] → sp vs H Q E →
      ∃ t, PSs (cxOf CX0 P w K mg base N qual (defScope st) f (.ref c) A outer s H E).nox (defBody st) t ∧ t { nx := fun _ H' => Q .non H', rt := Q } (start N vs) H) : Gd P w K mg base (k + 1) f fd ps sp := by
  obtain ⟨oc, od, kV, doc, pm, an, ct, osl, rfl, known, code⟩ := F.ex
  refine ⟨fun A outer s H args us vs Q E room free e0 bound rel told => ?_⟩
  have kin : K.In s.heap := e0.mod.kin.keeps fun b o e => (e0.bs b o e).1
  have nolim : s.heap.NoLimit := e0.mod.nolimit.keeps fun b o e => (e0.bs b o e).1
  have names : ∀ y ∈ ps.zip us, (defScope st).names.lookup y.1 = some .local ∨ ((defScope st).names.lookup y.1 = some .cell ∧ ((cellsFrom (s.heap.objs.size + 1) (defScope st).names []).lookup y.1).isSome = true) := by
    rintro ⟨n, v⟩ hy
    rcases S.par n (List.of_mem_zip hy).1 with q | q
    · exact .inl q
    · exact .inr ⟨q, PySem.W.cellsFrom_some _ _ _ (.inl q)⟩
  refine codeAny_call_function room.depth (kin _ _ known) rfl S.co S.gen rfl (PySem.W.codeRec_of kin code) (bound _ _ _ _ (wpAny_newFunctionEnv_cells S.kind names fun env made s1 z => ?_))
  subst made
  refine ⟨nolim.keeps z.toInCall.keep, codeAny_func ?_⟩
  obtain ⟨t, ht, hq⟩ := hbody A outer s H vs Q E (room.deeper _) (deeper_guards free) told
  have I := inv_start (CX := CX0) (E := E) S room.hd e0 (len _ _ _ _ told) rel z
  refine wpAny_mono (ht.nox.run [] s1 (start N vs) H _ I hq) (fun fl s' hs => ?_) fun e s' hs => hs
  cases fl with
  | ret u =>
    obtain ⟨v, σ', H', J, rv, q⟩ := hs
    exact ⟨v, H', J.os, J.bare, J.base, J.hok, rv, q⟩
  | next =>
    obtain ⟨σ', H', J, q⟩ := hs
    exact ⟨V.non, H', J.os, J.bare, J.base, J.hok, rfl, q⟩
  | brk =>
    obtain ⟨_, _, _, q⟩ := hs
    exact q.elim
  | cont =>
    obtain ⟨_, _, _, q⟩ := hs
    exact q.elim
end
/-- the script, where it is tracked, and the table -/
def two (t : Addr) (s : Hp) : Hp := fun b => if b = t then some (.tbl #[]) else s b
theorem two_t {t : Addr} {s : Hp} : two t s t = some (.tbl #[]) := if_pos rfl
theorem two_ne {t b : Addr} {s : Hp} (h : b ≠ t) : two t s b = s b := if_neg h
/-- the module's builtins -/
def Bm (mg : Str → Option Value) (h : Heap) : Prop := ∃ (bm : Addr) (ob : Obj), mg "__builtins__" = some (.ref bm) ∧ bm ≠ builtinsNs ∧ h.get? bm = some ob ∧ ob.cls = .type "module" ∧ ob.dict = some builtinsNs ∧ ob.data = .plain
theorem callGT {P : Program} {w : World} {K : PySem.W.Frag} {mg mb : Str → Option Value} {k : Nat} {fa a c t : Addr} {fd : FuncData} {x : Str} {sp : Sp} {s : Shared} {vs : List Value} {ns : List Int}
    (kin : K.In s.heap) (hns : s.heap.Ns mainGlobals mg) (hb : s.heap.Ns builtinsNs mb) (hbb : ∀ x : Str, x ≠ "__name__" → mb x = bootBuiltins x) (nolim : s.heap.NoLimit) (gens : s.gens = #[])
    (tab : s.heap.get? t = some { cls := .none, data := .fields #[] }) (tabK : K.lookup t = none) (code : PySem.W.CodeHd s.heap c t) (hbm : Bm mg s.heap)
    (ha : s.heap.get? a = some { cls := .type "list", data := .seq vs.toArray }) (hi : IntsAre vs ns) (hl : ns.length ≤ sizeLine) (room : Room k callerA)
    (F : ∀ base : Heap, K.In base → base.Ns mainGlobals mg → LamX.TabB base mg c t → Gd P w K mg base k fa fd [x] sp) (binds : ∀ (s : Shared) (u : Value), BindsTo s fd ⟨[u], []⟩ [(x, u)])
    (hsp : ∀ H : Hp, H t = some (.tbl #[]) → SqL K H a (ns.map V.int) → sp [.ref a] H (fun v _ => v = .bl true) E0) :
    codeAny (model P w) callerA (.call (.ref fa) ⟨[.ref a], []⟩) (fun r s' => r = .ok (.ret (.bool true)) ∧ OldK s.heap s'.heap ∧ s'.os = s.os ∧ AllBare s'.gens) s := by
  have rv := vals_ints hi
  have nat : a ≠ t := fun z => by
    rw [z, tab] at ha
    cases ha
  have step : ∀ H : Hp, (∀ b u, H b = some u → b ≠ t → b = a ∧ K.lookup a = none ∧ ∃ o xs, u = .frz o (.lst xs)) → H t = some (.tbl #[]) → HOk P w H s.heap → SqL K H a (ns.map V.int) →
      codeAny (model P w) callerA (.call (.ref fa) ⟨[.ref a], []⟩) (fun r s' => r = .ok (.ret (.bool true)) ∧ OldK s.heap s'.heap ∧ s'.os = s.os ∧ AllBare s'.gens) s := by
    intro H only hT hok hS
    have free : ∀ {b : Addr}, b ≠ a → b ≠ t → H b = none := fun {b} n nt => by
      cases e : H b with
      | none => rfl
      | some u => exact absurd (only b u e nt).1 n
    -- what stands at neither of the two stays in sight
    have sees : ∀ {b : Addr} {o : Obj}, s.heap.get? b = some o → (∀ us m, o.data ≠ .seq us m) → o.data ≠ .fields #[] → (hidT s.heap H).get? b = some o := fun {b o} e n1 n2 => by
      refine hidT_get e (free (fun z => ?_) fun z => ?_)
      · rw [z, ha] at e
        cases e
        exact n1 _ _ rfl
      · rw [z, tab] at e
        cases e
        exact n2 rfl
    have stays : ∀ {b : Addr} {m : Str → Option Value}, s.heap.Ns b m → (hidT s.heap H).Ns b m := fun {b m} ⟨o, es, ep, e, d, r⟩ => by
      refine ⟨o, es, ep, sees e (fun us m z => ?_) (fun z => ?_), d, r⟩
      · rw [show o.data = _ from d] at z
        cases z
      · rw [show o.data = _ from d] at z
        cases z
    have kinB : K.In (hidT s.heap H) := fun b o e => hidT_get (kin b o e) (by
      cases q : H b with
      | none => rfl
      | some u =>
        by_cases nt : b = t
        · rw [nt, tabK] at e
          cases e
        · obtain ⟨h1, h2, _⟩ := only b u q nt
          rw [h1, h2] at e
          cases e)
    have TB : LamX.TabB (hidT s.heap H) mg c t := by
      refine ⟨?_, ?_, fun z => ?_⟩
      · obtain ⟨o, us, y1, y2, y3, y4, y5, y6, y7, at_, cl, dat, v11, rest⟩ := code
        refine ⟨o, us, y1, y2, y3, y4, y5, y6, y7, sees at_ (fun _ _ z => ?_) (fun z => ?_), cl, dat, v11, rest⟩
        · rw [dat] at z
          cases z
        · rw [dat] at z
          cases z
          cases v11
      · obtain ⟨bm, ob, m1, m2, m3, m4, m5, m6⟩ := hbm
        have np : ∀ us : Array Value, ob.data ≠ .fields us := fun us z => by
          rw [m6] at z
          cases z
        refine ⟨bm, ob, m1, m2, fun z => ?_, fun z => ?_, sees m3 (fun _ _ z => ?_) (np _), m4, m5, m6⟩
        · obtain ⟨o, es, ep, e, d, _⟩ := hns
          rw [← z, m3] at e
          cases e
          rw [m6] at d
          cases d
        · rw [z, tab] at m3
          cases m3
          exact np _ rfl
        · rw [m6] at z
          cases z
      · obtain ⟨o, es, ep, e, d, _⟩ := hns
        rw [z, tab] at e
        cases e
        cases d
    have e0 : Env0 P w K mg (hidT s.heap H) callerA [] s H :=
      ⟨rfl, ⟨kinB, stays hns, ⟨mb, stays hb, hbb⟩, let ⟨mc, h1, h2⟩ := nolim; ⟨mc, stays h1, h2⟩⟩, fun b o e => of_hidT e, Nat.le_of_eq (hidT_size _ _), trivial, fun b hb => (nomatch (show b ∈ ([] : List Addr) from hb)), hok, .of_eq gens⟩
    refine codeAny_mono ((F _ kinB (stays hns) TB).run callerA [] s H ⟨[.ref a], []⟩ [.ref a] [.ref a] _ E0 room rfl e0 (binds s (.ref a)) (.cons rfl .nil) (hsp H hT hS)) fun r s' h => ?_
    cases r with
    | error e => exact h.elim
    | ok fl =>
      cases fl with
      | ret u =>
        obtain ⟨v, H', os, bare, un, hok', r', q⟩ := h
        obtain rfl : v = .bl true := q
        obtain rfl : u = Value.bool true := r'
        obtain ⟨more, hm⟩ := un.tbls t #[] hT
        have hm2 : s'.heap.get? t = some { cls := .none, data := .fields (#[] ++ more) } := hok' t _ hm
        rw [Array.empty_append] at hm2
        refine ⟨rfl, ⟨fun b o e => ?_, fun b o e => ?_⟩, os, bare⟩
        · by_cases nt : b = t
          · subst nt
            rw [tab] at e
            cases e
            exact .inr (.inl ⟨(code.tab tab).isCodeTable, rfl, #[], more, rfl, by rw [Array.empty_append]; exact hm2⟩)
          · refine .inl ?_
            cases q : H b with
            | none => exact un.keep b o e q (by intro z; exact (nomatch (show b ∈ ([] : List Addr) from z))) (by simp)
            | some u =>
              obtain ⟨_, _, ob, xs, rfl⟩ := only b u q nt
              obtain ⟨e1, _⟩ := hok b _ q
              obtain ⟨e2, _⟩ := hok' b _ (un.frzs b ob _ q)
              rw [e] at e1
              cases e1
              exact e2
        · by_cases nt : b = t
          · subst nt
            exact ⟨_, hm2⟩
          · cases q : H b with
            | none => exact ⟨o, un.keep b o e q (by intro z; exact (nomatch (show b ∈ ([] : List Addr) from z))) (by simp)⟩
            | some u =>
              obtain ⟨_, _, ob, xs, rfl⟩ := only b u q nt
              obtain ⟨e2, _⟩ := hok' b _ (un.frzs b ob _ q)
              exact ⟨_, e2⟩
      | next => exact h.elim
      | brk => exact h.elim
      | cont => exact h.elim
  cases hk : K.lookup a with
  | some o =>
    have e := kin a o hk
    rw [ha] at e
    cases e
    refine step (two t fun _ => none) (fun b u z nt => by rw [two_ne nt] at z; cases z) two_t (fun b u z => ?_) (.inr ⟨_, vs.toArray, _, hk, rfl, rfl, rfl, ?_, by simpa using rv⟩)
    · by_cases nt : b = t
      · subst nt
        rw [two_t] at z
        cases z
        exact tab
      · rw [two_ne nt] at z
        cases z
    · rw [List.size_toArray, hi.length]
      exact hl
  | none =>
    refine step (two t (one a vs ns)) (fun b u z nt => ?_) two_t (fun b u z => ?_) (.inl (.inr ⟨_, (two_ne nat).trans (if_pos rfl)⟩))
    · rw [two_ne nt] at z
      unfold one at z
      by_cases q : b = a
      · rw [if_pos q] at z
        cases z
        exact ⟨q, hk, _, _, rfl⟩
      · rw [if_neg q] at z
        cases z
    · by_cases nt : b = t
      · subst nt
        rw [two_t] at z
        cases z
        exact tab
      rw [two_ne nt] at z
      unfold one at z
      by_cases q : b = a
      · rw [if_pos q] at z
        cases z
        subst q
        exact ⟨ha, by rw [List.length_map]; exact hl, vs, _, rv, ha⟩
      · rw [if_neg q] at z
        cases z
theorem walkGT {l : PySem.W.OpenLaw} {n k : Nat} {q : Program} {loose : List Str} {XP : (Str → Option Value) → Heap → Prop} {YP : World → Heap → Prop} {d : DefRec} {K : Params → PySem.W.Frag} {x : Str}
    (hn : l.most = some n) (hn2 : n ≤ sizeLine) (hdf : d.params.defaults = []) (hr : Room k callerA) (hY : ∀ (w : World) (h : Heap), YP w h → (K w.params).In h)
    (F : ∀ (w : World) (mg : Str → Option Value) (fa : Addr) (h : Heap), YP w h → (K w.params).In h → h.Ns mainGlobals mg → mg d.name = some (.ref fa) →
      ∃ (fd : FuncData) (c t : Addr) (sp : Sp), h.get? t = some { cls := .none, data := .fields #[] } ∧ (K w.params).lookup t = none ∧ PySem.W.CodeHd h c t ∧ (∀ (s : Shared) (u : Value), BindsTo s fd ⟨[u], []⟩ [(x, u)]) ∧
        (∀ (H : Hp) (a : Addr) (ns : List Int), ns.length ≤ n → H t = some (.tbl #[]) → SqL (K w.params) H a (ns.map V.int) → sp [.ref a] H (fun v _ => v = .bl true) E0) ∧
        ∀ base : Heap, (K w.params).In base → base.Ns mainGlobals mg → LamX.TabB base mg c t → Gd l.prog w (K w.params) mg base k fa fd [x] sp) :
    PySem.W.WalkO q loose XP YP l.row.toRowW d [] (fun f vs => PySem.call f vs) := by
  refine Att.attach_call hn hdf fun w s₀ s₁ mg mb fa o pm cd doc a vs ns G Y ho hd hcd hmg hobj hints hlen hg => ?_
  have kin := hY w _ Y
  obtain ⟨fd, c, t, sp, tab, tabK, code, hb, hsp, hF⟩ := F w mg fa _ Y kin G.T.g hmg
  exact callGT kin G.T.g G.T.b G.T.builtins G.T.nolimit hg tab tabK code G.T.bmain hobj hints (Nat.le_trans hlen hn2) hr hF hb fun H hT hS => hsp H a ns hlen hT hS
end GT

/-! a law under whose calls defs are made: several code objects with a table each -/
namespace GT
open PySem PySem.Spec PyProof.Rows L2 GD
/-- the script, where it is tracked, and the tables -/
def mny (ts : List Addr) (s : Hp) : Hp := fun b => if b ∈ ts then some (.tbl #[]) else s b
theorem mny_in {ts : List Addr} {s : Hp} {b : Addr} (h : b ∈ ts) : mny ts s b = some (.tbl #[]) := if_pos h
theorem mny_out {ts : List Addr} {s : Hp} {b : Addr} (h : b ∉ ts) : mny ts s b = s b := if_neg h
theorem callGTs {P : Program} {w : World} {K : PySem.W.Frag} {mg mb : Str → Option Value} {k : Nat} {fa a : Addr} {cs : List (Addr × Addr)} {fd : FuncData} {x : Str} {sp : Sp} {s : Shared} {vs : List Value} {ns : List Int}
    (kin : K.In s.heap) (hns : s.heap.Ns mainGlobals mg) (hb : s.heap.Ns builtinsNs mb) (hbb : ∀ x : Str, x ≠ "__name__" → mb x = bootBuiltins x) (nolim : s.heap.NoLimit) (gens : s.gens = #[])
    (tab : ∀ p ∈ cs, s.heap.get? p.2 = some { cls := .none, data := .fields #[] }) (tabK : ∀ p ∈ cs, K.lookup p.2 = none) (code : ∀ p ∈ cs, PySem.W.CodeHd s.heap p.1 p.2) (hbm : Bm mg s.heap)
    (ha : s.heap.get? a = some { cls := .type "list", data := .seq vs.toArray }) (hi : IntsAre vs ns) (hl : ns.length ≤ sizeLine) (room : Room k callerA)
    (F : ∀ base : Heap, K.In base → base.Ns mainGlobals mg → (∀ p ∈ cs, LamX.TabB base mg p.1 p.2) → Gd P w K mg base k fa fd [x] sp) (binds : ∀ (s : Shared) (u : Value), BindsTo s fd ⟨[u], []⟩ [(x, u)])
    (hsp : ∀ H : Hp, (∀ p ∈ cs, H p.2 = some (.tbl #[])) → SqL K H a (ns.map V.int) → sp [.ref a] H (fun v _ => v = .bl true) E0) :
    codeAny (model P w) callerA (.call (.ref fa) ⟨[.ref a], []⟩) (fun r s' => r = .ok (.ret (.bool true)) ∧ OldK s.heap s'.heap ∧ s'.os = s.os ∧ AllBare s'.gens) s := by
  have rv := vals_ints hi
  obtain ⟨ts, hts⟩ : ∃ ts, cs.map (·.2) = ts := ⟨_, rfl⟩
  have tin : ∀ {p : Addr × Addr}, p ∈ cs → p.2 ∈ ts := fun {p} hp => by
    rw [← hts]
    exact List.mem_map_of_mem hp
  have tof : ∀ {b : Addr}, b ∈ ts → ∃ p ∈ cs, p.2 = b := fun {b} hb => by
    rw [← hts] at hb
    obtain ⟨p, hp, e⟩ := List.mem_map.mp hb
    exact ⟨p, hp, e⟩
  have tobj : ∀ {b : Addr}, b ∈ ts → s.heap.get? b = some { cls := .none, data := .fields #[] } := fun {b} hb => by
    obtain ⟨p, hp, rfl⟩ := tof hb
    exact tab p hp
  have nat : a ∉ ts := fun z => by
    have := tobj z
    rw [ha] at this
    cases this
  have step : ∀ H : Hp, (∀ b u, H b = some u → b ∉ ts → b = a ∧ K.lookup a = none ∧ ∃ o xs, u = .frz o (.lst xs)) → (∀ b ∈ ts, H b = some (.tbl #[])) → HOk P w H s.heap → SqL K H a (ns.map V.int) →
      codeAny (model P w) callerA (.call (.ref fa) ⟨[.ref a], []⟩) (fun r s' => r = .ok (.ret (.bool true)) ∧ OldK s.heap s'.heap ∧ s'.os = s.os ∧ AllBare s'.gens) s := by
    intro H only hT hok hS
    have free : ∀ {b : Addr}, b ≠ a → b ∉ ts → H b = none := fun {b} n nt => by
      cases e : H b with
      | none => rfl
      | some u => exact absurd (only b u e nt).1 n
    -- what stands at none of them stays in sight
    have sees : ∀ {b : Addr} {o : Obj}, s.heap.get? b = some o → (∀ us m, o.data ≠ .seq us m) → o.data ≠ .fields #[] → (hidT s.heap H).get? b = some o := fun {b o} e n1 n2 => by
      refine hidT_get e (free (fun z => ?_) fun z => ?_)
      · rw [z, ha] at e
        cases e
        exact n1 _ _ rfl
      · rw [tobj z] at e
        cases e
        exact n2 rfl
    have stays : ∀ {b : Addr} {m : Str → Option Value}, s.heap.Ns b m → (hidT s.heap H).Ns b m := fun {b m} ⟨o, es, ep, e, d, r⟩ => by
      refine ⟨o, es, ep, sees e (fun us m z => ?_) (fun z => ?_), d, r⟩
      · rw [show o.data = _ from d] at z
        cases z
      · rw [show o.data = _ from d] at z
        cases z
    have kinB : K.In (hidT s.heap H) := fun b o e => hidT_get (kin b o e) (by
      cases q : H b with
      | none => rfl
      | some u =>
        by_cases nt : b ∈ ts
        · obtain ⟨p, hp, rfl⟩ := tof nt
          rw [tabK p hp] at e
          cases e
        · obtain ⟨h1, h2, _⟩ := only b u q nt
          rw [h1, h2] at e
          cases e)
    have TB : ∀ p ∈ cs, LamX.TabB (hidT s.heap H) mg p.1 p.2 := fun p hp => by
      have tp := tab p hp
      refine ⟨?_, ?_, fun z => ?_⟩
      · obtain ⟨o, us, y1, y2, y3, y4, y5, y6, y7, at_, cl, dat, v11, rest⟩ := code p hp
        refine ⟨o, us, y1, y2, y3, y4, y5, y6, y7, sees at_ (fun _ _ z => ?_) (fun z => ?_), cl, dat, v11, rest⟩
        · rw [dat] at z
          cases z
        · rw [dat] at z
          cases z
          cases v11
      · obtain ⟨bm, ob, m1, m2, m3, m4, m5, m6⟩ := hbm
        have np : ∀ us : Array Value, ob.data ≠ .fields us := fun us z => by
          rw [m6] at z
          cases z
        refine ⟨bm, ob, m1, m2, fun z => ?_, fun z => ?_, sees m3 (fun _ _ z => ?_) (np _), m4, m5, m6⟩
        · obtain ⟨o, es, ep, e, d, _⟩ := hns
          rw [← z, m3] at e
          cases e
          rw [m6] at d
          cases d
        · rw [z, tp] at m3
          cases m3
          exact np _ rfl
        · rw [m6] at z
          cases z
      · obtain ⟨o, es, ep, e, d, _⟩ := hns
        rw [z, tp] at e
        cases e
        cases d
    have e0 : Env0 P w K mg (hidT s.heap H) callerA [] s H :=
      ⟨rfl, ⟨kinB, stays hns, ⟨mb, stays hb, hbb⟩, let ⟨mc, h1, h2⟩ := nolim; ⟨mc, stays h1, h2⟩⟩, fun b o e => of_hidT e, Nat.le_of_eq (hidT_size _ _), trivial, fun b hb => (nomatch (show b ∈ ([] : List Addr) from hb)), hok, .of_eq gens⟩
    refine codeAny_mono ((F _ kinB (stays hns) TB).run callerA [] s H ⟨[.ref a], []⟩ [.ref a] [.ref a] _ E0 room rfl e0 (binds s (.ref a)) (.cons rfl .nil) (hsp H (fun p hp => hT _ (tin hp)) hS)) fun r s' h => ?_
    cases r with
    | error e => exact h.elim
    | ok fl =>
      cases fl with
      | ret u =>
        obtain ⟨v, H', os, bare, un, hok', r', q⟩ := h
        obtain rfl : v = .bl true := q
        obtain rfl : u = Value.bool true := r'
        have grown : ∀ b ∈ ts, ∃ more : Array Value, s'.heap.get? b = some { cls := .none, data := .fields more } := fun b hb => by
          obtain ⟨more, hm⟩ := un.tbls b #[] (hT b hb)
          exact ⟨_, hok' b _ hm⟩
        refine ⟨rfl, ⟨fun b o e => ?_, fun b o e => ?_⟩, os, bare⟩
        · by_cases nt : b ∈ ts
          · obtain ⟨p, hp, rfl⟩ := tof nt
            obtain ⟨more, hm⟩ := grown _ nt
            rw [tab p hp] at e
            cases e
            exact .inr (.inl ⟨((code p hp).tab (tab p hp)).isCodeTable, rfl, #[], more, rfl, by rw [Array.empty_append]; exact hm⟩)
          · refine .inl ?_
            cases q : H b with
            | none => exact un.keep b o e q (by intro z; exact (nomatch (show b ∈ ([] : List Addr) from z))) (by simp)
            | some u =>
              obtain ⟨_, _, ob, xs, rfl⟩ := only b u q nt
              obtain ⟨e1, _⟩ := hok b _ q
              obtain ⟨e2, _⟩ := hok' b _ (un.frzs b ob _ q)
              rw [e] at e1
              cases e1
              exact e2
        · by_cases nt : b ∈ ts
          · obtain ⟨more, hm⟩ := grown b nt
            exact ⟨_, hm⟩
          · cases q : H b with
            | none => exact ⟨o, un.keep b o e q (by intro z; exact (nomatch (show b ∈ ([] : List Addr) from z))) (by simp)⟩
            | some u =>
              obtain ⟨_, _, ob, xs, rfl⟩ := only b u q nt
              obtain ⟨e2, _⟩ := hok' b _ (un.frzs b ob _ q)
              exact ⟨_, e2⟩
      | next => exact h.elim
      | brk => exact h.elim
      | cont => exact h.elim
  cases hk : K.lookup a with
  | some o =>
    have e := kin a o hk
    rw [ha] at e
    cases e
    refine step (mny ts fun _ => none) (fun b u z nt => by rw [mny_out nt] at z; cases z) (fun b hb => mny_in hb) (fun b u z => ?_) (.inr ⟨_, vs.toArray, _, hk, rfl, rfl, rfl, ?_, by simpa using rv⟩)
    · by_cases nt : b ∈ ts
      · rw [mny_in nt] at z
        cases z
        exact tobj nt
      · rw [mny_out nt] at z
        cases z
    · rw [List.size_toArray, hi.length]
      exact hl
  | none =>
    refine step (mny ts (one a vs ns)) (fun b u z nt => ?_) (fun b hb => mny_in hb) (fun b u z => ?_) (.inl (.inr ⟨_, (mny_out nat).trans (if_pos rfl)⟩))
    · rw [mny_out nt] at z
      unfold one at z
      by_cases q : b = a
      · rw [if_pos q] at z
        cases z
        exact ⟨q, hk, _, _, rfl⟩
      · rw [if_neg q] at z
        cases z
    · by_cases nt : b ∈ ts
      · rw [mny_in nt] at z
        cases z
        exact tobj nt
      rw [mny_out nt] at z
      unfold one at z
      by_cases q : b = a
      · rw [if_pos q] at z
        cases z
        subst q
        exact ⟨ha, by rw [List.length_map]; exact hl, vs, _, rv, ha⟩
      · rw [if_neg q] at z
        cases z
theorem walkGTs {l : PySem.W.OpenLaw} {n k : Nat} {q : Program} {loose : List Str} {XP : (Str → Option Value) → Heap → Prop} {YP : World → Heap → Prop} {d : DefRec} {K : Params → PySem.W.Frag} {x : Str}
    (hn : l.most = some n) (hn2 : n ≤ sizeLine) (hdf : d.params.defaults = []) (hr : Room k callerA) (hY : ∀ (w : World) (h : Heap), YP w h → (K w.params).In h)
    (F : ∀ (w : World) (mg : Str → Option Value) (fa : Addr) (h : Heap), YP w h → (K w.params).In h → h.Ns mainGlobals mg → mg d.name = some (.ref fa) →
      ∃ (fd : FuncData) (cs : List (Addr × Addr)) (sp : Sp), (∀ p ∈ cs, h.get? p.2 = some { cls := .none, data := .fields #[] }) ∧ (∀ p ∈ cs, (K w.params).lookup p.2 = none) ∧ (∀ p ∈ cs, PySem.W.CodeHd h p.1 p.2) ∧ (∀ (s : Shared) (u : Value), BindsTo s fd ⟨[u], []⟩ [(x, u)]) ∧
        (∀ (H : Hp) (a : Addr) (ns : List Int), ns.length ≤ n → (∀ p ∈ cs, H p.2 = some (.tbl #[])) → SqL (K w.params) H a (ns.map V.int) → sp [.ref a] H (fun v _ => v = .bl true) E0) ∧
        ∀ base : Heap, (K w.params).In base → base.Ns mainGlobals mg → (∀ p ∈ cs, LamX.TabB base mg p.1 p.2) → Gd l.prog w (K w.params) mg base k fa fd [x] sp) :
    PySem.W.WalkO q loose XP YP l.row.toRowW d [] (fun f vs => PySem.call f vs) := by
  refine Att.attach_call hn hdf fun w s₀ s₁ mg mb fa o pm cd doc a vs ns G Y ho hd hcd hmg hobj hints hlen hg => ?_
  have kin := hY w _ Y
  obtain ⟨fd, cs, sp, tab, tabK, code, hb, hsp, hF⟩ := F w mg fa _ Y kin G.T.g hmg
  exact callGTs kin G.T.g G.T.b G.T.builtins G.T.nolimit hg tab tabK code G.T.bmain hobj hints (Nat.le_trans hlen hn2) hr hF hb fun H hT hS => hsp H a ns hlen hT hS
end GT

namespace Law
open PySem PySem.Spec PyProof.Rows L2 Evl TR EK SG NdefX LamX
theorem kit_mk {K : PySem.W.Frag} {t : Value} {c : Addr} {b : Bool} (n : (t == .ref c) = false ∨ b = true) (h1 : PySem.W.isClsIn K c = true) (h2 : PySem.W.typeIn K (.ref c) = some (.type "type")) (h3 : PySem.W.subIn K t (.ref c) = some b) : PySem.W.kitOne K t (.ref c) = some b := by
  have e : PySem.W.kitCls K t (.ref c) = some b := by
    unfold PySem.W.kitCls
    show (if ((PySem.W.clsIn K c).isSome && PySem.W.typeIn K (.ref c) == some (.type "type")) = true then PySem.W.subIn K t (.ref c) else none) = some b
    rw [if_pos (by rw [Bool.and_eq_true]; exact ⟨h1, by rw [h2]; simp⟩)]
    exact h3
  unfold PySem.W.kitOne
  by_cases q : (t == .ref c) = true
  · rw [if_pos q]
    rcases n with n | n
    · rw [n] at q
      cases q
    · rw [n]
  · rw [if_neg q]
    exact e
theorem exm_mk {K : PySem.W.Frag} {t : Value} {c : Addr} {b : Bool} (h0 : PySem.W.subIn K (.ref c) (.type "BaseException") = some true) (h1 : PySem.W.isClsIn K c = true) (h2 : PySem.W.typeIn K (.ref c) = some (.type "type")) (h3 : PySem.W.subIn K t (.ref c) = some b) : PySem.W.exmOne K t (.ref c) = some b := by
  unfold PySem.W.exmOne
  rw [if_pos (by rw [h0]; simp)]
  unfold PySem.W.kitCls
  show (if ((PySem.W.clsIn K c).isSome && PySem.W.typeIn K (.ref c) == some (.type "type")) = true then PySem.W.subIn K t (.ref c) else none) = some b
  rw [if_pos (by rw [Bool.and_eq_true]; exact ⟨h1, by rw [h2]; simp⟩)]
  exact h3
theorem all_mk {l : PySem.W.OpenLaw} {w : World} {K : PySem.W.Frag} {h : Heap} {mg : Str → Option Value} {fa f1 f2 f3 f4 f5 f6 f7 f8 f9 f10 f11 f12 f13 f14 f15 f16 f17 f18 f19 f20 f21 f22 f23 f24 f25 f26 f27 f28 f29 f30 f31 f32 f33 f34 f35 f36 f37 f38 f39 f40 f41 f42 f43 f44 f45 f46 f47 f48 f49 f50 f51 f52 f53 f54 f55 fS fT fU fZ CS CT CU : Addr} (X : K.In h) (G : h.Ns mainGlobals mg) (hfa : mg "law" = some (.ref fa))
    {od1 an1 od2 an2 od3 an3 od4 an4 od5 an5 od6 an6 od7 an7 od8 an8 od9 an9 od10 an10 od11 an11 od12 an12 od13 an13 od14 an14 od15 an15 od16 an16 od17 an17 od18 an18 od19 an19 od20 an20 od21 an21 od22 an22 od23 an23 od24 an24 od25 an25 od26 an26 od27 an27 od28 an28 od29 an29 od30 an30 od31 an31 od32 an32 od33 an33 od34 an34 od35 an35 od36 an36 od37 an37 od38 an38 od39 an39 od40 an40 od41 an41 od42 an42 od43 an43 od44 an44 od45 an45 od46 an46 od47 an47 od48 an48 od49 an49 od50 an50 od51 an51 od52 an52 od53 an53 od54 an54 od55 an55 odS anS odT anT odU anU odZ anZ : Option Addr} {sl1 sl2 sl3 sl4 sl5 sl6 sl7 sl8 sl9 sl10 sl11 sl12 sl13 sl14 sl15 sl16 sl17 sl18 sl19 sl20 sl21 sl22 sl23 sl24 sl25 sl26 sl27 sl28 sl29 sl30 sl31 sl32 sl33 sl34 sl35 sl36 sl37 sl38 sl39 sl40 sl41 sl42 sl43 sl44 sl45 sl46 sl47 sl48 sl49 sl50 sl51 sl52 sl53 sl54 sl55 slS slT slU slZ : Array (Option Value)} {oc1 kV1 dc1 pm1 cd1 ct1 oc2 kV2 dc2 pm2 cd2 ct2 oc3 kV3 dc3 pm3 cd3 ct3 oc4 kV4 dc4 pm4 cd4 ct4 oc5 kV5 dc5 pm5 cd5 ct5 oc6 kV6 dc6 pm6 cd6 ct6 oc7 kV7 dc7 pm7 cd7 ct7 oc8 kV8 dc8 pm8 cd8 ct8 oc9 kV9 dc9 pm9 cd9 ct9 oc10 kV10 dc10 pm10 cd10 ct10 oc11 kV11 dc11 pm11 cd11 ct11 oc12 kV12 dc12 pm12 cd12 ct12 oc13 kV13 dc13 pm13 cd13 ct13 oc14 kV14 dc14 pm14 cd14 ct14 oc15 kV15 dc15 pm15 cd15 ct15 oc16 kV16 dc16 pm16 cd16 ct16 oc17 kV17 dc17 pm17 cd17 ct17 oc18 kV18 dc18 pm18 cd18 ct18 oc19 kV19 dc19 pm19 cd19 ct19 oc20 kV20 dc20 pm20 cd20 ct20 oc21 kV21 dc21 pm21 cd21 ct21 oc22 kV22 dc22 pm22 cd22 ct22 oc23 kV23 dc23 pm23 cd23 ct23 oc24 kV24 dc24 pm24 cd24 ct24 oc25 kV25 dc25 pm25 cd25 ct25 oc26 kV26 dc26 pm26 cd26 ct26 oc27 kV27 dc27 pm27  ct27 oc28 kV28 dc28 pm28  ct28 oc29 kV29 dc29 pm29  ct29 oc30 kV30 dc30 pm30  ct30 oc31 kV31 dc31 pm31 cd31 ct31 oc32 kV32 dc32 pm32 cd32 ct32 oc33 kV33 dc33 pm33 cd33 ct33 oc34 kV34 dc34 pm34 cd34 ct34 oc35 kV35 dc35 pm35 cd35 ct35 oc36 kV36 dc36 pm36 cd36 ct36 oc37 kV37 dc37 pm37  ct37 oc38 kV38 dc38 pm38  ct38 oc39 kV39 dc39 pm39  ct39 oc40 kV40 dc40 pm40  ct40 oc41 kV41 dc41 pm41 cd41 ct41 oc42 kV42 dc42 pm42 cd42 ct42 oc43 kV43 dc43 pm43 cd43 ct43 oc44 kV44 dc44 pm44 cd44 ct44 oc45 kV45 dc45 pm45 cd45 ct45 oc46 kV46 dc46 pm46 cd46 ct46 oc47 kV47 dc47 pm47 cd47 ct47 oc48 kV48 dc48 pm48 cd48 ct48 oc49 kV49 dc49 pm49 cd49 ct49 oc50 kV50 dc50 pm50 cd50 ct50 oc51 kV51 dc51 pm51 cd51 ct51 oc52 kV52 dc52 pm52 cd52 ct52 oc53 kV53 dc53 pm53 cd53 ct53 oc54 kV54 dc54 pm54 cd54 ct54 oc55 kV55 dc55 pm55 cd55 ct55 ocS kVS dcS pmS cdS ctS ocT kVT dcT pmT cdT ctT ocU kVU dcU pmU cdU ctU ocZ kVZ dcZ pmZ cdZ ctZ : Value} {t0 t1 t2 t3 t4 : Tok}
    {ca27 ta27 : Addr} {occ27 : Value} {odc27 : Option Addr} {vsc27 : Array Value} {slc27 : Array (Option Value)}
    {ca28 ta28 : Addr} {occ28 : Value} {odc28 : Option Addr} {vsc28 : Array Value} {slc28 : Array (Option Value)}
    {ca29 ta29 : Addr} {occ29 : Value} {odc29 : Option Addr} {vsc29 : Array Value} {slc29 : Array (Option Value)}
    {ca30 ta30 : Addr} {occ30 : Value} {odc30 : Option Addr} {vsc30 : Array Value} {slc30 : Array (Option Value)}
    {ca37 ta37 : Addr} {occ37 : Value} {odc37 : Option Addr} {vsc37 : Array Value} {slc37 : Array (Option Value)}
    {ca38 ta38 : Addr} {occ38 : Value} {odc38 : Option Addr} {vsc38 : Array Value} {slc38 : Array (Option Value)}
    {ca39 ta39 : Addr} {occ39 : Value} {odc39 : Option Addr} {vsc39 : Array Value} {slc39 : Array (Option Value)}
    {ca40 ta40 : Addr} {occ40 : Value} {odc40 : Option Addr} {vsc40 : Array Value} {slc40 : Array (Option Value)}
    {D : Addr}
    {pZ : Addr} {restZ : List Value}
    (a1 : PySem.W.nsIn K mainGlobals "law" = some (some (.ref f1)))
    (l1 : K.lookup f1 = some ⟨oc1, od1, .func (PySem.W.fnOf "law" "law" (defArgs s_law) (defBody s_law) (defScope s_law) .none kV1 dc1 pm1 an1 cd1 ct1), sl1⟩)
    (c1 : PySem.W.codeIn K cd1 "law" = true)
    (k1 : PySem.W.keepIn K (.ref f1) = true)
    (a2 : PySem.W.nsIn K mainGlobals "_law_pen_of" = some (some (.ref f2)))
    (l2 : K.lookup f2 = some ⟨oc2, od2, .func (PySem.W.fnOf "_law_pen_of" "_law_pen_of" (defArgs s_lpen_of) (defBody s_lpen_of) (defScope s_lpen_of) .none kV2 dc2 pm2 an2 cd2 ct2), sl2⟩)
    (c2 : PySem.W.codeIn K cd2 "_law_pen_of" = true)
    (k2 : PySem.W.keepIn K (.ref f2) = true)
    (a3 : PySem.W.nsIn K mainGlobals "_law_draw" = some (some (.ref f3)))
    (l3 : K.lookup f3 = some ⟨oc3, od3, .func (PySem.W.fnOf "_law_draw" "_law_draw" (defArgs s_ldraw) (defBody s_ldraw) (defScope s_ldraw) .none kV3 dc3 pm3 an3 cd3 ct3), sl3⟩)
    (c3 : PySem.W.codeIn K cd3 "_law_draw" = true)
    (k3 : PySem.W.keepIn K (.ref f3) = true)
    (a4 : PySem.W.nsIn K mainGlobals "_law_pick" = some (some (.ref f4)))
    (l4 : K.lookup f4 = some ⟨oc4, od4, .func (PySem.W.fnOf "_law_pick" "_law_pick" (defArgs s_lpick) (defBody s_lpick) (defScope s_lpick) .none kV4 dc4 pm4 an4 cd4 ct4), sl4⟩)
    (c4 : PySem.W.codeIn K cd4 "_law_pick" = true)
    (k4 : PySem.W.keepIn K (.ref f4) = true)
    (a5 : PySem.W.nsIn K mainGlobals "_law_letters_of" = some (some (.ref f5)))
    (l5 : K.lookup f5 = some ⟨oc5, od5, .func (PySem.W.fnOf "_law_letters_of" "_law_letters_of" (defArgs s_lletters_of) (defBody s_lletters_of) (defScope s_lletters_of) .none kV5 dc5 pm5 an5 cd5 ct5), sl5⟩)
    (c5 : PySem.W.codeIn K cd5 "_law_letters_of" = true)
    (k5 : PySem.W.keepIn K (.ref f5) = true)
    (a6 : PySem.W.nsIn K mainGlobals "_law_word_of" = some (some (.ref f6)))
    (l6 : K.lookup f6 = some ⟨oc6, od6, .func (PySem.W.fnOf "_law_word_of" "_law_word_of" (defArgs s_lword_of) (defBody s_lword_of) (defScope s_lword_of) .none kV6 dc6 pm6 an6 cd6 ct6), sl6⟩)
    (c6 : PySem.W.codeIn K cd6 "_law_word_of" = true)
    (k6 : PySem.W.keepIn K (.ref f6) = true)
    (a7 : PySem.W.nsIn K mainGlobals "_law_tree_of" = some (some (.ref f7)))
    (l7 : K.lookup f7 = some ⟨oc7, od7, .func (PySem.W.fnOf "_law_tree_of" "_law_tree_of" (defArgs s_ltree_of) (defBody s_ltree_of) (defScope s_ltree_of) .none kV7 dc7 pm7 an7 cd7 ct7), sl7⟩)
    (c7 : PySem.W.codeIn K cd7 "_law_tree_of" = true)
    (k7 : PySem.W.keepIn K (.ref f7) = true)
    (a8 : PySem.W.nsIn K mainGlobals "_law_bent_tree" = some (some (.ref f8)))
    (l8 : K.lookup f8 = some ⟨oc8, od8, .func (PySem.W.fnOf "_law_bent_tree" "_law_bent_tree" (defArgs s_lbent_tree) (defBody s_lbent_tree) (defScope s_lbent_tree) .none kV8 dc8 pm8 an8 cd8 ct8), sl8⟩)
    (c8 : PySem.W.codeIn K cd8 "_law_bent_tree" = true)
    (k8 : PySem.W.keepIn K (.ref f8) = true)
    (a9 : PySem.W.nsIn K mainGlobals "_law_made_ways" = some (some (.ref f9)))
    (l9 : K.lookup f9 = some ⟨oc9, od9, .func (PySem.W.fnOf "_law_made_ways" "_law_made_ways" (defArgs s_lmade_ways) (defBody s_lmade_ways) (defScope s_lmade_ways) .none kV9 dc9 pm9 an9 cd9 ct9), sl9⟩)
    (c9 : PySem.W.codeIn K cd9 "_law_made_ways" = true)
    (k9 : PySem.W.keepIn K (.ref f9) = true)
    (a10 : PySem.W.nsIn K mainGlobals "is_list" = some (some (.ref f10)))
    (l10 : K.lookup f10 = some ⟨oc10, od10, .func (PySem.W.fnOf "is_list" "is_list" (defArgs s_is_list) (defBody s_is_list) (defScope s_is_list) .none kV10 dc10 pm10 an10 cd10 ct10), sl10⟩)
    (c10 : PySem.W.codeIn K cd10 "is_list" = true)
    (k10 : PySem.W.keepIn K (.ref f10) = true)
    (a11 : PySem.W.nsIn K mainGlobals "is_integer" = some (some (.ref f11)))
    (l11 : K.lookup f11 = some ⟨oc11, od11, .func (PySem.W.fnOf "is_integer" "is_integer" (defArgs s_is_integer) (defBody s_is_integer) (defScope s_is_integer) .none kV11 dc11 pm11 an11 cd11 ct11), sl11⟩)
    (c11 : PySem.W.codeIn K cd11 "is_integer" = true)
    (k11 : PySem.W.keepIn K (.ref f11) = true)
    (a12 : PySem.W.nsIn K mainGlobals "is_whole" = some (some (.ref f12)))
    (l12 : K.lookup f12 = some ⟨oc12, od12, .func (PySem.W.fnOf "is_whole" "is_whole" (defArgs s_is_whole) (defBody s_is_whole) (defScope s_is_whole) .none kV12 dc12 pm12 an12 cd12 ct12), sl12⟩)
    (c12 : PySem.W.codeIn K cd12 "is_whole" = true)
    (k12 : PySem.W.keepIn K (.ref f12) = true)
    (a13 : PySem.W.nsIn K mainGlobals "are_letters" = some (some (.ref f13)))
    (l13 : K.lookup f13 = some ⟨oc13, od13, .func (PySem.W.fnOf "are_letters" "are_letters" (defArgs s_are_letters) (defBody s_are_letters) (defScope s_are_letters) .none kV13 dc13 pm13 an13 cd13 ct13), sl13⟩)
    (c13 : PySem.W.codeIn K cd13 "are_letters" = true)
    (k13 : PySem.W.keepIn K (.ref f13) = true)
    (a14 : PySem.W.nsIn K mainGlobals "_is_part" = some (some (.ref f14)))
    (l14 : K.lookup f14 = some ⟨oc14, od14, .func (PySem.W.fnOf "_is_part" "_is_part" (defArgs s_is_part) (defBody s_is_part) (defScope s_is_part) .none kV14 dc14 pm14 an14 cd14 ct14), sl14⟩)
    (c14 : PySem.W.codeIn K cd14 "_is_part" = true)
    (k14 : PySem.W.keepIn K (.ref f14) = true)
    (a15 : PySem.W.nsIn K mainGlobals "_within" = some (some (.ref f15)))
    (l15 : K.lookup f15 = some ⟨oc15, od15, .func (PySem.W.fnOf "_within" "_within" (defArgs s_within) (defBody s_within) (defScope s_within) .none kV15 dc15 pm15 an15 cd15 ct15), sl15⟩)
    (c15 : PySem.W.codeIn K cd15 "_within" = true)
    (k15 : PySem.W.keepIn K (.ref f15) = true)
    (a16 : PySem.W.nsIn K mainGlobals "first_wrong" = some (some (.ref f16)))
    (l16 : K.lookup f16 = some ⟨oc16, od16, .func (PySem.W.fnOf "first_wrong" "first_wrong" (defArgs s_first_wrong) (defBody s_first_wrong) (defScope s_first_wrong) .none kV16 dc16 pm16 an16 cd16 ct16), sl16⟩)
    (c16 : PySem.W.codeIn K cd16 "first_wrong" = true)
    (k16 : PySem.W.keepIn K (.ref f16) = true)
    (a17 : PySem.W.nsIn K mainGlobals "all_parts" = some (some (.ref f17)))
    (l17 : K.lookup f17 = some ⟨oc17, od17, .func (PySem.W.fnOf "all_parts" "all_parts" (defArgs s_all_parts) (defBody s_all_parts) (defScope s_all_parts) .none kV17 dc17 pm17 an17 cd17 ct17), sl17⟩)
    (c17 : PySem.W.codeIn K cd17 "all_parts" = true)
    (k17 : PySem.W.keepIn K (.ref f17) = true)
    (a18 : PySem.W.nsIn K mainGlobals "renamed" = some (some (.ref f18)))
    (l18 : K.lookup f18 = some ⟨oc18, od18, .func (PySem.W.fnOf "renamed" "renamed" (defArgs s_renamed) (defBody s_renamed) (defScope s_renamed) .none kV18 dc18 pm18 an18 cd18 ct18), sl18⟩)
    (c18 : PySem.W.codeIn K cd18 "renamed" = true)
    (k18 : PySem.W.keepIn K (.ref f18) = true)
    (a19 : PySem.W.nsIn K mainGlobals "wrong_sign" = some (some (.ref f19)))
    (l19 : K.lookup f19 = some ⟨oc19, od19, .func (PySem.W.fnOf "wrong_sign" "wrong_sign" (defArgs s_wrong_sign) (defBody s_wrong_sign) (defScope s_wrong_sign) .none kV19 dc19 pm19 an19 cd19 ct19), sl19⟩)
    (c19 : PySem.W.codeIn K cd19 "wrong_sign" = true)
    (k19 : PySem.W.keepIn K (.ref f19) = true)
    (a20 : PySem.W.nsIn K mainGlobals "_is_word" = some (some (.ref f20)))
    (l20 : K.lookup f20 = some ⟨oc20, od20, .func (PySem.W.fnOf "_is_word" "_is_word" (defArgs s_is_word) (defBody s_is_word) (defScope s_is_word) .none kV20 dc20 pm20 an20 cd20 ct20), sl20⟩)
    (c20 : PySem.W.codeIn K cd20 "_is_word" = true)
    (k20 : PySem.W.keepIn K (.ref f20) = true)
    (a21 : PySem.W.nsIn K mainGlobals "wrong_word" = some (some (.ref f21)))
    (l21 : K.lookup f21 = some ⟨oc21, od21, .func (PySem.W.fnOf "wrong_word" "wrong_word" (defArgs s_wrong_word) (defBody s_wrong_word) (defScope s_wrong_word) .none kV21 dc21 pm21 an21 cd21 ct21), sl21⟩)
    (c21 : PySem.W.codeIn K cd21 "wrong_word" = true)
    (k21 : PySem.W.keepIn K (.ref f21) = true)
    (a22 : PySem.W.nsIn K mainGlobals "check_words" = some (some (.ref f22)))
    (l22 : K.lookup f22 = some ⟨oc22, od22, .func (PySem.W.fnOf "check_words" "check_words" (defArgs s_check_words) (defBody s_check_words) (defScope s_check_words) .none kV22 dc22 pm22 an22 cd22 ct22), sl22⟩)
    (c22 : PySem.W.codeIn K cd22 "check_words" = true)
    (k22 : PySem.W.keepIn K (.ref f22) = true)
    (a23 : PySem.W.nsIn K mainGlobals "_borders" = some (some (.ref f23)))
    (l23 : K.lookup f23 = some ⟨oc23, od23, .func (PySem.W.fnOf "_borders" "_borders" (defArgs s_borders) (defBody s_borders) (defScope s_borders) .none kV23 dc23 pm23 an23 cd23 ct23), sl23⟩)
    (c23 : PySem.W.codeIn K cd23 "_borders" = true)
    (k23 : PySem.W.keepIn K (.ref f23) = true)
    (a24 : PySem.W.nsIn K mainGlobals "_reading" = some (some (.ref f24)))
    (l24 : K.lookup f24 = some ⟨oc24, od24, .func (PySem.W.fnOf "_reading" "_reading" (defArgs s_reading) (defBody s_reading) (defScope s_reading) .none kV24 dc24 pm24 an24 cd24 ct24), sl24⟩)
    (c24 : PySem.W.codeIn K cd24 "_reading" = true)
    (k24 : PySem.W.keepIn K (.ref f24) = true)
    (a25 : PySem.W.nsIn K mainGlobals "_from_left" = some (some (.ref f25)))
    (l25 : K.lookup f25 = some ⟨oc25, od25, .func (PySem.W.fnOf "_from_left" "_from_left" (defArgs s_from_left) (defBody s_from_left) (defScope s_from_left) .none kV25 dc25 pm25 an25 cd25 ct25), sl25⟩)
    (c25 : PySem.W.codeIn K cd25 "_from_left" = true)
    (k25 : PySem.W.keepIn K (.ref f25) = true)
    (a26 : PySem.W.nsIn K mainGlobals "_steps_down" = some (some (.ref f26)))
    (l26 : K.lookup f26 = some ⟨oc26, od26, .func (PySem.W.fnOf "_steps_down" "_steps_down" (defArgs s_steps_down) (defBody s_steps_down) (defScope s_steps_down) .none kV26 dc26 pm26 an26 cd26 ct26), sl26⟩)
    (c26 : PySem.W.codeIn K cd26 "_steps_down" = true)
    (k26 : PySem.W.keepIn K (.ref f26) = true)
    (a27 : PySem.W.nsIn K mainGlobals "_by_borders" = some (some (.ref f27)))
    (l27 : K.lookup f27 = some ⟨oc27, od27, .func (PySem.W.fnOf "_by_borders" "_by_borders" (defArgs s_by_borders) (defBody s_by_borders) (defScope s_by_borders) .none kV27 dc27 pm27 an27 (.ref ca27) ct27), sl27⟩)
    (c27 : PySem.W.codeIn K ((.ref ca27)) "_by_borders" = true)
    (k27 : PySem.W.keepIn K (.ref f27) = true)
    (tb27 : K.lookup ca27 = some ⟨occ27, odc27, .fields vsc27, slc27⟩)
    (tv27 : vsc27[11]? = some (.ref ta27))
    (hcd27 : PySem.W.codeHdIn K ca27 ta27 = true)
    (tk27 : K.lookup ta27 = none)
    (ht27 : h.get? ta27 = some { cls := .none, data := .fields #[] })
    (a28 : PySem.W.nsIn K mainGlobals "_by_strict_borders" = some (some (.ref f28)))
    (l28 : K.lookup f28 = some ⟨oc28, od28, .func (PySem.W.fnOf "_by_strict_borders" "_by_strict_borders" (defArgs s_by_strict_borders) (defBody s_by_strict_borders) (defScope s_by_strict_borders) .none kV28 dc28 pm28 an28 (.ref ca28) ct28), sl28⟩)
    (c28 : PySem.W.codeIn K ((.ref ca28)) "_by_strict_borders" = true)
    (k28 : PySem.W.keepIn K (.ref f28) = true)
    (tb28 : K.lookup ca28 = some ⟨occ28, odc28, .fields vsc28, slc28⟩)
    (tv28 : vsc28[11]? = some (.ref ta28))
    (hcd28 : PySem.W.codeHdIn K ca28 ta28 = true)
    (tk28 : K.lookup ta28 = none)
    (ht28 : h.get? ta28 = some { cls := .none, data := .fields #[] })
    (a29 : PySem.W.nsIn K mainGlobals "_by_letters" = some (some (.ref f29)))
    (l29 : K.lookup f29 = some ⟨oc29, od29, .func (PySem.W.fnOf "_by_letters" "_by_letters" (defArgs s_by_letters) (defBody s_by_letters) (defScope s_by_letters) .none kV29 dc29 pm29 an29 (.ref ca29) ct29), sl29⟩)
    (c29 : PySem.W.codeIn K ((.ref ca29)) "_by_letters" = true)
    (k29 : PySem.W.keepIn K (.ref f29) = true)
    (tb29 : K.lookup ca29 = some ⟨occ29, odc29, .fields vsc29, slc29⟩)
    (tv29 : vsc29[11]? = some (.ref ta29))
    (hcd29 : PySem.W.codeHdIn K ca29 ta29 = true)
    (tk29 : K.lookup ta29 = none)
    (ht29 : h.get? ta29 = some { cls := .none, data := .fields #[] })
    (a30 : PySem.W.nsIn K mainGlobals "_one_from_left" = some (some (.ref f30)))
    (l30 : K.lookup f30 = some ⟨oc30, od30, .func (PySem.W.fnOf "_one_from_left" "_one_from_left" (defArgs s_one_from_left) (defBody s_one_from_left) (defScope s_one_from_left) .none kV30 dc30 pm30 an30 (.ref ca30) ct30), sl30⟩)
    (c30 : PySem.W.codeIn K ((.ref ca30)) "_one_from_left" = true)
    (k30 : PySem.W.keepIn K (.ref f30) = true)
    (tb30 : K.lookup ca30 = some ⟨occ30, odc30, .fields vsc30, slc30⟩)
    (tv30 : vsc30[11]? = some (.ref ta30))
    (hcd30 : PySem.W.codeHdIn K ca30 ta30 = true)
    (tk30 : K.lookup ta30 = none)
    (ht30 : h.get? ta30 = some { cls := .none, data := .fields #[] })
    (a31 : PySem.W.nsIn K mainGlobals "_plain" = some (some (.ref f31)))
    (l31 : K.lookup f31 = some ⟨oc31, od31, .func (PySem.W.fnOf "_plain" "_plain" (defArgs s_plain) (defBody s_plain) (defScope s_plain) .none kV31 dc31 pm31 an31 cd31 ct31), sl31⟩)
    (c31 : PySem.W.codeIn K cd31 "_plain" = true)
    (k31 : PySem.W.keepIn K (.ref f31) = true)
    (a32 : PySem.W.nsIn K mainGlobals "_by_last_letter" = some (some (.ref f32)))
    (l32 : K.lookup f32 = some ⟨oc32, od32, .func (PySem.W.fnOf "_by_last_letter" "_by_last_letter" (defArgs s_by_last_letter) (defBody s_by_last_letter) (defScope s_by_last_letter) .none kV32 dc32 pm32 an32 cd32 ct32), sl32⟩)
    (c32 : PySem.W.codeIn K cd32 "_by_last_letter" = true)
    (k32 : PySem.W.keepIn K (.ref f32) = true)
    (a33 : PySem.W.nsIn K mainGlobals "_by_letter_behind" = some (some (.ref f33)))
    (l33 : K.lookup f33 = some ⟨oc33, od33, .func (PySem.W.fnOf "_by_letter_behind" "_by_letter_behind" (defArgs s_by_letter_behind) (defBody s_by_letter_behind) (defScope s_by_letter_behind) .none kV33 dc33 pm33 an33 cd33 ct33), sl33⟩)
    (c33 : PySem.W.codeIn K cd33 "_by_letter_behind" = true)
    (k33 : PySem.W.keepIn K (.ref f33) = true)
    (a34 : PySem.W.nsIn K mainGlobals "_period" = some (some (.ref f34)))
    (l34 : K.lookup f34 = some ⟨oc34, od34, .func (PySem.W.fnOf "_period" "_period" (defArgs s_period) (defBody s_period) (defScope s_period) .none kV34 dc34 pm34 an34 cd34 ct34), sl34⟩)
    (c34 : PySem.W.codeIn K cd34 "_period" = true)
    (k34 : PySem.W.keepIn K (.ref f34) = true)
    (a35 : PySem.W.nsIn K mainGlobals "_bad_letter_slide" = some (some (.ref f35)))
    (l35 : K.lookup f35 = some ⟨oc35, od35, .func (PySem.W.fnOf "_bad_letter_slide" "_bad_letter_slide" (defArgs s_bad_letter_slide) (defBody s_bad_letter_slide) (defScope s_bad_letter_slide) .none kV35 dc35 pm35 an35 cd35 ct35), sl35⟩)
    (c35 : PySem.W.codeIn K cd35 "_bad_letter_slide" = true)
    (k35 : PySem.W.keepIn K (.ref f35) = true)
    (a36 : PySem.W.nsIn K mainGlobals "_good_end_slide" = some (some (.ref f36)))
    (l36 : K.lookup f36 = some ⟨oc36, od36, .func (PySem.W.fnOf "_good_end_slide" "_good_end_slide" (defArgs s_good_end_slide) (defBody s_good_end_slide) (defScope s_good_end_slide) .none kV36 dc36 pm36 an36 cd36 ct36), sl36⟩)
    (c36 : PySem.W.codeIn K cd36 "_good_end_slide" = true)
    (k36 : PySem.W.keepIn K (.ref f36) = true)
    (a37 : PySem.W.nsIn K mainGlobals "_from_right" = some (some (.ref f37)))
    (l37 : K.lookup f37 = some ⟨oc37, od37, .func (PySem.W.fnOf "_from_right" "_from_right" (defArgs s_from_right) (defBody s_from_right) (defScope s_from_right) .none kV37 dc37 pm37 an37 (.ref ca37) ct37), sl37⟩)
    (c37 : PySem.W.codeIn K ((.ref ca37)) "_from_right" = true)
    (k37 : PySem.W.keepIn K (.ref f37) = true)
    (tb37 : K.lookup ca37 = some ⟨occ37, odc37, .fields vsc37, slc37⟩)
    (tv37 : vsc37[11]? = some (.ref ta37))
    (hcd37 : PySem.W.codeHdIn K ca37 ta37 = true)
    (tk37 : K.lookup ta37 = none)
    (ht37 : h.get? ta37 = some { cls := .none, data := .fields #[] })
    (a38 : PySem.W.nsIn K mainGlobals "_by_bad_letter" = some (some (.ref f38)))
    (l38 : K.lookup f38 = some ⟨oc38, od38, .func (PySem.W.fnOf "_by_bad_letter" "_by_bad_letter" (defArgs s_by_bad_letter) (defBody s_by_bad_letter) (defScope s_by_bad_letter) .none kV38 dc38 pm38 an38 (.ref ca38) ct38), sl38⟩)
    (c38 : PySem.W.codeIn K ((.ref ca38)) "_by_bad_letter" = true)
    (k38 : PySem.W.keepIn K (.ref f38) = true)
    (tb38 : K.lookup ca38 = some ⟨occ38, odc38, .fields vsc38, slc38⟩)
    (tv38 : vsc38[11]? = some (.ref ta38))
    (hcd38 : PySem.W.codeHdIn K ca38 ta38 = true)
    (tk38 : K.lookup ta38 = none)
    (ht38 : h.get? ta38 = some { cls := .none, data := .fields #[] })
    (a39 : PySem.W.nsIn K mainGlobals "_by_good_end" = some (some (.ref f39)))
    (l39 : K.lookup f39 = some ⟨oc39, od39, .func (PySem.W.fnOf "_by_good_end" "_by_good_end" (defArgs s_by_good_end) (defBody s_by_good_end) (defScope s_by_good_end) .none kV39 dc39 pm39 an39 (.ref ca39) ct39), sl39⟩)
    (c39 : PySem.W.codeIn K ((.ref ca39)) "_by_good_end" = true)
    (k39 : PySem.W.keepIn K (.ref f39) = true)
    (tb39 : K.lookup ca39 = some ⟨occ39, odc39, .fields vsc39, slc39⟩)
    (tv39 : vsc39[11]? = some (.ref ta39))
    (hcd39 : PySem.W.codeHdIn K ca39 ta39 = true)
    (tk39 : K.lookup ta39 = none)
    (ht39 : h.get? ta39 = some { cls := .none, data := .fields #[] })
    (a40 : PySem.W.nsIn K mainGlobals "_by_both_down_to" = some (some (.ref f40)))
    (l40 : K.lookup f40 = some ⟨oc40, od40, .func (PySem.W.fnOf "_by_both_down_to" "_by_both_down_to" (defArgs s_by_both_down_to) (defBody s_by_both_down_to) (defScope s_by_both_down_to) .none kV40 dc40 pm40 an40 (.ref ca40) ct40), sl40⟩)
    (c40 : PySem.W.codeIn K ((.ref ca40)) "_by_both_down_to" = true)
    (k40 : PySem.W.keepIn K (.ref f40) = true)
    (tb40 : K.lookup ca40 = some ⟨occ40, odc40, .fields vsc40, slc40⟩)
    (tv40 : vsc40[11]? = some (.ref ta40))
    (hcd40 : PySem.W.codeHdIn K ca40 ta40 = true)
    (tk40 : K.lookup ta40 = none)
    (ht40 : h.get? ta40 = some { cls := .none, data := .fields #[] })
    (a41 : PySem.W.nsIn K mainGlobals "_by_both" = some (some (.ref f41)))
    (l41 : K.lookup f41 = some ⟨oc41, od41, .func (PySem.W.fnOf "_by_both" "_by_both" (defArgs s_by_both) (defBody s_by_both) (defScope s_by_both) .none kV41 dc41 pm41 an41 cd41 ct41), sl41⟩)
    (c41 : PySem.W.codeIn K cd41 "_by_both" = true)
    (k41 : PySem.W.keepIn K (.ref f41) = true)
    (a42 : PySem.W.nsIn K mainGlobals "_by_both_and_known" = some (some (.ref f42)))
    (l42 : K.lookup f42 = some ⟨oc42, od42, .func (PySem.W.fnOf "_by_both_and_known" "_by_both_and_known" (defArgs s_by_both_and_known) (defBody s_by_both_and_known) (defScope s_by_both_and_known) .none kV42 dc42 pm42 an42 cd42 ct42), sl42⟩)
    (c42 : PySem.W.codeIn K cd42 "_by_both_and_known" = true)
    (k42 : PySem.W.keepIn K (.ref f42) = true)
    (a43 : PySem.W.nsIn K mainGlobals "fits" = some (some (.ref f43)))
    (l43 : K.lookup f43 = some ⟨oc43, od43, .func (PySem.W.fnOf "fits" "fits" (defArgs s_fits) (defBody s_fits) (defScope s_fits) .none kV43 dc43 pm43 an43 cd43 ct43), sl43⟩)
    (c43 : PySem.W.codeIn K cd43 "fits" = true)
    (k43 : PySem.W.keepIn K (.ref f43) = true)
    (a44 : PySem.W.nsIn K mainGlobals "slid" = some (some (.ref f44)))
    (l44 : K.lookup f44 = some ⟨oc44, od44, .func (PySem.W.fnOf "slid" "slid" (defArgs s_slid) (defBody s_slid) (defScope s_slid) .none kV44 dc44 pm44 an44 cd44 ct44), sl44⟩)
    (c44 : PySem.W.codeIn K cd44 "slid" = true)
    (k44 : PySem.W.keepIn K (.ref f44) = true)
    (a45 : PySem.W.nsIn K mainGlobals "_known_go" = some (some (.ref f45)))
    (l45 : K.lookup f45 = some ⟨oc45, od45, .func (PySem.W.fnOf "_known_go" "_known_go" (defArgs s_known_go) (defBody s_known_go) (defScope s_known_go) .none kV45 dc45 pm45 an45 cd45 ct45), sl45⟩)
    (c45 : PySem.W.codeIn K cd45 "_known_go" = true)
    (k45 : PySem.W.keepIn K (.ref f45) = true)
    (a46 : PySem.W.nsIn K mainGlobals "_known_tree" = some (some (.ref f46)))
    (l46 : K.lookup f46 = some ⟨oc46, od46, .func (PySem.W.fnOf "_known_tree" "_known_tree" (defArgs s_known_tree) (defBody s_known_tree) (defScope s_known_tree) .none kV46 dc46 pm46 an46 cd46 ct46), sl46⟩)
    (c46 : PySem.W.codeIn K cd46 "_known_tree" = true)
    (k46 : PySem.W.keepIn K (.ref f46) = true)
    (a47 : PySem.W.nsIn K mainGlobals "_by_all_knowledge" = some (some (.ref f47)))
    (l47 : K.lookup f47 = some ⟨oc47, od47, .func (PySem.W.fnOf "_by_all_knowledge" "_by_all_knowledge" (defArgs s_by_all_knowledge) (defBody s_by_all_knowledge) (defScope s_by_all_knowledge) .none kV47 dc47 pm47 an47 cd47 ct47), sl47⟩)
    (c47 : PySem.W.codeIn K cd47 "_by_all_knowledge" = true)
    (k47 : PySem.W.keepIn K (.ref f47) = true)
    (a48 : PySem.W.nsIn K mainGlobals "turns" = some (some (.ref f48)))
    (l48 : K.lookup f48 = some ⟨oc48, od48, .func (PySem.W.fnOf "turns" "turns" (defArgs s_turns) (defBody s_turns) (defScope s_turns) .none kV48 dc48 pm48 an48 cd48 ct48), sl48⟩)
    (c48 : PySem.W.codeIn K cd48 "turns" = true)
    (k48 : PySem.W.keepIn K (.ref f48) = true)
    (a49 : PySem.W.nsIn K mainGlobals "made" = some (some (.ref f49)))
    (l49 : K.lookup f49 = some ⟨oc49, od49, .func (PySem.W.fnOf "made" "made" (defArgs s_made) (defBody s_made) (defScope s_made) .none kV49 dc49 pm49 an49 cd49 ct49), sl49⟩)
    (c49 : PySem.W.codeIn K cd49 "made" = true)
    (k49 : PySem.W.keepIn K (.ref f49) = true)
    (a50 : PySem.W.nsIn K mainGlobals "_law_matter_of" = some (some (.ref f50)))
    (l50 : K.lookup f50 = some ⟨oc50, od50, .func (PySem.W.fnOf "_law_matter_of" "_law_matter_of" (defArgs s_lmatter_of) (defBody s_lmatter_of) (defScope s_lmatter_of) .none kV50 dc50 pm50 an50 cd50 ct50), sl50⟩)
    (c50 : PySem.W.codeIn K cd50 "_law_matter_of" = true)
    (k50 : PySem.W.keepIn K (.ref f50) = true)
    (a51 : PySem.W.nsIn K mainGlobals "followed" = some (some (.ref f51)))
    (l51 : K.lookup f51 = some ⟨oc51, od51, .func (PySem.W.fnOf "followed" "followed" (defArgs s_followed) (defBody s_followed) (defScope s_followed) .none kV51 dc51 pm51 an51 cd51 ct51), sl51⟩)
    (c51 : PySem.W.codeIn K cd51 "followed" = true)
    (k51 : PySem.W.keepIn K (.ref f51) = true)
    (a52 : PySem.W.nsIn K mainGlobals "searched" = some (some (.ref f52)))
    (l52 : K.lookup f52 = some ⟨oc52, od52, .func (PySem.W.fnOf "searched" "searched" (defArgs s_searched) (defBody s_searched) (defScope s_searched) .none kV52 dc52 pm52 an52 cd52 ct52), sl52⟩)
    (c52 : PySem.W.codeIn K cd52 "searched" = true)
    (k52 : PySem.W.keepIn K (.ref f52) = true)
    (a53 : PySem.W.nsIn K mainGlobals "trace" = some (some (.ref f53)))
    (l53 : K.lookup f53 = some ⟨oc53, od53, .func (PySem.W.fnOf "trace" "trace" (defArgs s_trace) (defBody s_trace) (defScope s_trace) .none kV53 dc53 pm53 an53 cd53 ct53), sl53⟩)
    (c53 : PySem.W.codeIn K cd53 "trace" = true)
    (k53 : PySem.W.keepIn K (.ref f53) = true)
    (a54 : PySem.W.nsIn K mainGlobals "_law_search" = some (some (.ref f54)))
    (l54 : K.lookup f54 = some ⟨oc54, od54, .func (PySem.W.fnOf "_law_search" "_law_search" (defArgs s_lsearch) (defBody s_lsearch) (defScope s_lsearch) .none kV54 dc54 pm54 an54 cd54 ct54), sl54⟩)
    (c54 : PySem.W.codeIn K cd54 "_law_search" = true)
    (k54 : PySem.W.keepIn K (.ref f54) = true)
    (a55 : PySem.W.nsIn K mainGlobals "_law_follows" = some (some (.ref f55)))
    (l55 : K.lookup f55 = some ⟨oc55, od55, .func (PySem.W.fnOf "_law_follows" "_law_follows" (defArgs s_lfollows) (defBody s_lfollows) (defScope s_lfollows) .none kV55 dc55 pm55 an55 cd55 ct55), sl55⟩)
    (c55 : PySem.W.codeIn K cd55 "_law_follows" = true)
    (k55 : PySem.W.keepIn K (.ref f55) = true)
    (ndT : ([ta27, ta28, ta29, ta30, ta37, ta38, ta39, ta40] : List Addr).Nodup)
    (aCS : PySem.W.nsIn K mainGlobals "Searcher" = some (some (.ref CS)))
    (aS : PySem.W.findIn K (.ref CS) "__init__" = some (some (.ref fS)))
    (lS : K.lookup fS = some ⟨ocS, odS, .func (PySem.W.fnOf "__init__" "Searcher.__init__" (defArgs s_Searcher_init) (defBody s_Searcher_init) (defScope s_Searcher_init) .none kVS dcS pmS anS cdS ctS), slS⟩)
    (cS : PySem.W.codeIn K cdS "Searcher.__init__" = true)
    (kS : PySem.W.keepIn K (.ref fS) = true)
    (nS1 : PySem.W.findIn K (.ref CS) "letters" = some none)
    (nS2 : PySem.W.findIn K (.ref CS) "width" = some none)
    (nS3 : PySem.W.findIn K (.ref CS) "states" = some none)
    (nS4 : PySem.W.findIn K (.ref CS) "nodes" = some none)
    (g4S : PySem.W.findIn K (.ref CS) "__setattr__" = some (some (.builtin "object.__setattr__")))
    (m2S : PySem.W.keepIn K (.ref CS) = true)
    (aCT : PySem.W.nsIn K mainGlobals "Trace" = some (some (.ref CT)))
    (aT : PySem.W.findIn K (.ref CT) "__init__" = some (some (.ref fT)))
    (lT : K.lookup fT = some ⟨ocT, odT, .func (PySem.W.fnOf "__init__" "Trace.__init__" (defArgs s_Trace_init) (defBody s_Trace_init) (defScope s_Trace_init) .none kVT dcT pmT anT cdT ctT), slT⟩)
    (cT : PySem.W.codeIn K cdT "Trace.__init__" = true)
    (kT : PySem.W.keepIn K (.ref fT) = true)
    (nT1 : PySem.W.findIn K (.ref CT) "windows" = some none)
    (nT2 : PySem.W.findIn K (.ref CT) "told" = some none)
    (nT3 : PySem.W.findIn K (.ref CT) "cost" = some none)
    (g4T : PySem.W.findIn K (.ref CT) "__setattr__" = some (some (.builtin "object.__setattr__")))
    (m2T : PySem.W.keepIn K (.ref CT) = true)
    (aCU : PySem.W.nsIn K mainGlobals "Turn" = some (some (.ref CU)))
    (aU : PySem.W.findIn K (.ref CU) "__init__" = some (some (.ref fU)))
    (lU : K.lookup fU = some ⟨ocU, odU, .func (PySem.W.fnOf "__init__" "Turn.__init__" (defArgs s_Turn_init) (defBody s_Turn_init) (defScope s_Turn_init) .none kVU dcU pmU anU cdU ctU), slU⟩)
    (cU : PySem.W.codeIn K cdU "Turn.__init__" = true)
    (kU : PySem.W.keepIn K (.ref fU) = true)
    (nU1 : PySem.W.findIn K (.ref CU) "reads" = some none)
    (nU2 : PySem.W.findIn K (.ref CU) "tells" = some none)
    (nU3 : PySem.W.findIn K (.ref CU) "known" = some none)
    (nU4 : PySem.W.findIn K (.ref CU) "slide" = some none)
    (nU5 : PySem.W.findIn K (.ref CU) "after" = some none)
    (g4U : PySem.W.findIn K (.ref CU) "__setattr__" = some (some (.builtin "object.__setattr__")))
    (m2U : PySem.W.keepIn K (.ref CU) = true)
    (iS : PySem.W.isFn K (.ref fS) = true)
    (m1S : PySem.W.makesIn K CS = true)
    (g1S : PySem.W.plainGet K CS Str.empty = true)
    (g2S : PySem.W.hasDictIn K CS = true)
    (g3S : PySem.W.plainOver K CS = true)
    (iT : PySem.W.isFn K (.ref fT) = true)
    (m1T : PySem.W.makesIn K CT = true)
    (g1T : PySem.W.plainGet K CT Str.empty = true)
    (g2T : PySem.W.hasDictIn K CT = true)
    (g3T : PySem.W.plainOver K CT = true)
    (iU : PySem.W.isFn K (.ref fU) = true)
    (m1U : PySem.W.makesIn K CU = true)
    (g1U : PySem.W.plainGet K CU Str.empty = true)
    (g2U : PySem.W.hasDictIn K CU = true)
    (g3U : PySem.W.plainOver K CU = true)
    (dg : PySem.W.nsIn K mainGlobals "WAYS" = some (some (.ref D)))
    (dw : He.dicW K D = some (He.keysIn w.params ["borders", "strict borders", "by letters", "plain", "last letter", "letter behind", "bad letter", "good end", "both", "both and known", "all knowledge"]))
    (ndF : ([f31, f27, f28, f29, f38, f39, f41, f42, f32, f33, f47] : List Addr).Nodup)
    (dn0 : PySem.W.nsIn K D "plain" = some (some (.ref f31)))
    (dn1 : PySem.W.nsIn K D "borders" = some (some (.ref f27)))
    (dn2 : PySem.W.nsIn K D "strict borders" = some (some (.ref f28)))
    (dn3 : PySem.W.nsIn K D "by letters" = some (some (.ref f29)))
    (dn4 : PySem.W.nsIn K D "bad letter" = some (some (.ref f38)))
    (dn5 : PySem.W.nsIn K D "good end" = some (some (.ref f39)))
    (dn6 : PySem.W.nsIn K D "both" = some (some (.ref f41)))
    (dn7 : PySem.W.nsIn K D "both and known" = some (some (.ref f42)))
    (dn8 : PySem.W.nsIn K D "last letter" = some (some (.ref f32)))
    (dn9 : PySem.W.nsIn K D "letter behind" = some (some (.ref f33)))
    (dn10 : PySem.W.nsIn K D "all knowledge" = some (some (.ref f47)))
    (q1 : PySem.W.findIn K (.ref CU) "is_cut" = some (some (.ref pZ)))
    (q2 : PySem.W.specialIn K (.ref pZ) "__get__" = some (some (.builtin "property.__get__")))
    (q3 : PySem.W.takesIn K (.ref pZ) = some true)
    (q4 : PySem.W.recIn K pZ "property" = some (.ref fZ :: restZ))
    (lZ : K.lookup fZ = some ⟨ocZ, odZ, .func (PySem.W.fnOf "is_cut" "Turn.is_cut" (defArgs s_Turn_is_cut) (defBody s_Turn_is_cut) (defScope s_Turn_is_cut) .none kVZ dcZ pmZ anZ cdZ ctZ), slZ⟩)
    (cZ : PySem.W.codeIn K cdZ "Turn.is_cut" = true)
    (kZ : PySem.W.keepIn K (.ref fZ) = true)
    (v0 : PySem.W.nsIn K mainGlobals "DEEPEST" = some (some (.int 40 t0)))
    (v1 : PySem.W.nsIn K mainGlobals "MOST_WIDTH" = some (some (.int 8 t1)))
    (v2 : PySem.W.nsIn K mainGlobals "MOST_STATES" = some (some (.int 64 t2)))
    (v3 : PySem.W.nsIn K mainGlobals "MOST_NODES" = some (some (.int 3000 t3)))
    (v4 : PySem.W.nsIn K mainGlobals "MOST_LETTERS" = some (some (.int 5000 t4)))
    (z0 : PySem.W.nsIn K mainGlobals "len" = some none)
    (z1 : PySem.W.nsIn K mainGlobals "int" = some none)
    (z2 : PySem.W.nsIn K mainGlobals "bool" = some none)
    (z3 : PySem.W.nsIn K mainGlobals "abs" = some none)
    (z4 : PySem.W.nsIn K mainGlobals "min" = some none)
    (z5 : PySem.W.nsIn K mainGlobals "list" = some none)
    (z6 : PySem.W.nsIn K mainGlobals "all" = some none)
    (z7 : PySem.W.nsIn K mainGlobals "any" = some none)
    (z8 : PySem.W.nsIn K mainGlobals "range" = some none)
    (z9 : PySem.W.nsIn K mainGlobals "isinstance" = some none)
    (z10 : PySem.W.nsIn K mainGlobals "str" = some none)
    (z11 : PySem.W.nsIn K mainGlobals "set" = some none)
    (z12 : PySem.W.nsIn K mainGlobals "tuple" = some none)
    (z13 : PySem.W.nsIn K mainGlobals "dict" = some none)
    (z14 : PySem.W.nsIn K mainGlobals "enumerate" = some none)
    (z15 : PySem.W.nsIn K mainGlobals "sum" = some none)
    (z16 : PySem.W.nsIn K mainGlobals "sorted" = some none)
    (z17 : PySem.W.nsIn K mainGlobals "zip" = some none)
    (z18 : PySem.W.nsIn K mainGlobals "reversed" = some none)
    (z19 : PySem.W.nsIn K mainGlobals "max" = some none)
    (z20 : PySem.W.nsIn K mainGlobals "repr" = some none) :
    ∃ (fd : FuncData) (cs : List (Addr × Addr)) (sp : Sp), (∀ p ∈ cs, h.get? p.2 = some { cls := .none, data := .fields #[] }) ∧ (∀ p ∈ cs, K.lookup p.2 = none) ∧ (∀ p ∈ cs, PySem.W.CodeHd h p.1 p.2) ∧ (∀ (s : Shared) (v : Value), BindsTo s fd ⟨[v], []⟩ [("_law_script", v)]) ∧
      (∀ (H : Hp) (a : Addr) (ns : List Int), ns.length ≤ 63 → (∀ p ∈ cs, H p.2 = some (.tbl #[])) → SqL K H a (ns.map V.int) → sp [.ref a] H (fun v _ => v = .bl true) E0) ∧
      ∀ base : Heap, K.In base → base.Ns mainGlobals mg → (∀ p ∈ cs, LamX.TabB base mg p.1 p.2) → GD.Gd l.prog w K mg base 50 fa fd ["_law_script"] sp := by
  have e := hfa.symm.trans (PySem.W.mg_of X G a1)
  cases e
  have F1 := fun_mk (st := s_law) l1 c1 k1
  have F2 := fun_mk (st := s_lpen_of) l2 c2 k2
  have b2 := F2.binds (ps := ["_law_script"]) fun _ _ _ _ _ _ us hl => match us, hl with | [_], _ => rfl
  have F3 := fun_mk (st := s_ldraw) l3 c3 k3
  have b3 := F3.binds (ps := ["_law_pen", "_law_many"]) fun _ _ _ _ _ _ us hl => match us, hl with | [_, _], _ => rfl
  have F4 := fun_mk (st := s_lpick) l4 c4 k4
  have b4 := F4.binds (ps := ["_law_pen", "_law_menu"]) fun _ _ _ _ _ _ us hl => match us, hl with | [_, _], _ => rfl
  have F5 := fun_mk (st := s_lletters_of) l5 c5 k5
  have b5 := F5.binds (ps := ["_law_pen", "_law_many"]) fun _ _ _ _ _ _ us hl => match us, hl with | [_, _], _ => rfl
  have F6 := fun_mk (st := s_lword_of) l6 c6 k6
  have b6 := F6.binds (ps := ["_law_pen", "_law_letters", "_law_size"]) fun _ _ _ _ _ _ us hl => match us, hl with | [_, _, _], _ => rfl
  have F7 := fun_mk (st := s_ltree_of) l7 c7 k7
  have b7 := F7.binds (ps := ["_law_pen", "_law_letters", "_law_width", "_law_many", "_law_depth"]) fun _ _ _ _ _ _ us hl => match us, hl with | [_, _, _, _, _], _ => rfl
  have F8 := fun_mk (st := s_lbent_tree) l8 c8 k8
  have b8 := F8.binds (ps := ["_law_pen", "_law_tree", "_law_width", "_law_many", "_law_chance"]) fun _ _ _ _ _ _ us hl => match us, hl with | [_, _, _, _, _], _ => rfl
  have F9 := fun_mk (st := s_lmade_ways) l9 c9 k9
  have b9 := F9.binds (ps := []) fun _ _ _ _ _ _ us hl => match us, hl with | [], _ => rfl
  have F10 := fun_mk (st := s_is_list) l10 c10 k10
  have b10 := F10.binds (ps := ["value"]) fun _ _ _ _ _ _ us hl => match us, hl with | [_], _ => rfl
  have F11 := fun_mk (st := s_is_integer) l11 c11 k11
  have b11 := F11.binds (ps := ["value"]) fun _ _ _ _ _ _ us hl => match us, hl with | [_], _ => rfl
  have F12 := fun_mk (st := s_is_whole) l12 c12 k12
  have b12 := F12.binds (ps := ["value", "low", "high"]) fun _ _ _ _ _ _ us hl => match us, hl with | [_, _, _], _ => rfl
  have F13 := fun_mk (st := s_are_letters) l13 c13 k13
  have b13 := F13.binds (ps := ["value"]) fun _ _ _ _ _ _ us hl => match us, hl with | [_], _ => rfl
  have F14 := fun_mk (st := s_is_part) l14 c14 k14
  have b14 := F14.binds (ps := ["part", "letters", "width", "states"]) fun _ _ _ _ _ _ us hl => match us, hl with | [_, _, _, _], _ => rfl
  have F15 := fun_mk (st := s_within) l15 c15 k15
  have b15 := F15.binds (ps := ["part"]) fun _ _ _ _ _ _ us hl => match us, hl with | [_], _ => rfl
  have F16 := fun_mk (st := s_first_wrong) l16 c16 k16
  have b16 := F16.binds (ps := ["tree", "letters", "width", "states"]) fun _ _ _ _ _ _ us hl => match us, hl with | [_, _, _, _], _ => rfl
  have F17 := fun_mk (st := s_all_parts) l17 c17 k17
  have b17 := F17.binds (ps := ["tree"]) fun _ _ _ _ _ _ us hl => match us, hl with | [_], _ => rfl
  have F18 := fun_mk (st := s_renamed) l18 c18 k18
  have b18 := F18.binds (ps := ["tree", "names"]) fun _ _ _ _ _ _ us hl => match us, hl with | [_, _], _ => rfl
  have F19 := fun_mk (st := s_wrong_sign) l19 c19 k19
  have b19 := F19.binds (ps := ["letters", "text"]) fun _ _ _ _ _ _ us hl => match us, hl with | [_, _], _ => rfl
  have F20 := fun_mk (st := s_is_word) l20 c20 k20
  have b20 := F20.binds (ps := ["letters", "value"]) fun _ _ _ _ _ _ us hl => match us, hl with | [_, _], _ => rfl
  have F21 := fun_mk (st := s_wrong_word) l21 c21 k21
  have b21 := F21.binds (ps := ["letters", "words"]) fun _ _ _ _ _ _ us hl => match us, hl with | [_, _], _ => rfl
  have F22 := fun_mk (st := s_check_words) l22 c22 k22
  have b22 := F22.binds (ps := ["letters", "words"]) fun _ _ _ _ _ _ us hl => match us, hl with | [_, _], _ => rfl
  have F23 := fun_mk (st := s_borders) l23 c23 k23
  have b23 := F23.binds (ps := ["word"]) fun _ _ _ _ _ _ us hl => match us, hl with | [_], _ => rfl
  have F24 := fun_mk (st := s_reading) l24 c24 k24
  have b24 := F24.binds (ps := ["letters", "word", "places", "unlike", "end"]) fun _ _ _ _ _ _ us hl => match us, hl with | [_, _, _, _, _], _ => rfl
  have F25 := fun_mk (st := s_from_left) l25 c25 k25
  have b25 := F25.binds (ps := ["letters", "word", "unlike"]) fun _ _ _ _ _ _ us hl => match us, hl with | [_, _, _], _ => rfl
  have F26 := fun_mk (st := s_steps_down) l26 c26 k26
  have b26 := F26.binds (ps := ["borders", "size"]) fun _ _ _ _ _ _ us hl => match us, hl with | [_, _], _ => rfl
  have F27 := fun_mk (st := s_by_borders) l27 c27 k27
  have b27 := F27.binds (ps := ["letters", "word"]) fun _ _ _ _ _ _ us hl => match us, hl with | [_, _], _ => rfl
  have F28 := fun_mk (st := s_by_strict_borders) l28 c28 k28
  have b28 := F28.binds (ps := ["letters", "word"]) fun _ _ _ _ _ _ us hl => match us, hl with | [_, _], _ => rfl
  have F29 := fun_mk (st := s_by_letters) l29 c29 k29
  have b29 := F29.binds (ps := ["letters", "word"]) fun _ _ _ _ _ _ us hl => match us, hl with | [_, _], _ => rfl
  have F30 := fun_mk (st := s_one_from_left) l30 c30 k30
  have b30 := F30.binds (ps := ["letters", "word", "behind"]) fun _ _ _ _ _ _ us hl => match us, hl with | [_, _, _], _ => rfl
  have F31 := fun_mk (st := s_plain) l31 c31 k31
  have b31 := F31.binds (ps := ["letters", "word"]) fun _ _ _ _ _ _ us hl => match us, hl with | [_, _], _ => rfl
  have F32 := fun_mk (st := s_by_last_letter) l32 c32 k32
  have b32 := F32.binds (ps := ["letters", "word"]) fun _ _ _ _ _ _ us hl => match us, hl with | [_, _], _ => rfl
  have F33 := fun_mk (st := s_by_letter_behind) l33 c33 k33
  have b33 := F33.binds (ps := ["letters", "word"]) fun _ _ _ _ _ _ us hl => match us, hl with | [_, _], _ => rfl
  have F34 := fun_mk (st := s_period) l34 c34 k34
  have b34 := F34.binds (ps := ["word"]) fun _ _ _ _ _ _ us hl => match us, hl with | [_], _ => rfl
  have F35 := fun_mk (st := s_bad_letter_slide) l35 c35 k35
  have b35 := F35.binds (ps := ["word", "place", "letter"]) fun _ _ _ _ _ _ us hl => match us, hl with | [_, _, _], _ => rfl
  have F36 := fun_mk (st := s_good_end_slide) l36 c36 k36
  have b36 := F36.binds (ps := ["word", "place"]) fun _ _ _ _ _ _ us hl => match us, hl with | [_, _], _ => rfl
  have F37 := fun_mk (st := s_from_right) l37 c37 k37
  have b37 := F37.binds (ps := ["letters", "word", "slide", "least_place", "end"]) fun _ _ _ _ _ _ us hl => match us, hl with | [_, _, _, _, _], _ => rfl
  have F38 := fun_mk (st := s_by_bad_letter) l38 c38 k38
  have b38 := F38.binds (ps := ["letters", "word"]) fun _ _ _ _ _ _ us hl => match us, hl with | [_, _], _ => rfl
  have F39 := fun_mk (st := s_by_good_end) l39 c39 k39
  have b39 := F39.binds (ps := ["letters", "word"]) fun _ _ _ _ _ _ us hl => match us, hl with | [_, _], _ => rfl
  have F40 := fun_mk (st := s_by_both_down_to) l40 c40 k40
  have b40 := F40.binds (ps := ["letters", "word", "least_place", "end"]) fun _ _ _ _ _ _ us hl => match us, hl with | [_, _, _, _], _ => rfl
  have F41 := fun_mk (st := s_by_both) l41 c41 k41
  have b41 := F41.binds (ps := ["letters", "word"]) fun _ _ _ _ _ _ us hl => match us, hl with | [_, _], _ => rfl
  have F42 := fun_mk (st := s_by_both_and_known) l42 c42 k42
  have b42 := F42.binds (ps := ["letters", "word"]) fun _ _ _ _ _ _ us hl => match us, hl with | [_, _], _ => rfl
  have F43 := fun_mk (st := s_fits) l43 c43 k43
  have b43 := F43.binds (ps := ["known", "word", "offset"]) fun _ _ _ _ _ _ us hl => match us, hl with | [_, _, _], _ => rfl
  have F44 := fun_mk (st := s_slid) l44 c44 k44
  have b44 := F44.binds (ps := ["known", "by"]) fun _ _ _ _ _ _ us hl => match us, hl with | [_, _], _ => rfl
  have F45 := fun_mk (st := s_known_go) l45 c45 k45
  have b45 := F45.binds (ps := ["word", "known", "numbers"]) fun _ _ _ _ _ _ us hl => match us, hl with | [_, _, _], _ => rfl
  have F46 := fun_mk (st := s_known_tree) l46 c46 k46
  have b46 := F46.binds (ps := ["letters", "word", "known", "places", "numbers"]) fun _ _ _ _ _ _ us hl => match us, hl with | [_, _, _, _, _], _ => rfl
  have F47 := fun_mk (st := s_by_all_knowledge) l47 c47 k47
  have b47 := F47.binds (ps := ["letters", "word"]) fun _ _ _ _ _ _ us hl => match us, hl with | [_, _], _ => rfl
  have F48 := fun_mk (st := s_turns) l48 c48 k48
  have b48 := F48.binds (ps := ["searcher", "standing"]) fun _ _ _ _ _ _ us hl => match us, hl with | [_, _], _ => rfl
  have F49 := fun_mk (st := s_made) l49 c49 k49
  have b49 := F49.binds (ps := ["letters", "word", "way"]) fun _ _ _ _ _ _ us hl => match us, hl with | [_, _, _], _ => rfl
  have F50 := fun_mk (st := s_lmatter_of) l50 c50 k50
  have b50 := F50.binds (ps := ["_law_pen", "_law_most"]) fun _ _ _ _ _ _ us hl => match us, hl with | [_, _], _ => rfl
  have F51 := fun_mk (st := s_followed) l51 c51 k51
  have b51 := F51.binds (ps := ["tree", "letters", "signs"]) fun _ _ _ _ _ _ us hl => match us, hl with | [_, _, _], _ => rfl
  have F52 := fun_mk (st := s_searched) l52 c52 k52
  have b52 := F52.binds (ps := ["searcher", "text"]) fun _ _ _ _ _ _ us hl => match us, hl with | [_, _], _ => rfl
  have F53 := fun_mk (st := s_trace) l53 c53 k53
  have b53 := F53.binds (ps := ["searcher", "text"]) fun _ _ _ _ _ _ us hl => match us, hl with | [_, _], _ => rfl
  have F54 := fun_mk (st := s_lsearch) l54 c54 k54
  have b54 := F54.binds (ps := ["_law_letters", "_law_width", "_law_trees", "_law_text"]) fun _ _ _ _ _ _ us hl => match us, hl with | [_, _, _, _], _ => rfl
  have F55 := fun_mk (st := s_lfollows) l55 c55 k55
  have b55 := F55.binds (ps := ["_law_searcher", "_law_letters", "_law_width", "_law_trees", "_law_text"]) fun _ _ _ _ _ _ us hl => match us, hl with | [_, _, _, _, _], _ => rfl
  have FS := fun_mk (x := "__init__") (qual := "Searcher.__init__") (st := s_Searcher_init) lS cS kS
  have bS := FS.binds (ps := ["self", "letters", "width", "states"]) fun _ _ _ _ _ _ us hl => match us, hl with | [_, _, _, _], _ => rfl
  have mS := PySem.W.mg_of X G aCS
  have FT := fun_mk (x := "__init__") (qual := "Trace.__init__") (st := s_Trace_init) lT cT kT
  have bT := FT.binds (ps := ["self", "windows", "told"]) fun _ _ _ _ _ _ us hl => match us, hl with | [_, _, _], _ => rfl
  have mT := PySem.W.mg_of X G aCT
  have FU := fun_mk (x := "__init__") (qual := "Turn.__init__") (st := s_Turn_init) lU cU kU
  have bU := FU.binds (ps := ["self", "reads", "tells", "known", "slide", "after"]) fun _ _ _ _ _ _ us hl => match us, hl with | [_, _, _, _, _, _], _ => rfl
  have mU := PySem.W.mg_of X G aCU
  have FZ := fun_mk (x := "is_cut") (qual := "Turn.is_cut") (st := s_Turn_is_cut) lZ cZ kZ
  have bZ := FZ.binds (ps := ["self"]) fun _ _ _ _ _ _ us hl => match us, hl with | [_], _ => rfl
  have T : Tx mg := { len := PySem.W.mg_none_of X G z0, int := PySem.W.mg_none_of X G z1, bool := PySem.W.mg_none_of X G z2, abs := PySem.W.mg_none_of X G z3, min := PySem.W.mg_none_of X G z4, list := PySem.W.mg_none_of X G z5, all := PySem.W.mg_none_of X G z6, any := PySem.W.mg_none_of X G z7, range := PySem.W.mg_none_of X G z8, isinstance := PySem.W.mg_none_of X G z9, str := PySem.W.mg_none_of X G z10, set := PySem.W.mg_none_of X G z11, tuple := PySem.W.mg_none_of X G z12, dict := PySem.W.mg_none_of X G z13, enumerate := PySem.W.mg_none_of X G z14, sum := PySem.W.mg_none_of X G z15, sorted := PySem.W.mg_none_of X G z16, zip := PySem.W.mg_none_of X G z17, reversed := PySem.W.mg_none_of X G z18, max := PySem.W.mg_none_of X G z19, k_DEEPEST := _, m_DEEPEST := PySem.W.mg_of X G v0, k_MOST_WIDTH := _, m_MOST_WIDTH := PySem.W.mg_of X G v1, k_MOST_STATES := _, m_MOST_STATES := PySem.W.mg_of X G v2, k_MOST_NODES := _, m_MOST_NODES := PySem.W.mg_of X G v3, k_MOST_LETTERS := _, m_MOST_LETTERS := PySem.W.mg_of X G v4 }
  have MKS : Mk K CS fS := ⟨m1S, aS, iS, m2S⟩
  have MKT : Mk K CT fT := ⟨m1T, aT, iT, m2T⟩
  have MKU : Mk K CU fU := ⟨m1U, aU, iU, m2U⟩
  have S : SC K CS := ⟨⟨g1S, g2S, g3S, g4S⟩, nS1, nS2, nS3, nS4⟩
  have TU : TC K CU := ⟨⟨g1U, g2U, g3U, g4U⟩, nU1, nU2, nU3, nU4, nU5⟩
  have TT : TRC K CT := ⟨⟨g1T, g2T, g3T, g4T⟩, nT1, nT2, nT3⟩
  have PU : PropOf K CU "is_cut" pZ fZ := ⟨q1, q2, q3, _, q4⟩
  obtain ⟨des, dnn, DK⟩ := He.dicW_ok dw
  obtain ⟨Tn, eTn⟩ : ∃ T : List NTab, T = [(ta27, fun _ _ => ("_by_borders.<locals>.unlike" : Str)), (ta28, fun _ _ => ("_by_strict_borders.<locals>.unlike" : Str)), (ta29, fun _ _ => ("_by_letters.<locals>.unlike" : Str)), (ta30, fun _ _ => ("_one_from_left.<locals>.unlike" : Str)), (ta37, fun _ _ => ("_from_right.<locals>.unlike" : Str)), (ta38, fun _ _ => ("_by_bad_letter.<locals>.slide" : Str)), (ta39, fun _ _ => ("_by_good_end.<locals>.slide" : Str)), (ta40, fun _ _ => ("_by_both_down_to.<locals>.slide" : Str))] := ⟨_, rfl⟩
  have ndn : (Tn.map Prod.fst).Nodup := by rw [eTn]; exact ndT
  have hm27 : (ta27, fun _ _ => ("_by_borders.<locals>.unlike" : Str)) ∈ Tn := by rw [eTn]; simp
  have FC27 : FunC K "_by_borders" "_by_borders" s_by_borders f27 _ ca27 := ⟨_, _, _, _, _, _, _, _, rfl, l27, c27⟩
  have hm28 : (ta28, fun _ _ => ("_by_strict_borders.<locals>.unlike" : Str)) ∈ Tn := by rw [eTn]; simp
  have FC28 : FunC K "_by_strict_borders" "_by_strict_borders" s_by_strict_borders f28 _ ca28 := ⟨_, _, _, _, _, _, _, _, rfl, l28, c28⟩
  have hm29 : (ta29, fun _ _ => ("_by_letters.<locals>.unlike" : Str)) ∈ Tn := by rw [eTn]; simp
  have FC29 : FunC K "_by_letters" "_by_letters" s_by_letters f29 _ ca29 := ⟨_, _, _, _, _, _, _, _, rfl, l29, c29⟩
  have hm30 : (ta30, fun _ _ => ("_one_from_left.<locals>.unlike" : Str)) ∈ Tn := by rw [eTn]; simp
  have FC30 : FunC K "_one_from_left" "_one_from_left" s_one_from_left f30 _ ca30 := ⟨_, _, _, _, _, _, _, _, rfl, l30, c30⟩
  have hm37 : (ta37, fun _ _ => ("_from_right.<locals>.unlike" : Str)) ∈ Tn := by rw [eTn]; simp
  have FC37 : FunC K "_from_right" "_from_right" s_from_right f37 _ ca37 := ⟨_, _, _, _, _, _, _, _, rfl, l37, c37⟩
  have hm38 : (ta38, fun _ _ => ("_by_bad_letter.<locals>.slide" : Str)) ∈ Tn := by rw [eTn]; simp
  have FC38 : FunC K "_by_bad_letter" "_by_bad_letter" s_by_bad_letter f38 _ ca38 := ⟨_, _, _, _, _, _, _, _, rfl, l38, c38⟩
  have hm39 : (ta39, fun _ _ => ("_by_good_end.<locals>.slide" : Str)) ∈ Tn := by rw [eTn]; simp
  have FC39 : FunC K "_by_good_end" "_by_good_end" s_by_good_end f39 _ ca39 := ⟨_, _, _, _, _, _, _, _, rfl, l39, c39⟩
  have hm40 : (ta40, fun _ _ => ("_by_both_down_to.<locals>.slide" : Str)) ∈ Tn := by rw [eTn]; simp
  have FC40 : FunC K "_by_both_down_to" "_by_both_down_to" s_by_both_down_to f40 _ ca40 := ⟨_, _, _, _, _, _, _, _, rfl, l40, c40⟩
  refine ⟨PySem.W.fnOf "law" "law" (defArgs s_law) (defBody s_law) (defScope s_law) .none kV1 dc1 pm1 an1 cd1 ct1, [(ca27, ta27), (ca28, ta28), (ca29, ta29), (ca30, ta30), (ca37, ta37), (ca38, ta38), (ca39, ta39), (ca40, ta40)], (spLaw K Tn), ?_, ?_, ?_, fun s v => .of_eq rfl, fun H a ns hn hT hS => ⟨a, ns, rfl, ?_, hS, hn, fun _ => rfl⟩, fun base _ _ TB => ?_⟩
  · intro p hp
    simp only [List.mem_cons, List.not_mem_nil, or_false] at hp
    rcases hp with rfl | rfl | rfl | rfl | rfl | rfl | rfl | rfl
    · exact ht27
    · exact ht28
    · exact ht29
    · exact ht30
    · exact ht37
    · exact ht38
    · exact ht39
    · exact ht40
  · intro p hp
    simp only [List.mem_cons, List.not_mem_nil, or_false] at hp
    rcases hp with rfl | rfl | rfl | rfl | rfl | rfl | rfl | rfl
    · exact tk27
    · exact tk28
    · exact tk29
    · exact tk30
    · exact tk37
    · exact tk38
    · exact tk39
    · exact tk40
  · intro p hp
    simp only [List.mem_cons, List.not_mem_nil, or_false] at hp
    rcases hp with rfl | rfl | rfl | rfl | rfl | rfl | rfl | rfl
    · exact PySem.W.codeHd_of_K X hcd27
    · exact PySem.W.codeHd_of_K X hcd28
    · exact PySem.W.codeHd_of_K X hcd29
    · exact PySem.W.codeHd_of_K X hcd30
    · exact PySem.W.codeHd_of_K X hcd37
    · exact PySem.W.codeHd_of_K X hcd38
    · exact PySem.W.codeHd_of_K X hcd39
    · exact PySem.W.codeHd_of_K X hcd40
  · intro p hp
    rw [eTn] at hp
    simp only [List.mem_cons, List.not_mem_nil, or_false] at hp
    rcases hp with rfl | rfl | rfl | rfl | rfl | rfl | rfl | rfl
    · exact tabN_nil (hT (ca27, ta27) (by simp))
    · exact tabN_nil (hT (ca28, ta28) (by simp))
    · exact tabN_nil (hT (ca29, ta29) (by simp))
    · exact tabN_nil (hT (ca30, ta30) (by simp))
    · exact tabN_nil (hT (ca37, ta37) (by simp))
    · exact tabN_nil (hT (ca38, ta38) (by simp))
    · exact tabN_nil (hT (ca39, ta39) (by simp))
    · exact tabN_nil (hT (ca40, ta40) (by simp))
  have TB27 := TB (ca27, ta27) (by simp)
  have TB28 := TB (ca28, ta28) (by simp)
  have TB29 := TB (ca29, ta29) (by simp)
  have TB30 := TB (ca30, ta30) (by simp)
  have TB37 := TB (ca37, ta37) (by simp)
  have TB38 := TB (ca38, ta38) (by simp)
  have TB39 := TB (ca39, ta39) (by simp)
  have TB40 := TB (ca40, ta40) (by simp)
  have c_lpen : Kn l.prog w K mg base "_law_pen_of" ["_law_script"] 1 (spPen K) := ⟨f2, _, ok_pen F2 T , PySem.W.mg_of X G a2, F2.kp, b2⟩
  have c_ldraw : Kn l.prog w K mg base "_law_draw" ["_law_pen", "_law_many"] 1 spDraw := ⟨f3, _, ok_draw F3 T , PySem.W.mg_of X G a3, F3.kp, b3⟩
  have c_pickS : Kn l.prog w K mg base "_law_pick" ["_law_pen", "_law_menu"] 2 spPickS := ⟨f4, _, ok_pickS F4 T c_ldraw, PySem.W.mg_of X G a4, F4.kp, b4⟩
  have c_pickL : Kn l.prog w K mg base "_law_pick" ["_law_pen", "_law_menu"] 2 spPickL := ⟨f4, _, ok_pickL F4 T c_ldraw, PySem.W.mg_of X G a4, F4.kp, b4⟩
  have c_llet : Kn l.prog w K mg base "_law_letters_of" ["_law_pen", "_law_many"] 2 spLetOf := ⟨f5, _, ok_lletters_of F5 T c_ldraw, PySem.W.mg_of X G a5, F5.kp, b5⟩
  have c_lword : Kn l.prog w K mg base "_law_word_of" ["_law_pen", "_law_letters", "_law_size"] 3 spWordOf := ⟨f6, _, ok_lword_of F6 T c_pickS, PySem.W.mg_of X G a6, F6.kp, b6⟩
  have c_ltree : Kn l.prog w K mg base "_law_tree_of" ["_law_pen", "_law_letters", "_law_width", "_law_many", "_law_depth"] 7 (spTree 4) := ⟨f7, _, ok_ltree_of F7 T (PySem.W.mg_of X G a7) b7 c_ldraw c_pickL 4, PySem.W.mg_of X G a7, F7.kp, b7⟩
  have c_lbent : Kn l.prog w K mg base "_law_bent_tree" ["_law_pen", "_law_tree", "_law_width", "_law_many", "_law_chance"] 42 (spBent 40) := ⟨f8, _, ok_lbent_tree F8 T (PySem.W.mg_of X G a8) b8 c_ldraw 40, PySem.W.mg_of X G a8, F8.kp, b8⟩
  have c_lways : Kn l.prog w K mg base "_law_made_ways" [] 1 spWays := ⟨f9, _, ok_lmade_ways F9 T , PySem.W.mg_of X G a9, F9.kp, b9⟩
  have c_is_list : Kn l.prog w K mg base "is_list" ["value"] 1 spIsQ := ⟨f10, _, ok_isQ F10 T , PySem.W.mg_of X G a10, F10.kp, b10⟩
  have c_islistL : Kn l.prog w K mg base "is_list" ["value"] 1 spIsL := ⟨f10, _, ok_isL F10 T , PySem.W.mg_of X G a10, F10.kp, b10⟩
  have c_is_integer : Kn l.prog w K mg base "is_integer" ["value"] 1 spIsInt := ⟨f11, _, ok_integer F11 T , PySem.W.mg_of X G a11, F11.kp, b11⟩
  have c_is_whole : Kn l.prog w K mg base "is_whole" ["value", "low", "high"] 2 spWhole := ⟨f12, _, ok_whole F12 T c_is_integer, PySem.W.mg_of X G a12, F12.kp, b12⟩
  have c_areL : Kn l.prog w K mg base "are_letters" ["value"] 1 spAreL := ⟨f13, _, ok_areL F13 T , PySem.W.mg_of X G a13, F13.kp, b13⟩
  have c_is_part : Kn l.prog w K mg base "_is_part" ["part", "letters", "width", "states"] 3 spIsPart := ⟨f14, _, ok_ispart F14 T c_is_list c_is_whole, PySem.W.mg_of X G a14, F14.kp, b14⟩
  have c_within : Kn l.prog w K mg base "_within" ["part"] 1 spWithin := ⟨f15, _, ok_within F15 T , PySem.W.mg_of X G a15, F15.kp, b15⟩
  have c_first_wrong : Kn l.prog w K mg base "first_wrong" ["tree", "letters", "width", "states"] 4 spFW := ⟨f16, _, ok_fw F16 T c_is_part c_within, PySem.W.mg_of X G a16, F16.kp, b16⟩
  have c_all_parts : Kn l.prog w K mg base "all_parts" ["tree"] 2 spAll := ⟨f17, _, ok_all F17 T c_within, PySem.W.mg_of X G a17, F17.kp, b17⟩
  have c_renamed : Kn l.prog w K mg base "renamed" ["tree", "names"] 41 (spRen 40) := ⟨f18, _, ok_ren0 F18 T (PySem.W.mg_of X G a18) b18 40, PySem.W.mg_of X G a18, F18.kp, b18⟩
  have c_wsign : Kn l.prog w K mg base "wrong_sign" ["letters", "text"] 1 spWSign := ⟨f19, _, ok_wsign F19 T , PySem.W.mg_of X G a19, F19.kp, b19⟩
  have c_is_word : Kn l.prog w K mg base "_is_word" ["letters", "value"] 2 spIsWord := ⟨f20, _, ok_isword F20 T c_wsign, PySem.W.mg_of X G a20, F20.kp, b20⟩
  have c_wwordL : Kn l.prog w K mg base "wrong_word" ["letters", "words"] 3 spWWordL := ⟨f21, _, ok_wwordL F21 T c_islistL c_is_word, PySem.W.mg_of X G a21, F21.kp, b21⟩
  have c_check : Kn l.prog w K mg base "check_words" ["letters", "words"] 4 spCheckL := ⟨f22, _, ok_checkL F22 T c_areL c_wwordL, PySem.W.mg_of X G a22, F22.kp, b22⟩
  have c_borders : Kn l.prog w K mg base "_borders" ["word"] 1 spBrd := ⟨f23, _, ok_brd F23 T , PySem.W.mg_of X G a23, F23.kp, b23⟩
  have c_reading : Kn l.prog w K mg base "_reading" ["letters", "word", "places", "unlike", "end"] 10 (spRdg l.prog w K mg base) := ⟨f24, _, ok_rdg F24 T , PySem.W.mg_of X G a24, F24.kp, b24⟩
  have c_from_left : Kn l.prog w K mg base "_from_left" ["letters", "word", "unlike"] 11 (spFL l.prog w K mg base) := ⟨f25, _, ok_fl F25 T c_borders c_reading, PySem.W.mg_of X G a25, F25.kp, b25⟩
  have c_steps_down : Kn l.prog w K mg base "_steps_down" ["borders", "size"] 1 spStep := ⟨f26, _, ok_step F26 T , PySem.W.mg_of X G a26, F26.kp, b26⟩
  have w_byb : Kn l.prog w K mg base "_by_borders" ["letters", "word"] 12 (spMk Tn fun L W => fromL L W (U_byb W)) := ⟨f27, _, ok_byb FC27 T  TB27 hm27 (nt_hu ndn hm27) c_borders c_from_left, PySem.W.mg_of X G a27, F27.kp, b27⟩
  have w_sb : Kn l.prog w K mg base "_by_strict_borders" ["letters", "word"] 12 (spMk Tn fun L W => fromL L W (U_sb W)) := ⟨f28, _, ok_sb FC28 T  TB28 hm28 (nt_hu ndn hm28) c_borders c_steps_down c_from_left, PySem.W.mg_of X G a28, F28.kp, b28⟩
  have w_lt : Kn l.prog w K mg base "_by_letters" ["letters", "word"] 12 (spMk Tn fun L W => fromL L W (U_lt W)) := ⟨f29, _, ok_lt FC29 T  TB29 hm29 (nt_hu ndn hm29) c_borders c_steps_down c_from_left, PySem.W.mg_of X G a29, F29.kp, b29⟩
  have c_one : Kn l.prog w K mg base "_one_from_left" ["letters", "word", "behind"] 12 (spOne Tn) := ⟨f30, _, ok_one FC30 T  TB30 hm30 (nt_hu ndn hm30) c_reading, PySem.W.mg_of X G a30, F30.kp, b30⟩
  have w_plain : Kn l.prog w K mg base "_plain" ["letters", "word"] 13 (spMk Tn fun L W => oneL L W (.go 1 0)) := ⟨f31, _, ok_plain F31 T c_one, PySem.W.mg_of X G a31, F31.kp, b31⟩
  have w_last : Kn l.prog w K mg base "_by_last_letter" ["letters", "word"] 13 (spMk Tn fun L W => oneL L W (lastL L W)) := ⟨f32, _, ok_last F32 T c_one, PySem.W.mg_of X G a32, F32.kp, b32⟩
  have w_beh : Kn l.prog w K mg base "_by_letter_behind" ["letters", "word"] 13 (spMk Tn fun L W => oneL L W (behL L W)) := ⟨f33, _, ok_beh F33 T c_one, PySem.W.mg_of X G a33, F33.kp, b33⟩
  have c_period : Kn l.prog w K mg base "_period" ["word"] 2 spPer := ⟨f34, _, ok_per F34 T c_borders, PySem.W.mg_of X G a34, F34.kp, b34⟩
  have c_bls : Kn l.prog w K mg base "_bad_letter_slide" ["word", "place", "letter"] 1 spBls := ⟨f35, _, ok_bls F35 T , PySem.W.mg_of X G a35, F35.kp, b35⟩
  have c_ges : Kn l.prog w K mg base "_good_end_slide" ["word", "place"] 1 spGes := ⟨f36, _, ok_ges F36 T , PySem.W.mg_of X G a36, F36.kp, b36⟩
  have c_from_right : Kn l.prog w K mg base "_from_right" ["letters", "word", "slide", "least_place", "end"] 11 (spFR Tn l.prog w K mg base) := ⟨f37, _, ok_fr FC37 T  TB37 hm37 (nt_hu ndn hm37) c_reading, PySem.W.mg_of X G a37, F37.kp, b37⟩
  have w_bl : Kn l.prog w K mg base "_by_bad_letter" ["letters", "word"] 12 (spMk Tn fun L W => [frT L W (blS W) 0 (.go 1 0)]) := ⟨f38, _, ok_bl FC38 T  TB38 hm38 (nt_hu ndn hm38) c_bls c_from_right, PySem.W.mg_of X G a38, F38.kp, b38⟩
  have w_ge : Kn l.prog w K mg base "_by_good_end" ["letters", "word"] 12 (spMk Tn fun L W => [frT L W (geS W) 0 (.go (perN W) 0)]) := ⟨f39, _, ok_ge FC39 T  TB39 hm39 (nt_hu ndn hm39) c_ges c_period c_from_right, PySem.W.mg_of X G a39, F39.kp, b39⟩
  have c_bd : Kn l.prog w K mg base "_by_both_down_to" ["letters", "word", "least_place", "end"] 12 (spBD Tn) := ⟨f40, _, ok_bo FC40 T  TB40 hm40 (nt_hu ndn hm40) c_bls c_ges c_from_right, PySem.W.mg_of X G a40, F40.kp, b40⟩
  have w_both : Kn l.prog w K mg base "_by_both" ["letters", "word"] 13 (spMk Tn boL) := ⟨f41, _, ok_both F41 T c_period c_bd, PySem.W.mg_of X G a41, F41.kp, b41⟩
  have w_known : Kn l.prog w K mg base "_by_both_and_known" ["letters", "word"] 14 (spMk Tn knL) := ⟨f42, _, ok_known F42 T c_period c_bd w_both, PySem.W.mg_of X G a42, F42.kp, b42⟩
  have c_fits : Kn l.prog w K mg base "fits" ["known", "word", "offset"] 1 spFits := ⟨f43, _, ok_fits F43 T , PySem.W.mg_of X G a43, F43.kp, b43⟩
  have c_slid : Kn l.prog w K mg base "slid" ["known", "by"] 1 spSlid := ⟨f44, _, ok_slid F44 T , PySem.W.mg_of X G a44, F44.kp, b44⟩
  have c_known_go : Kn l.prog w K mg base "_known_go" ["word", "known", "numbers"] 2 spKgo := ⟨f45, _, ok_kgo F45 T c_fits c_slid, PySem.W.mg_of X G a45, F45.kp, b45⟩
  have c_known_tree : Kn l.prog w K mg base "_known_tree" ["letters", "word", "known", "places", "numbers"] 11 (spKT 9) := ⟨f46, _, ok_KT0 F46 T (PySem.W.mg_of X G a46) b46 c_known_go 9, PySem.W.mg_of X G a46, F46.kp, b46⟩
  have w_all : Kn l.prog w K mg base "_by_all_knowledge" ["letters", "word"] 12 (spMk Tn allL) := ⟨f47, _, ok_allk F47 T c_known_tree, PySem.W.mg_of X G a47, F47.kp, b47⟩
  have IU := ok_tn (P := l.prog) (w := w) (mg := mg) (base := base) FU TU
  have c_turns : Kn l.prog w K mg base "turns" ["searcher", "standing"] 3 (spTurns CU CS) := ⟨f48, _, ok_turns (fs := fS) (fds := PySem.W.fnOf "" "" (defArgs s_turns) (defBody s_turns) (defScope s_turns) .none .none .none .none .none .none .none) F48 T TU S c_slid mU MKU IU bU, PySem.W.mg_of X G a48, F48.kp, b48⟩
  have IS := ok_init (P := l.prog) (w := w) (base := base) FS T S c_areL c_is_whole c_is_list c_first_wrong c_all_parts c_renamed
  obtain ⟨ws, eWs⟩ : ∃ ws : List Way, ws = [(("plain" : Str), f31, fun L W => oneL L W (.go 1 0)), (("borders" : Str), f27, fun L W => fromL L W (U_byb W)), (("strict borders" : Str), f28, fun L W => fromL L W (U_sb W)), (("by letters" : Str), f29, fun L W => fromL L W (U_lt W)), (("bad letter" : Str), f38, fun L W => [frT L W (blS W) 0 (.go 1 0)]), (("good end" : Str), f39, fun L W => [frT L W (geS W) 0 (.go (perN W) 0)]), (("both" : Str), f41, boL), (("both and known" : Str), f42, knL), (("last letter" : Str), f32, fun L W => oneL L W (lastL L W)), (("letter behind" : Str), f33, fun L W => oneL L W (behL L W)), (("all knowledge" : Str), f47, allL)] := ⟨_, rfl⟩
  have WH : WayH l.prog w K mg base Tn D ws := wayH_mk (PySem.W.mg_of X G dg) DK (by rw [eWs]; exact ndF) (by
    intro p hp
    rw [eWs] at hp
    simp only [List.mem_cons, List.not_mem_nil, or_false] at hp
    rcases hp with rfl | rfl | rfl | rfl | rfl | rfl | rfl | rfl | rfl | rfl | rfl
    · exact held_of (by decide) w_plain (PySem.W.mg_of X G a31)
    · exact held_of (by decide) w_byb (PySem.W.mg_of X G a27)
    · exact held_of (by decide) w_sb (PySem.W.mg_of X G a28)
    · exact held_of (by decide) w_lt (PySem.W.mg_of X G a29)
    · exact held_of (by decide) w_bl (PySem.W.mg_of X G a38)
    · exact held_of (by decide) w_ge (PySem.W.mg_of X G a39)
    · exact held_of (by decide) w_both (PySem.W.mg_of X G a41)
    · exact held_of (by decide) w_known (PySem.W.mg_of X G a42)
    · exact held_of (by decide) w_last (PySem.W.mg_of X G a32)
    · exact held_of (by decide) w_beh (PySem.W.mg_of X G a33)
    · exact held_of (by decide) w_all (PySem.W.mg_of X G a47)) (by
    intro p hp
    rw [eWs] at hp
    simp only [List.mem_cons, List.not_mem_nil, or_false] at hp
    rcases hp with rfl | rfl | rfl | rfl | rfl | rfl | rfl | rfl | rfl | rfl | rfl
    · exact dn0
    · exact dn1
    · exact dn2
    · exact dn3
    · exact dn4
    · exact dn5
    · exact dn6
    · exact dn7
    · exact dn8
    · exact dn9
    · exact dn10)
  have hws : ∀ z ∈ waysS, ∃ p ∈ ws, p.1 = z ∧ ∀ L W : List Nat, WdG L W → W.length ≤ 6 → WOk L.length W.length (p.2.2 L W) := by
    intro z hz
    rw [eWs]
    simp only [waysS, List.mem_cons, List.not_mem_nil, or_false] at hz
    rcases hz with rfl | rfl | rfl | rfl | rfl | rfl | rfl | rfl | rfl | rfl | rfl
    · exact ⟨_, (.head _), rfl, fun L W h h6 => plain_wok h.lg.nd h.lg.hi h.w1 h.w8⟩
    · exact ⟨_, (.tail _ (.head _)), rfl, fun L W h h6 => byb_wok h.lg.nd h.lg.hi h.w1 h.w8⟩
    · exact ⟨_, (.tail _ (.tail _ (.head _))), rfl, fun L W h h6 => sb_wok h.lg.nd h.lg.hi h.w1 h.w8⟩
    · exact ⟨_, (.tail _ (.tail _ (.tail _ (.head _)))), rfl, fun L W h h6 => lt_wok h.lg.nd h.lg.hi h.w1 h.w8⟩
    · exact ⟨_, (.tail _ (.tail _ (.tail _ (.tail _ (.head _))))), rfl, fun L W h h6 => bl_wok h.lg.nd h.lg.hi h.w1 h.w8⟩
    · exact ⟨_, (.tail _ (.tail _ (.tail _ (.tail _ (.tail _ (.head _)))))), rfl, fun L W h h6 => ge_wok h.lg.nd h.lg.hi h.w1 h.w8⟩
    · exact ⟨_, (.tail _ (.tail _ (.tail _ (.tail _ (.tail _ (.tail _ (.head _))))))), rfl, fun L W h h6 => bo_wok h.lg.nd h.lg.hi h.w1 h.w8⟩
    · exact ⟨_, (.tail _ (.tail _ (.tail _ (.tail _ (.tail _ (.tail _ (.tail _ (.head _)))))))), rfl, fun L W h h6 => kn_wok h.lg.nd h.lg.hi h.w1 h.w8⟩
    · exact ⟨_, (.tail _ (.tail _ (.tail _ (.tail _ (.tail _ (.tail _ (.tail _ (.tail _ (.head _))))))))), rfl, fun L W h h6 => last_wok h.lg.nd h.lg.hi h.w1 h.w8⟩
    · exact ⟨_, (.tail _ (.tail _ (.tail _ (.tail _ (.tail _ (.tail _ (.tail _ (.tail _ (.tail _ (.head _)))))))))), rfl, fun L W h h6 => beh_wok h.lg.nd h.lg.hi h.w1 h.w8⟩
    · exact ⟨_, (.tail _ (.tail _ (.tail _ (.tail _ (.tail _ (.tail _ (.tail _ (.tail _ (.tail _ (.tail _ (.head _))))))))))), rfl, fun L W h h6 => all_wok h.w1 h6 h.lg.nd h.lg.hi⟩
  have c_made : Kn l.prog w K mg base "made" ["letters", "word", "way"] 44 (spMade Tn CS ws) := ⟨f49, _, ok_made F49 T WH DK MKS IS mS bS c_check, PySem.W.mg_of X G a49, F49.kp, b49⟩
  have c_lmat : Kn l.prog w K mg base "_law_matter_of" ["_law_pen", "_law_most"] 45 (spMat Tn) := ⟨f50, _, ok_lmatter F50 T S hws c_ldraw c_pickL c_llet c_lword c_ltree c_made c_lways c_lbent, PySem.W.mg_of X G a50, F50.kp, b50⟩
  have c_wsN : Kn l.prog w K mg base "wrong_sign" ["letters", "text"] 1 (spWS K) := ⟨f19, _, ok_ws F19 T , PySem.W.mg_of X G a19, F19.kp, b19⟩
  have c_fol : Kn l.prog w K mg base "followed" ["tree", "letters", "signs"] 1 spFol := ⟨f51, _, ok_fol F51 T , PySem.W.mg_of X G a51, F51.kp, b51⟩
  have IT := ok_tinit (P := l.prog) (w := w) (base := base) FT T TT
  have c_srd : Kn l.prog w K mg base "searched" ["searcher", "text"] 3 (spSearched CS CT) := ⟨f52, _, ok_searched F52 T S TT MKT IT mT bT c_fol, PySem.W.mg_of X G a52, F52.kp, b52⟩
  have c_trace : Kn l.prog w K mg base "trace" ["searcher", "text"] 4 (spTraceN CS CT) := ⟨f53, _, ok_traceN F53 T S c_wsN c_srd, PySem.W.mg_of X G a53, F53.kp, b53⟩
  have c_lsrch : Kn l.prog w K mg base "_law_search" ["_law_letters", "_law_width", "_law_trees", "_law_text"] 1 spLSearch := ⟨f54, _, ok_lsearch F54 T , PySem.W.mg_of X G a54, F54.kp, b54⟩
  have QZ := ok_cut (P := l.prog) (w := w) (mg := mg) (base := base) FZ TU
  have c_lfol : Kn l.prog w K mg base "_law_follows" ["_law_searcher", "_law_letters", "_law_width", "_law_trees", "_law_text"] 5 (spFollows CS) := ⟨f55, _, ok_lfollows F55 T TU TT PU QZ bZ c_lsrch c_trace c_turns, PySem.W.mg_of X G a55, F55.kp, b55⟩
  exact ok_law F1 T MKS IS mS bS c_lpen c_ldraw c_pickL c_pickS c_lmat c_lfol
end Law
open PySem PySem.W PyProof.Rows
set_option maxHeartbeats 0 in
theorem PySem.Challenge.cw_wordskips_k21_whole_searches_by_turns_holds : PySem.Challenge.rw_wordskips_k21_whole_searches_by_turns.Holds := by
  w_on; o_law; k_head; (case hw => w_witness2)
  k_fill
  refine GT.walkGTs (l := PySem.Challenge.rw_wordskips_k21_whole_searches_by_turns) (n := 63) (k := 50) (x := "_law_script") rfl (by decide) rfl ⟨rfl, by decide, by decide⟩ (fun w h Y => PySem.W.km_in_of Y) ?F
  case F =>
    intro w mg fa h Y KX G hmg
    have tabs := PySem.W.km_tabs_of Y
    refine' Law.all_mk KX G hmg (a1 := ?a1) (l1 := ?l1) (c1 := ?c1) (k1 := ?k1) (a2 := ?a2) (l2 := ?l2) (c2 := ?c2) (k2 := ?k2) (a3 := ?a3) (l3 := ?l3) (c3 := ?c3) (k3 := ?k3) (a4 := ?a4) (l4 := ?l4) (c4 := ?c4) (k4 := ?k4) (a5 := ?a5) (l5 := ?l5) (c5 := ?c5) (k5 := ?k5) (a6 := ?a6) (l6 := ?l6) (c6 := ?c6) (k6 := ?k6) (a7 := ?a7) (l7 := ?l7) (c7 := ?c7) (k7 := ?k7) (a8 := ?a8) (l8 := ?l8) (c8 := ?c8) (k8 := ?k8) (a9 := ?a9) (l9 := ?l9) (c9 := ?c9) (k9 := ?k9) (a10 := ?a10) (l10 := ?l10) (c10 := ?c10) (k10 := ?k10) (a11 := ?a11) (l11 := ?l11) (c11 := ?c11) (k11 := ?k11) (a12 := ?a12) (l12 := ?l12) (c12 := ?c12) (k12 := ?k12) (a13 := ?a13) (l13 := ?l13) (c13 := ?c13) (k13 := ?k13) (a14 := ?a14) (l14 := ?l14) (c14 := ?c14) (k14 := ?k14) (a15 := ?a15) (l15 := ?l15) (c15 := ?c15) (k15 := ?k15) (a16 := ?a16) (l16 := ?l16) (c16 := ?c16) (k16 := ?k16) (a17 := ?a17) (l17 := ?l17) (c17 := ?c17) (k17 := ?k17) (a18 := ?a18) (l18 := ?l18) (c18 := ?c18) (k18 := ?k18) (a19 := ?a19) (l19 := ?l19) (c19 := ?c19) (k19 := ?k19) (a20 := ?a20) (l20 := ?l20) (c20 := ?c20) (k20 := ?k20) (a21 := ?a21) (l21 := ?l21) (c21 := ?c21) (k21 := ?k21) (a22 := ?a22) (l22 := ?l22) (c22 := ?c22) (k22 := ?k22) (a23 := ?a23) (l23 := ?l23) (c23 := ?c23) (k23 := ?k23) (a24 := ?a24) (l24 := ?l24) (c24 := ?c24) (k24 := ?k24) (a25 := ?a25) (l25 := ?l25) (c25 := ?c25) (k25 := ?k25) (a26 := ?a26) (l26 := ?l26) (c26 := ?c26) (k26 := ?k26) (a27 := ?a27) (l27 := ?l27) (c27 := ?c27) (k27 := ?k27) (tb27 := ?tb27) (tv27 := ?tv27) (hcd27 := ?hcd27) (tk27 := ?tk27) (ht27 := ?ht27) (a28 := ?a28) (l28 := ?l28) (c28 := ?c28) (k28 := ?k28) (tb28 := ?tb28) (tv28 := ?tv28) (hcd28 := ?hcd28) (tk28 := ?tk28) (ht28 := ?ht28) (a29 := ?a29) (l29 := ?l29) (c29 := ?c29) (k29 := ?k29) (tb29 := ?tb29) (tv29 := ?tv29) (hcd29 := ?hcd29) (tk29 := ?tk29) (ht29 := ?ht29) (a30 := ?a30) (l30 := ?l30) (c30 := ?c30) (k30 := ?k30) (tb30 := ?tb30) (tv30 := ?tv30) (hcd30 := ?hcd30) (tk30 := ?tk30) (ht30 := ?ht30) (a31 := ?a31) (l31 := ?l31) (c31 := ?c31) (k31 := ?k31) (a32 := ?a32) (l32 := ?l32) (c32 := ?c32) (k32 := ?k32) (a33 := ?a33) (l33 := ?l33) (c33 := ?c33) (k33 := ?k33) (a34 := ?a34) (l34 := ?l34) (c34 := ?c34) (k34 := ?k34) (a35 := ?a35) (l35 := ?l35) (c35 := ?c35) (k35 := ?k35) (a36 := ?a36) (l36 := ?l36) (c36 := ?c36) (k36 := ?k36) (a37 := ?a37) (l37 := ?l37) (c37 := ?c37) (k37 := ?k37) (tb37 := ?tb37) (tv37 := ?tv37) (hcd37 := ?hcd37) (tk37 := ?tk37) (ht37 := ?ht37) (a38 := ?a38) (l38 := ?l38) (c38 := ?c38) (k38 := ?k38) (tb38 := ?tb38) (tv38 := ?tv38) (hcd38 := ?hcd38) (tk38 := ?tk38) (ht38 := ?ht38) (a39 := ?a39) (l39 := ?l39) (c39 := ?c39) (k39 := ?k39) (tb39 := ?tb39) (tv39 := ?tv39) (hcd39 := ?hcd39) (tk39 := ?tk39) (ht39 := ?ht39) (a40 := ?a40) (l40 := ?l40) (c40 := ?c40) (k40 := ?k40) (tb40 := ?tb40) (tv40 := ?tv40) (hcd40 := ?hcd40) (tk40 := ?tk40) (ht40 := ?ht40) (a41 := ?a41) (l41 := ?l41) (c41 := ?c41) (k41 := ?k41) (a42 := ?a42) (l42 := ?l42) (c42 := ?c42) (k42 := ?k42) (a43 := ?a43) (l43 := ?l43) (c43 := ?c43) (k43 := ?k43) (a44 := ?a44) (l44 := ?l44) (c44 := ?c44) (k44 := ?k44) (a45 := ?a45) (l45 := ?l45) (c45 := ?c45) (k45 := ?k45) (a46 := ?a46) (l46 := ?l46) (c46 := ?c46) (k46 := ?k46) (a47 := ?a47) (l47 := ?l47) (c47 := ?c47) (k47 := ?k47) (a48 := ?a48) (l48 := ?l48) (c48 := ?c48) (k48 := ?k48) (a49 := ?a49) (l49 := ?l49) (c49 := ?c49) (k49 := ?k49) (a50 := ?a50) (l50 := ?l50) (c50 := ?c50) (k50 := ?k50) (a51 := ?a51) (l51 := ?l51) (c51 := ?c51) (k51 := ?k51) (a52 := ?a52) (l52 := ?l52) (c52 := ?c52) (k52 := ?k52) (a53 := ?a53) (l53 := ?l53) (c53 := ?c53) (k53 := ?k53) (a54 := ?a54) (l54 := ?l54) (c54 := ?c54) (k54 := ?k54) (a55 := ?a55) (l55 := ?l55) (c55 := ?c55) (k55 := ?k55) (ndT := ?ndT) (aCS := ?aCS) (aS := ?aS) (lS := ?lS) (cS := ?cS) (kS := ?kS) (nS1 := ?nS1) (nS2 := ?nS2) (nS3 := ?nS3) (nS4 := ?nS4) (g4S := ?g4S) (m2S := ?m2S) (aCT := ?aCT) (aT := ?aT) (lT := ?lT) (cT := ?cT) (kT := ?kT) (nT1 := ?nT1) (nT2 := ?nT2) (nT3 := ?nT3) (g4T := ?g4T) (m2T := ?m2T) (aCU := ?aCU) (aU := ?aU) (lU := ?lU) (cU := ?cU) (kU := ?kU) (nU1 := ?nU1) (nU2 := ?nU2) (nU3 := ?nU3) (nU4 := ?nU4) (nU5 := ?nU5) (g4U := ?g4U) (m2U := ?m2U) (iS := ?iS) (m1S := ?m1S) (g1S := ?g1S) (g2S := ?g2S) (g3S := ?g3S) (iT := ?iT) (m1T := ?m1T) (g1T := ?g1T) (g2T := ?g2T) (g3T := ?g3T) (iU := ?iU) (m1U := ?m1U) (g1U := ?g1U) (g2U := ?g2U) (g3U := ?g3U) (dg := ?dg) (dw := ?dw) (ndF := ?ndF) (dn0 := ?dn0) (dn1 := ?dn1) (dn2 := ?dn2) (dn3 := ?dn3) (dn4 := ?dn4) (dn5 := ?dn5) (dn6 := ?dn6) (dn7 := ?dn7) (dn8 := ?dn8) (dn9 := ?dn9) (dn10 := ?dn10) (q1 := ?q1) (q2 := ?q2) (q3 := ?q3) (q4 := ?q4) (lZ := ?lZ) (cZ := ?cZ) (kZ := ?kZ) (v0 := ?v0) (v1 := ?v1) (v2 := ?v2) (v3 := ?v3) (v4 := ?v4) (z0 := ?z0) (z1 := ?z1) (z2 := ?z2) (z3 := ?z3) (z4 := ?z4) (z5 := ?z5) (z6 := ?z6) (z7 := ?z7) (z8 := ?z8) (z9 := ?z9) (z10 := ?z10) (z11 := ?z11) (z12 := ?z12) (z13 := ?z13) (z14 := ?z14) (z15 := ?z15) (z16 := ?z16) (z17 := ?z17) (z18 := ?z18) (z19 := ?z19) (z20 := ?z20)
    (case a1 => k_is); (case l1 => k_is); (case c1 => k_is); (case k1 => k_is); (case a2 => k_is); (case l2 => k_is); (case c2 => k_is); (case k2 => k_is); (case a3 => k_is); (case l3 => k_is); (case c3 => k_is); (case k3 => k_is); (case a4 => k_is); (case l4 => k_is); (case c4 => k_is); (case k4 => k_is); (case a5 => k_is); (case l5 => k_is); (case c5 => k_is); (case k5 => k_is); (case a6 => k_is); (case l6 => k_is); (case c6 => k_is); (case k6 => k_is); (case a7 => k_is); (case l7 => k_is); (case c7 => k_is); (case k7 => k_is); (case a8 => k_is); (case l8 => k_is); (case c8 => k_is); (case k8 => k_is); (case a9 => k_is); (case l9 => k_is); (case c9 => k_is); (case k9 => k_is); (case a10 => k_is); (case l10 => k_is); (case c10 => k_is); (case k10 => k_is); (case a11 => k_is); (case l11 => k_is); (case c11 => k_is); (case k11 => k_is); (case a12 => k_is); (case l12 => k_is); (case c12 => k_is); (case k12 => k_is); (case a13 => k_is); (case l13 => k_is); (case c13 => k_is); (case k13 => k_is); (case a14 => k_is); (case l14 => k_is); (case c14 => k_is); (case k14 => k_is); (case a15 => k_is); (case l15 => k_is); (case c15 => k_is); (case k15 => k_is); (case a16 => k_is); (case l16 => k_is); (case c16 => k_is); (case k16 => k_is); (case a17 => k_is); (case l17 => k_is); (case c17 => k_is); (case k17 => k_is); (case a18 => k_is); (case l18 => k_is); (case c18 => k_is); (case k18 => k_is); (case a19 => k_is); (case l19 => k_is); (case c19 => k_is); (case k19 => k_is); (case a20 => k_is); (case l20 => k_is); (case c20 => k_is); (case k20 => k_is); (case a21 => k_is); (case l21 => k_is); (case c21 => k_is); (case k21 => k_is); (case a22 => k_is); (case l22 => k_is); (case c22 => k_is); (case k22 => k_is); (case a23 => k_is); (case l23 => k_is); (case c23 => k_is); (case k23 => k_is); (case a24 => k_is); (case l24 => k_is); (case c24 => k_is); (case k24 => k_is); (case a25 => k_is); (case l25 => k_is); (case c25 => k_is); (case k25 => k_is); (case a26 => k_is); (case l26 => k_is); (case c26 => k_is); (case k26 => k_is); (case a27 => k_is); (case l27 => k_is); (case c27 => k_is); (case k27 => k_is); (case tb27 => k_is); (case tv27 => rfl); (case hcd27 => kernel_rfl); (case tk27 => kernel_rfl); (case ht27 => exact tabs _ (by k_mem)); (case a28 => k_is); (case l28 => k_is); (case c28 => k_is); (case k28 => k_is); (case tb28 => k_is); (case tv28 => rfl); (case hcd28 => kernel_rfl); (case tk28 => kernel_rfl); (case ht28 => exact tabs _ (by k_mem)); (case a29 => k_is); (case l29 => k_is); (case c29 => k_is); (case k29 => k_is); (case tb29 => k_is); (case tv29 => rfl); (case hcd29 => kernel_rfl); (case tk29 => kernel_rfl); (case ht29 => exact tabs _ (by k_mem)); (case a30 => k_is); (case l30 => k_is); (case c30 => k_is); (case k30 => k_is); (case tb30 => k_is); (case tv30 => rfl); (case hcd30 => kernel_rfl); (case tk30 => kernel_rfl); (case ht30 => exact tabs _ (by k_mem)); (case a31 => k_is); (case l31 => k_is); (case c31 => k_is); (case k31 => k_is); (case a32 => k_is); (case l32 => k_is); (case c32 => k_is); (case k32 => k_is); (case a33 => k_is); (case l33 => k_is); (case c33 => k_is); (case k33 => k_is); (case a34 => k_is); (case l34 => k_is); (case c34 => k_is); (case k34 => k_is); (case a35 => k_is); (case l35 => k_is); (case c35 => k_is); (case k35 => k_is); (case a36 => k_is); (case l36 => k_is); (case c36 => k_is); (case k36 => k_is); (case a37 => k_is); (case l37 => k_is); (case c37 => k_is); (case k37 => k_is); (case tb37 => k_is); (case tv37 => rfl); (case hcd37 => kernel_rfl); (case tk37 => kernel_rfl); (case ht37 => exact tabs _ (by k_mem)); (case a38 => k_is); (case l38 => k_is); (case c38 => k_is); (case k38 => k_is); (case tb38 => k_is); (case tv38 => rfl); (case hcd38 => kernel_rfl); (case tk38 => kernel_rfl); (case ht38 => exact tabs _ (by k_mem)); (case a39 => k_is); (case l39 => k_is); (case c39 => k_is); (case k39 => k_is); (case tb39 => k_is); (case tv39 => rfl); (case hcd39 => kernel_rfl); (case tk39 => kernel_rfl); (case ht39 => exact tabs _ (by k_mem)); (case a40 => k_is); (case l40 => k_is); (case c40 => k_is); (case k40 => k_is); (case tb40 => k_is); (case tv40 => rfl); (case hcd40 => kernel_rfl); (case tk40 => kernel_rfl); (case ht40 => exact tabs _ (by k_mem)); (case a41 => k_is); (case l41 => k_is); (case c41 => k_is); (case k41 => k_is); (case a42 => k_is); (case l42 => k_is); (case c42 => k_is); (case k42 => k_is); (case a43 => k_is); (case l43 => k_is); (case c43 => k_is); (case k43 => k_is); (case a44 => k_is); (case l44 => k_is); (case c44 => k_is); (case k44 => k_is); (case a45 => k_is); (case l45 => k_is); (case c45 => k_is); (case k45 => k_is); (case a46 => k_is); (case l46 => k_is); (case c46 => k_is); (case k46 => k_is); (case a47 => k_is); (case l47 => k_is); (case c47 => k_is); (case k47 => k_is); (case a48 => k_is); (case l48 => k_is); (case c48 => k_is); (case k48 => k_is); (case a49 => k_is); (case l49 => k_is); (case c49 => k_is); (case k49 => k_is); (case a50 => k_is); (case l50 => k_is); (case c50 => k_is); (case k50 => k_is); (case a51 => k_is); (case l51 => k_is); (case c51 => k_is); (case k51 => k_is); (case a52 => k_is); (case l52 => k_is); (case c52 => k_is); (case k52 => k_is); (case a53 => k_is); (case l53 => k_is); (case c53 => k_is); (case k53 => k_is); (case a54 => k_is); (case l54 => k_is); (case c54 => k_is); (case k54 => k_is); (case a55 => k_is); (case l55 => k_is); (case c55 => k_is); (case k55 => k_is); (case ndT => decide); (case aCS => k_is); (case aS => k_is); (case lS => k_is); (case cS => k_is); (case kS => k_is); (case nS1 => k_is); (case nS2 => k_is); (case nS3 => k_is); (case nS4 => k_is); (case g4S => k_is); (case m2S => k_is); (case aCT => k_is); (case aT => k_is); (case lT => k_is); (case cT => k_is); (case kT => k_is); (case nT1 => k_is); (case nT2 => k_is); (case nT3 => k_is); (case g4T => k_is); (case m2T => k_is); (case aCU => k_is); (case aU => k_is); (case lU => k_is); (case cU => k_is); (case kU => k_is); (case nU1 => k_is); (case nU2 => k_is); (case nU3 => k_is); (case nU4 => k_is); (case nU5 => k_is); (case g4U => k_is); (case m2U => k_is); (case iS => k_is); (case m1S => k_is); (case g1S => k_is); (case g2S => k_is); (case g3S => k_is); (case iT => k_is); (case m1T => k_is); (case g1T => k_is); (case g2T => k_is); (case g3T => k_is); (case iU => k_is); (case m1U => k_is); (case g1U => k_is); (case g2U => k_is); (case g3U => k_is); (case dg => k_is); (case dw => rfl); (case ndF => decide); (case dn0 => k_is); (case dn1 => k_is); (case dn2 => k_is); (case dn3 => k_is); (case dn4 => k_is); (case dn5 => k_is); (case dn6 => k_is); (case dn7 => k_is); (case dn8 => k_is); (case dn9 => k_is); (case dn10 => k_is); (case q1 => k_is); (case q2 => k_is); (case q3 => k_is); (case q4 => k_is); (case lZ => k_is); (case cZ => k_is); (case kZ => k_is); (case v0 => k_is); (case v1 => k_is); (case v2 => k_is); (case v3 => k_is); (case v4 => k_is); (case z0 => k_is); (case z1 => k_is); (case z2 => k_is); (case z3 => k_is); (case z4 => k_is); (case z5 => k_is); (case z6 => k_is); (case z7 => k_is); (case z8 => k_is); (case z9 => k_is); (case z10 => k_is); (case z11 => k_is); (case z12 => k_is); (case z13 => k_is); (case z14 => k_is); (case z15 => k_is); (case z16 => k_is); (case z17 => k_is); (case z18 => k_is); (case z19 => k_is); (case z20 => k_is)


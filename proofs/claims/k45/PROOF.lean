import PyProof.Rows.All
import Wide.All
import OpenK.AllK
import Wide.FinOn
import HandS.ForMost
import HandS.Evl
import KE.GoesZip
import PyProof.EnumMake
import HandS.Strs
import KE.GoesMore
import HandS.IsInst
import HandS.NoneIn
import HandS.Walk
import HandS.Conv
import HandS.TupAny
import HandS.DictComp
import HandS.Small
import HandS.More
import PyProof.EqAt
import PyProof.EqKinds
import PyProof.FactsAll.dict_1
import PyProof.FactsAll.str
import PyProof.FactsAll.subtypes_3
import HandS.Base
import HandS.Call
import HandS.List
import HandS.Dict
import PyProof.ReprReads
import PyProof.ReprRoads
import PyProof.ReprDict
import HandS.Exc
import HandS.ExcInit
import HandS.ExcField
import HandS.ExcIs
import HandS.TryOnly
import HandS.TryMany
import HandS.WordsExc
import HandS.ClsMeth
import HandS.MakeKwOnly
import HandS.MakeKw
import KE.KIndexOf
import HandS.Iter
import PyProof.NeKinds
import HandS.FStrTup
import HandS.Codes
import HandS.OwnEq
import HandS.TupLe
import HandS.WordsDict
import HandS.Zip
import HandS.SetFor
import HandS.Defaults
import HandS.Lambda
import HandS.EndBits
import HandS.ExcOwn
import PyProof.ListStr
import KE.DataEq
import KE.KDictZip
import HandS.CallSlots
import HandS.EndTab
import PySem.Challenge.RW_wordskips_k45_best_made
set_option Elab.async false
set_option linter.all false
set_option maxRecDepth 100000
set_option maxHeartbeats 4000000
namespace ZS
open PySem PySem.Spec PyProof.Rows L2

/-- two texts side by side: a new pair of signs at each turn -/
def ItzS (x y : Str) : It :=
  ⟨fun i _ => i < x.cps.size ∧ i < y.cps.size,
   fun i H v H' => ∃ T c d, v = .ref T ∧ H T = none ∧ H' = upd H T (.tup [.str ⟨#[c]⟩, .str ⟨#[d]⟩]) ∧ x.cps[i]? = some c ∧ y.cps[i]? = some d,
   fun i _ => i = min x.cps.size y.cps.size⟩
theorem drawsS {prog : Program} {w : World} {A : Around} (hh : A.handled = none) (it : Addr) (x : Str) (t : Tok) :
    Draws prog w A it [it] x.cps.size (fun i v => ∃ c u, x.cps[i]? = some c ∧ v = .str ⟨#[c]⟩ u) (fun i h => h.IsStrIter it (strIterType x) x t i) := by
  unfold strIterType
  cases x.cps.all (· < 128)
  · exact Draws.strWide hh it x t
  · exact Draws.strAscii hh it x t
def StZ (x y : Str) (t u : Tok) (z TI TO i1 i2 : Addr) (i : Nat) (h : Heap) : Prop :=
  IsZip h z TI TO .none ∧ IsTupOf2 h TI (.ref i1) (.ref i2) ∧ (∃ a1 a2, IsTupOf2 h TO a1 a2) ∧ h.IsStrIter i1 (strIterType x) x t i ∧ h.IsStrIter i2 (strIterType y) y u i
theorem walkS {prog : Program} {w : World} {A : Around} (hh : A.handled = none) {z TI TO i1 i2 : Addr} (S : ZipSep2 z TI TO i1 i2 [i1] [i2]) (x y : Str) (t u : Tok) :
    WalksT prog w A z (z :: TI :: TO :: ([i1] ++ [i2])) [z, TO, i1, i2] (min x.cps.size y.cps.size)
      (fun i vals => ∃ v1 v2, (∃ c u, x.cps[i]? = some c ∧ v1 = .str ⟨#[c]⟩ u) ∧ (∃ c u, y.cps[i]? = some c ∧ v2 = .str ⟨#[c]⟩ u) ∧ vals = #[v1, v2])
      (StZ x y t u z TI TO i1 i2)
      (fun i T h => IsZip h z TI TO (rawInt T) ∧ IsTupOf2 h TI (.ref i1) (.ref i2) ∧ (∃ a1 a2, IsTupOf2 h TO a1 a2) ∧ h.IsStrIter i1 (strIterType x) x t (i + 1) ∧ h.IsStrIter i2 (strIterType y) y u (i + 1) ∧ T ≠ z ∧ T ≠ TO ∧ T ≠ i1 ∧ T ≠ i2) :=
  WalksT.zipD2 S (drawsS (A := A.in1) hh i1 x t) (drawsS (A := A.in1) hh i2 y u)
theorem fp5 {z TI TO i1 i2 c : Addr} (h : c ∈ [z, TI, TO, i1, i2]) : c = z ∨ c = TI ∨ c = TO ∨ c = i1 ∨ c = i2 := by simpa using h
theorem turn_zipS {P : Program} {w : World} {K : PySem.W.Frag} {elts : List Expr} {kk : Nat} {tpos : Pos} {z TI TO i1 i2 : Addr} (S : ZipSep2 z TI TO i1 i2 [i1] [i2]) (x y : Str) (t u : Tok) :
    Turn P w K (.Tuple elts kk tpos) (ItzS x y) [z, TI, TO, i1, i2] z (StZ x y t u z TI TO i1 i2) where
  mem := List.mem_cons_self
  obj := fun i h st c hc => by
    obtain ⟨q1, q2, ⟨a1, a2, q3⟩, ⟨o1, e1, _, d1⟩, ⟨o2, e2, _, d2⟩⟩ := st
    rcases fp5 hc with q | q | q | q | q
    all_goals subst q
    · exact ⟨_, q1, fun v q => nomatch q⟩
    · exact ⟨_, q2, fun v q => nomatch q⟩
    · exact ⟨_, q3, fun v q => nomatch q⟩
    · exact ⟨o1, e1, fun v q => by rw [d1] at q; cases q⟩
    · exact ⟨o2, e2, fun v q => by rw [d2] at q; cases q⟩
  keep := fun i h h' st k => by
    obtain ⟨q1, q2, ⟨a1, a2, q3⟩, ⟨o1, e1, r1⟩, ⟨o2, e2, r2⟩⟩ := st
    exact ⟨k z (by simp) _ q1, k TI (by simp) _ q2, ⟨a1, a2, k TO (by simp) _ q3⟩, ⟨o1, k i1 (by simp) _ e1, r1⟩, ⟨o2, k i2 (by simp) _ e2, r2⟩⟩
  item := by
    intro X hP hw hK hc i pins s σ H E I hf st hg
    subst hP hw hK
    have W := walkS (prog := X.prog) (w := X.w) (A := X.A) (I.ok.hd hc) S x y t u
    have hlt : i < min x.cps.size y.cps.size := by
      have h1 := hg.1
      have h2 := hg.2
      omega
    refine W.item i s _ _ hlt st fun T vals h' tk hv hT hIs hm hk => ?_
    refine ⟨.ref T, rfl, ?_⟩
    refine W.go elts kk tpos i T { s with heap := h', toks := tk } _ _ hm fun h2 st2 hk2 => ?_
    obtain ⟨v1, v2, ⟨c, u1, hc1, rfl⟩, ⟨d, u2, hd1, rfl⟩, rfl⟩ := hv
    have ap : T ∉ [z, TO, i1, i2] := W.apart i T h' hm
    have up : ∀ b o, b ∉ [z, TO, i1, i2] → s.heap.get? b = some o → h2.get? b = some o := fun b o hb e => hk2 b o hb (hk b o hb e)
    have hT2 : h2.IsTuple T #[.str ⟨#[c]⟩ u1, .str ⟨#[d]⟩ u2] := hIs.at fun o e => hk2 T o ap e
    obtain ⟨oT, eT, cT, nT, dT⟩ := hT2
    have new : ObjOk X.prog X.w (upd H T (.tup [.str ⟨#[c]⟩, .str ⟨#[d]⟩])) h2 T (.tup [.str ⟨#[c]⟩, .str ⟨#[d]⟩]) :=
      ⟨by show 2 ≤ sizeLine; decide, [.str ⟨#[c]⟩ u1, .str ⟨#[d]⟩ u2], .cons ⟨u1, rfl⟩ (.cons ⟨u2, rfl⟩ .nil), ⟨oT, eT, cT, nT, dT⟩⟩
    have sub : ∀ b, b ∉ [z, TI, TO, i1, i2] → b ∉ [z, TO, i1, i2] := fun b hb hb2 => hb (by
      have q : b = z ∨ b = TO ∨ b = i1 ∨ b = i2 := by simpa using hb2
      rcases q with q | q | q | q <;> simp [q])
    have I1 := I.turnedNew (t' := tk) (ch := [z, TI, TO, i1, i2]) (fun b o hb e => up b o (sub b hb) e) hf hT new
    refine ⟨.ref T, _, I1, rfl, ⟨T, c, d, rfl, I.hok.fresh hT, rfl, hc1, hd1⟩, st2, fun b hb => ?_⟩
    have hlb : b < s.heap.objs.size := by
      obtain ⟨q1, q2, ⟨a1, a2, q3⟩, ⟨o1, e1, r1⟩, ⟨o2, e2, r2⟩⟩ := st
      rcases fp5 hb with q | q | q | q | q
      · rw [q]; exact Heap.lt_size q1
      · rw [q]; exact Heap.lt_size q2
      · rw [q]; exact Heap.lt_size q3
      · rw [q]; exact Heap.lt_size e1
      · rw [q]; exact Heap.lt_size e2
    rw [upd_ne (show b ≠ T from fun e => absurd hT (by rw [← e]; exact Nat.not_le.mpr hlb))]
    exact (hf b hb).1
  done := by
    intro X hP hw hK hc i pins s σ H E I hf st hg
    subst hP hw hK
    have W := walkS (prog := X.prog) (w := X.w) (A := X.A) (I.ok.hd hc) S x y t u
    have hg : i = min x.cps.size y.cps.size := hg
    subst hg
    refine W.done s _ _ st fun h' tk hk => ⟨rfl, ?_⟩
    refine I.turnedL (t' := tk) (ch := [z, TI, TO, i1, i2]) (fun b o hb e => hk b o (fun hb2 => hb ?_) e) hf
    have q : b = z ∨ b = TO ∨ b = i1 ∨ b = i2 := by simpa using hb2
    rcases q with q | q | q | q <;> simp [q]
  self := fun A i s Q E st h => wpAny_pyIter_zip st.1 h

abbrev g1 (h : Heap) (x : Str) (t : Tok) : Heap := h.push { cls := .type (strIterType x), data := .fields #[.str x t, .int 0 0] }
abbrev g3 (h : Heap) (x y : Str) (t u : Tok) : Heap := (g1 (g1 h x t) y u).push { cls := .type "tuple", data := .seq #[.ref h.objs.size, .ref (g1 h x t).objs.size] }
abbrev g4 (h : Heap) (x y : Str) (t u : Tok) : Heap := (g3 h x y t u).push { cls := .type "tuple", data := .seq #[.none, .none] }
abbrev g5 (h : Heap) (x y : Str) (t u : Tok) : Heap := (g4 h x y t u).push { cls := .type "zip", data := .fields #[.none, .bool false, .bool false, .ref (g1 (g1 h x t) y u).objs.size, .ref (g3 h x y t u).objs.size] }
theorem meets_zipS (x y : Str) (t u : Tok) :
    Meets (Builtin.«zip.__new__» ⟨[.type "zip", .str x t, .str y u], []⟩) (fun _ R s => R (.ok (.ret (.ref (g4 s.heap x y t u).objs.size))) { s with heap := g5 s.heap x y t u }) :=
  .of_wp fun prog w A R s h => by
    obtain ⟨hp, gg, d, tk, os⟩ := s
    have hsub := sub_zip
    wp_walk using wpAny_pyIter_strU
    exact ⟨_, rfl, h⟩
theorem call_zipS {prog : Program} {w : World} {A : Around} {E : Value → Shared → Prop} {s : Shared} {x y : Str} {t u : Tok} {Q : Value → Shared → Prop}
    (h : ∀ h', StZ x y t u (s.heap.objs.size + 4) (s.heap.objs.size + 2) (s.heap.objs.size + 3) s.heap.objs.size (s.heap.objs.size + 1) 0 h' → (∀ c o, s.heap.get? c = some o → h'.get? c = some o) → Q (.ref (s.heap.objs.size + 4)) { s with heap := h' }) :
    wpAny (model prog w) A (call (.type "zip") [.str x t, .str y u]) Q E s := by
  refine callType_new F.called_zip (by decide) (F.typeCall_zip_2 _ _) (F.newCall_zip_2 _ _) (fun obj => F.args_object_init_3 obj _ _) F.entry_zip_new (meets_zipS x y t u) ?_
  have n1 : (g1 s.heap x t).objs.size = s.heap.objs.size + 1 := Heap.size_push ..
  have n2 : (g1 (g1 s.heap x t) y u).objs.size = s.heap.objs.size + 2 := by rw [Heap.size_push, n1]
  have n3 : (g3 s.heap x y t u).objs.size = s.heap.objs.size + 3 := by rw [Heap.size_push, n2]
  have n4 : (g4 s.heap x y t u).objs.size = s.heap.objs.size + 4 := by rw [Heap.size_push, n3]
  have k5 : (g5 s.heap x y t u).get? (g4 s.heap x y t u).objs.size = some _ := Heap.get?_push_size _ rfl
  have k4 : (g5 s.heap x y t u).get? (g3 s.heap x y t u).objs.size = some _ := Heap.get?_push_of_some _ (Heap.get?_push_size _ rfl)
  have k3 : (g5 s.heap x y t u).get? (g1 (g1 s.heap x t) y u).objs.size = some _ := Heap.get?_push_of_some _ (Heap.get?_push_of_some _ (Heap.get?_push_size _ rfl))
  have k2 : (g5 s.heap x y t u).get? (g1 s.heap x t).objs.size = some _ := Heap.get?_push_of_some _ (Heap.get?_push_of_some _ (Heap.get?_push_of_some _ (Heap.get?_push_size _ rfl)))
  have k1 : (g5 s.heap x y t u).get? s.heap.objs.size = some _ := Heap.get?_push_of_some _ (Heap.get?_push_of_some _ (Heap.get?_push_of_some _ (Heap.get?_push_of_some _ (Heap.get?_push_size _ rfl))))
  show _ ∧ _
  rw [n2, n3, n4] at k5
  rw [n1, n2] at k3
  rw [n3] at k4
  rw [n1] at k2
  rw [n4]
  exact ⟨⟨_, k5, rfl⟩, h _ ⟨k5, k3, ⟨_, _, k4⟩, ⟨_, k1, rfl, rfl⟩, ⟨_, k2, rfl, rfl⟩⟩ fun c o e =>
    Heap.get?_push_of_some _ (Heap.get?_push_of_some _ (Heap.get?_push_of_some _ (Heap.get?_push_of_some _ (Heap.get?_push_of_some _ e))))⟩
theorem sepS (n : Nat) : ZipSep2 (n + 4) (n + 2) (n + 3) n (n + 1) [n] [n + 1] := by
  constructor <;> first | omega | (simp <;> omega) | simp
def iZipS (ta : TA) : TI := fun σ H R => ta σ H fun vs H1 => ∃ x y, vs = [.str x, .str y] ∧ R (ItzS x y) H1
theorem pi_zipS {X : Cx} {e e2 : Expr} {ta : TA} {p pos tpos : Pos} {elts : List Expr} {kk : Nat} (hg : Gl X "zip") (hm : X.mg "zip" = none) (ha : PA X [e, e2] ta)
    (hs : starEach [e, e2] X.env = (false, eval e X.env) :: starEach [e2] X.env := by rfl) (hpl : (backTo pos (starEach [e2] X.env)).any (·.1) = false := by rfl) :
    PI X (.Tuple elts kk tpos) (.Call (.Name "zip" p) [e, e2] [] pos) (iZipS ta) := by
  refine ⟨fun pins s σ H R I h => ?_⟩
  refine Call_ (ld_blt I hg hm boot_zip (callWith_type1 (thn (ha.run pos pins s σ H _ I h) fun us s1 ⟨vs, H1, I1, r1, q1⟩ => ?_) hs hpl))
  obtain ⟨x, y, ex, q⟩ := q1
  subst ex
  cases r1 with
  | cons r rr =>
    cases rr with
    | cons r' rr =>
      cases rr
      obtain ⟨t, rfl⟩ := r
      obtain ⟨u, rfl⟩ := r'
      refine call_zipS fun h' st hk => wpAny_pyIter_zip st.1 ?_
      have I2 : Inv X pins σ H1 { s1 with heap := h' } := I1.kept (t' := s1.toks) hk
      refine ⟨s1.heap.objs.size + 4, _, _, _, H1, rfl, I2, turn_zipS (sepS _) x y t u, st, fun c hcm => ?_, q⟩
      have hle : s1.heap.objs.size ≤ c := by
        rcases fp5 hcm with z | z | z | z | z <;> rw [z] <;> first | exact Nat.le_add_right _ _ | exact Nat.le_refl _
      exact I1.fpOk hle (I1.hok.fresh hle)
/-- a comprehension over it -/
theorem lc_zipS {x y : Str} {g : TG} {tt : TT} {te : TE} {vs : List Nat} {σ : L2.St} {H1 : Hp} {D : Addr} {Qd : Hp → Prop} (Pv : Nat → Hp → Prop) (h0 : Pv 0 (upd H1 D (.lst [])))
    (hs : ∀ i c d T H, x.cps[i]? = some c → y.cps[i]? = some d → Pv i H → H T = none → g (.ref T) (wipe σ vs) (upd H T (.tup [.str ⟨#[c]⟩, .str ⟨#[d]⟩])) fun σ2 H2 => wipe σ2 vs = wipe σ vs ∧ tt σ2 H2 fun b H3 =>
      if b = true then te σ2 H3 fun z H4 => ∃ acc, H4 D = some (.lst acc) ∧ acc.length < sizeLine ∧ Pv (i + 1) (upd H4 D (.lst (acc ++ [z]))) else Pv (i + 1) H3) (hd : ∀ H, Pv (min x.cps.size y.cps.size) H → Qd H) :
    ∃ W : Nat → Nat → Hp → Prop, (∃ m, W 0 m (upd H1 D (.lst []))) ∧ ∀ i m H, W i m H →
      ((ItzS x y).stop i H ∧ Qd H) ∨ ((ItzS x y).go i H ∧ ∃ Nx : Hp → Prop, (∀ H', Nx H' → ∃ m', m' < m ∧ W (i + 1) m' H') ∧ ∀ v H', (ItzS x y).yld i H v H' → g v (wipe σ vs) H' fun σ2 H2 => wipe σ2 vs = wipe σ vs ∧ tt σ2 H2 fun b H3 =>
        if b = true then te σ2 H3 fun z H4 => ∃ acc, H4 D = some (.lst acc) ∧ acc.length < sizeLine ∧ Nx (upd H4 D (.lst (acc ++ [z]))) else Nx H3) := by
  refine ⟨fun i m H => i + m = min x.cps.size y.cps.size ∧ Pv i H, ⟨_, Nat.zero_add _, h0⟩, ?_⟩
  rintro i m H ⟨e, p⟩
  by_cases hm : m = 0
  · have e2 : i = min x.cps.size y.cps.size := by omega
    refine .inl ⟨e2, hd H ?_⟩
    rw [← e2]
    exact p
  · refine .inr ⟨⟨by omega, by omega⟩, Pv (i + 1), fun H' p' => ⟨m - 1, by omega, by omega, p'⟩, ?_⟩
    rintro v H' ⟨T, c, d, rfl, hT, rfl, hc, hd'⟩
    exact hs i c d T H hc hd' p hT
theorem op_mulS {X : Cx} : OpR X (binaryOp .Mult) (fun x y H Q => ∃ z n, x = .str z ∧ y = .int n ∧ MulOk z n ∧ Q (.str (Txt.mul z n)) H) := by
  intro pins s σ H x y v u Q I rx ry h
  obtain ⟨z, n, rfl, rfl, hz, q⟩ := h
  obtain ⟨t, rfl⟩ := rx
  obtain ⟨t', rfl⟩ := ry
  exact SB.mul hz (fun t' tk => ⟨.str (Txt.mul z n), H, I.tok _, ⟨_, rfl⟩, q⟩)
end ZS

namespace ST
open PySem PySem.Spec PyProof.Rows L2
/-- how many different ones the first i of a list are -/
def dct (xs : List Str) : Nat → Nat
  | 0 => 0
  | i + 1 => if (xs.take i).any (· == xs.getD i Str.empty) = true then dct xs i else dct xs i + 1
theorem dct_le (xs : List Str) : ∀ i, dct xs i ≤ i
  | 0 => Nat.le_refl _
  | i + 1 => by
    have := dct_le xs i
    unfold dct
    split <;> omega
theorem any_next {xs : List Str} {i : Nat} (hi : i < xs.length) (k : Str) : (xs.take (i + 1)).any (· == k) = ((xs.take i).any (· == k) || decide (k = xs.getD i Str.empty)) := by
  rw [List.take_add_one, List.any_append, List.getElem?_eq_getElem hi, List.getD_eq_getElem?_getD, List.getElem?_eq_getElem hi]
  refine congrArg (fun b => (xs.take i).any (· == k) || b) ?_
  show (xs[i] == k || false) = decide (k = xs[i])
  rw [Bool.or_false]
  by_cases e : k = xs[i]
  · rw [decide_eq_true e, ← e]
    simp
  · rw [decide_eq_false e]
    simpa using fun q : xs[i] = k => e q.symm
section
variable {prog : Program} {w : World} {A : Around} {R : Result → Shared → Prop} {It : Addr} {fp wr : List Addr} {Gn : Array GenState → Array GenState → Prop} {n : Nat} {P : Nat → Value → Prop} {St : Nat → Shared → Prop}
theorem fill (W : WalksS prog w A.in1 It fp wr Gn n P St) (a : Addr) (haf : a ∉ fp) (xs : List Str) (hx : xs.length = n) (hn : n + 1 < scanBound) (hv : ∀ i v, P i v → ∃ t, v = .str (xs.getD i Str.empty) t) :
    ∀ (k i : Nat) (s : Shared), n - i = k → i ≤ n → St i s → s.heap.SetOf (PySem.strKind prog w) a (fun z => (xs.take i).any (· == z)) (dct xs i) →
      (∀ s', Moved (a :: wr) Gn s s' → s'.heap.SetOf (PySem.strKind prog w) a (fun z => (xs.take n).any (· == z)) (dct xs n) → R (.ok (.ret .none)) s') →
      codeAny (model prog w) A (.builtin "set.update.loop" ⟨[.ref a, .ref It], []⟩) R s := by
  have haw : a ∉ wr := fun q => haf (W.sub _ q)
  have up : ∀ b ∈ wr, b ∈ a :: wr := fun b q => List.mem_cons_of_mem _ q
  intro k
  induction k with
  | zero =>
    intro i s hk hi hst hset hR
    obtain rfl : i = n := by omega
    refine codeAny_builtin F.entry_set_update_loop ?_
    rw [Around.under_plainId F.plain_set_update_loop _]
    refine wpAny_bind (W.done s _ _ hst fun s' mv => wpAny_pure (hR s' (mv.mono up) ?_))
    obtain ⟨o, es, ep, tb, ho, rest⟩ := hset
    exact ⟨o, es, ep, tb, mv.heap a _ haw ho, rest⟩
  | succ k ih =>
    intro i s hk hi hst hset hR
    have hlt : i < n := by omega
    refine codeAny_builtin F.entry_set_update_loop ?_
    rw [Around.under_plainId F.plain_set_update_loop _]
    refine wpAny_bind (W.item i s _ _ hlt hst fun v s1 hp st1 mv => ?_)
    obtain ⟨t, rfl⟩ := hv i v hp
    have set1 : s1.heap.SetOf (PySem.strKind prog w) a (fun z => (xs.take i).any (· == z)) (dct xs i) := by
      obtain ⟨o, es, ep, tb, ho, rest⟩ := hset
      exact ⟨o, es, ep, tb, mv.heap a _ haw ho, rest⟩
    refine wpAny_bind (wpAny_holding ?_)
    unfold setAdd
    refine wpAny_holding (wpAny_bind ((PySem.strKind prog w).pyHash (k := xs.getD i Str.empty) (strKind_is _ _ _ _) ?_))
    have room : dct xs i + 1 < scanBound := by
      have := dct_le xs i
      omega
    refine wpAny_setAddHashed_of (knd := PySem.strKind prog w) (s := { s1 with toks := s1.toks + 1 }) (strKind_is _ _ _ _) rfl set1 room fun h2 sb set2 => ?_
    have set3 : h2.SetOf (PySem.strKind prog w) a (fun z => (xs.take (i + 1)).any (· == z)) (dct xs (i + 1)) :=
      SetOf_congr set2 (fun z => (any_next (by omega) z).symm) (by
        show dct xs (i + 1) = _
        unfold dct
        rfl)
    refine wpAny_pure ⟨plainId_quiet F.plain_set_update_loop _, ih (i + 1) _ (by omega) hlt (W.frame _ s1 _ _ st1 (Nat.le_succ _) fun b hb o e => ?_) set3 fun s2 mv2 hS2 => ?_⟩
    · rw [sb.2 b (fun q : b = a => haf (by rw [← q]; exact hb))]
      exact e
    · refine hR s2 (Moved.trans W.gtrans ((mv.mono up).then_heap (Nat.le_succ _) fun b o hb e => ?_) mv2) hS2
      rw [sb.2 b (fun q : b = a => hb (by rw [q]; exact List.mem_cons_self))]
      exact e
end
theorem walkStr {prog : Program} {w : World} {A : Around} (hh : A.handled = none) (it : Addr) (x : Str) (t : Tok) :
    Walks prog w A it [it] [it] x.cps.size (SignAt x) (fun i h => h.IsStrIter it (strIterType x) x t i) := by
  unfold strIterType
  cases x.cps.all (· < 128)
  · exact Walks.strWide hh it x t
  · exact Walks.strAscii hh it x t
def signsOf (x : Str) : List Str := x.cps.toList.map fun c => ⟨#[c]⟩
theorem signsOf_len (x : Str) : (signsOf x).length = x.cps.size := by simp [signsOf]
section
variable {prog : Program} {w : World} {A : Around} {E : Value → Shared → Prop} {s : Shared}
theorem call_set_text {x : Str} {t : Tok} {Q : Value → Shared → Prop} (hh : A.handled = none) (hn : x.cps.size + 1 < scanBound)
    (h : ∀ (h' : Heap) (tk : Nat), h'.SetOf (PySem.strKind prog w) s.heap.objs.size (fun z => ((signsOf x).take x.cps.size).any (· == z)) (dct (signsOf x) x.cps.size) →
      (∀ b o, b < s.heap.objs.size → s.heap.get? b = some o → h'.get? b = some o) → Q (.ref s.heap.objs.size) { s with heap := h', toks := tk }) :
    wpAny (model prog w) A (call (.type "set") [.str x t]) Q E s := by
  obtain ⟨c, tl, hmro⟩ := PySem.F.called_set.mro
  have hmade := PySem.F.called_set.made
  have hsub := PySem.F.called_set.sub
  refine wpAny_call (codeAny_of_tree ?_)
  show wpAny _ _ (callAny (.type "set") _) _ _ _
  refine wpAny_pure ⟨Code.quiet_builtin _ (by decide +kernel), codeAny_builtin PySem.F.entry_type_call ?_⟩
  rw [Around.under_plain (weight_type_call_type "set" [.str x t] []) rfl]
  have x1 := PySem.F.called_set.notType
  have x2 := PySem.F.called_set.canCreate
  have x3 := PySem.F.typeCall_set_1 (.str x t)
  repeat (any_goals (first | assumption | wp_step))
  refine codeAny_mono (code_set_new_1 (.str x t) (E := E) (Q₁ := fun obj s₁ => ∃ led : Bool, obj = .ref s.heap.objs.size ∧ s₁ = { s with heap := s.heap.push { cls := .type "set", dict := none, data := .set #[] 0 (.fresh 0 0 led) } }) fun led => ⟨led, rfl, rfl⟩) fun r s₁ hr => ?_
  cases r with
  | error e => exact hr
  | ok fl =>
    cases fl with
    | ret obj =>
      obtain ⟨led, rfl, rfl⟩ := hr
      obtain ⟨hp, hhp⟩ : ∃ hp, s.heap.push { cls := .type "set", dict := none, data := .set #[] 0 (.fresh 0 0 led) } = hp := ⟨_, rfl⟩
      have y1 : hp.get? s.heap.objs.size = some { cls := .type "set", dict := none, data := .set #[] 0 (.fresh 0 0 led) } := by
        rw [← hhp]
        exact Heap.get?_push_size _ rfl
      have y2 : hp.objs.size = s.heap.objs.size + 1 := by
        rw [← hhp]
        exact Heap.size_push ..
      have y3 : ∀ b o, s.heap.get? b = some o → hp.get? b = some o := fun b o e => by
        rw [← hhp]
        exact Heap.get?_push_of_some _ e
      rw [hhp]
      have hT : Shared.TypeIs { s with heap := hp } (.ref s.heap.objs.size) "set" := ⟨_, y1, rfl⟩
      have y4 := PySem.F.called_set.init.lookup
      have y5 := PySem.F.called_set.init.bind (.ref s.heap.objs.size)
      repeat (any_goals (first | assumption | wp_step))
      refine codeAny_mono (codeAny_call_builtin (R := wants (fun r s₂ => r = .none ∧ ∃ h' tk, s₂ = { s with heap := h', toks := tk } ∧
          h'.SetOf (PySem.strKind prog w) s.heap.objs.size (fun z => ((signsOf x).take x.cps.size).any (· == z)) (dct (signsOf x) x.cps.size) ∧
          (∀ b o, b < s.heap.objs.size → s.heap.get? b = some o → h'.get? b = some o)) E) PySem.F.called_set.init.plain PySem.F.entry_set_init (check_set_init_1 hT ?_)) fun r₂ s₂ hr₂ => ?_
      · have sb1 := PySem.F.sub_str_set
        have sb2 := PySem.F.sub_str_frozenset
        have sb3 : (Value.type "str" == Value.type "dict") = false := by decide
        unfold Builtin.«set.__init__» noKeywords Builtin.Frozenset.updateFrom
        generalize hPI : pyIter = PI
        wp_walk
        subst hPI
        refine wpAny_pyIter_strU ?_
        refine wpAny_bind (wpAny_runValue ?_)
        have hh3 : A.in1.in1.in1.handled = none := by simp [hh]
        have z1 : s.heap.objs.size ∉ [hp.objs.size] := by
          rw [y2]
          simp
        refine fill ((walkStr hh3 _ x t).toS) s.heap.objs.size z1 (signsOf x) (signsOf_len x) hn ?_ (x.cps.size - 0) 0 _ (by omega) (Nat.zero_le _)
          ⟨_, Heap.get?_push_size _ rfl, rfl, rfl⟩ ?_ ?_
        · rintro i v ⟨c, u, hc, rfl⟩
          refine ⟨u, ?_⟩
          unfold signsOf
          rw [List.getD_eq_getElem?_getD, List.getElem?_map, Array.getElem?_toList, hc]
          rfl
        · have z2 : (hp.push { cls := .type (strIterType x), data := .fields #[.str x t, .int 0 0] }).get? s.heap.objs.size = some { cls := .type "set", dict := none, data := .set #[] 0 (.fresh 0 0 led) } := Heap.get?_push_of_some _ y1
          exact SetOf_congr ((setObjOf_fresh (knd := PySem.strKind prog w) led).setOf z2 (by unfold scanBound; omega)) (fun _ => rfl) rfl
        · intro s' mv hS'
          obtain ⟨h', g', d', tk', os'⟩ := s'
          obtain rfl : g' = s.gens := mv.gens
          obtain rfl : d' = s.drawn := mv.drawn
          obtain rfl : os' = s.os := mv.os
          refine wpAny_pure ?_
          show wpAny _ _ (ret Value.none) _ _ _
          refine wpAny_pure ⟨rfl, h', tk', rfl, hS', fun b o hb e => ?_⟩
          refine mv.heap b o ?_ (Heap.get?_push_of_some _ (y3 b o e))
          rw [y2]
          simp only [List.mem_cons, List.not_mem_nil, or_false, not_or]
          exact ⟨Nat.ne_of_lt hb, Nat.ne_of_lt (Nat.lt_succ_of_lt hb)⟩
      · cases r₂ with
        | error e => exact hr₂
        | ok fl₂ =>
          cases fl₂ with
          | ret r =>
            obtain ⟨rfl, h', tk, rfl, hS', hk'⟩ := hr₂
            repeat (any_goals (first | assumption | wp_step))
            exact h _ _ hS' hk'
          | _ => exact hr₂.elim
    | _ => exact hr.elim
end
end ST

namespace EN
open PySem PySem.Spec PyProof.Rows L2
/-! ### len(set(text)) -/
def tLenSetS (ta : TE) : TE := fun σ H Q => ta σ H fun x H1 => ∃ z : Str, x = .str z ∧ z.cps.size < 1000 ∧ Q (.int (ST.dct (ST.signsOf z) z.cps.size)) H1
theorem pe_lenSetS {X : Cx} {a : Expr} {ta : TE} {p p2 q pos : Pos} (hc : X.calm = true) (hg : Gl X "len") (hm : X.mg "len" = none) (hg2 : Gl X "set") (hm2 : X.mg "set" = none) (ha : PE X a ta)
    (na : starEach [a] X.env = (false, eval a X.env) :: starEach [] X.env := by rfl) : PE X (.Call (.Name "len" p) [.Call (.Name "set" p2) [a] [] q] [] pos) (tLenSetS ta) := by
  refine ⟨fun pins s σ H Q I h => Call_ (ld_blt I hg hm PySem.boot_len (callWith_builtin1 (args_cons (Call_ (ld_blt I hg2 hm2 boot_set ?_)) rfl) rfl rfl))⟩
  refine callWith_type1 (args_cons (thn (ha.run pins s σ H _ I h) fun v s1 ⟨x, H1, I1, r1, z, ex, hz, q1⟩ => args_nil ?_) na) na rfl
  subst ex
  obtain ⟨t, rfl⟩ := r1
  refine ST.call_set_text (I1.ok.hd hc) (by unfold scanBound; omega) fun h' tk hS hk => args_nil ?_
  obtain ⟨o, es, ep, t, ho, hex, hd, _, _, _, hf, hn⟩ := hS
  have I2 : Inv X pins σ H1 { s1 with heap := h', toks := tk } := I1.kept fun b o e => hk b o (Heap.lt_size e) e
  have hd2 := ST.dct_le (ST.signsOf z) z.cps.size
  exact call_len_set ho hex hd hf (by rw [hn]; omega) ⟨.int _, H1, I2.tok _, ⟨_, by rw [hn]⟩, q1⟩

/-! ### enumerate over a text, over a tuple -/
def ItS (x : Str) : It := ⟨fun i _ => i < x.cps.size,
  fun i H v H' => ∃ T c, v = .ref T ∧ H T = none ∧ H' = upd H T (.tup [.int (i : Nat), .str ⟨#[c]⟩]) ∧ x.cps[i]? = some c, fun i _ => i = x.cps.size⟩
def ItT (K : PySem.W.Frag) (a : Addr) : It := ⟨fun i H => ∃ (xs : List V) (x : V), SqT K H a xs ∧ xs[i]? = some x,
  fun i H v H' => ∃ T x, v = .ref T ∧ H T = none ∧ H' = upd H T (.tup [.int (i : Nat), x]) ∧ ∀ xs, SqT K H a xs → xs[i]? = some x, fun i H => ∃ xs : List V, SqT K H a xs ∧ i = xs.length⟩
theorem two {e it b : Addr} (h : b ∈ [e, it]) : b = e ∨ b = it := by simpa using h
theorem obj_of {h : Heap} {e it : Addr} {i : Int} {old : Value} (he : IsEnum h e it i old) {o : Obj} (ho : h.get? it = some o) {vs : Array Value} (hd : o.data = .fields vs) : ∀ b ∈ [e, it], ∃ o, h.get? b = some o ∧ ∀ v, o.data ≠ .cell v := fun b hb => by
  rcases two hb with z | z
  · rw [z]; exact ⟨_, he, fun v q => nomatch q⟩
  · rw [z]; exact ⟨o, ho, fun v q => by rw [hd] at q; cases q⟩
theorem turn_enumS {P : Program} {w : World} {K : PySem.W.Frag} {elts : List Expr} {kk : Nat} {tpos : Pos} (x : Str) (t : Tok) (e it : Addr) :
    Turn P w K (.Tuple elts kk tpos) (ItS x) [e, it] e (fun i h => (∃ old, IsEnum h e it ((i : Nat) : Int) old) ∧ h.IsStrIter it (strIterType x) x t i ∧ e ≠ it) where
  mem := List.mem_cons_self
  obj := fun i h st b hb => by
    obtain ⟨⟨old, he⟩, ⟨o, ho, _, hd⟩, _⟩ := st
    exact obj_of he ho hd b hb
  keep := fun i h h' st k => by
    obtain ⟨⟨old, he⟩, ⟨o, ho, r⟩, hne⟩ := st
    exact ⟨⟨old, k e (by simp) _ he⟩, ⟨o, k it (by simp) _ ho, r⟩, hne⟩
  item := by
    intro X hP hw hK hc i pins s σ H E I hf st hg
    subst hP hw hK
    obtain ⟨⟨old, he⟩, hit, hne⟩ := st
    have D := ZS.drawsS (prog := X.prog) (w := X.w) (A := X.A.in1) (I.ok.hd hc) it x t
    have l1 : e < s.heap.objs.size := Heap.lt_size he
    have l2 : it < s.heap.objs.size := by obtain ⟨_, q, _⟩ := hit; exact Heap.lt_size q
    refine wpAny_pyNext_enum_itemD D he hit hg hne (by simpa using hne) fun v h' tk hv ho hit' hT hsz hk => ?_
    obtain ⟨c, u, hcx, rfl⟩ := hv
    refine ⟨_, rfl, wpAny_letOwnedTupleGo_enum (s := { s with heap := h', toks := tk + 1 }) ho fun h2 he2 sb => ?_⟩
    have hT2 : h2.get? s.heap.objs.size = some { cls := .type "tuple", data := .seq #[.int i tk, .str ⟨#[c]⟩ u] } := (sb.2 _ (Nat.ne_of_gt l1)).trans hT
    have new : ObjOk X.prog X.w (upd H s.heap.objs.size (.tup [.int (i : Nat), .str ⟨#[c]⟩])) h2 s.heap.objs.size (.tup [.int (i : Nat), .str ⟨#[c]⟩]) :=
      ⟨by show 2 ≤ sizeLine; decide, [.int i tk, .str ⟨#[c]⟩ u], .cons ⟨_, rfl⟩ (.cons ⟨u, rfl⟩ .nil), ⟨_, hT2, rfl, _, rfl⟩⟩
    have I1 := I.turnedNew (t' := tk + 1) (ch := [e, it]) (fun b ob hb q => (sb.2 b (fun z => hb (by simp [z]))).trans (hk b ob (fun z => hb (by simp [z])) (fun z => hb (by simp [z])) q)) hf (Nat.le_refl _) new
    refine ⟨.ref s.heap.objs.size, _, I1, rfl, ⟨_, c, rfl, I.hok.fresh (Nat.le_refl _), rfl, hcx⟩, ⟨⟨.str ⟨#[c]⟩ u, ?_⟩, ?_, hne⟩, fun b hb => ?_⟩
    · rw [show ((i + 1 : Nat) : Int) = (i : Int) + 1 by omega]
      exact he2
    · obtain ⟨o, q, r⟩ := hit'
      exact ⟨o, (sb.2 it (Ne.symm hne)).trans q, r⟩
    · rw [upd_ne (show b ≠ s.heap.objs.size from fun q => by
        rcases two hb with z | z
        · rw [← q, z] at l1; exact Nat.lt_irrefl _ l1
        · rw [← q, z] at l2; exact Nat.lt_irrefl _ l2)]
      exact (hf b hb).1
  done := by
    intro X hP hw hK hc i pins s σ H E I hf st hg
    subst hP hw hK
    obtain ⟨⟨old, he⟩, hit, hne⟩ := st
    have hg : i = x.cps.size := hg
    subst hg
    have D := ZS.drawsS (prog := X.prog) (w := X.w) (A := X.A.in1) (I.ok.hd hc) it x t
    refine wpAny_pyNext_enum_endD D he hit fun h' eb => ⟨rfl, I.turnedL (t' := s.toks) (ch := [e, it]) (fun b o hb q => eb b o (fun z => hb (by simp [z])) q) hf⟩
  self := fun A i s Q E st h => by
    obtain ⟨⟨_, he⟩, _⟩ := st
    exact wpAny_pyIter_enum he h
theorem turn_enumT {P : Program} {w : World} {K : PySem.W.Frag} {elts : List Expr} {kk : Nat} {tpos : Pos} (a e it : Addr) :
    Turn P w K (.Tuple elts kk tpos) (ItT K a) [e, it] e (fun i h => (∃ old, IsEnum h e it ((i : Nat) : Int) old) ∧ h.IsTupleIter it a i ∧ e ≠ it ∧ a ≠ it ∧ a ≠ e) where
  mem := List.mem_cons_self
  obj := fun i h st b hb => by
    obtain ⟨⟨old, he⟩, ⟨o, ho, _, hd⟩, _⟩ := st
    exact obj_of he ho hd b hb
  keep := fun i h h' st k => by
    obtain ⟨⟨old, he⟩, ⟨o, ho, r⟩, hne⟩ := st
    exact ⟨⟨old, k e (by simp) _ he⟩, ⟨o, k it (by simp) _ ho, r⟩, hne⟩
  item := by
    intro X hP hw hK hc i pins s σ H E I hf st hg
    subst hP hw hK
    obtain ⟨⟨old, he⟩, hit, hne, hai, hae⟩ := st
    obtain ⟨xs, x, hq, hx⟩ := hg
    obtain ⟨its, rv, p, hz⟩ := I.tuple hq
    obtain ⟨u, hu, ru⟩ := rv.get hx
    have hlt : i < its.toArray.size := by
      have := (List.getElem?_eq_some_iff.mp hu).1
      simpa using this
    have D := Draws.tuple (prog := X.prog) (w := X.w) (A := X.A.in1) (I.ok.hd hc) it a hai its.toArray
    have l1 : e < s.heap.objs.size := Heap.lt_size he
    have l2 : it < s.heap.objs.size := by obtain ⟨_, q, _⟩ := hit; exact Heap.lt_size q
    have hef : e ∉ [it, a] := by
      intro q
      rcases two q with z | z
      · exact hne z
      · exact hae z.symm
    refine wpAny_pyNext_enum_itemD D he ⟨hit, p⟩ hlt hne hef fun v h' tk hv ho hit' hT hsz hk => ?_
    obtain rfl : v = u := by
      have q : its.toArray[i]? = some v := hv
      rw [List.getElem?_toArray, hu] at q
      exact (Option.some.inj q).symm
    refine ⟨_, rfl, wpAny_letOwnedTupleGo_enum (s := { s with heap := h', toks := tk + 1 }) ho fun h2 he2 sb => ?_⟩
    have hT2 : h2.get? s.heap.objs.size = some { cls := .type "tuple", data := .seq #[.int i tk, v] } := (sb.2 _ (Nat.ne_of_gt l1)).trans hT
    have new : ObjOk X.prog X.w (upd H s.heap.objs.size (.tup [.int (i : Nat), x])) h2 s.heap.objs.size (.tup [.int (i : Nat), x]) :=
      ⟨by show 2 ≤ sizeLine; decide, [.int i tk, v], .cons ⟨_, rfl⟩ (.cons ru .nil), ⟨_, hT2, rfl, _, rfl⟩⟩
    have I1 := I.turnedNew (t' := tk + 1) (ch := [e, it]) (fun b ob hb q => (sb.2 b (fun z => hb (by simp [z]))).trans (hk b ob (fun z => hb (by simp [z])) (fun z => hb (by simp [z])) q)) hf (Nat.le_refl _) new
    refine ⟨.ref s.heap.objs.size, _, I1, rfl, ⟨_, x, rfl, I.hok.fresh (Nat.le_refl _), rfl, fun ys hy => by rw [I.tuple_inj hy hq]; exact hx⟩, ⟨⟨v, ?_⟩, ?_, hne, hai, hae⟩, fun b hb => ?_⟩
    · rw [show ((i + 1 : Nat) : Int) = (i : Int) + 1 by omega]
      exact he2
    · obtain ⟨o, q, r⟩ := hit'.1
      exact ⟨o, (sb.2 it (Ne.symm hne)).trans q, r⟩
    · rw [upd_ne (show b ≠ s.heap.objs.size from fun q => by
        rcases two hb with z | z
        · rw [← q, z] at l1; exact Nat.lt_irrefl _ l1
        · rw [← q, z] at l2; exact Nat.lt_irrefl _ l2)]
      exact (hf b hb).1
  done := by
    intro X hP hw hK hc i pins s σ H E I hf st hg
    subst hP hw hK
    obtain ⟨⟨old, he⟩, hit, hne, hai, hae⟩ := st
    obtain ⟨xs, hq, hx⟩ := hg
    obtain ⟨its, rv, p, hz⟩ := I.tuple hq
    have D := Draws.tuple (prog := X.prog) (w := X.w) (A := X.A.in1) (I.ok.hd hc) it a hai its.toArray
    have hl := rv.length
    have hn : i = its.toArray.size := by
      rw [List.size_toArray]
      omega
    subst hn
    refine wpAny_pyNext_enum_endD D he ⟨hit, p⟩ fun h' eb => ⟨rfl, I.turnedL (t' := s.toks) (ch := [e, it]) (fun b o hb q => eb b o (fun z => hb (by simp [z])) q) hf⟩
  self := fun A i s Q E st h => by
    obtain ⟨⟨_, he⟩, _⟩ := st
    exact wpAny_pyIter_enum he h
theorem meets_enumT (a : Addr) (xs : Array Value) :
    Meets (Builtin.«enumerate.__new__» ⟨[.type "enumerate", .ref a], []⟩) (fun _ R s => s.heap.IsTuple a xs ∧
      R (.ok (.ret (.ref (s.heap.push { cls := .type "tuple_iterator", data := .fields #[.ref a, .int 0 0] }).objs.size)))
        { s with heap := (s.heap.push { cls := .type "tuple_iterator", data := .fields #[.ref a, .int 0 0] }).push { cls := .type "enumerate", data := .fields #[.none, .bool false, .ref s.heap.objs.size, rawInt 0, .none, .none] } }) :=
  .of_wp fun prog w A R s h => by
    obtain ⟨hp, g, d, tk, os⟩ := s
    obtain ⟨hl, h⟩ := h
    have hsub := sub_enumerate
    have hL : Heap.IsTuple (Shared.heap ⟨hp, g, d, tk, os⟩) a xs := hl
    wp_walk
    refine wpAny_stack_any fun st => wpAny_pure ?_
    split
    · rename_i c _ _ _ _ _
      cases (c == Value.type "enumerate")
      all_goals
        wp_walk using wpAny_pyIter_tuple hL
        exact ⟨_, rfl, h⟩
    · wp_walk using wpAny_pyIter_tuple hL
      exact ⟨_, rfl, h⟩
section
variable {X : Cx}
def iEnumS (ta : TA) : TI := fun σ H R => ta σ H fun vs H1 => ∃ x, vs = [.str x] ∧ R (ItS x) H1
theorem pi_enumS {e : Expr} {ta : TA} {p pos tpos : Pos} {elts : List Expr} {kk : Nat} (hg : Gl X "enumerate") (hm : X.mg "enumerate" = none) (ha : PA X [e] ta) (hs : starEach [e] X.env = [(false, eval e X.env)] := by rfl) :
    PI X (.Tuple elts kk tpos) (.Call (.Name "enumerate" p) [e] [] pos) (iEnumS ta) := by
  refine ⟨fun pins s σ H R I h => Call_ (ld_blt I hg hm boot_enumerate (callWith_type1 (thn (ha.run pos pins s σ H _ I h) fun us s1 ⟨vs, H1, I1, r1, q1⟩ => ?_) hs rfl))⟩
  obtain ⟨x, ex, q⟩ := q1
  subst ex
  cases r1 with
  | cons r rr =>
    cases rr
    obtain ⟨t, rfl⟩ := r
    refine call_enumerate_str fun h' he hit hsz hk => wpAny_pyIter_enum he ?_
    refine ⟨s1.heap.objs.size + 1, _, _, _, H1, rfl, I1.kept (t' := s1.toks) hk, turn_enumS x t (s1.heap.objs.size + 1) s1.heap.objs.size, ⟨⟨.none, he⟩, hit, Nat.succ_ne_self _⟩, fun b hb => ?_, q⟩
    have hle : s1.heap.objs.size ≤ b := by
      rcases two hb with z | z <;> rw [z] <;> first | exact Nat.le_add_right _ _ | exact Nat.le_refl _
    exact I1.fpOk hle (I1.hok.fresh hle)
def iEnumT (K : PySem.W.Frag) (ta : TA) : TI := fun σ H R => ta σ H fun vs H1 => ∃ a xs, vs = [.ref a] ∧ SqT K H1 a xs ∧ R (ItT K a) H1
theorem pi_enumT {e : Expr} {ta : TA} {p pos tpos : Pos} {elts : List Expr} {kk : Nat} (hg : Gl X "enumerate") (hm : X.mg "enumerate" = none) (ha : PA X [e] ta) (hs : starEach [e] X.env = [(false, eval e X.env)] := by rfl) :
    PI X (.Tuple elts kk tpos) (.Call (.Name "enumerate" p) [e] [] pos) (iEnumT X.K ta) := by
  refine ⟨fun pins s σ H R I h => Call_ (ld_blt I hg hm boot_enumerate (callWith_type1 (thn (ha.run pos pins s σ H _ I h) fun us s1 ⟨vs, H1, I1, r1, q1⟩ => ?_) hs rfl))⟩
  obtain ⟨a, xs, ex, hq, q⟩ := q1
  subst ex
  cases r1 with
  | cons r rr =>
    cases rr
    cases r
    obtain ⟨its, rv, p', hz⟩ := I1.tuple hq
    obtain ⟨oa, hoa, _⟩ := id p'
    have la : a < s1.heap.objs.size := Heap.lt_size hoa
    refine callType_new F.called_enumerate (by decide) (F.typeCall_enumerate_1 _) (F.newCall_enumerate_1 _) (fun obj => F.args_object_init_2 obj _) F.entry_enumerate_new (meets_enumT a its.toArray) ⟨p', ?_⟩
    have hz : (s1.heap.push { cls := .type "tuple_iterator", data := .fields #[.ref a, .int 0 0] }).objs.size = s1.heap.objs.size + 1 := Heap.size_push ..
    show _ ∧ _
    rw [hz]
    have g1 := Heap.get?_push_size (s1.heap.push { cls := .type "tuple_iterator", data := .fields #[.ref a, .int 0 0] }) (o := { cls := .type "enumerate", data := .fields #[.none, .bool false, .ref s1.heap.objs.size, rawInt 0, .none, .none] }) rfl
    rw [hz] at g1
    have he : IsEnum ((s1.heap.push { cls := .type "tuple_iterator", data := .fields #[.ref a, .int 0 0] }).push { cls := .type "enumerate", data := .fields #[.none, .bool false, .ref s1.heap.objs.size, rawInt 0, .none, .none] }) (s1.heap.objs.size + 1) s1.heap.objs.size 0 .none := g1
    refine ⟨⟨_, he, rfl⟩, wpAny_pyIter_enum he ?_⟩
    refine ⟨s1.heap.objs.size + 1, _, _, _, H1, rfl, I1.kept (t' := s1.toks) fun b o e => Heap.get?_push_of_some _ (Heap.get?_push_of_some _ e), turn_enumT a (s1.heap.objs.size + 1) s1.heap.objs.size,
      ⟨⟨.none, he⟩, ⟨_, Heap.get?_push_of_some _ (Heap.get?_push_size _ rfl), rfl, rfl⟩, Nat.succ_ne_self _, Nat.ne_of_lt la, Nat.ne_of_lt (Nat.lt_succ_of_lt la)⟩, fun b hb => ?_, q⟩
    have hle : s1.heap.objs.size ≤ b := by
      rcases two hb with z | z <;> rw [z] <;> first | exact Nat.le_add_right _ _ | exact Nat.le_refl _
    exact I1.fpOk hle (I1.hok.fresh hle)
end
/-! ### loops over them -/
theorem for_enumS {x : Str} {g : TG} {tb : TS} {D : Ends} {σ : L2.St} {H : Hp} (Pv : Nat → L2.St → Hp → Prop) (h0 : Pv 0 σ H)
    (hs : ∀ (i c : Nat) (T : Addr) (σ : L2.St) (H : Hp), x.cps[i]? = some c → Pv i σ H → H T = none → g (.ref T) σ (upd H T (.tup [.int (i : Nat), .str ⟨#[c]⟩])) fun σ2 H2 => tb { D with nx := Pv (i + 1), ct := Pv (i + 1), bk := D.nx } σ2 H2)
    (hd : ∀ σ H, Pv x.cps.size σ H → D.nx σ H) :
    ∃ W : Nat → Nat → L2.St → Hp → Prop, (∃ m, W 0 m σ H) ∧ ∀ i m σ H, W i m σ H →
      ((ItS x).stop i H ∧ D.nx σ H) ∨ ((ItS x).go i H ∧ ∃ N : L2.St → Hp → Prop, (∀ σ' H', N σ' H' → ∃ m', m' < m ∧ W (i + 1) m' σ' H') ∧ ∀ v H', (ItS x).yld i H v H' → g v σ H' fun σ2 H2 => tb { D with nx := N, ct := N, bk := D.nx } σ2 H2) := by
  refine ⟨fun i m σ H => i + m = x.cps.size ∧ Pv i σ H, ⟨_, Nat.zero_add _, h0⟩, ?_⟩
  rintro i m σ H ⟨e, p⟩
  by_cases hm : m = 0
  · have e2 : i = x.cps.size := by omega
    refine .inl ⟨e2, hd σ H ?_⟩
    rw [← e2]
    exact p
  · refine .inr ⟨show i < x.cps.size by omega, Pv (i + 1), fun σ' H' p' => ⟨m - 1, by omega, by omega, p'⟩, ?_⟩
    rintro v H' ⟨T, c, rfl, hT, rfl, hc⟩
    exact hs i c T σ H hc p hT
theorem for_enumT {K : PySem.W.Frag} {a : Addr} {xs : List V} {g : TG} {tb : TS} {D : Ends} {σ : L2.St} {H : Hp} (Pv : Nat → L2.St → Hp → Prop) (h0 : Pv 0 σ H) (hq : ∀ i σ H, Pv i σ H → SqT K H a xs)
    (hs : ∀ (i : Nat) (x : V) (T : Addr) (σ : L2.St) (H : Hp), xs[i]? = some x → Pv i σ H → H T = none → g (.ref T) σ (upd H T (.tup [.int (i : Nat), x])) fun σ2 H2 => tb { D with nx := Pv (i + 1), ct := Pv (i + 1), bk := D.nx } σ2 H2)
    (hd : ∀ σ H, Pv xs.length σ H → D.nx σ H) :
    ∃ W : Nat → Nat → L2.St → Hp → Prop, (∃ m, W 0 m σ H) ∧ ∀ i m σ H, W i m σ H →
      ((ItT K a).stop i H ∧ D.nx σ H) ∨ ((ItT K a).go i H ∧ ∃ N : L2.St → Hp → Prop, (∀ σ' H', N σ' H' → ∃ m', m' < m ∧ W (i + 1) m' σ' H') ∧ ∀ v H', (ItT K a).yld i H v H' → g v σ H' fun σ2 H2 => tb { D with nx := N, ct := N, bk := D.nx } σ2 H2) := by
  refine ⟨fun i m σ H => i + m = xs.length ∧ Pv i σ H, ⟨_, Nat.zero_add _, h0⟩, ?_⟩
  rintro i m σ H ⟨e, p⟩
  by_cases hm : m = 0
  · have e2 : i = xs.length := by omega
    refine .inl ⟨⟨xs, hq i σ H p, e2⟩, hd σ H ?_⟩
    rw [← e2]
    exact p
  · have hi : i < xs.length := by omega
    refine .inr ⟨⟨xs, xs[i], hq i σ H p, List.getElem?_eq_getElem hi⟩, Pv (i + 1), fun σ' H' p' => ⟨m - 1, by omega, by omega, p'⟩, ?_⟩
    rintro v H' ⟨T, x, rfl, hT, rfl, hx⟩
    exact hs i x T σ H (hx xs (hq i σ H p)) p hT
theorem for_enumL {K : PySem.W.Frag} {a : Addr} {xs : List V} {g : TG} {tb : TS} {D : Ends} {σ : L2.St} {H : Hp} (Pv : Nat → L2.St → Hp → Prop) (h0 : Pv 0 σ H) (hq : ∀ i σ H, Pv i σ H → SqL K H a xs)
    (hs : ∀ (i : Nat) (x : V) (T : Addr) (σ : L2.St) (H : Hp), xs[i]? = some x → Pv i σ H → H T = none → g (.ref T) σ (upd H T (.tup [.int (i : Nat), x])) fun σ2 H2 => tb { D with nx := Pv (i + 1), ct := Pv (i + 1), bk := D.nx } σ2 H2)
    (hd : ∀ σ H, Pv xs.length σ H → D.nx σ H) :
    ∃ W : Nat → Nat → L2.St → Hp → Prop, (∃ m, W 0 m σ H) ∧ ∀ i m σ H, W i m σ H →
      ((Ite K a).stop i H ∧ D.nx σ H) ∨ ((Ite K a).go i H ∧ ∃ N : L2.St → Hp → Prop, (∀ σ' H', N σ' H' → ∃ m', m' < m ∧ W (i + 1) m' σ' H') ∧ ∀ v H', (Ite K a).yld i H v H' → g v σ H' fun σ2 H2 => tb { D with nx := N, ct := N, bk := D.nx } σ2 H2) := by
  refine ⟨fun i m σ H => i + m = xs.length ∧ Pv i σ H, ⟨_, Nat.zero_add _, h0⟩, ?_⟩
  rintro i m σ H ⟨e, p⟩
  by_cases hm : m = 0
  · have e2 : i = xs.length := by omega
    refine .inl ⟨⟨xs, hq i σ H p, by omega⟩, hd σ H ?_⟩
    rw [← e2]
    exact p
  · have hi : i < xs.length := by omega
    refine .inr ⟨⟨xs, xs[i], hq i σ H p, List.getElem?_eq_getElem hi⟩, Pv (i + 1), fun σ' H' p' => ⟨m - 1, by omega, by omega, p'⟩, ?_⟩
    rintro v H' ⟨T, x, rfl, hT, rfl, hx⟩
    exact hs i x T σ H (hx xs (hq i σ H p)) p hT
end EN

namespace TR
open PySem PySem.Spec PyProof.Rows L2 Evl
/-- a list or a tuple of these -/
def ob (k : Bool) (xs : List V) : HO := if k = true then .tup xs else .lst xs
theorem ob_seq {K : PySem.W.Frag} {H : Hp} {a : Addr} {k : Bool} {xs : List V} (h : H a = some (ob k xs)) : SqL K H a xs ∨ SqT K H a xs := by
  cases k
  · exact .inl (sq_of h)
  · exact .inr (st_of h)
theorem ob_list {K : PySem.W.Frag} {H : Hp} {a : Addr} {k : Bool} {xs : List V} (h : H a = some (ob k xs)) : TyX K H (.ref a) (if k = true then .type "tuple" else .type "list") := by
  cases k
  · exact .base (.lst h)
  · exact .base (.tup h)
theorem ob_ne {k : Bool} {xs : List V} {kvs : List (Key × V)} : ob k xs ≠ .dK kvs := by
  cases k <;> intro h <;> cases h
section
variable {X : Cx} {pos : Pos}
/-- a, b, .. = a list or a tuple of that length -/
def gSeq (K : PySem.W.Frag) (n : Nat) (t : TGs) : TG := fun v σ H Q => gUnl K n t v σ H Q ∨ gTup K n t v σ H Q
theorem pg_seq {es : List Expr} {k : Nat} {t : TGs} {n : Nat} (hc : X.calm = true) (h : PGs X es t)
    (hn : (assignEach es X.env).length = n := by rfl) (hst : (assignEach es X.env).findIdx? (·.1) = none := by rfl) : PG X (.Tuple es k pos) (gSeq X.K n t) := by
  refine ⟨fun pins s σ H v u Q I r hw => ?_⟩
  rcases hw with hw | hw
  · exact (pg_unl hc h hn hst).run pins s σ H v u Q I r hw
  · exact (pg_tup hc h hn hst).run pins s σ H v u Q I r hw
theorem gSeq_of {K : PySem.W.Frag} {n : Nat} {t : TGs} {H : Hp} {a : Addr} {k : Bool} {xs : List V} {σ : L2.St} {Q : L2.St → Hp → Prop} (h : H a = some (ob k xs)) (hl : xs.length = n) (q : t xs σ H Q) : gSeq K n t (.ref a) σ H Q := by
  cases k
  · exact .inl ⟨a, xs, rfl, sq_of h, hl, q⟩
  · exact .inr ⟨a, xs, rfl, st_of h, hl, q⟩
/-- a walk over either -/
def iSeq (K : PySem.W.Frag) (te : TE) : TI := fun σ H R => iList K te σ H R ∨ iTup K te σ H R
theorem pi_seq {tg e : Expr} {te : TE} (he : PE X e te) : PI X tg e (iSeq X.K te) := by
  refine ⟨fun pins s σ H R I h => ?_⟩
  rcases h with h | h
  · exact (pi_list he).run pins s σ H R I h
  · exact (pi_tup he).run pins s σ H R I h
def iEnumQ (K : PySem.W.Frag) (ta : TA) : TI := fun σ H R => iEnum K ta σ H R ∨ EN.iEnumT K ta σ H R
theorem pi_enumQ {e : Expr} {ta : TA} {p tpos : Pos} {elts : List Expr} {kk : Nat} (hg : Gl X "enumerate") (hm : X.mg "enumerate" = none) (ha : PA X [e] ta) (hs : starEach [e] X.env = [(false, eval e X.env)] := by rfl) :
    PI X (.Tuple elts kk tpos) (.Call (.Name "enumerate" p) [e] [] pos) (iEnumQ X.K ta) := by
  refine ⟨fun pins s σ H R I h => ?_⟩
  rcases h with h | h
  · exact (pi_enum hg hm ha hs).run pins s σ H R I h
  · exact (EN.pi_enumT hg hm ha hs).run pins s σ H R I h
theorem ix_at {K : PySem.W.Frag} {H : Hp} {a : Addr} {k : Bool} {xs : List V} {i : Int} {v : V} {Q : VK} (h : H a = some (ob k xs)) (hi : atI xs i = some v) (q : Q v H) : rIx K (.ref a) (.int i) H Q := by
  cases k
  · exact .inl ⟨a, xs, i, v, rfl, rfl, sq_of h, hi, q⟩
  · exact .inr (.inl ⟨a, xs, i, v, rfl, rfl, st_of h, hi, q⟩)
end
/-! ### trees -/
mutual
inductive Tr where
  | go (s q : Nat) : Tr
  | tell (n : Nat) (t : Tr) : Tr
  | read (p : Nat) (ts : Trs) : Tr
inductive Trs where
  | nil : Trs
  | cons (t : Tr) (r : Trs) : Trs
end
def Trs.list : Trs → List Tr
  | .nil => []
  | .cons t r => t :: r.list
mutual
def Tr.size : Tr → Nat
  | .go _ _ => 1
  | .tell _ t => t.size + 1
  | .read _ ts => ts.size + 1
def Trs.size : Trs → Nat
  | .nil => 0
  | .cons t r => t.size + r.size
end
mutual
def Tr.depth : Tr → Nat
  | .go _ _ => 1
  | .tell _ t => t.depth + 1
  | .read _ ts => ts.depth + 1
def Trs.depth : Trs → Nat
  | .nil => 0
  | .cons t r => max t.depth r.depth
end
/-! as described, for so many letters, this width, so many states -/
mutual
def Tr.ok (l w n : Nat) : Tr → Prop
  | .go s q => 1 ≤ s ∧ s ≤ w + 1 ∧ q < n
  | .tell k t => k ≤ 2 ∧ t.ok l w n
  | .read p ts => p ≤ w ∧ ts.list.length = l ∧ ts.ok l w n
def Trs.ok (l w n : Nat) : Trs → Prop
  | .nil => True
  | .cons t r => t.ok l w n ∧ r.ok l w n
end
/-- the trees within -/
def Tr.kids : Tr → List Tr
  | .go _ _ => []
  | .tell _ t => [t]
  | .read _ ts => ts.list
/-! how a tree stands in memory, of lists or of tuples -/
mutual
inductive TA (k : Bool) (H : Hp) : V → Tr → Prop
  | go {a : Addr} {s q : Nat} : H a = some (ob k [.str "go", .int (s : Nat), .int (q : Nat)]) → TA k H (.ref a) (.go s q)
  | tell {a : Addr} {n : Nat} {v : V} {t : Tr} : H a = some (ob k [.str "tell", .int (n : Nat), v]) → TA k H v t → TA k H (.ref a) (.tell n t)
  | read {a b : Addr} {p : Nat} {vs : List V} {ts : Trs} : H a = some (ob k [.str "read", .int (p : Nat), .ref b]) → H b = some (ob k vs) → TAs k H vs ts → TA k H (.ref a) (.read p ts)
inductive TAs (k : Bool) (H : Hp) : List V → Trs → Prop
  | nil : TAs k H [] .nil
  | cons {v : V} {vs : List V} {t : Tr} {r : Trs} : TA k H v t → TAs k H vs r → TAs k H (v :: vs) (.cons t r)
end
mutual
theorem TA.ex {k : Bool} {H H' : Hp} (e : Ex H H') : ∀ {t : Tr} {v : V}, TA k H v t → TA k H' v t
  | _, _, .go h => .go (e _ _ h)
  | _, _, .tell h r => .tell (e _ _ h) (TA.ex e r)
  | _, _, .read h1 h2 r => .read (e _ _ h1) (e _ _ h2) (TAs.ex e r)
theorem TAs.ex {k : Bool} {H H' : Hp} (e : Ex H H') : ∀ {ts : Trs} {vs : List V}, TAs k H vs ts → TAs k H' vs ts
  | _, _, .nil => .nil
  | _, _, .cons h r => .cons (TA.ex e h) (TAs.ex e r)
end
/-- a list of trees as it stands -/
inductive Kids (k : Bool) (H : Hp) : List V → List Tr → Prop
  | nil : Kids k H [] []
  | cons {v : V} {vs : List V} {t : Tr} {r : List Tr} : TA k H v t → Kids k H vs r → Kids k H (v :: vs) (t :: r)
theorem TAs.kids {k : Bool} {H : Hp} : ∀ {ts : Trs} {vs : List V}, TAs k H vs ts → Kids k H vs ts.list
  | _, _, .nil => .nil
  | _, _, .cons h r => .cons h r.kids
theorem Kids.ex {k : Bool} {H H' : Hp} (e : Ex H H') : ∀ {vs : List V} {ts : List Tr}, Kids k H vs ts → Kids k H' vs ts
  | _, _, .nil => .nil
  | _, _, .cons h r => .cons (h.ex e) (Kids.ex e r)
theorem Kids.len {k : Bool} {H : Hp} : ∀ {vs : List V} {ts : List Tr}, Kids k H vs ts → vs.length = ts.length
  | _, _, .nil => rfl
  | _, _, .cons _ r => by rw [List.length_cons, List.length_cons, r.len]
theorem Kids.get {k : Bool} {H : Hp} : ∀ {vs : List V} {ts : List Tr} {i : Nat} {x : V}, Kids k H vs ts → vs[i]? = some x → ∃ t, ts[i]? = some t ∧ TA k H x t
  | _, _, _, _, .nil, h => by cases h
  | _, _, 0, _, .cons (t := t) h1 _, h => ⟨t, rfl, by rw [← Option.some.inj h]; exact h1⟩
  | _, _, i + 1, _, .cons _ r, h => Kids.get (i := i) r h
theorem Kids.snoc {k : Bool} {H : Hp} {v : V} {t : Tr} (h : TA k H v t) : ∀ {vs : List V} {ts : List Tr}, Kids k H vs ts → Kids k H (vs ++ [v]) (ts ++ [t])
  | _, _, .nil => .cons h .nil
  | _, _, .cons h1 r => .cons h1 (Kids.snoc h r)
theorem Kids.app {k : Bool} {H : Hp} : ∀ {vs : List V} {ts : List Tr} {us : List V} {rs : List Tr}, Kids k H vs ts → Kids k H us rs → Kids k H (vs ++ us) (ts ++ rs)
  | _, _, _, _, .nil, h => h
  | _, _, _, _, .cons h r, h2 => .cons h (Kids.app r h2)
theorem size_pos : ∀ t : Tr, 1 ≤ t.size
  | .go _ _ => Nat.le_refl 1
  | .tell _ t => by
    show 1 ≤ t.size + 1
    omega
  | .read _ ts => by
    show 1 ≤ ts.size + 1
    omega
def total (ts : List Tr) : Nat := (ts.map Tr.size).sum
theorem Trs.total : ∀ ts : Trs, TR.total ts.list = ts.size
  | .nil => rfl
  | .cons t r => by
    show t.size + TR.total r.list = t.size + r.size
    rw [Trs.total r]
theorem size_kids : ∀ t : Tr, t.size = TR.total t.kids + 1
  | .go _ _ => rfl
  | .tell _ t => rfl
  | .read _ ts => by
    show ts.size + 1 = TR.total ts.list + 1
    rw [Trs.total]
theorem Trs.ok_mem {l w n : Nat} : ∀ {ts : Trs}, ts.ok l w n → ∀ t ∈ ts.list, t.ok l w n
  | .nil, _, _, h => nomatch h
  | .cons t r, h, x, hx => by
    rcases List.mem_cons.mp hx with q | q
    · rw [q]
      exact h.1
    · exact Trs.ok_mem h.2 x q
theorem ok_kids {l w n : Nat} : ∀ {t : Tr}, t.ok l w n → ∀ x ∈ t.kids, x.ok l w n
  | .go _ _, _, _, h => nomatch h
  | .tell _ t, h, x, hx => by
    rw [List.mem_singleton.mp hx]
    exact h.2
  | .read _ ts, h, x, hx => Trs.ok_mem h.2.2 x hx
theorem Trs.depth_mem : ∀ {ts : Trs}, ∀ t ∈ ts.list, t.depth ≤ ts.depth
  | .nil, _, h => nomatch h
  | .cons t r, x, hx => by
    rcases List.mem_cons.mp hx with q | q
    · rw [q]
      exact Nat.le_max_left _ _
    · exact Nat.le_trans (Trs.depth_mem x q) (Nat.le_max_right _ _)
theorem depth_kids : ∀ {t : Tr}, ∀ x ∈ t.kids, x.depth + 1 ≤ t.depth
  | .go _ _, _, h => nomatch h
  | .tell _ t, x, hx => by
    rw [List.mem_singleton.mp hx]
    exact Nat.le_refl _
  | .read _ ts, x, hx => Nat.succ_le_succ (Trs.depth_mem x hx)
end TR

namespace Law
open PySem PySem.Spec PyProof.Rows L2 Evl
def top (i : Nat) : Stmt := PySem.Challenge.pw_wordskips_k45_best_made.main.body.getD i (.Pass ⟨0, 0, 0, 0⟩)
abbrev s_is_list : Stmt := top 2
abbrev N_is_list : List Str := ["value"]
theorem sc_is_list : FnScope N_is_list ["value"] (defScope s_is_list) := ⟨rfl, rfl, rfl, by decide +kernel, rfl, by decide +kernel, by decide +kernel⟩
abbrev s_is_integer : Stmt := top 3
abbrev N_is_integer : List Str := ["value"]
theorem sc_is_integer : FnScope N_is_integer ["value"] (defScope s_is_integer) := ⟨rfl, rfl, rfl, by decide +kernel, rfl, by decide +kernel, by decide +kernel⟩
abbrev s_is_whole : Stmt := top 4
abbrev N_is_whole : List Str := ["value", "low", "high"]
theorem sc_is_whole : FnScope N_is_whole ["value", "low", "high"] (defScope s_is_whole) := ⟨rfl, rfl, rfl, by decide +kernel, rfl, by decide +kernel, by decide +kernel⟩
abbrev s_are_letters : Stmt := top 5
abbrev N_are_letters : List Str := ["value", "sign"]
theorem sc_are_letters : FnScope N_are_letters ["value"] (defScope s_are_letters) := ⟨rfl, rfl, rfl, by decide +kernel, rfl, by decide +kernel, by decide +kernel⟩
abbrev s_wrong_sign : Stmt := top 6
abbrev N_wrong_sign : List Str := ["letters", "text", "place", "sign"]
theorem sc_wrong_sign : FnScope N_wrong_sign ["letters", "text"] (defScope s_wrong_sign) := ⟨rfl, rfl, rfl, by decide +kernel, rfl, by decide +kernel, by decide +kernel⟩
abbrev s_wrong_word : Stmt := top 7
abbrev N_wrong_word : List Str := ["letters", "words", "place", "word"]
theorem sc_wrong_word : FnScope N_wrong_word ["letters", "words"] (defScope s_wrong_word) := ⟨rfl, rfl, rfl, by decide +kernel, rfl, by decide +kernel, by decide +kernel⟩
abbrev s_is_word : Stmt := top 8
abbrev N_is_word : List Str := ["letters", "value"]
theorem sc_is_word : FnScope N_is_word ["letters", "value"] (defScope s_is_word) := ⟨rfl, rfl, rfl, by decide +kernel, rfl, by decide +kernel, by decide +kernel⟩
abbrev s_kept : Stmt := top 18
abbrev N_kept : List Str := ["value", "part", "key"]
theorem sc_kept : FnScope N_kept ["value"] (defScope s_kept) := ⟨rfl, rfl, rfl, by decide +kernel, rfl, by decide +kernel, by decide +kernel⟩
abbrev s_check_words : Stmt := top 20
abbrev N_check_words : List Str := ["letters", "words", "place"]
theorem sc_check_words : FnScope N_check_words ["letters", "words"] (defScope s_check_words) := ⟨rfl, rfl, rfl, by decide +kernel, rfl, by decide +kernel, by decide +kernel⟩
abbrev s_fits : Stmt := top 21
abbrev N_fits : List Str := ["known", "word", "offset", "signs", "sign", "letter"]
theorem sc_fits : FnScope N_fits ["known", "word", "offset"] (defScope s_fits) := ⟨rfl, rfl, rfl, by decide +kernel, rfl, by decide +kernel, by decide +kernel⟩
abbrev s_slid : Stmt := top 22
abbrev N_slid : List Str := ["known", "by"]
theorem sc_slid : FnScope N_slid ["known", "by"] (defScope s_slid) := ⟨rfl, rfl, rfl, by decide +kernel, rfl, by decide +kernel, by decide +kernel⟩
abbrev s_first_wrong : Stmt := top 27
abbrev N_first_wrong : List Str := ["tree", "letters", "width", "states", "waiting", "number", "part", "depth", "inner"]
theorem sc_first_wrong : FnScope N_first_wrong ["tree", "letters", "width", "states"] (defScope s_first_wrong) := ⟨rfl, rfl, rfl, by decide +kernel, rfl, by decide +kernel, by decide +kernel⟩
abbrev s_all_parts : Stmt := top 28
abbrev N_all_parts : List Str := ["tree", "waiting", "found", "part", "inner"]
theorem sc_all_parts : FnScope N_all_parts ["tree"] (defScope s_all_parts) := ⟨rfl, rfl, rfl, by decide +kernel, rfl, by decide +kernel, by decide +kernel⟩
abbrev s_renamed : Stmt := top 29
abbrev N_renamed : List Str := ["tree", "names", "head", "number", "rest", "inner"]
theorem sc_renamed : FnScope N_renamed ["tree", "names"] (defScope s_renamed) := ⟨rfl, rfl, rfl, by decide +kernel, rfl, by decide +kernel, by decide +kernel⟩
abbrev s_is_part : Stmt := top 32
abbrev N_is_part : List Str := ["part", "letters", "width", "states", "head", "number", "rest"]
theorem sc_is_part : FnScope N_is_part ["part", "letters", "width", "states"] (defScope s_is_part) := ⟨rfl, rfl, rfl, by decide +kernel, rfl, by decide +kernel, by decide +kernel⟩
abbrev s_within : Stmt := top 33
abbrev N_within : List Str := ["part"]
theorem sc_within : FnScope N_within ["part"] (defScope s_within) := ⟨rfl, rfl, rfl, by decide +kernel, rfl, by decide +kernel, by decide +kernel⟩
abbrev s_best : Stmt := top 49
abbrev N_best : List Str := ["letters", "words", "order", "behind"]
theorem sc_best : FnScope N_best ["letters", "words", "order", "behind"] (defScope s_best) := ⟨rfl, rfl, rfl, by decide +kernel, rfl, by decide +kernel, by decide +kernel⟩
abbrev s_is_order : Stmt := top 50
abbrev N_is_order : List Str := ["value", "width", "place"]
theorem sc_is_order : FnScope N_is_order ["value", "width"] (defScope s_is_order) := ⟨rfl, rfl, rfl, by decide +kernel, rfl, by decide +kernel, by decide +kernel⟩
abbrev s_lpen : Stmt := top 52
abbrev N_lpen : List Str := ["_law_script"]
theorem sc_lpen : FnScope N_lpen ["_law_script"] (defScope s_lpen) := ⟨rfl, rfl, rfl, by decide +kernel, rfl, by decide +kernel, by decide +kernel⟩
abbrev s_ldraw : Stmt := top 53
abbrev N_ldraw : List Str := ["_law_pen", "_law_many", "_law_digit", "_law_index", "_law_cell", "_law_mixed"]
theorem sc_ldraw : FnScope N_ldraw ["_law_pen", "_law_many"] (defScope s_ldraw) := ⟨rfl, rfl, rfl, by decide +kernel, rfl, by decide +kernel, by decide +kernel⟩
abbrev s_lpick : Stmt := top 54
abbrev N_lpick : List Str := ["_law_pen", "_law_items"]
theorem sc_lpick : FnScope N_lpick ["_law_pen", "_law_items"] (defScope s_lpick) := ⟨rfl, rfl, rfl, by decide +kernel, rfl, by decide +kernel, by decide +kernel⟩
abbrev s_lshuffled : Stmt := top 55
abbrev N_lshuffled : List Str := ["_law_pen", "_law_items", "_law_rest", "_law_found"]
theorem sc_lshuffled : FnScope N_lshuffled ["_law_pen", "_law_items"] (defScope s_lshuffled) := ⟨rfl, rfl, rfl, by decide +kernel, rfl, by decide +kernel, by decide +kernel⟩
abbrev s_lfits : Stmt := top 56
abbrev N_lfits : List Str := ["_law_known", "_law_word", "_law_by", "_law_k"]
theorem sc_lfits : FnScope N_lfits ["_law_known", "_law_word", "_law_by"] (defScope s_lfits) := ⟨rfl, rfl, rfl, by decide +kernel, rfl, by decide +kernel, by decide +kernel⟩
abbrev s_lleast : Stmt := top 57
abbrev N_lleast : List Str := ["_law_words", "_law_known", "_law_by", "_law_word"]
theorem sc_lleast : FnScope N_lleast ["_law_words", "_law_known"] (defScope s_lleast) := ⟨rfl, rfl, rfl, by decide +kernel, rfl, by decide +kernel, by decide +kernel⟩
abbrev s_lsome_word : Stmt := top 58
abbrev N_lsome_word : List Str := ["_law_pen", "_law_letters", "_law_width", "_law_k"]
theorem sc_lsome_word : FnScope N_lsome_word ["_law_pen", "_law_letters", "_law_width"] (defScope s_lsome_word) := ⟨rfl, rfl, rfl, by decide +kernel, rfl, by decide +kernel, by decide +kernel⟩
abbrev s_lsome_words : Stmt := top 59
abbrev N_lsome_words : List Str := ["_law_pen", "_law_letters", "_law_width", "_law_most", "_law_found", "_law_k", "_law_word"]
theorem sc_lsome_words : FnScope N_lsome_words ["_law_pen", "_law_letters", "_law_width", "_law_most"] (defScope s_lsome_words) := ⟨rfl, rfl, rfl, by decide +kernel, rfl, by decide +kernel, by decide +kernel⟩
abbrev s_lmet : Stmt := top 60
abbrev N_lmet : List Str := ["_law_call", "e"]
theorem sc_lmet : FnScope N_lmet ["_law_call"] (defScope s_lmet) := ⟨rfl, rfl, rfl, by decide +kernel, rfl, by decide +kernel, by decide +kernel⟩
abbrev s_lput : Stmt := top 61
abbrev N_lput : List Str := ["_law_known", "_law_place", "_law_letter"]
theorem sc_lput : FnScope N_lput ["_law_known", "_law_place", "_law_letter"] (defScope s_lput) := ⟨rfl, rfl, rfl, by decide +kernel, rfl, by decide +kernel, by decide +kernel⟩
abbrev s_lsize : Stmt := top 62
abbrev N_lsize : List Str := ["_law_world", "_law_known", "_law_size_here", "_law_place"]
theorem sc_lsize : FnScope N_lsize ["_law_world", "_law_known"] (defScope s_lsize) := ⟨rfl, rfl, rfl, by decide +kernel, rfl, by decide +kernel, by decide +kernel⟩
abbrev s_lleaf : Stmt := top 63
abbrev N_lleaf : List Str := ["_law_world", "_law_met_here", "_law_known", "_law_by", "_law_view", "_law_memory", "_law_place"]
theorem sc_lleaf : FnScope N_lleaf ["_law_world", "_law_met_here", "_law_known"] (defScope s_lleaf) := ⟨rfl, rfl, rfl, by decide +kernel, rfl, by decide +kernel, by decide +kernel⟩
abbrev s_ltree : Stmt := top 64
abbrev N_ltree : List Str := ["_law_world", "_law_met_here", "_law_known", "_law_at", "_law_width", "_law_word", "_law_place", "_law_parts", "_law_letter", "_law_found", "_law_k", "_law_tree_here"]
theorem sc_ltree : FnScope N_ltree ["_law_world", "_law_met_here", "_law_known", "_law_at"] (defScope s_ltree) := ⟨rfl, rfl, rfl, by decide +kernel, rfl, by decide +kernel, by decide +kernel⟩
abbrev s_lstates : Stmt := top 65
abbrev N_lstates : List Str := ["_law_world", "_law_met_here", "_law_found", "_law_known"]
theorem sc_lstates : FnScope N_lstates ["_law_world"] (defScope s_lstates) := ⟨rfl, rfl, rfl, by decide +kernel, rfl, by decide +kernel, by decide +kernel⟩
abbrev s_lare_refused : Stmt := top 66
abbrev N_lare_refused : List Str := ["_law_pen", "_law_letters", "_law_words", "_law_order", "_law_odd", "_law_bad", "_law_some"]
theorem sc_lare_refused : FnScope N_lare_refused ["_law_pen", "_law_letters", "_law_words", "_law_order"] (defScope s_lare_refused) := ⟨rfl, rfl, rfl, by decide +kernel, rfl, by decide +kernel, by decide +kernel⟩
abbrev s_law : Stmt := top 67
abbrev N_law : List Str := ["_law_script", "_law_pen", "_law_turn", "_law_letters", "_law_width", "_law_words", "_law_order", "_law_world", "_law_due", "_law_handed"]
theorem sc_law : FnScope N_law ["_law_script"] (defScope s_law) := ⟨rfl, rfl, rfl, by decide +kernel, rfl, by decide +kernel, by decide +kernel⟩
abbrev s_BadLetters_init : Stmt := inClass (top 11) 0
abbrev N_BadLetters_init : List Str := ["self", "letters"]
theorem sc_BadLetters_init : FnScope N_BadLetters_init ["self", "letters"] (defScope s_BadLetters_init) := ⟨rfl, rfl, rfl, by decide +kernel, rfl, by decide +kernel, by decide +kernel⟩
abbrev s_BadWords_init : Stmt := inClass (top 12) 0
abbrev N_BadWords_init : List Str := ["self", "place"]
theorem sc_BadWords_init : FnScope N_BadWords_init ["self", "place"] (defScope s_BadWords_init) := ⟨rfl, rfl, rfl, by decide +kernel, rfl, by decide +kernel, by decide +kernel⟩
abbrev s_TooMany_init : Stmt := inClass (top 14) 0
abbrev N_TooMany_init : List Str := ["self", "what", "many", "most"]
theorem sc_TooMany_init : FnScope N_TooMany_init ["self", "what", "many", "most"] (defScope s_TooMany_init) := ⟨rfl, rfl, rfl, by decide +kernel, rfl, by decide +kernel, by decide +kernel⟩
abbrev s_BadOrder_init : Stmt := inClass (top 17) 0
abbrev N_BadOrder_init : List Str := ["self", "order"]
theorem sc_BadOrder_init : FnScope N_BadOrder_init ["self", "order"] (defScope s_BadOrder_init) := ⟨rfl, rfl, rfl, by decide +kernel, rfl, by decide +kernel, by decide +kernel⟩
abbrev s_Fitting_init : Stmt := inClass (top 24) 0
abbrev N_Fitting_init : List Str := ["self", "words"]
theorem sc_Fitting_init : FnScope N_Fitting_init ["self", "words"] (defScope s_Fitting_init) := ⟨rfl, rfl, rfl, by decide +kernel, rfl, by decide +kernel, by decide +kernel⟩
abbrev s_Fitting_can : Stmt := inClass (top 24) 1
abbrev N_Fitting_can : List Str := ["self", "known", "offset", "rest", "word"]
theorem sc_Fitting_can : FnScope N_Fitting_can ["self", "known", "offset"] (defScope s_Fitting_can) := ⟨rfl, rfl, rfl, by decide +kernel, rfl, by decide +kernel, by decide +kernel⟩
abbrev s_Fitting_least : Stmt := inClass (top 24) 2
abbrev N_Fitting_least : List Str := ["self", "known", "low", "offset"]
theorem sc_Fitting_least : FnScope N_Fitting_least ["self", "known", "low"] (defScope s_Fitting_least) := ⟨rfl, rfl, rfl, by decide +kernel, rfl, by decide +kernel, by decide +kernel⟩
abbrev s_Searcher_init : Stmt := inClass (top 42) 0
abbrev N_Searcher_init : List Str := ["self", "letters", "width", "states", "many", "state", "tree", "node", "nodes", "same"]
theorem sc_Searcher_init : FnScope N_Searcher_init ["self", "letters", "width", "states"] (defScope s_Searcher_init) := ⟨rfl, rfl, rfl, by decide +kernel, rfl, by decide +kernel, by decide +kernel⟩
abbrev s_Searcher_eq : Stmt := inClass (top 42) 1
abbrev N_Searcher_eq : List Str := ["self", "other"]
theorem sc_Searcher_eq : FnScope N_Searcher_eq ["self", "other"] (defScope s_Searcher_eq) := ⟨rfl, rfl, rfl, by decide +kernel, rfl, by decide +kernel, by decide +kernel⟩
abbrev s_Maker_init : Stmt := inClass (top 48) 0
abbrev N_Maker_init : List Str := ["self", "letters", "words", "order", "behind", "number", "word"]
theorem sc_Maker_init : FnScope N_Maker_init ["self", "letters", "words", "order", "behind"] (defScope s_Maker_init) := ⟨rfl, rfl, rfl, by decide +kernel, rfl, by decide +kernel, by decide +kernel⟩
abbrev s_Maker_all_trees : Stmt := inClass (top 48) 1
abbrev N_Maker_all_trees : List Str := ["self", "trees"]
theorem sc_Maker_all_trees : FnScope N_Maker_all_trees ["self"] (defScope s_Maker_all_trees) := ⟨rfl, rfl, rfl, by decide +kernel, rfl, by decide +kernel, by decide +kernel⟩
abbrev s_Maker__tree : Stmt := inClass (top 48) 2
abbrev N_Maker__tree : List Str := ["self", "known", "missing", "place", "more", "behind", "word"]
theorem sc_Maker__tree : FnScope N_Maker__tree ["self", "known"] (defScope s_Maker__tree) := ⟨rfl, rfl, rfl, by decide +kernel, rfl, by decide +kernel, by decide +kernel⟩
abbrev s_Maker__read : Stmt := inClass (top 48) 3
abbrev N_Maker__read : List Str := ["self", "known", "place", "letter"]
theorem sc_Maker__read : FnScope N_Maker__read ["self", "known", "place"] (defScope s_Maker__read) := ⟨rfl, rfl, rfl, by decide +kernel, rfl, by decide +kernel, by decide +kernel⟩
abbrev s_Maker__go : Stmt := inClass (top 48) 4
abbrev N_Maker__go : List Str := ["self", "known", "slide", "after"]
theorem sc_Maker__go : FnScope N_Maker__go ["self", "known"] (defScope s_Maker__go) := ⟨rfl, rfl, rfl, by decide +kernel, rfl, by decide +kernel, by decide +kernel⟩
abbrev s_Maker__remembered : Stmt := inClass (top 48) 5
abbrev N_Maker__remembered : List Str := ["self", "known", "kept", "_", "place"]
theorem sc_Maker__remembered : FnScope N_Maker__remembered ["self", "known"] (defScope s_Maker__remembered) := ⟨rfl, rfl, rfl, by decide +kernel, rfl, by decide +kernel, by decide +kernel⟩

/-! ### the pen -/
def penK (c : Addr) (op lf : Int) : List (Key × V) := [(.inr "cells", .ref c), (.inr "next", .int op), (.inr "left", .int lf)]
structure PenI where
  d : Addr
  c : Addr
  ns : List Int
def PenAt (p : PenI) (H0 H : Hp) (n : Nat) : Prop := Ex H0 H ∧ H0 p.d = none ∧ H0 p.c = some (.lst (p.ns.map V.int)) ∧ p.ns.length ≤ 63 ∧
  ∃ (op : Nat) (lf : Int), op ≤ n ∧ H p.d = some (.dK (penK p.c op lf))
theorem PenAt.ex {p : PenI} {H0 H H1 : Hp} {n : Nat} (P : PenAt p H0 H n) (e : Ex H H1) : PenAt p H0 H1 n := by
  obtain ⟨e0, h0, hc, hl, op, lf, ho, hd⟩ := P
  exact ⟨e0.trans e, h0, hc, hl, op, lf, ho, e p.d _ hd⟩
theorem PenAt.le {p : PenI} {H0 H : Hp} {n m : Nat} (P : PenAt p H0 H n) (h : n ≤ m) : PenAt p H0 H m := by
  obtain ⟨e0, h0, hc, hl, op, lf, ho, hd⟩ := P
  exact ⟨e0, h0, hc, hl, op, lf, Nat.le_trans ho h, hd⟩
theorem PenAt.dict {p : PenI} {H0 H : Hp} {n : Nat} (P : PenAt p H0 H n) : ∃ kvs, H p.d = some (.dK kvs) := by
  obtain ⟨_, _, _, _, op, lf, _, h⟩ := P
  exact ⟨_, h⟩
theorem PenAt.lst_ne {p : PenI} {H0 H : Hp} {a : Addr} {n : Nat} {xs : List V} (P : PenAt p H0 H n) (h : H a = some (.lst xs)) : a ≠ p.d := by
  obtain ⟨kvs, h2⟩ := P.dict
  exact ne_of h h2 (by intro z; cases z)
/-- an object made meanwhile may change -/
theorem PenAt.upd {p : PenI} {H0 H : Hp} {a : Addr} {n : Nat} {o : HO} (P : PenAt p H0 H n) (h : H0 a = none) (hd : a ≠ p.d) : PenAt p H0 (upd H a o) n := by
  obtain ⟨e0, h0, hc, hl, op, lf, ho, hd'⟩ := P
  exact ⟨e0.mut h, h0, hc, hl, op, lf, ho, by rw [upd_ne hd.symm]; exact hd'⟩
/-- one more object kept, and let go again -/
theorem PenAt.keep {p : PenI} {H0 H : Hp} {a : Addr} {n : Nat} {o : HO} (P : PenAt p H0 H n) (h : H a = some o) (hd : a ≠ p.d) : PenAt p (L2.upd H0 a o) H n := by
  obtain ⟨e0, h0, hc, r⟩ := P
  refine ⟨fun b u e => ?_, by rw [upd_ne hd.symm]; exact h0, ?_, r⟩
  · by_cases q : b = a
    · subst q
      rw [upd_same] at e
      rw [h, e]
    · rw [upd_ne q] at e
      exact e0 b u e
  · by_cases q : p.c = a
    · have e2 := e0 _ _ hc
      rw [q, h] at e2
      rw [q, upd_same, e2]
    · rw [upd_ne q]
      exact hc
theorem PenAt.drop {p : PenI} {H0 H H' : Hp} {a : Addr} {n m : Nat} {o : HO} (P : PenAt p H0 H n) (h : H a = some o) (P' : PenAt p (L2.upd H0 a o) H' m) : PenAt p H0 H' m := by
  refine ⟨fun b u e => ?_, P.2.1, P.2.2.1, P'.2.2.2⟩
  by_cases q : b = a
  · subst q
    have e2 := P.1 _ _ e
    rw [h] at e2
    exact P'.1 _ _ (by rw [upd_same, e2])
  · exact P'.1 _ _ (by rw [upd_ne q]; exact e)
theorem cells_opened : ¬ (("cells" : Str) = "next") := by decide +kernel
theorem cells_left : ¬ (("cells" : Str) = "left") := by decide +kernel
theorem opened_left : ¬ (("next" : Str) = "left") := by decide +kernel
theorem get_cells (c : Addr) (op lf : Int) : valV (penK c op lf) (.inr "cells") = some (.ref c) := by
  unfold valV penK
  rw [List.find?_cons_of_pos (by simp)]
  rfl
theorem get_opened (c : Addr) (op lf : Int) : valV (penK c op lf) (.inr "next") = some (.int op) := by
  unfold valV penK
  rw [List.find?_cons_of_neg (by simpa using cells_opened), List.find?_cons_of_pos (by simp)]
  rfl
theorem get_left (c : Addr) (op lf : Int) : valV (penK c op lf) (.inr "left") = some (.int lf) := by
  unfold valV penK
  rw [List.find?_cons_of_neg (by simpa using cells_left), List.find?_cons_of_neg (by simpa using opened_left), List.find?_cons_of_pos (by simp)]
  rfl
theorem put_opened (c : Addr) (op lf x : Int) : putK (penK c op lf) (.inr "next") (.int x) = penK c x lf := by
  unfold putK penK
  simp [cells_opened, opened_left, cells_left, Ne.symm opened_left]
theorem put_left (c : Addr) (op lf x : Int) : putK (penK c op lf) (.inr "left") (.int x) = penK c op x := by
  unfold putK penK
  simp [cells_opened, opened_left, cells_left]
theorem dget_of {H : Hp} {d : Addr} {kvs : List (Key × V)} {k : Str} {v : V} (e : H d = some (.dK kvs)) (h : valV kvs (.inr k) = some v) : DGet H d (.str k) (some v) := by
  rw [← h]
  exact DGet.k (k := .inr k) e
theorem dput_of {H : Hp} {d : Addr} {kvs kvs' : List (Key × V)} {k : Str} {v : V} (e : H d = some (.dK kvs)) (hl : kvs.length < 100) (h : putK kvs (.inr k) v = kvs') : DPut H d (.str k) v (upd H d (.dK kvs')) := by
  rw [← h]
  exact DPut.k (k := .inr k) e (Nat.lt_of_lt_of_le hl (by decide))

/-! ### lists of ints as data -/
theorem lay_ints : ∀ ns : List Int, PyData.canLayAll0 (ns.map PyData.int) = true
  | [] => rfl
  | n :: r => by
    show (PyData.canLay0 (.int n) && PyData.canLayAll0 (r.map PyData.int)) = true
    rw [lay_ints r]
    rfl
theorem depth_ints : ∀ ns : List Int, PyData.depthAll (ns.map PyData.int) = 0
  | [] => rfl
  | n :: r => by
    show max (PyData.depth (.int n)) (PyData.depthAll (r.map PyData.int)) = 0
    rw [depth_ints r]
    rfl
theorem shaped_ints (ns : List Int) : SeqAt.shaped (.list (ns.map PyData.int)) = true := by
  unfold SeqAt.shaped
  have e1 : (PyData.list (ns.map PyData.int)).canLay0 = true := lay_ints ns
  have e2 : (PyData.list (ns.map PyData.int)).depth = 1 := by
    show PyData.depthAll (ns.map PyData.int) + 1 = 1
    rw [depth_ints]
  rw [e1, e2]
  rfl
theorem dp_ints {K : PySem.W.Frag} {H : Hp} : ∀ ns : List Int, DpAll K H (ns.map V.int) (ns.map PyData.int)
  | [] => .nil
  | n :: r => .cons (.int n) (dp_ints r)
theorem eqv_nil (ns : List Int) : PyData.eqv (.list (ns.map PyData.int)) (.list []) = ns.isEmpty := by
  cases ns <;> rfl

theorem cut2 {A : Prop} {N : L2.St → Hp → Prop} (Pv : L2.St → Hp → Prop) (hA : (∀ σ' H', Pv σ' H' → N σ' H') → A) (rest : ∀ σ' H', Pv σ' H' → N σ' H') : A := hA rest
theorem st_eq {t : L2.St → Hp → Prop} {σ σ' : L2.St} {H : Hp} (e : σ = σ') (h : t σ' H) : t σ H := e ▸ h
/-! ### what is known of a def that is called -/
structure Kn (P : Program) (w : World) (K : PySem.W.Frag) (mg : Str → Option Value) (base : Heap) (x : Str) (ps : List Str) (k : Nat) (sp : Sp) where
  f : Addr
  fd : FuncData
  ok : FnOk P w K mg base CX0 k f fd ps sp
  g : mg x = some (.ref f)
  kp : PySem.W.keepIn K (.ref f) = true
  b : Binds K fd ps []
structure Tx (mg : Str → Option Value) where
  len : mg "len" = none
  int : mg "int" = none
  bool : mg "bool" = none
  abs : mg "abs" = none
  min : mg "min" = none
  list : mg "list" = none
  all : mg "all" = none
  any : mg "any" = none
  range : mg "range" = none
  isinstance : mg "isinstance" = none
  str : mg "str" = none
  set : mg "set" = none
  tuple : mg "tuple" = none
  dict : mg "dict" = none
  enumerate : mg "enumerate" = none
  sum : mg "sum" = none
  sorted : mg "sorted" = none
  zip : mg "zip" = none
  reversed : mg "reversed" = none
  max : mg "max" = none
  k_DEEPEST : Tok
  m_DEEPEST : mg "DEEPEST" = some (.int 40 k_DEEPEST)
  k_MOST_WIDTH : Tok
  m_MOST_WIDTH : mg "MOST_WIDTH" = some (.int 8 k_MOST_WIDTH)
  k_MOST_STATES : Tok
  m_MOST_STATES : mg "MOST_STATES" = some (.int 64 k_MOST_STATES)
  k_MOST_NODES : Tok
  m_MOST_NODES : mg "MOST_NODES" = some (.int 3000 k_MOST_NODES)

def spPen (K : PySem.W.Frag) : Sp := fun vs H Q _ => ∃ (a : Addr) (ns : List Int), vs = [.ref a] ∧ SqL K H a (ns.map V.int) ∧ ns.length ≤ 63 ∧ ∀ p H0 H', Ex H H0 → PenAt p H0 H' 0 → Q (.ref p.d) H'
def spDraw : Sp := fun vs H Q _ => ∃ (p : PenI) (H0 : Hp) (n : Nat) (m : Int), vs = [.ref p.d, .int m] ∧ PenAt p H0 H n ∧ n < 1000000 ∧ 0 < m ∧ m < 1000 ∧ ∀ H' r, PenAt p H0 H' (n + 1) → 0 ≤ r → r < m → Q (.int r) H'

section
variable {P : Program} {w : World} {K : PySem.W.Frag} {mg : Str → Option Value} {base : Heap}
theorem ok_pen {f : Addr} {fd : FuncData} (F : Fun K "_law_pen_of" "_law_pen_of" s_lpen f fd) (T : Tx mg) : FnOk P w K mg base CX0 1 f fd ["_law_script"] (spPen K) := by
  refine F.ok sc_lpen (fun vs H Q E h => ?_) (fun cdv A outer s H vs Q E hr h => ?_)
  · obtain ⟨a, ns, rfl, _⟩ := h
    rfl
  · obtain ⟨a, ns, rfl, hS, hl, q⟩ := h
    refine ⟨_, (pss_one (ps_ret (pe_disp (pps_cons pe_str (pe_callTy call_list_of (by rfl) T.list PyProof.Rows.boot_list (pa_cons (pe_slice sl_list (pv 0) po_none (po_some pe_int)) pa_nil)) (pps_cons pe_str pe_int (pps_cons pe_str pe_int pps_nil))) (by rfl) (by rfl) (fun z => by cases z) (by decide)))), ?_⟩
    intro d hd
    have e1 : Ex H (upd H d (.dK [])) := Ex.new hd
    refine ⟨.ref a, rfl, 63, rfl, a, _, rfl, ex_l e1 hS, fun c hc => ?_⟩
    have e2 := e1.trans (Ex.new (o := .lst (cutV (ns.map V.int) none (some 63))) hc)
    refine ⟨c, _, rfl, .inl (.inl (.inl upd_same)), fun c2 hc2 => ?_⟩
    have e3 := e2.trans (Ex.new (o := .lst (cutV (ns.map V.int) none (some 63))) hc2)
    have ncd : c ≠ d := fun z => by rw [z, upd_same] at hc; cases hc
    have nc2c : c2 ≠ c := fun z => by rw [z, upd_same] at hc2; cases hc2
    have nc2d : c2 ≠ d := fun z => by rw [z, upd_ne ncd.symm, upd_same] at hc2; cases hc2
    refine ⟨by rw [upd_ne nc2d.symm, upd_ne ncd.symm, upd_same], penK c2 0 0, rfl, (by show 3 ≤ 15; decide), ?_⟩
    have em : mergeK [] (penK c2 0 0) = penK c2 0 0 := by
      unfold mergeK penK
      simp [putK, cells_opened, opened_left, cells_left]
    rw [em]
    have el : ((cutV (ns.map V.int) none (some 63)) : List V) = ((ns.drop (HT.sIx ns.length 0 none)).take (HT.sIx ns.length ns.length (some 63) - HT.sIx ns.length 0 none)).map V.int := by
      unfold cutV
      rw [List.length_map, List.map_take, List.map_drop]
    have hn2 : H c2 = none := by
      rw [upd_ne nc2c, upd_ne nc2d] at hc2
      exact hc2
    refine q ⟨d, c2, (ns.drop (HT.sIx ns.length 0 none)).take (HT.sIx ns.length ns.length (some 63) - HT.sIx ns.length 0 none)⟩ (upd H c2 (.lst (cutV (ns.map V.int) none (some 63)))) _ (Ex.new hn2) ⟨fun b u e => ?_, ?_, ?_, ?_, 0, 0, Nat.le_refl _, upd_same⟩
    · have nbd : b ≠ d := fun z => by
        rw [z, upd_ne nc2d.symm, hd] at e
        cases e
      rw [upd_ne nbd]
      by_cases z : b = c2
      · subst z
        rw [upd_same] at e ⊢
        exact e
      · rw [upd_ne z] at e ⊢
        exact (e1.trans (Ex.new hc)) _ _ e
    · exact (upd_ne nc2d.symm).trans hd
    · show upd H c2 _ c2 = _
      rw [upd_same, el]
    · rw [List.length_take, List.length_drop]
      omega
theorem ok_draw {f : Addr} {fd : FuncData} (F : Fun K "_law_draw" "_law_draw" s_ldraw f fd) (T : Tx mg) : FnOk P w K mg base CX0 1 f fd ["_law_pen", "_law_many"] spDraw := by
  refine F.ok sc_ldraw (fun vs H Q E h => ?_) (fun cdv A outer s H vs Q E hr h => ?_)
  · obtain ⟨p, H0, n, m, rfl, _⟩ := h
    rfl
  · obtain ⟨⟨d, c, ns⟩, H0, n, m, rfl, ⟨e0, h0, hc0, hl, op, lf, ho, hd⟩, hn, hm0, hm1, q⟩ := h
    have hc : H c = some (.lst (ns.map V.int)) := e0 _ _ hc0
    dsimp only at h0 hl hd q ⊢
    have ncd : c ≠ d := ne_of hc hd (by intro z; cases z)
    have fin : ∀ (o2 : Nat) (l2 : Int) (H' : Hp), Ex H0 H' → H' c = some (.lst (ns.map V.int)) → H' d = some (.dK (penK c o2 l2)) → o2 ≤ n + 1 → PenAt ⟨d, c, ns⟩ H0 H' (n + 1) :=
      fun o2 l2 H' x1 x2 x3 x4 => ⟨x1, h0, hc0, hl, o2, l2, x4, x3⟩
    refine ⟨_, (pss_cons (ps_if (pt_cmpR op_gt (pe_dget (hu_of hr) (pv 0) pe_str (fun _ _ => rfl)) pe_int (nomark _)) (pss_cons (ps_set (i := 2) sc_ldraw.nd rfl (Or.inl rfl) (pe_op op_mod (pe_callTy call_int1 (by rfl) T.int PyProof.Rows.boot_int (pa_cons (pe_dget (hu_of hr) (pv 0) pe_str (fun _ _ => rfl)) pa_nil)) (pv 1)))
      (pss_cons (ps_dput (hu_of hr) (pv 0) pe_str (pe_op op_fdivN (pe_dget (hu_of hr) (pv 0) pe_str (fun _ _ => rfl)) (pv 1)) rfl)
      (pss_one (ps_ret (pv 2))))) pss_nil)
      (pss_cons (ps_set (i := 3) sc_ldraw.nd rfl (Or.inl rfl) (pe_dget (hu_of hr) (pv 0) pe_str (fun _ _ => rfl)))
      (pss_cons (ps_dput (hu_of hr) (pv 0) pe_str (pe_op op_add (pv 3) pe_int) rfl)
      (pss_cons (ps_set (i := 4) sc_ldraw.nd rfl (Or.inl rfl) (pe_op op_add (pe_op op_mul pe_int (pv 3)) pe_int))
      (pss_cons (ps_if (pt_cmpR (op_neD hr.units) (pe_dget (hu_of hr) (pv 0) pe_str (fun _ _ => rfl)) (pe_lst pa_nil) (nomark _)) (pss_one (ps_set (i := 4) sc_ldraw.nd rfl (Or.inl rfl) (pe_ix ix_list (pe_dget (hu_of hr) (pv 0) pe_str (fun _ _ => rfl)) (pe_op op_mod (pe_callTy call_int1 (by rfl) T.int PyProof.Rows.boot_int (pa_cons (pv 3) pa_nil)) (pe_callB call_len_seq (by rfl) T.len PySem.boot_len (pa_cons (pe_dget (hu_of hr) (pv 0) pe_str (fun _ _ => rfl)) pa_nil))) (fun _ _ => rfl)))) pss_nil)
      (pss_cons (ps_if (PW.pt (pw_and (pt_cmpR op_lt (pv 3) (pe_callB call_len_seq (by rfl) T.len PySem.boot_len (pa_cons (pe_dget (hu_of hr) (pv 0) pe_str (fun _ _ => rfl)) pa_nil)) (nomark _)) (pw_and1 (pt_cmpR op_ge (pe_callB call_abs (by rfl) T.abs (by decide +kernel) (pa_cons (pv 4) pa_nil)) (pe_op op_pow pe_int pe_int) (nomark _))))) (pss_cons (ps_dput (hu_of hr) (pv 0) pe_str (pe_op op_fdivN (pe_op op_sub (pe_callB call_abs (by rfl) T.abs (by decide +kernel) (pa_cons (pv 4) pa_nil)) (pe_op op_pow pe_int pe_int)) (pv 1)) rfl)
      (pss_one (ps_ret (pe_op op_mod (pe_callTy call_int1 (by rfl) T.int PyProof.Rows.boot_int (pa_cons (pe_op op_sub (pe_callB call_abs (by rfl) T.abs (by decide +kernel) (pa_cons (pv 4) pa_nil)) (pe_op op_pow pe_int pe_int)) pa_nil)) (pv 1))))) pss_nil)
      (pss_cons (ps_set (i := 5) sc_ldraw.nd rfl (Or.inl rfl) (pe_op op_add (pe_op op_mul (pe_op op_mod (pe_callTy call_int1 (by rfl) T.int PyProof.Rows.boot_int (pa_cons (pv 4) pa_nil)) pe_int) pe_int) (pe_op op_mul (pe_op op_mul pe_int (pv 3)) (pv 3))))
      (pss_cons (ps_set (i := 5) sc_ldraw.nd rfl (Or.inl rfl) (pe_op op_mod (pe_callTy call_int1 (by rfl) T.int PyProof.Rows.boot_int (pa_cons (pe_op op_add (pe_op op_add (pv 5) (pe_op op_mul pe_int (pv 3))) pe_int) pa_nil)) pe_int))
      (pss_cons (ps_set (i := 5) sc_ldraw.nd rfl (Or.inl rfl) (pe_op op_mod (pe_callTy call_int1 (by rfl) T.int PyProof.Rows.boot_int (pa_cons (pe_op op_add (pe_op op_add (pe_op op_add (pe_op op_mul (pv 5) (pv 5)) (pe_op op_mul pe_int (pv 5))) (pe_op op_mul pe_int (pv 3))) pe_int) pa_nil)) pe_int))
      (pss_one (ps_ret (pe_op op_mod (pe_callTy call_int1 (by rfl) T.int PyProof.Rows.boot_int (pa_cons (pe_op op_fdivN (pe_op op_mod (pe_callTy call_int1 (by rfl) T.int PyProof.Rows.boot_int (pa_cons (pe_op op_mul (pv 5) (pe_op op_add (pv 5) pe_int)) pa_nil)) pe_int) pe_int) pa_nil)) (pv 1))))))))))))), ?_⟩
    refine ⟨_, rfl, d, .int lf, rfl, dget_of hd (get_left _ _ _), _, _, rfl, rfl, _, rfl, ite2 (fun hp => ?_) (fun hp => ?_)⟩
    · refine ⟨_, rfl, d, .int lf, rfl, dget_of hd (get_left _ _ _), .inl ⟨_, rfl, ?_⟩⟩
      refine ⟨_, rfl, _, _, rfl, rfl, hm0, ?_⟩
      refine ⟨_, rfl, d, .int lf, rfl, dget_of hd (get_left _ _ _), _, rfl, _, _, rfl, rfl, ⟨by omega, by omega⟩, ?_⟩
      refine ⟨_, rfl, d, _, rfl, dput_of hd (by show 3 < 100; decide) (put_left _ _ _ _), ?_⟩
      refine ⟨_, rfl, ?_⟩
      exact q _ _ (fin op _ _ (e0.mut h0) (by rw [upd_ne ncd]; exact hc) upd_same (by omega)) (Int.emod_nonneg _ (by omega)) (Int.emod_lt_of_pos _ hm0)
    · refine ⟨_, rfl, d, _, rfl, dget_of hd (get_opened _ _ _), ?_⟩
      refine ⟨_, rfl, _, _, rfl, rfl, _, rfl, d, _, rfl, dput_of hd (by show 3 < 100; decide) (put_opened _ _ _ _), ?_⟩
      have x1 : Ex H0 (upd H d (.dK (penK c ((op : Int) + 1) lf))) := e0.mut h0
      have hc1 : (upd H d (.dK (penK c ((op : Int) + 1) lf))) c = some (.lst (ns.map V.int)) := by
        rw [upd_ne ncd]
        exact hc
      have hd1 : (upd H d (.dK (penK c ((op : Int) + 1) lf))) d = some (.dK (penK c ((op + 1 : Nat) : Int) lf)) := upd_same
      generalize (upd H d (.dK (penK c ((op : Int) + 1) lf))) = H1 at x1 hc1 hd1 ⊢
      refine ⟨_, rfl, _, _, rfl, rfl, .inl ⟨by decide, by decide⟩, _, _, rfl, rfl, ?_⟩
      -- if cells != []
      dsimp only [gName]
      refine' cut2 (fun σ' H' => ∃ (x : Int), σ' = [some (.ref d), some (.int m), none, some (.int (op : Int)), some (.int x), none] ∧ Ex H0 H' ∧ H' c = some (.lst (ns.map V.int)) ∧ H' d = some (.dK (penK c ((op + 1 : Nat) : Int) lf))) (fun rest => ?_) ?_
      rotate_left
      · refine ⟨_, rfl, d, _, rfl, dget_of hd1 (get_cells _ _ _), Nat.zero_le _, fun el hel => ?_⟩
        have x2 := x1.trans (Ex.new (o := .lst []) hel)
        have hc2 : (upd H1 el (.lst [])) c = some (.lst (ns.map V.int)) := Ex.new hel _ _ hc1
        have hd2 : (upd H1 el (.lst [])) d = some (.dK (penK c ((op + 1 : Nat) : Int) lf)) := Ex.new hel _ _ hd1
        refine ⟨.list (ns.map PyData.int), .list [], .lst (sq_of hc2) (dp_ints ns), .lst (xs := []) (sq_of upd_same) .nil, shaped_ints ns, rfl, _, rfl, ?_⟩
        rw [eqv_nil]
        generalize (upd H1 el (.lst [])) = H2 at x2 hc2 hd2 ⊢
        cases hns : ns.isEmpty with
        | false =>
          refine iteT ?_
          have hpos : 0 < ns.length := by
            cases ns with
            | nil => cases hns
            | cons x r => exact Nat.succ_pos _
          have hL : (0 : Int) < ((ns.map V.int).length : Int) := by
            rw [List.length_map]
            omega
          obtain ⟨i, hi⟩ : ∃ i : Nat, (op : Int) % ((ns.map V.int).length : Int) = (i : Int) := ⟨((op : Int) % ((ns.map V.int).length : Int)).toNat, (Int.toNat_of_nonneg (Int.emod_nonneg _ (by omega))).symm⟩
          have hi2 : i < ns.length := by
            have := Int.emod_lt_of_pos (op : Int) hL
            rw [hi, List.length_map] at this
            omega
          have hat : atI (ns.map V.int) ((op : Int) % ((ns.map V.int).length : Int)) = some (V.int ns[i]) := by
            rw [hi]
            exact atI_nat (by rw [List.getElem?_map, List.getElem?_eq_getElem hi2]; rfl)
          refine ⟨_, rfl, d, _, rfl, dget_of hd2 (get_cells _ _ _), _, rfl, .inl ⟨_, rfl, _, rfl, d, _, rfl, dget_of hd2 (get_cells _ _ _), c, _, rfl, .inl (sq_of hc2), _, _, rfl, rfl, hL, c, _, _, _, rfl, rfl, sq_of hc2, hat, ?_⟩⟩
          exact rest _ _ ⟨_, rfl, x2, hc2, hd2⟩
        | true =>
          refine iteF ?_
          exact rest _ _ ⟨_, rfl, x2, hc2, hd2⟩
      rintro σ2 H2 ⟨x, rfl, x2, hc2, hd2⟩
      dsimp only
      -- the test
      refine q_when (b := decide ((op : Int) < ((ns.map V.int).length : Int)) && decide ((10 : Int) ^ (18 : Int).toNat ≤ (if x < 0 then -x else x)))
        (et_and (fun H4 e4 Q4 q4 => ?_) (fun _ H4 e4 Q4 q4 => ?_)) (fun hb H3 e3 => ?_) (fun hb H3 e3 => ?_)
      · exact ⟨_, rfl, _, rfl, d, _, rfl, dget_of (e4 _ _ hd2) (get_cells _ _ _), c, _, rfl, .inl (sq_of (e4 _ _ hc2)), _, _, rfl, rfl, _, rfl, q4 _ (Ex.refl _)⟩
      · exact ⟨_, rfl, _, rfl, _, _, rfl, rfl, ⟨by decide, by decide, by decide⟩, _, _, rfl, rfl, _, rfl, q4 _ (Ex.refl _)⟩
      · have x3 := x2.trans e3
        refine ⟨_, rfl, _, rfl, _, _, rfl, rfl, ⟨by decide, by decide, by decide⟩, _, _, rfl, rfl, _, rfl, _, _, rfl, rfl, ⟨by omega, by omega⟩, ?_⟩
        refine ⟨_, rfl, d, _, rfl, dput_of (e3 _ _ hd2) (by show 3 < 100; decide) (put_left _ _ _ _), ?_⟩
        refine ⟨_, rfl, _, rfl, _, _, rfl, rfl, ⟨by decide, by decide, by decide⟩, _, _, rfl, rfl, .inl ⟨_, rfl, _, rfl, _, _, rfl, rfl, hm0, ?_⟩⟩
        exact q _ _ (fin _ _ _ (x3.mut h0) (by rw [upd_ne ncd]; exact e3 _ _ hc2) upd_same (by omega)) (Int.emod_nonneg _ (by omega)) (Int.emod_lt_of_pos _ hm0)
      · have x3 := x2.trans e3
        refine ⟨_, rfl, .inl ⟨_, rfl, _, _, rfl, rfl, (by show (0 : Int) < _; decide), _, _, rfl, rfl, .inr ⟨by decide, by decide⟩, _, rfl, _, _, rfl, rfl, .inl ⟨by decide, by decide⟩, _, rfl, _, _, rfl, rfl, .inr ⟨by omega, by omega⟩, _, _, rfl, rfl, ?_⟩⟩
        refine ⟨_, rfl, _, rfl, _, _, rfl, rfl, .inl ⟨by decide, by decide⟩, _, _, rfl, rfl, _, _, rfl, rfl, .inl ⟨_, rfl, _, _, rfl, rfl, (by show (0 : Int) < _; decide), ?_⟩⟩
        dsimp only [gName]
        generalize hy : (x % 4294967197 * 52711 + 20353 * (op : Int) * (op : Int) + 1531 * (op : Int) + 11) % 4294967189 = y
        have b3 : 0 ≤ y := by rw [← hy]; exact Int.emod_nonneg _ (by decide)
        have b4 : y < 4294967189 := by rw [← hy]; exact Int.emod_lt_of_pos _ (by decide)
        refine ⟨_, rfl, _, rfl, _, _, rfl, rfl, .inl ⟨by omega, by omega⟩, _, rfl, _, _, rfl, rfl, .inl ⟨by decide, by decide⟩, _, _, rfl, rfl, _, rfl, _, _, rfl, rfl, .inl ⟨by decide, by decide⟩, _, _, rfl, rfl, _, _, rfl, rfl, .inl ⟨_, rfl, _, _, rfl, rfl, (by show (0 : Int) < _; decide), ?_⟩⟩
        dsimp only [gName]
        generalize hz : (y * y + 68903 * y + 23 * (op : Int) + 7) % 4294967161 = z
        have b5 : 0 ≤ z := by rw [← hz]; exact Int.emod_nonneg _ (by decide)
        have b6 : z < 4294967161 := by rw [← hz]; exact Int.emod_lt_of_pos _ (by decide)
        refine ⟨_, rfl, _, rfl, _, _, rfl, rfl, _, _, rfl, rfl, .inl ⟨by omega, by omega⟩, .inl ⟨_, rfl, _, _, rfl, rfl, (by show (0 : Int) < _; decide), _, _, rfl, rfl, ⟨by decide, by decide⟩, .inl ⟨_, rfl, _, rfl, _, _, rfl, rfl, hm0, ?_⟩⟩⟩
        exact q _ _ (fin _ _ _ x3 (e3 _ _ hc2) (e3 _ _ hd2) (by omega)) (Int.emod_nonneg _ (by omega)) (Int.emod_lt_of_pos _ hm0)
end
end Law

namespace Law
open PySem PySem.Spec PyProof.Rows L2 Evl
theorem sz_le {n : Nat} (h : n < 1000) : n ≤ sizeLine := Nat.le_trans (Nat.le_of_lt h) (by decide)
theorem at_draw {α : Type} {xs : List α} {r : Int} (h0 : 0 ≤ r) (h1 : r < (xs.length : Int)) : ∃ v, v ∈ xs ∧ atI xs r = some v := by
  obtain ⟨j, rfl⟩ : ∃ j : Nat, r = (j : Int) := ⟨r.toNat, (Int.toNat_of_nonneg h0).symm⟩
  have hj : j < xs.length := by omega
  exact ⟨xs[j], List.getElem_mem hj, atI_nat (List.getElem?_eq_getElem hj)⟩
def spPickS : Sp := fun vs H Q _ => ∃ (p : PenI) (H0 : Hp) (n : Nat) (z : Str), vs = [.ref p.d, .str z] ∧ PenAt p H0 H n ∧ n < 1000000 ∧ 0 < z.length ∧ z.length < 1000 ∧ ∀ H' c, PenAt p H0 H' (n + 1) → c ∈ z.cps.toList → Q (.str ⟨#[c]⟩) H'
def spPickL : Sp := fun vs H Q _ => ∃ (p : PenI) (H0 : Hp) (a : Addr) (n : Nat) (xs : List V), vs = [.ref p.d, .ref a] ∧ PenAt p H0 H n ∧ n < 1000000 ∧ H a = some (.lst xs) ∧ 0 < xs.length ∧ xs.length < 1000 ∧ ∀ H' v, PenAt p H0 H' (n + 1) → v ∈ xs → Q v H'
section
variable {P : Program} {w : World} {K : PySem.W.Frag} {mg : Str → Option Value} {base : Heap}
theorem ok_pickS {f : Addr} {fd : FuncData} (F : Fun K "_law_pick" "_law_pick" s_lpick f fd) (T : Tx mg) (c_ldraw : Kn P w K mg base "_law_draw" ["_law_pen", "_law_many"] 1 spDraw) : FnOk P w K mg base CX0 2 f fd ["_law_pen", "_law_items"] spPickS := by
  refine F.ok sc_lpick (fun vs H Q E h => ?_) (fun cdv A outer s H vs Q E hr h => ?_)
  · obtain ⟨p, H0, n, z, rfl, _⟩ := h
    rfl
  · obtain ⟨p, H0, n, z, rfl, P0, hn, hz0, hz1, q⟩ := h
    have ez : z.length = z.cps.toList.length := by simp [Str.length]
    refine ⟨_, (pss_one (ps_ret (pe_ix ix_str (pv 1) (pe_call c_ldraw.ok (hr.mono (by decide)) (by rfl) c_ldraw.g c_ldraw.kp c_ldraw.b .nil pass0 (pa_cons (pv 0) (pa_cons (pe_callB call_len_str (by rfl) T.len PySem.boot_len (pa_cons (pv 1) pa_nil)) pa_nil))) (fun _ _ => rfl)))), ?_⟩
    refine ⟨_, rfl, _, rfl, _, rfl, z, rfl, sz_le hz1, p, H0, n, _, rfl, P0, hn, by omega, by omega, fun H' r P1 r0 r1 => ?_⟩
    obtain ⟨c, hc, ha⟩ := at_draw (xs := z.cps.toList) r0 (by rw [← ez]; exact r1)
    exact ⟨z, r, c, rfl, rfl, sz_le hz1, ha, q _ _ P1 hc⟩
theorem ok_pickL {f : Addr} {fd : FuncData} (F : Fun K "_law_pick" "_law_pick" s_lpick f fd) (T : Tx mg) (c_ldraw : Kn P w K mg base "_law_draw" ["_law_pen", "_law_many"] 1 spDraw) : FnOk P w K mg base CX0 2 f fd ["_law_pen", "_law_items"] spPickL := by
  refine F.ok sc_lpick (fun vs H Q E h => ?_) (fun cdv A outer s H vs Q E hr h => ?_)
  · obtain ⟨p, H0, a, n, xs, rfl, _⟩ := h
    rfl
  · obtain ⟨p, H0, a, n, xs, rfl, P0, hn, hx, hz0, hz1, q⟩ := h
    refine ⟨_, (pss_one (ps_ret (pe_ix ix_list (pv 1) (pe_call c_ldraw.ok (hr.mono (by decide)) (by rfl) c_ldraw.g c_ldraw.kp c_ldraw.b .nil pass0 (pa_cons (pv 0) (pa_cons (pe_callB call_len_seq (by rfl) T.len PySem.boot_len (pa_cons (pv 1) pa_nil)) pa_nil))) (fun _ _ => rfl)))), ?_⟩
    refine ⟨_, rfl, _, rfl, _, rfl, a, xs, rfl, .inl (sq_of hx), p, upd H0 a (.lst xs), n, _, rfl, P0.keep hx (P0.lst_ne hx), hn, by omega, by omega, fun H' r P1 r0 r1 => ?_⟩
    obtain ⟨v, hv, ha⟩ := at_draw (xs := xs) r0 r1
    exact ⟨a, xs, r, v, rfl, rfl, sq_of (P1.1 _ _ upd_same), ha, q _ _ (P0.drop hx P1) hv⟩
end
end Law

namespace Law
open PySem PySem.Spec PyProof.Rows L2 Evl
def sg (c : Nat) : Str := ⟨#[c]⟩
def tx (l : List Nat) : Str := ⟨l.toArray⟩
theorem tx_len (l : List Nat) : (tx l).length = l.length := by simp [tx, Str.length]
theorem tx_list (l : List Nat) : (tx l).cps.toList = l := rfl
theorem tx_of (z : Str) : tx z.cps.toList = z := TL.ext_tl rfl
theorem sg_len (c : Nat) : (sg c).length = 1 := rfl
theorem joinL_nil : ∀ cs : List Nat, TL.joinL [] (cs.map fun c => [c]) = cs
  | [] => rfl
  | [c] => rfl
  | c :: d :: r => by
    show [c] ++ ([] ++ TL.joinL [] ((d :: r).map fun c => [c])) = c :: d :: r
    rw [joinL_nil (d :: r)]
    rfl
theorem join_sg (cs : List Nat) : Txt.join (Str.ofString "") (cs.map sg) = tx cs := by
  refine TL.ext_tl ?_
  rw [TL.join_eq, TL.tl_join, List.map_map, show TL.tl (Str.ofString "") = [] by decide +kernel]
  exact joinL_nil cs
theorem join_size (cs : List Nat) : ((cs.map sg).map (·.length)).sum = cs.length := by
  induction cs with
  | nil => rfl
  | cons c r ih =>
    show 1 + ((r.map sg).map (·.length)).sum = r.length + 1
    rw [ih, Nat.add_comm]
/-- the signs joined -/
theorem join_done {K : PySem.W.Frag} {H : Hp} {D : Addr} {cs : List Nat} {Q : VK} (hD : H D = some (.lst ((cs.map sg).map V.str))) (hl : cs.length ≤ 1000000) (q : Q (.str (tx cs)) H) :
    ∃ (a : Str) (p : Addr), ∃ ys : List Str, V.str (Str.ofString "") = .str a ∧ [V.ref D] = [.ref p] ∧ (SqL K H p (ys.map V.str) ∨ SqT K H p (ys.map V.str)) ∧ (ys.map (·.length)).sum + ys.length * a.length ≤ 16777216 ∧ Q (.str (Txt.join a ys)) H := by
  refine ⟨_, D, cs.map sg, rfl, rfl, .inl (sq_of hD), ?_, ?_⟩
  · rw [join_size, show (Str.ofString "").length = 0 from rfl]
    omega
  · rw [join_sg]
    exact q
def lets (f p n : Nat) : List Nat := (List.range n).map fun k => 97 + (f + p * k) % 26
def paces : List Nat := [1, 3, 5, 7, 9, 11, 15, 17, 19, 21, 23, 25]
theorem abc_at (r : Int) : ∃ c, atI (Str.ofString "abcdefghijklmnopqrstuvwxyz").cps.toList (r % 26) = some c ∧ c = 97 + (r % 26).toNat := by
  have h0 : 0 ≤ r % 26 := Int.emod_nonneg _ (by decide)
  have h1 : r % 26 < 26 := Int.emod_lt_of_pos _ (by decide)
  generalize hi : (r % 26) = i at h0 h1
  obtain ⟨j, rfl⟩ : ∃ j : Nat, i = (j : Int) := ⟨i.toNat, (Int.toNat_of_nonneg h0).symm⟩
  have hj : j < 26 := by omega
  have key : ∀ j : Nat, j < 26 → (Str.ofString "abcdefghijklmnopqrstuvwxyz").cps.toList[j]? = some (97 + j) := by decide +kernel
  exact ⟨97 + j, atI_nat (key j hj), by simp⟩
theorem paces_le : ∀ x ∈ paces, x ≤ 25 := by decide
theorem lets_succ (f p n : Nat) : lets f p (n + 1) = lets f p n ++ [97 + (f + p * n) % 26] := by
  unfold lets
  rw [List.range_succ, List.map_append]
  rfl
theorem lets_len (f p n : Nat) : (lets f p n).length = n := by
  unfold lets
  rw [List.length_map, List.length_range]
theorem sg_snoc (cs : List Nat) (c : Nat) : ((cs.map sg).map V.str) ++ [.str (sg c)] = ((cs ++ [c]).map sg).map V.str := by
  rw [List.map_append, List.map_append]
  rfl
theorem fresh0 {p : PenI} {H0 H : Hp} {n : Nat} {a : Addr} (P : PenAt p H0 H n) (h : H a = none) : H0 a = none := fresh_back P.1 h
theorem fresh_ne {p : PenI} {H0 H : Hp} {n : Nat} {a : Addr} (P : PenAt p H0 H n) (h : H a = none) : a ≠ p.d := by
  obtain ⟨kvs, h2⟩ := P.dict
  intro e
  rw [e, h2] at h
  cases h
end Law

/-! trees of lists and tuples, as it comes at each place (the Bool says nothing) -/
namespace TR
open PySem PySem.Spec L2 Evl
mutual
inductive TX (k : Bool) (H : Hp) : V → Tr → Prop
  | go {j : Bool} {a : Addr} {s q : Nat} : H a = some (ob j [.str "go", .int (s : Nat), .int (q : Nat)]) → TX k H (.ref a) (.go s q)
  | tell {j : Bool} {a : Addr} {n : Nat} {v : V} {t : Tr} : H a = some (ob j [.str "tell", .int (n : Nat), v]) → TX k H v t → TX k H (.ref a) (.tell n t)
  | read {j j2 : Bool} {a b : Addr} {p : Nat} {vs : List V} {ts : Trs} : H a = some (ob j [.str "read", .int (p : Nat), .ref b]) → H b = some (ob j2 vs) → TXs k H vs ts → TX k H (.ref a) (.read p ts)
inductive TXs (k : Bool) (H : Hp) : List V → Trs → Prop
  | nil : TXs k H [] .nil
  | cons {v : V} {vs : List V} {t : Tr} {r : Trs} : TX k H v t → TXs k H vs r → TXs k H (v :: vs) (.cons t r)
end
mutual
theorem TX.ex {k : Bool} {H H' : Hp} (e : Ex H H') : ∀ {t : Tr} {v : V}, TX k H v t → TX k H' v t
  | _, _, .go h => .go (e _ _ h)
  | _, _, .tell h r => .tell (e _ _ h) (TX.ex e r)
  | _, _, .read h1 h2 r => .read (e _ _ h1) (e _ _ h2) (TXs.ex e r)
theorem TXs.ex {k : Bool} {H H' : Hp} (e : Ex H H') : ∀ {ts : Trs} {vs : List V}, TXs k H vs ts → TXs k H' vs ts
  | _, _, .nil => .nil
  | _, _, .cons h r => .cons (TX.ex e h) (TXs.ex e r)
end
inductive KidX (k : Bool) (H : Hp) : List V → List Tr → Prop
  | nil : KidX k H [] []
  | cons {v : V} {vs : List V} {t : Tr} {r : List Tr} : TX k H v t → KidX k H vs r → KidX k H (v :: vs) (t :: r)
theorem TXs.kids {k : Bool} {H : Hp} : ∀ {ts : Trs} {vs : List V}, TXs k H vs ts → KidX k H vs ts.list
  | _, _, .nil => .nil
  | _, _, .cons h r => .cons h r.kids
theorem KidX.ex {k : Bool} {H H' : Hp} (e : Ex H H') : ∀ {vs : List V} {ts : List Tr}, KidX k H vs ts → KidX k H' vs ts
  | _, _, .nil => .nil
  | _, _, .cons h r => .cons (h.ex e) (KidX.ex e r)
theorem KidX.len {k : Bool} {H : Hp} : ∀ {vs : List V} {ts : List Tr}, KidX k H vs ts → vs.length = ts.length
  | _, _, .nil => rfl
  | _, _, .cons _ r => by rw [List.length_cons, List.length_cons, r.len]
theorem KidX.get {k : Bool} {H : Hp} : ∀ {vs : List V} {ts : List Tr} {i : Nat} {x : V}, KidX k H vs ts → vs[i]? = some x → ∃ t, ts[i]? = some t ∧ TX k H x t
  | _, _, _, _, .nil, h => by cases h
  | _, _, 0, _, .cons (t := t) h1 _, h => ⟨t, rfl, by rw [← Option.some.inj h]; exact h1⟩
  | _, _, i + 1, _, .cons _ r, h => KidX.get (i := i) r h
theorem KidX.snoc {k : Bool} {H : Hp} {v : V} {t : Tr} (h : TX k H v t) : ∀ {vs : List V} {ts : List Tr}, KidX k H vs ts → KidX k H (vs ++ [v]) (ts ++ [t])
  | _, _, .nil => .cons h .nil
  | _, _, .cons h1 r => .cons h1 (KidX.snoc h r)
theorem KidX.app {k : Bool} {H : Hp} : ∀ {vs : List V} {ts : List Tr} {us : List V} {rs : List Tr}, KidX k H vs ts → KidX k H us rs → KidX k H (vs ++ us) (ts ++ rs)
  | _, _, _, _, .nil, h => h
  | _, _, _, _, .cons h r, h2 => .cons h (KidX.app r h2)
theorem KidX.last {k : Bool} {H : Hp} : ∀ {vs : List V} {ts : List Tr}, KidX k H vs ts → vs ≠ [] → ∃ us v rs t, vs = us ++ [v] ∧ ts = rs ++ [t] ∧ KidX k H us rs ∧ TX k H v t
  | _, _, .nil, h => absurd rfl h
  | _, _, .cons (v := v) (t := t) h .nil, _ => ⟨[], v, [], t, rfl, rfl, .nil, h⟩
  | _, _, .cons (v := v) (t := t) h (.cons a1 a2), _ => by
    obtain ⟨us, v', rs, t', e1, e2, s, b1⟩ := KidX.last (.cons a1 a2) (by intro q; cases q)
    exact ⟨v :: us, v', t :: rs, t', by rw [e1]; rfl, by rw [e2]; rfl, .cons h s, b1⟩
theorem KidX.rev {k : Bool} {H : Hp} : ∀ {vs : List V} {ts : List Tr}, KidX k H vs ts → KidX k H vs.reverse ts.reverse
  | _, _, .nil => .nil
  | _, _, .cons h r => by
    rw [List.reverse_cons, List.reverse_cons]
    exact r.rev.snoc h
theorem KidX.txs {k : Bool} {H : Hp} : ∀ {ts : Trs} {vs : List V}, KidX k H vs ts.list → TXs k H vs ts
  | .nil, _, .nil => .nil
  | .cons _ _, _, .cons h r => .cons h (KidX.txs r)
end TR

namespace Law
open PySem PySem.Spec PyProof.Rows L2 Evl TR
theorem fold_app (l : List (Array Nat)) : ∀ a : Array Nat, (l.foldl (· ++ ·) a).toList = a.toList ++ (l.map Array.toList).flatten := by
  induction l with
  | nil => intro a; simp
  | cons x r ih =>
    intro a
    rw [List.foldl_cons, ih, List.map_cons, List.flatten_cons, Array.toList_append, List.append_assoc]
theorem mul_tx (l : List Nat) {n : Int} (h : 1 ≤ n) : Txt.mul (tx l) n = tx (List.replicate n.toNat l).flatten := by
  refine TL.ext_tl ?_
  unfold Txt.mul
  rw [if_neg (by omega)]
  by_cases q : (n == 1 || (tx l).length == 0) = true
  · rw [if_pos q]
    rw [Bool.or_eq_true, beq_iff_eq, beq_iff_eq] at q
    rcases q with q | q
    · subst q
      show l = (List.replicate 1 l).flatten
      simp
    · rw [tx_len] at q
      have e : l = [] := List.length_eq_zero_iff.mp q
      subst e
      show ([] : List Nat) = (List.replicate n.toNat []).flatten
      simp
  · rw [if_neg q]
    show (List.foldl (· ++ ·) #[] (List.replicate n.toNat (tx l).cps)).toList = (List.replicate n.toNat l).flatten
    rw [fold_app, List.map_replicate]
    rfl
theorem rep_len (n : Nat) (l : List Nat) : (List.replicate n l).flatten.length = n * l.length := by
  induction n with
  | zero => simp
  | succ k ih => rw [List.replicate_succ, List.flatten_cons, List.length_append, ih, Nat.succ_mul, Nat.add_comm]
theorem cut_to (l : List Nat) (k : Nat) : cutS (tx l) none (some (k : Int)) = tx (l.take k) := by
  refine TL.ext_tl ?_
  show (List.take _ (List.drop _ l)) = l.take k
  rw [HT.sIx_none, HT.sIx_nat, tx_len, Nat.sub_zero, List.drop_zero]
  rw [List.take_eq_take_iff]
  omega
theorem cut_from (l : List Nat) (k : Nat) : cutS (tx l) (some (k : Int)) none = tx (l.drop k) := by
  refine TL.ext_tl ?_
  show (List.take _ (List.drop _ l)) = l.drop k
  rw [HT.sIx_none, HT.sIx_nat, tx_len]
  by_cases h : k ≤ l.length
  · rw [Nat.min_eq_left h, List.take_of_length_le (by rw [List.length_drop]; omega)]
  · rw [Nat.min_eq_right (by omega), Nat.sub_self, List.take_zero, List.drop_eq_nil_of_le (by omega)]
theorem cut_mid (l : List Nat) (a b : Nat) : cutS (tx l) (some (a : Int)) (some ((a : Int) + (b : Int))) = tx ((l.drop a).take b) := by
  refine TL.ext_tl ?_
  show (List.take _ (List.drop _ l)) = (l.drop a).take b
  rw [show (a : Int) + (b : Int) = ((a + b : Nat) : Int) by omega, HT.sIx_nat, HT.sIx_nat, tx_len]
  by_cases h : a ≤ l.length
  · rw [Nat.min_eq_left h, List.take_eq_take_iff, List.length_drop]
    omega
  · have x1 : min a l.length = l.length := by omega
    have x2 : min (a + b) l.length = l.length := by omega
    rw [x1, x2, List.drop_length, List.drop_eq_nil_of_le (show l.length ≤ a by omega), List.take_nil, List.take_nil]
theorem join_bound (cs : List Nat) (h : cs.length ≤ 1000000) : ((cs.map sg).map (·.length)).sum + (cs.map sg).length * (Str.ofString "").length ≤ 16777216 := by
  rw [join_size, show (Str.ofString "").length = 0 from rfl]
  omega
theorem tx_le {l : List Nat} (h : l.length < 1000) : (tx l).length ≤ sizeLine := by
  rw [tx_len]
  exact sz_le h
theorem sg_tx (c : Nat) : sg c = tx [c] := rfl
theorem mem_rep {n : Nat} {l : List Nat} {c : Nat} (h : c ∈ (List.replicate n l).flatten) : c ∈ l := by
  obtain ⟨m, hm, hc⟩ := List.mem_flatten.mp h
  rw [List.eq_of_mem_replicate hm] at hc
  exact hc
theorem tx_app (l m : List Nat) : tx l ++ tx m = tx (l ++ m) := by
  refine TL.ext_tl ?_
  rw [TL.tl_append]
  rfl
theorem sgs_of (l : List Nat) : ST.signsOf (tx l) = l.map sg := rfl
theorem tx_size (l : List Nat) : (tx l).cps.size = l.length := by simp [tx]
theorem tx_at {l : List Nat} {i c : Nat} (h : (tx l).cps[i]? = some c) : l[i]? = some c := by
  rw [← h]
  simp [tx]
theorem sg_inj2 {c d : Nat} (h : sg c = sg d) : c = d := by
  have h2 : (sg c).cps.toList = (sg d).cps.toList := by rw [h]
  exact List.head_eq_of_cons_eq h2
theorem dct_nodup {l : List Nat} (h : l.Nodup) : ∀ i, i ≤ l.length → ST.dct (l.map sg) i = i
  | 0, _ => rfl
  | i + 1, hi => by
    have ih := dct_nodup h i (by omega)
    unfold ST.dct
    have hno : (((l.map sg).take i).any (· == (l.map sg).getD i Str.empty)) = false := by
      rw [Bool.eq_false_iff]
      intro q
      rw [List.any_eq_true] at q
      obtain ⟨x, hx, he⟩ := q
      rw [beq_iff_eq] at he
      have hi2 : i < l.length := by omega
      have e1 : (l.map sg).getD i Str.empty = sg l[i] := by
        rw [List.getD_eq_getElem?_getD, List.getElem?_map, List.getElem?_eq_getElem hi2]
        rfl
      rw [e1] at he
      obtain ⟨j, hj, ej⟩ := List.mem_iff_getElem.mp hx
      rw [List.length_take, List.length_map] at hj
      have ej2 : sg (l[j]'(by omega)) = x := by
        rw [← ej, List.getElem_take, List.getElem_map]
      have e2 : l[j]'(by omega) = l[i] := sg_inj2 (ej2.trans he)
      exact List.pairwise_iff_getElem.mp h j i (by omega) hi2 (by omega) e2
    rw [hno]
    show (if false = true then _ else _) = i + 1
    rw [if_neg (by decide), ih]
/-- letters: two to four different small ones -/
structure LG (l : List Nat) : Prop where
  lo : 2 ≤ l.length
  hi : l.length ≤ 4
  az : ∀ c ∈ l, 97 ≤ c ∧ c ≤ 122
  nd : l.Nodup
theorem lets_good {f p m : Nat} (hf : f < 26) (hp : p ∈ paces) (h1 : 2 ≤ m) (h2 : m ≤ 4) : LG (lets f p m) := by
  refine ⟨by rw [lets_len]; exact h1, by rw [lets_len]; exact h2, fun c hc => ?_, ?_⟩
  · unfold lets at hc
    obtain ⟨k, _, rfl⟩ := List.mem_map.mp hc
    omega
  · have key : ∀ f : Nat, f < 26 → ∀ p ∈ paces, (lets f p 2).Nodup ∧ (lets f p 3).Nodup ∧ (lets f p 4).Nodup := by decide +kernel
    obtain ⟨a, b, c⟩ := key f hf p hp
    have hm : m = 2 ∨ m = 3 ∨ m = 4 := by omega
    rcases hm with rfl | rfl | rfl <;> assumption
def spAreL : Sp := fun vs H Q _ => ∃ L : List Nat, vs = [.str (tx L)] ∧ LG L ∧ ∀ H', Ex H H' → Q (.bl true) H'
theorem kit_lt {K : PySem.W.Frag} : PySem.W.kitAny K (.type "list") [.type "list", .type "tuple"] = some true :=
  kitAny_cons (b := true) (kit_ty (by decide +kernel)) (fun h => by cases h) fun _ => rfl
theorem kit_tt {K : PySem.W.Frag} : PySem.W.kitAny K (.type "tuple") [.type "list", .type "tuple"] = some true :=
  kitAny_cons (b := false) (kit_ty (by decide +kernel)) (fun _ => kitAny_cons (b := true) (kit_ty (by decide +kernel)) (fun h => by cases h) fun _ => rfl) fun h => by cases h
theorem kit_ss {K : PySem.W.Frag} : PySem.W.kitOne K (.type "str") (.type "str") = some true := kit_ty (by decide +kernel)
theorem kit_ii {K : PySem.W.Frag} : PySem.W.kitOne K (.type "int") (.type "int") = some true := kit_ty (by decide +kernel)
theorem kit_ib {K : PySem.W.Frag} : PySem.W.kitOne K (.type "int") (.type "bool") = some false := kit_ty (by decide +kernel)
def spIsQ : Sp := fun vs H Q _ => ∃ (a : Addr) (k : Bool) (xs : List V), vs = [.ref a] ∧ H a = some (ob k xs) ∧ ∀ H', Ex H H' → Q (.bl true) H'
def spIsInt : Sp := fun vs H Q _ => ∃ v : Int, vs = [.int v] ∧ ∀ H', Ex H H' → Q (.bl true) H'
def spWhole : Sp := fun vs H Q _ => ∃ v lo hi : Int, vs = [.int v, .int lo, .int hi] ∧ lo ≤ v ∧ v ≤ hi ∧ ∀ H', Ex H H' → Q (.bl true) H'
def spIsPart : Sp := fun vs H Q _ => ∃ (t : Tr) (v : V) (k : Bool) (L : List Nat) (w n : Nat), vs = [v, .str (tx L), .int (w : Int), .int (n : Int)] ∧ TX k H v t ∧ t.ok L.length w n ∧ L.length ≤ 10 ∧ ∀ H', Ex H H' → Q (.bl true) H'
def spWithin : Sp := fun vs H Q _ => ∃ (t : Tr) (v : V) (k : Bool) (H0 : Hp), vs = [v] ∧ TX k H0 v t ∧ Ex H0 H ∧ ∀ r H' us, Ex H H' → H r = none → H' r = some (.lst us) → KidX k H0 us t.kids → Q (.ref r) H'
theorem go_ne_read : ¬ (V.str (Str.ofString "go") = V.str (Str.ofString "read")) := fun h => absurd (V.str.inj h) (by decide +kernel)
theorem go_ne_tell : ¬ (V.str (Str.ofString "go") = V.str (Str.ofString "tell")) := fun h => absurd (V.str.inj h) (by decide +kernel)
theorem tell_ne_read : ¬ (V.str (Str.ofString "tell") = V.str (Str.ofString "read")) := fun h => absurd (V.str.inj h) (by decide +kernel)
theorem tell_ne_go : ¬ (V.str (Str.ofString "tell") = V.str (Str.ofString "go")) := fun h => absurd (V.str.inj h) (by decide +kernel)
theorem read_ne_go : ¬ (V.str (Str.ofString "read") = V.str (Str.ofString "go")) := fun h => absurd (V.str.inj h) (by decide +kernel)
theorem read_ne_tell : ¬ (V.str (Str.ofString "read") = V.str (Str.ofString "tell")) := fun h => absurd (V.str.inj h) (by decide +kernel)
theorem iteD {c A B : Prop} [Decidable c] (hc : c) (h : A) : if decide c = true then A else B := by
  rw [if_pos (decide_eq_true hc)]
  exact h
theorem iteDn {c A B : Prop} [Decidable c] (hc : ¬ c) (h : B) : if decide c = true then A else B := by
  rw [if_neg (by rw [decide_eq_true_eq]; exact hc)]
  exact h
section
variable {P : Program} {w : World} {K : PySem.W.Frag} {mg : Str → Option Value} {base : Heap}
theorem ok_isQ {f : Addr} {fd : FuncData} (F : Fun K "is_list" "is_list" s_is_list f fd) (T : Tx mg) : FnOk P w K mg base CX0 1 f fd ["value"] spIsQ := by
  refine F.ok sc_is_list (fun vs H Q E h => ?_) (fun cdv A outer s H vs Q E hr h => ?_)
  · obtain ⟨a, k, xs, rfl, _⟩ := h
    rfl
  · obtain ⟨a, k, xs, rfl, ha, q⟩ := h
    refine ⟨_, (pss_one (ps_ret (pe_callB call_isiT (by rfl) T.isinstance PyProof.Rows.boot_isinstance (pa_cons (pv 0) (pa_cons (pe_tup (pa_cons (pe_bltn (v := .ty "list") (by rfl) T.list PyProof.Rows.boot_list rfl) (pa_cons (pe_bltn (v := .ty "tuple") (by rfl) T.tuple PyProof.Rows.boot_tuple rfl) pa_nil))) pa_nil))))), ?_⟩
    refine ⟨_, rfl, by show 2 ≤ sizeLine; decide, fun t ht => ?_⟩
    cases k
    · exact ⟨_, t, _, _, _, true, rfl, upd_same, .cons (.ty _) (.cons (.ty _) .nil), .base (.lst (Ex.new ht _ _ ha)), kit_lt, q _ (Ex.new ht)⟩
    · exact ⟨_, t, _, _, _, true, rfl, upd_same, .cons (.ty _) (.cons (.ty _) .nil), .base (.tup (Ex.new ht _ _ ha)), kit_tt, q _ (Ex.new ht)⟩
theorem ok_integer {f : Addr} {fd : FuncData} (F : Fun K "is_integer" "is_integer" s_is_integer f fd) (T : Tx mg) : FnOk P w K mg base CX0 1 f fd ["value"] spIsInt := by
  refine F.ok sc_is_integer (fun vs H Q E h => ?_) (fun cdv A outer s H vs Q E hr h => ?_)
  · obtain ⟨v, rfl, _⟩ := h
    rfl
  · obtain ⟨v, rfl, q⟩ := h
    refine ⟨_, (pss_one (ps_ret (pe_and (pe_callB call_isi (by rfl) T.isinstance PyProof.Rows.boot_isinstance (pa_cons (pv 0) (pa_cons (pe_bltn (v := .ty "int") (by rfl) T.int PyProof.Rows.boot_int rfl) pa_nil))) (pe_one (pe_not (pe_callB call_isi (by rfl) T.isinstance PyProof.Rows.boot_isinstance (pa_cons (pv 0) (pa_cons (pe_bltn (v := .ty "bool") (by rfl) T.bool PyProof.Rows.boot_bool rfl) pa_nil)))))))), ?_⟩
    refine ⟨_, rfl, _, _, _, _, true, rfl, .ty _, .base (.int _), kit_ii, true, rfl, ?_⟩
    exact ⟨_, rfl, _, _, _, _, false, rfl, .ty _, .base (.int _), kit_ib, false, rfl, q H (Ex.refl _)⟩
theorem ok_whole {f : Addr} {fd : FuncData} (F : Fun K "is_whole" "is_whole" s_is_whole f fd) (T : Tx mg) (c_is_integer : Kn P w K mg base "is_integer" ["value"] 1 spIsInt) : FnOk P w K mg base CX0 2 f fd ["value", "low", "high"] spWhole := by
  refine F.ok sc_is_whole (fun vs H Q E h => ?_) (fun cdv A outer s H vs Q E hr h => ?_)
  · obtain ⟨v, lo, hi, rfl, _⟩ := h
    rfl
  · obtain ⟨v, lo, hi, rfl, h1, h2, q⟩ := h
    refine ⟨_, (pss_one (ps_ret (pe_and (pe_call c_is_integer.ok (hr.mono (by decide)) (by rfl) c_is_integer.g c_is_integer.kp c_is_integer.b .nil pass0 (pa_cons (pv 0) pa_nil)) (pe_one (pe_chain op_le op_le (pv 1) (pv 0) (pv 2)))))), ?_⟩
    refine ⟨_, rfl, v, rfl, fun H' e => ⟨true, rfl, ?_⟩⟩
    refine ⟨_, rfl, _, rfl, _, _, rfl, rfl, _, rfl, iteD h1 ⟨_, rfl, _, _, rfl, rfl, ?_⟩⟩
    have q2 := q H' e
    show Q (V.bl (decide (v ≤ hi))) H'
    rw [decide_eq_true h2]
    exact q2
theorem le_a {c : Nat} (h : 97 ≤ c) : (!decide ((sg c).cps.toList < (Str.ofString "a").cps.toList)) = true := by
  rw [show (Str.ofString "a").cps.toList = [97] by decide +kernel, show (sg c).cps.toList = [c] from rfl]
  rw [decide_eq_false]
  · rfl
  · intro q
    rw [List.cons_lt_cons_iff] at q
    rcases q with q | ⟨_, q⟩
    · omega
    · exact absurd q (by simp)
theorem le_z {c : Nat} (h : c ≤ 122) : (!decide ((Str.ofString "z").cps.toList < (sg c).cps.toList)) = true := by
  rw [show (Str.ofString "z").cps.toList = [122] by decide +kernel, show (sg c).cps.toList = [c] from rfl]
  rw [decide_eq_false]
  · rfl
  · intro q
    rw [List.cons_lt_cons_iff] at q
    rcases q with q | ⟨_, q⟩
    · omega
    · exact absurd q (by simp)
theorem lc_str {x : Str} {g : TG} {tt : TT} {te : TE} {vs : List Nat} {σ : L2.St} {H1 : Hp} {D : Addr} {Qd : Hp → Prop} (Pv : Nat → Hp → Prop) (h0 : Pv 0 (upd H1 D (.lst [])))
    (hs : ∀ i c H, x.cps[i]? = some c → Pv i H → g (.str ⟨#[c]⟩) (wipe σ vs) H fun σ2 H2 => wipe σ2 vs = wipe σ vs ∧ tt σ2 H2 fun b H3 =>
      if b = true then te σ2 H3 fun z H4 => ∃ acc, H4 D = some (.lst acc) ∧ acc.length < sizeLine ∧ Pv (i + 1) (upd H4 D (.lst (acc ++ [z]))) else Pv (i + 1) H3) (hd : ∀ H, Pv x.cps.size H → Qd H) :
    ∃ W : Nat → Nat → Hp → Prop, (∃ m, W 0 m (upd H1 D (.lst []))) ∧ ∀ i m H, W i m H →
      ((Its x).stop i H ∧ Qd H) ∨ ((Its x).go i H ∧ ∃ Nx : Hp → Prop, (∀ H', Nx H' → ∃ m', m' < m ∧ W (i + 1) m' H') ∧ ∀ v H', (Its x).yld i H v H' → g v (wipe σ vs) H' fun σ2 H2 => wipe σ2 vs = wipe σ vs ∧ tt σ2 H2 fun b H3 =>
        if b = true then te σ2 H3 fun z H4 => ∃ acc, H4 D = some (.lst acc) ∧ acc.length < sizeLine ∧ Nx (upd H4 D (.lst (acc ++ [z]))) else Nx H3) := by
  refine ⟨fun i m H => i + m = x.cps.size ∧ Pv i H, ⟨_, Nat.zero_add _, h0⟩, ?_⟩
  rintro i m H ⟨e, p⟩
  by_cases hm : m = 0
  · have e2 : i = x.cps.size := by omega
    refine .inl ⟨by show x.cps.size ≤ i; omega, hd H ?_⟩
    rw [← e2]
    exact p
  · refine .inr ⟨by show i < x.cps.size; omega, Pv (i + 1), fun H' p' => ⟨m - 1, by omega, by omega, p'⟩, ?_⟩
    rintro v H' ⟨rfl, c, hc, rfl⟩
    exact hs i c _ hc p
theorem bl_snoc' (bs : List Bool) (b : Bool) : bs.map V.bl ++ [.bl b] = (bs ++ [b]).map V.bl := by
  rw [List.map_append]
  rfl
theorem all_yes (n : Nat) : (List.replicate n true).all id = true := by
  rw [List.all_eq_true]
  intro x hx
  rw [List.eq_of_mem_replicate hx]
  rfl
theorem ok_areL {f : Addr} {fd : FuncData} (F : Fun K "are_letters" "are_letters" s_are_letters f fd) (T : Tx mg) : FnOk P w K mg base CX0 1 f fd ["value"] spAreL := by
  refine F.ok sc_are_letters (fun vs H Q E h => ?_) (fun cdv A outer s H vs Q E hr h => ?_)
  · obtain ⟨L, rfl, _⟩ := h
    rfl
  · obtain ⟨L, rfl, hL, q⟩ := h
    have h1 := hL.lo
    have h2 := hL.hi
    refine ⟨_, (pss_cons (ps_if (PW.pt (pw_or (pt_not (pt_val (pe_callB call_isi (by rfl) T.isinstance PyProof.Rows.boot_isinstance (pa_cons (pv 0) (pa_cons (pe_bltn (v := .ty "str") (by rfl) T.str PyProof.Rows.boot_str rfl) pa_nil))))) (pw_or1 (pt_not (pt_chain op_le op_le pe_int (pe_callB call_len_str (by rfl) T.len PySem.boot_len (pa_cons (pv 0) pa_nil)) pe_int))))) (pss_one (ps_ret pe_bl)) pss_nil)
      (pss_one (ps_ret (pe_and (pe_callB (cr_all rfl) (by rfl) T.all PyProof.Rows.boot_all (pa_cons (pe_lc (own := [("sign", 1)]) (g := gName 1) (tt := tYes) rfl sc_are_letters.nd (pi_str (pv 0)) (blkOk_by (N := N_are_letters) (sc := defScope s_are_letters) (by decide +kernel)) (fun _ _ _ _ _ => (pg_name (i := 1) sc_are_letters.nd rfl (Or.inl rfl))) (fun _ _ _ _ _ => pts_nil) (fun _ _ _ _ _ => (pe_chain op_le_str op_le_str pe_str (pv 1) pe_str))) pa_nil)) (pe_one (pe_cmpR op_eq (EN.pe_lenSetS rfl (by rfl) T.len (by rfl) T.set (pv 0)) (pe_callB call_len_str (by rfl) T.len PySem.boot_len (pa_cons (pv 0) pa_nil)) (nomark _))))))), ?_⟩
    refine ⟨_, rfl, _, _, _, _, true, rfl, .ty _, .base (.str _), kit_ss, true, rfl, ?_⟩
    refine ⟨_, rfl, _, rfl, tx_le (by omega), _, _, rfl, rfl, _, rfl, ite2 (fun _ => ?_) (fun hn => absurd (decide_eq_true (by rw [tx_len]; omega)) hn)⟩
    refine ⟨_, _, rfl, rfl, _, rfl, ite2 (fun hb => ?_) (fun _ => ?_)⟩
    · rw [tx_len, decide_eq_true (by omega)] at hb
      cases hb
    refine ⟨_, rfl, _, rfl, fun D hD => ?_⟩
    refine lc_str (x := tx L) (fun i H' => Ex H H' ∧ H' D = some (.lst ((List.replicate i true).map V.bl))) ⟨Ex.new hD, upd_same⟩ (fun i c H' hic hw => ?_) (fun H' hw => ?_)
    · obtain ⟨e, hl⟩ := hw
      have hc := tx_at hic
      have az := hL.az c (List.mem_of_getElem? hc)
      have hi := (List.getElem?_eq_some_iff.mp hc).1
      refine ⟨rfl, _, rfl, _, _, rfl, rfl, _, rfl, ite2 (fun _ => ?_) (fun hn => absurd (le_a az.1) hn)⟩
      refine ⟨_, _, rfl, rfl, _, hl, ?_, e.mut hD, ?_⟩
      · rw [List.length_map, List.length_replicate]
        exact sz_lt (by omega)
      · rw [upd_same]
        refine congrArg (fun l => some (HO.lst l)) ?_
        show (List.replicate i true).map V.bl ++ [V.bl (!decide ((Str.ofString "z").cps.toList < (sg c).cps.toList))] = _
        rw [le_z az.2, bl_snoc', List.replicate_succ']
    · obtain ⟨e, hl⟩ := hw
      refine ⟨D, _, rfl, sq_of hl, _, rfl, ?_⟩
      rw [all_yes]
      refine ⟨_, rfl, _, rfl, by rw [tx_size]; omega, _, rfl, _, rfl, tx_le (by omega), rfl, ?_⟩
      have e2 : decide (V.int ((ST.dct (ST.signsOf (tx L)) (tx L).cps.size : Nat) : Int) = V.int (((tx L).length : Nat) : Int)) = true := decide_eq_true (by
        rw [sgs_of, tx_size, dct_nodup hL.nd _ (Nat.le_refl _), tx_len])
      show Q (V.bl (decide (V.int ((ST.dct (ST.signsOf (tx L)) (tx L).cps.size : Nat) : Int) = V.int (((tx L).length : Nat) : Int)))) H'
      rw [e2]
      exact q _ e
theorem ok_ispart {f : Addr} {fd : FuncData} (F : Fun K "_is_part" "_is_part" s_is_part f fd) (T : Tx mg) (c_is_list : Kn P w K mg base "is_list" ["value"] 1 spIsQ)
    (c_is_whole : Kn P w K mg base "is_whole" ["value", "low", "high"] 2 spWhole) : FnOk P w K mg base CX0 3 f fd ["part", "letters", "width", "states"] spIsPart := by
  refine F.ok sc_is_part (fun vs H Q E h => ?_) (fun cdv A outer s H vs Q E hr h => ?_)
  · obtain ⟨t, v, k, L, wd, n, rfl, _⟩ := h
    rfl
  · obtain ⟨t, v, k, L, wd, n, rfl, hT, hok, hL, q⟩ := h
    refine ⟨_, (pss_cons (ps_if (PW.pt (pw_or (pt_not (pt_val (pe_call c_is_list.ok (hr.mono (by decide)) (by rfl) c_is_list.g c_is_list.kp c_is_list.b .nil pass0 (pa_cons (pv 0) pa_nil)))) (pw_or1 (pt_cmpR op_ne (pe_callB call_len_seq (by rfl) T.len PySem.boot_len (pa_cons (pv 0) pa_nil)) pe_int (nomark _))))) (pss_one (ps_ret pe_bl)) pss_nil)
      (pss_cons (ps_asg (pv 0) (TR.pg_seq (by rfl) (pgs_cons (pg_name (i := 4) sc_is_part.nd rfl (Or.inl rfl)) (pgs_cons (pg_name (i := 5) sc_is_part.nd rfl (Or.inl rfl)) (pgs_cons (pg_name (i := 6) sc_is_part.nd rfl (Or.inl rfl)) pgs_nil)))))
      (pss_cons (ps_if (pt_cmpR op_eq (pv 4) pe_str (nomark _)) (pss_one (ps_ret (pe_and (pe_call c_is_whole.ok (hr.mono (by decide)) (by rfl) c_is_whole.g c_is_whole.kp c_is_whole.b .nil pass0 (pa_cons (pv 5) (pa_cons pe_int (pa_cons (pv 2) pa_nil)))) (pe_and (pe_call c_is_list.ok (hr.mono (by decide)) (by rfl) c_is_list.g c_is_list.kp c_is_list.b .nil pass0 (pa_cons (pv 6) pa_nil)) (pe_one (pe_cmpR op_eq (pe_callB call_len_seq (by rfl) T.len PySem.boot_len (pa_cons (pv 6) pa_nil)) (pe_callB call_len_str (by rfl) T.len PySem.boot_len (pa_cons (pv 1) pa_nil)) (nomark _))))))) pss_nil)
      (pss_cons (ps_if (pt_cmpR op_eq (pv 4) pe_str (nomark _)) (pss_one (ps_ret (pe_call c_is_whole.ok (hr.mono (by decide)) (by rfl) c_is_whole.g c_is_whole.kp c_is_whole.b .nil pass0 (pa_cons (pv 5) (pa_cons pe_int (pa_cons pe_int pa_nil)))))) pss_nil)
      (pss_cons (ps_if (pt_cmpR op_eq (pv 4) pe_str (nomark _)) (pss_one (ps_ret (pe_and (pe_call c_is_whole.ok (hr.mono (by decide)) (by rfl) c_is_whole.g c_is_whole.kp c_is_whole.b .nil pass0 (pa_cons (pv 5) (pa_cons pe_int (pa_cons (pe_op op_add (pv 2) pe_int) pa_nil)))) (pe_one (pe_call c_is_whole.ok (hr.mono (by decide)) (by rfl) c_is_whole.g c_is_whole.kp c_is_whole.b .nil pass0 (pa_cons (pv 6) (pa_cons pe_int (pa_cons (pe_op op_sub (pv 3) pe_int) pa_nil)))))))) pss_nil)
      (pss_one (ps_ret pe_bl))))))), ?_⟩
    cases hT with
    | @go j a s' q' h =>
      obtain ⟨o1, o2, o3⟩ := hok
      refine ⟨_, rfl, a, j, _, rfl, h, fun H1 e1 => ⟨true, rfl, ?_⟩⟩
      refine ⟨_, rfl, a, _, rfl, ob_seq (e1 _ _ h), rfl, _, rfl, iteNS rfl ?_⟩
      refine ⟨_, rfl, gSeq_of (e1 _ _ h) rfl ⟨_, _, rfl, _, _, rfl, _, _, rfl, rfl, ?_⟩⟩
      refine ⟨_, rfl, rfl, _, rfl, iteDn go_ne_read ?_⟩
      refine ⟨_, rfl, rfl, _, rfl, iteDn go_ne_tell ?_⟩
      refine ⟨_, rfl, rfl, _, rfl, iteD rfl ?_⟩
      refine ⟨_, rfl, _, rfl, _, _, rfl, rfl, _, _, _, rfl, by omega, by omega, fun H2 e2 => ⟨true, rfl, ?_⟩⟩
      exact ⟨_, rfl, _, rfl, _, _, rfl, rfl, _, _, _, rfl, by omega, by omega, fun H3 e3 => q _ ((e1.trans e2).trans e3)⟩
    | @tell j a n' v' t' h r =>
      obtain ⟨o1, o2⟩ := hok
      refine ⟨_, rfl, a, j, _, rfl, h, fun H1 e1 => ⟨true, rfl, ?_⟩⟩
      refine ⟨_, rfl, a, _, rfl, ob_seq (e1 _ _ h), rfl, _, rfl, iteNS rfl ?_⟩
      refine ⟨_, rfl, gSeq_of (e1 _ _ h) rfl ⟨_, _, rfl, _, _, rfl, _, _, rfl, rfl, ?_⟩⟩
      refine ⟨_, rfl, rfl, _, rfl, iteDn tell_ne_read ?_⟩
      refine ⟨_, rfl, rfl, _, rfl, iteD rfl ?_⟩
      exact ⟨_, rfl, _, _, _, rfl, by omega, by omega, fun H2 e2 => q _ (e1.trans e2)⟩
    | @read j k2 a b p' us ts h hb r =>
      obtain ⟨o1, o2, o3⟩ := hok
      have lk := r.kids.len
      refine ⟨_, rfl, a, j, _, rfl, h, fun H1 e1 => ⟨true, rfl, ?_⟩⟩
      refine ⟨_, rfl, a, _, rfl, ob_seq (e1 _ _ h), rfl, _, rfl, iteNS rfl ?_⟩
      refine ⟨_, rfl, gSeq_of (e1 _ _ h) rfl ⟨_, _, rfl, _, _, rfl, _, _, rfl, rfl, ?_⟩⟩
      refine ⟨_, rfl, rfl, _, rfl, iteD rfl ?_⟩
      refine ⟨_, rfl, _, rfl, _, _, _, rfl, by omega, by omega, fun H2 e2 => ⟨true, rfl, ?_⟩⟩
      have e12 := e1.trans e2
      refine ⟨_, rfl, b, k2, _, rfl, e12 _ _ hb, fun H3 e3 => ⟨true, rfl, ?_⟩⟩
      have e13 := e12.trans e3
      refine ⟨_, rfl, b, _, rfl, ob_seq (e13 _ _ hb), _, rfl, _, rfl, tx_le (by omega), rfl, ?_⟩
      have ee : decide (V.int ((us.length : Nat) : Int) = V.int (((tx L).length : Nat) : Int)) = true := decide_eq_true (by rw [tx_len, lk, o2])
      show Q (V.bl (decide (V.int ((us.length : Nat) : Int) = V.int (((tx L).length : Nat) : Int)))) _
      rw [ee]
      exact q _ e13
theorem ok_within {f : Addr} {fd : FuncData} (F : Fun K "_within" "_within" s_within f fd) (T : Tx mg) : FnOk P w K mg base CX0 1 f fd ["part"] spWithin := by
  refine F.ok sc_within (fun vs H Q E h => ?_) (fun cdv A outer s H vs Q E hr h => ?_)
  · obtain ⟨t, v, k, H0, rfl, _⟩ := h
    rfl
  · obtain ⟨t, v, k, H0, rfl, hT, e0, q⟩ := h
    refine ⟨_, (pss_cons (ps_if (pt_cmpR op_eq (pe_ix ix_seq (pv 0) pe_int (fun _ _ => rfl)) pe_str (nomark _)) (pss_one (ps_ret (pe_callTy call_list_of (by rfl) T.list PyProof.Rows.boot_list (pa_cons (pe_ix ix_seq (pv 0) pe_int (fun _ _ => rfl)) pa_nil)))) pss_nil)
      (pss_cons (ps_if (pt_cmpR op_eq (pe_ix ix_seq (pv 0) pe_int (fun _ _ => rfl)) pe_str (nomark _)) (pss_one (ps_ret (pe_lst (pa_cons (pe_ix ix_seq (pv 0) pe_int (fun _ _ => rfl)) pa_nil)))) pss_nil)
      (pss_one (ps_ret (pe_lst pa_nil))))), ?_⟩
    cases hT with
    | @go j a s' q' h =>
      refine ⟨_, rfl, ix_at (e0 _ _ h) (atI_nat (j := 0) rfl) ⟨rfl, _, rfl, iteDn go_ne_read ?_⟩⟩
      refine ⟨_, rfl, ix_at (e0 _ _ h) (atI_nat (j := 0) rfl) ⟨rfl, _, rfl, iteDn go_ne_tell ?_⟩⟩
      exact ⟨Nat.zero_le _, fun r hr => q r _ _ (Ex.new hr) hr upd_same .nil⟩
    | @tell j a n' v' t' h r0 =>
      refine ⟨_, rfl, ix_at (e0 _ _ h) (atI_nat (j := 0) rfl) ⟨rfl, _, rfl, iteDn tell_ne_read ?_⟩⟩
      refine ⟨_, rfl, ix_at (e0 _ _ h) (atI_nat (j := 0) rfl) ⟨rfl, _, rfl, iteD rfl ?_⟩⟩
      exact ⟨_, rfl, ix_at (e0 _ _ h) (atI_nat (j := 2) rfl) ⟨by show 1 ≤ sizeLine; decide, fun r hr => q r _ _ (Ex.new hr) hr upd_same (.cons r0 .nil)⟩⟩
    | @read j k2 a b p' us ts h hb r0 =>
      refine ⟨_, rfl, ix_at (e0 _ _ h) (atI_nat (j := 0) rfl) ⟨rfl, _, rfl, iteD rfl ?_⟩⟩
      exact ⟨_, rfl, ix_at (e0 _ _ h) (atI_nat (j := 2) rfl) ⟨b, _, rfl, ob_seq (e0 _ _ hb), fun r hr => q r _ _ (Ex.new hr) hr upd_same r0.kids⟩⟩
end
end Law

namespace Law
open PySem PySem.Spec PyProof.Rows L2 Evl TR
/-! ### the waiting ones -/
inductive Stk (k : Bool) (H0 H : Hp) : List V → List (Tr × Nat) → Prop
  | nil : Stk k H0 H [] []
  | cons {r : Addr} {v : V} {t : Tr} {d : Nat} {vs : List V} {ps : List (Tr × Nat)} : H r = some (.tup [v, .int (d : Nat)]) → TX k H0 v t → Stk k H0 H vs ps → Stk k H0 H (.ref r :: vs) ((t, d) :: ps)
theorem Stk.ex {k : Bool} {H0 H H' : Hp} (e : Ex H H') : ∀ {vs : List V} {ps : List (Tr × Nat)}, Stk k H0 H vs ps → Stk k H0 H' vs ps
  | _, _, .nil => .nil
  | _, _, .cons h1 h2 r => .cons (e _ _ h1) h2 (Stk.ex e r)
theorem Stk.len {k : Bool} {H0 H : Hp} : ∀ {vs : List V} {ps : List (Tr × Nat)}, Stk k H0 H vs ps → vs.length = ps.length
  | _, _, .nil => rfl
  | _, _, .cons _ _ r => by rw [List.length_cons, List.length_cons, r.len]
theorem Stk.app {k : Bool} {H0 H : Hp} : ∀ {vs : List V} {ps : List (Tr × Nat)} {us : List V} {qs : List (Tr × Nat)}, Stk k H0 H vs ps → Stk k H0 H us qs → Stk k H0 H (vs ++ us) (ps ++ qs)
  | _, _, _, _, .nil, h => h
  | _, _, _, _, .cons h1 h2 r, h => .cons h1 h2 (Stk.app r h)
theorem Stk.upd {k : Bool} {H0 H : Hp} {a : Addr} {o : HO} : ∀ {vs : List V} {ps : List (Tr × Nat)}, Stk k H0 H vs ps → (∀ xs, H a ≠ some (.tup xs)) → Stk k H0 (L2.upd H a o) vs ps
  | _, _, .nil, _ => .nil
  | _, _, .cons (r := r) h1 h2 r1, hn => .cons (by rw [upd_ne (fun q : r = a => hn _ (by rw [← q]; exact h1))]; exact h1) h2 (Stk.upd r1 hn)
theorem Stk.last {k : Bool} {H0 H : Hp} : ∀ {vs : List V} {ps : List (Tr × Nat)}, Stk k H0 H vs ps → vs ≠ [] →
    ∃ us r v t d qs, vs = us ++ [.ref r] ∧ ps = qs ++ [(t, d)] ∧ Stk k H0 H us qs ∧ H r = some (.tup [v, .int (d : Nat)]) ∧ TX k H0 v t
  | _, _, .nil, h => absurd rfl h
  | _, _, .cons (r := r) (v := v) (t := t) (d := d) h1 h2 .nil, _ => ⟨[], r, v, t, d, [], rfl, rfl, .nil, h1, h2⟩
  | _, _, .cons (r := r) (v := v) (t := t) (d := d) h1 h2 (.cons a1 a2 a3), _ => by
    obtain ⟨us, r', v', t', d', qs, e1, e2, s, b1, b2⟩ := Stk.last (.cons a1 a2 a3) (by intro q; cases q)
    exact ⟨.ref r :: us, r', v', t', d', (t, d) :: qs, by rw [e1]; rfl, by rw [e2]; rfl, .cons h1 h2 s, b1, b2⟩
def tot (ps : List (Tr × Nat)) : Nat := (ps.map fun p => p.1.size).sum
theorem tot_app (ps qs : List (Tr × Nat)) : tot (ps ++ qs) = tot ps + tot qs := by
  unfold tot
  rw [List.map_append, List.sum_append]
theorem tot_kids (ts : List Tr) (d : Nat) : tot (ts.map fun t => (t, d)) = total ts := by
  unfold tot total
  rw [List.map_map]
  rfl
theorem total_rev (ts : List Tr) : total ts.reverse = total ts := by
  unfold total
  rw [List.map_reverse, List.sum_reverse]
theorem len_tot : ∀ ps : List (Tr × Nat), ps.length ≤ tot ps
  | [] => Nat.zero_le _
  | p :: r => by
    have h1 := len_tot r
    have h2 := size_pos p.1
    show r.length + 1 ≤ p.1.size + tot r
    omega
def spFW : Sp := fun vs H Q _ => ∃ (t : Tr) (v : V) (k : Bool) (L : List Nat) (w n : Nat), vs = [v, .str (tx L), .int (w : Int), .int (n : Int)] ∧ TX k H v t ∧ t.ok L.length w n ∧ L.length ≤ 10 ∧ t.depth ≤ 40 ∧ t.size ≤ 10000 ∧ ∀ H', Ex H H' → Q .non H'
theorem pop_last {α : Type} (us : List α) (x : α) : (us ++ [x])[(us ++ [x]).length - 1]? = some x := by
  rw [List.length_append]
  simp
theorem take_next' {α : Type} {l : List α} {i : Nat} {x : α} (h : l[i]? = some x) : l.take (i + 1) = l.take i ++ [x] := by
  rw [List.take_add_one, h]
  rfl
theorem rev_get {α : Type} {l : List α} {i : Nat} {x : α} (h : l[l.length - 1 - i]? = some x) (hi : i < l.length) : l.reverse[i]? = some x := by
  rw [List.getElem?_reverse hi]
  exact h
section
variable {P : Program} {w : World} {K : PySem.W.Frag} {mg : Str → Option Value} {base : Heap}
theorem ok_fw {f : Addr} {fd : FuncData} (F : Fun K "first_wrong" "first_wrong" s_first_wrong f fd) (T : Tx mg) (c_is_part : Kn P w K mg base "_is_part" ["part", "letters", "width", "states"] 3 spIsPart)
    (c_within : Kn P w K mg base "_within" ["part"] 1 spWithin) : FnOk P w K mg base CX0 4 f fd ["tree", "letters", "width", "states"] spFW := by
  refine F.ok sc_first_wrong (fun vs H Q E h => ?_) (fun cdv A outer s H vs Q E hr h => ?_)
  · obtain ⟨t, v, k, L, wd, n, rfl, _⟩ := h
    rfl
  · obtain ⟨t, v, k, L, wd, n, rfl, hT, hok, hL, hdp, hsz, q⟩ := h
    refine ⟨_, (pss_cons (ps_set (i := 4) sc_first_wrong.nd rfl (Or.inl rfl) (pe_lst (pa_cons (pe_tup (pa_cons (pv 0) (pa_cons pe_int pa_nil))) pa_nil)))
      (pss_cons (ps_set (i := 5) sc_first_wrong.nd rfl (Or.inl rfl) pe_int)
      (pss_cons (ps_while PassesOwn.never (pt_truth (pv 4) (by intro _; rfl)) (pss_cons (ps_asg (pe_bm0 PySem.F.plainAttrs_list PySem.F.slot_list_pop PySem.F.type_list_pop mt_pop (pv 4)) (pg_tup (by rfl) (pgs_cons (pg_name (i := 6) sc_first_wrong.nd rfl (Or.inl rfl)) (pgs_cons (pg_name (i := 7) sc_first_wrong.nd rfl (Or.inr rfl)) pgs_nil))))
      (pss_cons (ps_if (PW.pt (pw_or (pt_cmpR op_gt (pv 7) (pe_glob (v := .int 40) rfl T.m_DEEPEST ⟨_, rfl⟩) (nomark _)) (pw_or1 (pt_not (pt_val (pe_call c_is_part.ok (hr.mono (by decide)) (by rfl) c_is_part.g c_is_part.kp c_is_part.b .nil pass0 (pa_cons (pv 6) (pa_cons (pv 1) (pa_cons (pv 2) (pa_cons (pv 3) pa_nil)))))))))) (pss_one (ps_ret (pv 5))) pss_nil)
      (pss_cons (ps_expr (pe_bm PySem.F.plainAttrs_list PySem.F.slot_list_extend PySem.F.type_list_extend mt_extend (pv 4) (pa_cons (pe_lc (own := [("inner", 8)]) (g := gName 8) (tt := tYes) rfl sc_first_wrong.nd (pi_reversed (by rfl) T.reversed (pa_cons (pe_call c_within.ok (hr.mono (by decide)) (by rfl) c_within.g c_within.kp c_within.b .nil pass0 (pa_cons (pv 6) pa_nil)) pa_nil)) (blkOk_by (N := N_first_wrong) (sc := defScope s_first_wrong) (by decide +kernel)) (fun _ _ _ _ _ => (pg_name (i := 8) sc_first_wrong.nd rfl (Or.inl rfl))) (fun _ _ _ _ _ => pts_nil) (fun _ _ _ _ _ => (pe_tup (pa_cons (pv 8) (pa_cons (pe_op op_add (pv 7) pe_int) pa_nil))))) pa_nil)))
      (pss_one (ps_aug (i := 5) sc_first_wrong.nd rfl (Or.inl rfl) pe_int ip_add))))))
      (pss_one (ps_ret pe_non))))), ?_⟩
    refine ⟨_, rfl, by show 2 ≤ sizeLine; decide, fun t1 ht1 => ⟨by show 1 ≤ sizeLine; decide, fun l hl => ?_⟩⟩
    have hl0 : H l = none := fresh_back (Ex.new ht1) hl
    have e1 := (Ex.new (o := .tup [v, .int 1]) ht1).trans (Ex.new (o := .lst [V.ref t1]) hl)
    refine ⟨fun m σ H' => ∃ (st : List V) (ps : List (Tr × Nat)) (nm : Int) (y6 y7 y8 : Option V), σ = [some v, some (.str (tx L)), some (.int (wd : Int)), some (.int (n : Int)), some (.ref l), some (.int nm), y6, y7, y8] ∧
        Ex H H' ∧ H' l = some (.lst st) ∧ Stk k H H' st ps ∧ (∀ p ∈ ps, p.1.ok L.length wd n ∧ p.2 + p.1.depth ≤ 41) ∧ m = tot ps ∧ m ≤ 10000,
      ⟨t.size, [.ref t1], [(t, 1)], 0, none, none, none, rfl, e1, upd_same, .cons (Ex.new hl _ _ upd_same) hT .nil, fun p hp => ?_, ?_, hsz⟩, fun m σ H' hw => ?_⟩
    · rw [List.mem_singleton.mp hp]
      exact ⟨hok, by show 1 + t.depth ≤ 41; omega⟩
    · show t.size = t.size + 0
      rfl
    obtain ⟨st, ps, nm, y6, y7, y8, rfl, e2, hst, S, hall, hm, hm2⟩ := hw
    refine ⟨_, rfl, !st.isEmpty, .inl ⟨st, sq_of hst, rfl⟩, ?_⟩
    cases st with
    | nil =>
      refine iteF ?_
      exact q _ e2
    | cons s0 srest =>
      refine iteT ?_
      obtain ⟨us, r, pv_, pt, d, qs, eS, eP, S', hr, hTA⟩ := S.last (by intro z; cases z)
      rw [eS] at hst
      rw [eP] at hm hall
      have hpt := hall (pt, d) (List.mem_append_right _ List.mem_cons_self)
      have hpt2 : d + pt.depth ≤ 41 := hpt.2
      have dpos : 1 ≤ pt.depth := by
        cases pt
        · exact Nat.le_refl 1
        · exact Nat.succ_le_succ (Nat.zero_le _)
        · exact Nat.succ_le_succ (Nat.zero_le _)
      have hm3 : m = tot qs + pt.size := by
        rw [hm, tot_app]
        rfl
      have nrl : r ≠ l := fun z => by
        rw [z, hst] at hr
        cases hr
      refine ⟨fun σ2 H2 => ∃ m', m' < m ∧ ∃ (st : List V) (ps : List (Tr × Nat)) (nm : Int) (y6 y7 y8 : Option V), σ2 = [some v, some (.str (tx L)), some (.int (wd : Int)), some (.int (n : Int)), some (.ref l), some (.int nm), y6, y7, y8] ∧
        Ex H H2 ∧ H2 l = some (.lst st) ∧ Stk k H H2 st ps ∧ (∀ p ∈ ps, p.1.ok L.length wd n ∧ p.2 + p.1.depth ≤ 41) ∧ m' = tot ps ∧ m' ≤ 10000, fun σ2 H2 h => h, ?_⟩
      refine ⟨_, rfl, .inl ⟨rfl, _, sq_of hst⟩, l, _, _, rfl, rfl, hst, pop_last _ _, ?_⟩
      rw [List.dropLast_concat]
      have e3 : Ex H (L2.upd H' l (.lst us)) := e2.mut hl0
      have hl3 : (L2.upd H' l (.lst us)) l = some (.lst us) := upd_same
      have hr3 : (L2.upd H' l (.lst us)) r = some (.tup [pv_, .int (d : Nat)]) := by
        rw [upd_ne nrl]
        exact hr
      have S3 := S'.upd (a := l) (o := .lst us) fun xs hh => by
        rw [hst] at hh
        cases hh
      generalize (L2.upd H' l (.lst us)) = H3 at e3 hl3 hr3 S3 ⊢
      refine ⟨r, _, rfl, st_of hr3, rfl, _, _, rfl, _, _, rfl, rfl, ?_⟩
      refine ⟨_, rfl, _, _, rfl, rfl, _, rfl, iteDn (by omega) ?_⟩
      refine ⟨_, rfl, _, rfl, _, rfl, _, rfl, pt, pv_, k, L, wd, n, rfl, hTA.ex e3, hpt.1, hL, fun H4 e4 => ⟨true, rfl, ?_⟩⟩
      have e34 := e3.trans e4
      refine ⟨_, rfl, .inl ⟨rfl, _, sq_of (e4 _ _ hl3)⟩, ?_⟩
      refine ⟨_, rfl, pt, pv_, k, H, rfl, hTA, e34, fun r2 H5 ks e5 hr2 hks KK => ?_⟩
      have e35 := e34.trans e5
      have lks := KK.len
      refine ⟨r2, ks, rfl, sq_of hks, fun D hD => ?_⟩
      refine lc_it (walk_rev (K := K) (a := r2) (xs := ks)) (fun i H6 => Ex H5 H6 ∧ ∃ zs, H6 D = some (.lst zs) ∧ Stk k H H6 zs ((pt.kids.reverse.take i).map fun x => (x, d + 1))) ⟨Ex.new hD, [], upd_same, .nil⟩ (fun i H6 _ hw => sq_of (hw.1 _ _ hks)) (fun i x H6 H7 hi hw hy => ?_) (fun H6 hw => ?_)
      · obtain ⟨e6, zs, hzs, Z⟩ := hw
        obtain ⟨rfl, hx⟩ := hy
        obtain ⟨kt, hkt, hka⟩ := KK.get hx
        have hi2 : i < pt.kids.length := by omega
        have hkt2 : pt.kids.reverse[i]? = some kt := rev_get (by rw [← lks]; exact hkt) hi2
        have lz := Z.len
        refine ⟨rfl, _, rfl, _, rfl, _, _, rfl, rfl, by show 2 ≤ sizeLine; decide, fun q2 hq2 => ?_⟩
        have nDq : D ≠ q2 := fun z => by
          rw [z, hq2] at hzs
          cases hzs
        refine ⟨zs, Ex.new hq2 _ _ hzs, ?_, (e6.trans (Ex.new hq2)).mut hD, zs ++ [.ref q2], upd_same, ?_⟩
        · have : zs.length ≤ i := by
            rw [lz, List.length_map, List.length_take]
            exact Nat.min_le_left _ _
          have l2 := KK.len
          have l3 : pt.kids.length ≤ total pt.kids := by
            have := len_tot (pt.kids.map fun x => (x, 0))
            rw [List.length_map, tot_kids] at this
            exact this
          have l4 := size_kids pt
          exact sz_lt (by omega)
        · rw [take_next' hkt2, List.map_append]
          refine Stk.upd ((Z.ex (Ex.new hq2)).app (.cons upd_same hka .nil)) fun xs hh => ?_
          rw [upd_ne nDq, hzs] at hh
          cases hh
      · obtain ⟨e6, zs, hzs, Z⟩ := hw
        rw [lks, ← List.length_reverse, List.take_length] at Z
        have e46 := e5.trans e6
        have lz := Z.len
        have lu := S3.len
        rw [List.length_map, List.length_reverse] at lz
        have l3 : pt.kids.length ≤ total pt.kids := by
          have := len_tot (pt.kids.map fun x => (x, 0))
          rw [List.length_map, tot_kids] at this
          exact this
        have l4 := size_kids pt
        have l5 := len_tot qs
        have hl6 : H6 l = some (.lst us) := e46 _ _ (e4 _ _ hl3)
        refine ⟨l, D, us, zs, rfl, rfl, hl6, hzs, sz_of (by omega), ?_⟩
        refine ⟨_, rfl, _, _, rfl, rfl, tot (qs ++ pt.kids.reverse.map fun x => (x, d + 1)), ?_, us ++ zs, qs ++ pt.kids.reverse.map fun x => (x, d + 1), nm + 1, _, _, _, rfl, (e35.trans e6).mut hl0, upd_same, ?_, fun p hp => ?_, rfl, ?_⟩
        · rw [tot_app, tot_kids, total_rev]
          omega
        · refine Stk.upd ((S3.ex (e4.trans e46)).app Z) fun xs hh => ?_
          rw [hl6] at hh
          cases hh
        · rcases List.mem_append.mp hp with h | h
          · exact hall p (List.mem_append_left _ h)
          · obtain ⟨x, hx, rfl⟩ := List.mem_map.mp h
            have hx2 := List.mem_reverse.mp hx
            have hd := depth_kids x hx2
            exact ⟨ok_kids hpt.1 x hx2, by show d + 1 + x.depth ≤ 41; omega⟩
        · rw [tot_app, tot_kids, total_rev]
          omega
end
end Law

namespace TR
open PySem PySem.Spec L2 Evl
theorem Kids.last {k : Bool} {H : Hp} : ∀ {vs : List V} {ts : List Tr}, Kids k H vs ts → vs ≠ [] → ∃ us v rs t, vs = us ++ [v] ∧ ts = rs ++ [t] ∧ Kids k H us rs ∧ TA k H v t
  | _, _, .nil, h => absurd rfl h
  | _, _, .cons (v := v) (t := t) h .nil, _ => ⟨[], v, [], t, rfl, rfl, .nil, h⟩
  | _, _, .cons (v := v) (t := t) h (.cons a1 a2), _ => by
    obtain ⟨us, v', rs, t', e1, e2, s, b1⟩ := Kids.last (.cons a1 a2) (by intro q; cases q)
    exact ⟨v :: us, v', t :: rs, t', by rw [e1]; rfl, by rw [e2]; rfl, .cons h s, b1⟩
theorem Kids.rev {k : Bool} {H : Hp} : ∀ {vs : List V} {ts : List Tr}, Kids k H vs ts → Kids k H vs.reverse ts.reverse
  | _, _, .nil => .nil
  | _, _, .cons h r => by
    rw [List.reverse_cons, List.reverse_cons]
    exact r.rev.snoc h
/-! ### trees of tuples do not change with a list -/
mutual
theorem TA.upd {H : Hp} {a : Addr} {o : HO} (hn : ∀ xs, H a ≠ some (.tup xs)) : ∀ {t : Tr} {v : V}, TA true H v t → TA true (L2.upd H a o) v t
  | _, _, .go (a := r) h => .go (by rw [upd_ne (fun q : r = a => hn _ (by rw [← q]; exact h))]; exact h)
  | _, _, .tell (a := r) h r1 => .tell (by rw [upd_ne (fun q : r = a => hn _ (by rw [← q]; exact h))]; exact h) (TA.upd hn r1)
  | _, _, .read (a := r) (b := b) h hb r1 => .read (by rw [upd_ne (fun q : r = a => hn _ (by rw [← q]; exact h))]; exact h) (by rw [upd_ne (fun q : b = a => hn _ (by rw [← q]; exact hb))]; exact hb) (TAs.upd hn r1)
theorem TAs.upd {H : Hp} {a : Addr} {o : HO} (hn : ∀ xs, H a ≠ some (.tup xs)) : ∀ {ts : Trs} {vs : List V}, TAs true H vs ts → TAs true (L2.upd H a o) vs ts
  | _, _, .nil => .nil
  | _, _, .cons h r => .cons (TA.upd hn h) (TAs.upd hn r)
end
theorem Kids.upd {H : Hp} {a : Addr} {o : HO} (hn : ∀ xs, H a ≠ some (.tup xs)) : ∀ {vs : List V} {ts : List Tr}, Kids true H vs ts → Kids true (L2.upd H a o) vs ts
  | _, _, .nil => .nil
  | _, _, .cons h r => .cons (h.upd hn) (Kids.upd hn r)
theorem Kids.tas {k : Bool} {H : Hp} : ∀ {ts : Trs} {vs : List V}, Kids k H vs ts.list → TAs k H vs ts
  | .nil, _, .nil => .nil
  | .cons _ _, _, .cons h r => .cons h (Kids.tas r)
end TR
namespace Law
open PySem PySem.Spec PyProof.Rows L2 Evl TR
theorem total_app (ts us : List Tr) : total (ts ++ us) = total ts + total us := by
  unfold total
  rw [List.map_append, List.sum_append]
theorem len_total (ts : List Tr) : ts.length ≤ total ts := by
  have := len_tot (ts.map fun x => (x, 0))
  rw [List.length_map, tot_kids] at this
  exact this
def spAll : Sp := fun vs H Q _ => ∃ (t : Tr) (v : V) (k : Bool), vs = [v] ∧ TX k H v t ∧ t.size ≤ 10000 ∧ ∀ r H' us, Ex H H' → H r = none → H' r = some (.lst us) → us.length = t.size → Q (.ref r) H'
theorem size_mem {t : Tr} : ∀ {ts : List Tr}, t ∈ ts → t.size ≤ total ts
  | x :: r, h => by
    rcases List.mem_cons.mp h with q | q
    · rw [q]
      exact Nat.le_add_right _ _
    · exact Nat.le_trans (size_mem q) (Nat.le_add_left _ _)
/-- names that leave the states as they are -/
def Same1 (xs : List V) (n : Nat) : Prop := ∀ q : Nat, q < n → atI xs (q : Int) = some (.int (q : Nat))
def spRen (d : Nat) : Sp := fun vs H Q _ => ∃ (t : Tr) (v : V) (k : Bool) (l w n : Nat) (an : Addr) (xs : List V), vs = [v, .ref an] ∧ TX k H v t ∧ t.ok l w n ∧ H an = some (.lst xs) ∧ Same1 xs n ∧ t.depth ≤ d ∧ t.size ≤ 10000 ∧ ∀ H' v', Ex H H' → TA true H' v' t → Q v' H'
section
variable {P : Program} {w : World} {K : PySem.W.Frag} {mg : Str → Option Value} {base : Heap}
theorem ok_all {f : Addr} {fd : FuncData} (F : Fun K "all_parts" "all_parts" s_all_parts f fd) (T : Tx mg) (c_within : Kn P w K mg base "_within" ["part"] 1 spWithin) : FnOk P w K mg base CX0 2 f fd ["tree"] spAll := by
  refine F.ok sc_all_parts (fun vs H Q E h => ?_) (fun cdv A outer s H vs Q E hr h => ?_)
  · obtain ⟨t, v, k, rfl, _⟩ := h
    rfl
  · obtain ⟨t, v, k, rfl, hT, hsz, q⟩ := h
    refine ⟨_, (pss_cons (ps_set (i := 1) sc_all_parts.nd rfl (Or.inl rfl) (pe_lst (pa_cons (pv 0) pa_nil)))
      (pss_cons (ps_set (i := 2) sc_all_parts.nd rfl (Or.inl rfl) (pe_lst pa_nil))
      (pss_cons (ps_while PassesOwn.never (pt_truth (pv 1) (by intro _; rfl)) (pss_cons (ps_set (i := 3) sc_all_parts.nd rfl (Or.inl rfl) (pe_bm0 PySem.F.plainAttrs_list PySem.F.slot_list_pop PySem.F.type_list_pop mt_pop (pv 1)))
      (pss_cons (ps_expr (pe_bm PySem.F.plainAttrs_list PySem.F.slot_list_append PySem.F.type_list_append mt_append (pv 2) (pa_cons (pv 3) pa_nil)))
      (pss_one (ps_expr (pe_bm PySem.F.plainAttrs_list PySem.F.slot_list_extend PySem.F.type_list_extend mt_extend (pv 1) (pa_cons (pe_lc (own := [("inner", 4)]) (g := gName 4) (tt := tYes) rfl sc_all_parts.nd (pi_reversed (by rfl) T.reversed (pa_cons (pe_call c_within.ok (hr.mono (by decide)) (by rfl) c_within.g c_within.kp c_within.b .nil pass0 (pa_cons (pv 3) pa_nil)) pa_nil)) (blkOk_by (N := N_all_parts) (sc := defScope s_all_parts) (by decide +kernel)) (fun _ _ _ _ _ => (pg_name (i := 4) sc_all_parts.nd rfl (Or.inl rfl))) (fun _ _ _ _ _ => pts_nil) (fun _ _ _ _ _ => (pv 4))) pa_nil)))))))
      (pss_one (ps_ret (pv 2)))))), ?_⟩
    refine ⟨_, rfl, by show 1 ≤ sizeLine; decide, fun l1 hl1 => ?_⟩
    have e0 := Ex.new (o := .lst [v]) hl1
    refine ⟨Nat.zero_le _, fun l2 hl2 => ?_⟩
    have hl20 : H l2 = none := fresh_back e0 hl2
    have e1 := e0.trans (Ex.new (o := .lst []) hl2)
    have n12 : l1 ≠ l2 := fun z => by
      rw [← z, upd_same] at hl2
      cases hl2
    refine ⟨fun m σ H' => ∃ (st : List V) (ts : List Tr) (fs : List V) (y3 y4 : Option V), σ = [some v, some (.ref l1), some (.ref l2), y3, y4] ∧ Ex H H' ∧ H' l1 = some (.lst st) ∧ KidX k H st ts ∧ H' l2 = some (.lst fs) ∧ fs.length + total ts = t.size ∧ m = total ts,
      ⟨t.size, [v], [t], [], none, none, rfl, e1, Ex.new hl2 _ _ upd_same, .cons hT .nil, upd_same, by show 0 + (t.size + 0) = t.size; omega, rfl⟩, fun m σ H' hw => ?_⟩
    obtain ⟨st, ts, fs, y3, y4, rfl, e2, hst, KK, hfs, hsum, hm⟩ := hw
    refine ⟨_, rfl, !st.isEmpty, .inl ⟨st, sq_of hst, rfl⟩, ?_⟩
    cases st with
    | nil =>
      refine iteF ?_
      cases KK
      exact ⟨_, rfl, q l2 _ fs e2 hl20 hfs hsum⟩
    | cons s0 srest =>
      refine iteT ?_
      obtain ⟨us, x, rs, pt, eS, eP, K', hTA⟩ := KK.last (by intro z; cases z)
      rw [eS] at hst
      subst eP
      rw [total_app, show total [pt] = pt.size from Nat.add_zero _] at hsum hm
      have hk := size_kids pt
      refine ⟨fun σ2 H2 => ∃ m', m' < m ∧ ∃ (st : List V) (ts : List Tr) (fs : List V) (y3 y4 : Option V), σ2 = [some v, some (.ref l1), some (.ref l2), y3, y4] ∧ Ex H H2 ∧ H2 l1 = some (.lst st) ∧ KidX k H st ts ∧ H2 l2 = some (.lst fs) ∧ fs.length + total ts = t.size ∧ m' = total ts, fun σ2 H2 h => h, ?_⟩
      refine ⟨_, rfl, .inl ⟨rfl, _, sq_of hst⟩, l1, _, _, rfl, rfl, hst, pop_last _ _, ?_⟩
      rw [List.dropLast_concat]
      have e3 : Ex H (L2.upd H' l1 (.lst us)) := e2.mut hl1
      have hl3 : (L2.upd H' l1 (.lst us)) l1 = some (.lst us) := upd_same
      have hf3 : (L2.upd H' l1 (.lst us)) l2 = some (.lst fs) := by
        rw [upd_ne n12.symm]
        exact hfs
      generalize (L2.upd H' l1 (.lst us)) = H3 at e3 hl3 hf3 ⊢
      refine ⟨_, rfl, .inl ⟨rfl, _, sq_of hf3⟩, _, rfl, l2, _, _, rfl, rfl, hf3, sz_lt (by omega), ?_⟩
      have e4 : Ex H (L2.upd H3 l2 (.lst (fs ++ [x]))) := e3.mut hl20
      have hl4 : (L2.upd H3 l2 (.lst (fs ++ [x]))) l1 = some (.lst us) := by
        rw [upd_ne n12]
        exact hl3
      have hf4 : (L2.upd H3 l2 (.lst (fs ++ [x]))) l2 = some (.lst (fs ++ [x])) := upd_same
      generalize (L2.upd H3 l2 (.lst (fs ++ [x]))) = H4 at e4 hl4 hf4 ⊢
      refine ⟨_, rfl, .inl ⟨rfl, _, sq_of hl4⟩, ?_⟩
      refine ⟨_, rfl, pt, x, k, H, rfl, hTA, e4, fun r2 H5 ks e5 hr2 hks KX => ?_⟩
      have lks := KX.len
      have ltk := len_total pt.kids
      refine ⟨r2, ks, rfl, sq_of hks, fun D hD => ?_⟩
      refine lc_it (walk_rev (K := K) (a := r2) (xs := ks)) (fun i H6 => Ex H5 H6 ∧ H6 D = some (.lst (ks.reverse.take i))) ⟨Ex.new hD, upd_same⟩ (fun i H6 _ hw => sq_of (hw.1 _ _ hks)) (fun i z H6 H7 hi hw hy => ?_) (fun H6 hw => ?_)
      · obtain ⟨e6, hz⟩ := hw
        obtain ⟨rfl, hx⟩ := hy
        refine ⟨rfl, _, rfl, _, hz, ?_, e6.mut hD, ?_⟩
        · rw [List.length_take]
          exact sz_lt (by omega)
        · rw [upd_same, take_next' (rev_get hx hi)]
      · obtain ⟨e6, hz⟩ := hw
        rw [← List.length_reverse, List.take_length] at hz
        have hl6 := e6 _ _ (e5 _ _ hl4)
        have lu := K'.len
        have ltr := len_total rs
        refine ⟨l1, D, us, ks.reverse, rfl, rfl, hl6, hz, sz_of (by rw [List.length_reverse]; omega), ?_⟩
        refine ⟨total (rs ++ pt.kids.reverse), by rw [total_app, total_rev]; omega, us ++ ks.reverse, rs ++ pt.kids.reverse, fs ++ [x], _, _, rfl, ((e4.trans e5).trans e6).mut hl1, upd_same, K'.app KX.rev, ?_, ?_, rfl⟩
        · rw [upd_ne n12.symm]
          exact e6 _ _ (e5 _ _ hf4)
        · rw [List.length_append, total_app, total_rev]
          show fs.length + 1 + _ = _
          omega
theorem ok_ren0 {f : Addr} {fd : FuncData} (F : Fun K "renamed" "renamed" s_renamed f fd) (T : Tx mg) (g : mg "renamed" = some (.ref f)) (b : Binds K fd ["tree", "names"] []) : ∀ d : Nat, FnOk P w K mg base CX0 (d + 1) f fd ["tree", "names"] (spRen d)
  | 0 => by
    refine F.ok sc_renamed (fun vs H Q E h => ?_) (fun cdv A outer s H vs Q E hr h => ?_)
    · obtain ⟨t, v, k, l, wd, n, an, xs, rfl, _⟩ := h
      rfl
    · obtain ⟨t, v, k, l, wd, n, an, xs, rfl, hT, hok, han, hS, hd, hsz, q⟩ := h
      exfalso
      cases t
      · exact absurd hd (by show ¬ (1 ≤ 0); omega)
      · exact absurd hd (by show ¬ (_ + 1 ≤ 0); omega)
      · exact absurd hd (by show ¬ (_ + 1 ≤ 0); omega)
  | d + 1 => by
    have c_renamed : Kn P w K mg base "renamed" ["tree", "names"] (d + 1) (spRen d) := ⟨f, fd, ok_ren0 F T g b d, g, F.kp, b⟩
    refine F.ok sc_renamed (fun vs H Q E h => ?_) (fun cdv A outer s H vs Q E hr h => ?_)
    · obtain ⟨t, v, k, l, wd, n, an, xs, rfl, _⟩ := h
      rfl
    · obtain ⟨t, v, k, l, wd, n, an, xs, rfl, hT, hok, han, hS, hd, hsz, q⟩ := h
      refine ⟨_, (pss_cons (ps_asg (pv 0) (TR.pg_seq (by rfl) (pgs_cons (pg_name (i := 2) sc_renamed.nd rfl (Or.inl rfl)) (pgs_cons (pg_name (i := 3) sc_renamed.nd rfl (Or.inl rfl)) (pgs_cons (pg_name (i := 4) sc_renamed.nd rfl (Or.inl rfl)) pgs_nil)))))
      (pss_cons (ps_if (pt_cmpR op_eq (pv 2) pe_str (nomark _)) (pss_one (ps_ret (pe_tup (pa_cons (pv 2) (pa_cons (pv 3) (pa_cons (pe_ix ix_list (pv 1) (pv 4) (fun _ _ => rfl)) pa_nil)))))) pss_nil)
      (pss_cons (ps_if (pt_cmpR op_eq (pv 2) pe_str (nomark _)) (pss_one (ps_ret (pe_tup (pa_cons (pv 2) (pa_cons (pv 3) (pa_cons (pe_call c_renamed.ok (hr.mono (by omega)) (by rfl) c_renamed.g c_renamed.kp c_renamed.b .nil pass0 (pa_cons (pv 4) (pa_cons (pv 1) pa_nil))) pa_nil)))))) pss_nil)
      (pss_one (ps_ret (pe_tup (pa_cons (pv 2) (pa_cons (pv 3) (pa_cons (pe_callTy call_tuple_of (by rfl) T.tuple PyProof.Rows.boot_tuple (pa_cons (pe_lc (own := [("inner", 5)]) (g := gName 5) (tt := tYes) rfl sc_renamed.nd (TR.pi_seq (pv 4)) (blkOk_by (N := N_renamed) (sc := defScope s_renamed) (by decide +kernel)) (fun _ _ _ _ _ => (pg_name (i := 5) sc_renamed.nd rfl (Or.inl rfl))) (fun _ _ _ _ _ => pts_nil) (fun _ _ _ _ _ => (pe_call c_renamed.ok (hr.mono (by omega)) (by rfl) c_renamed.g c_renamed.kp c_renamed.b .nil pass0 (pa_cons (pv 5) (pa_cons (pv 1) pa_nil))))) pa_nil)) pa_nil))))))))), ?_⟩
      cases hT with
      | @go j a s' q' h =>
        refine ⟨_, rfl, gSeq_of h rfl ⟨_, _, rfl, _, _, rfl, _, _, rfl, rfl, ?_⟩⟩
        refine ⟨_, rfl, rfl, _, rfl, iteD rfl ?_⟩
        exact ⟨_, rfl, _, rfl, _, rfl, _, rfl, an, _, _, _, rfl, rfl, sq_of han, hS _ hok.2.2, by show 3 ≤ sizeLine; decide, fun r hr2 => q _ _ (Ex.new hr2) (.go upd_same)⟩
      | @tell j a n' v' t' h r0 =>
        have hd' : t'.depth ≤ d := by
          have : t'.depth + 1 ≤ d + 1 := hd
          omega
        have hs' : t'.size ≤ 10000 := by
          have : t'.size + 1 ≤ 10000 := hsz
          omega
        refine ⟨_, rfl, gSeq_of h rfl ⟨_, _, rfl, _, _, rfl, _, _, rfl, rfl, ?_⟩⟩
        refine ⟨_, rfl, rfl, _, rfl, iteDn tell_ne_go ?_⟩
        refine ⟨_, rfl, rfl, _, rfl, iteD rfl ?_⟩
        refine ⟨_, rfl, _, rfl, _, rfl, _, rfl, t', v', k, l, wd, n, an, xs, rfl, r0, hok.2, han, hS, hd', hs', fun H1 v1 e1 hv1 => ⟨by show 3 ≤ sizeLine; decide, fun r hr2 => ?_⟩⟩
        exact q _ _ (e1.trans (Ex.new hr2)) (.tell upd_same (hv1.ex (Ex.new hr2)))
      | @read j k2 a b' p' us ts h hb r0 =>
        have hd' : ts.depth ≤ d := by
          have : ts.depth + 1 ≤ d + 1 := hd
          omega
        have hs' : ts.size ≤ 9999 := by
          have : ts.size + 1 ≤ 10000 := hsz
          omega
        have KK := r0.kids
        have lks := KK.len
        have ltk := len_total ts.list
        rw [Trs.total] at ltk
        refine ⟨_, rfl, gSeq_of h rfl ⟨_, _, rfl, _, _, rfl, _, _, rfl, rfl, ?_⟩⟩
        refine ⟨_, rfl, rfl, _, rfl, iteDn read_ne_go ?_⟩
        refine ⟨_, rfl, rfl, _, rfl, iteDn read_ne_tell ?_⟩
        refine ⟨_, rfl, _, rfl, ?_⟩
        cases k2
        · refine .inl ⟨_, rfl, b', rfl, ⟨us, sq_of hb⟩, fun D hD => lc_it (walk_list (K := K) (a := b') (xs := us)) (fun i H6 => Ex H H6 ∧ ∃ zs, H6 D = some (.lst zs) ∧ Kids true H6 zs (ts.list.take i)) ⟨Ex.new hD, [], upd_same, .nil⟩ (fun i H6 _ hw => sq_of (hw.1 _ _ hb)) (fun i x H6 H7 hi hw hy => ?_) (fun H6 hw => ?_)⟩
          · obtain ⟨e6, zs, hz, Z⟩ := hw
            obtain ⟨rfl, hx⟩ := hy
            obtain ⟨kt, hkt, hka⟩ := KK.get hx
            have mem := List.mem_of_getElem? hkt
            have dk := Trs.depth_mem kt mem
            have sk : kt.size ≤ ts.size := by
              have h1 := size_mem mem
              rw [Trs.total] at h1
              exact h1
            have lz := Z.len
            rw [List.length_take] at lz
            refine ⟨rfl, _, rfl, _, rfl, kt, x, _, l, wd, n, an, xs, rfl, hka.ex e6, Trs.ok_mem hok.2.2 kt mem, e6 _ _ han, hS, by omega, by omega, fun H8 v8 e8 hv8 => ?_⟩
            refine ⟨zs, e8 _ _ hz, sz_lt (by omega), (e6.trans e8).mut hD, zs ++ [v8], upd_same, ?_⟩
            rw [take_next' hkt]
            refine Kids.upd (fun ys hh => ?_) ((Z.ex e8).snoc hv8)
            rw [e8 _ _ hz] at hh
            cases hh
          · obtain ⟨e6, zs, hz, Z⟩ := hw
            rw [lks, List.take_length] at Z
            refine ⟨D, zs, rfl, .inl ⟨sq_of hz, fun t2 ht2 => ⟨by show 3 ≤ sizeLine; decide, fun r hr2 => ?_⟩⟩⟩
            exact q _ _ ((e6.trans (Ex.new ht2)).trans (Ex.new hr2)) (.read upd_same (Ex.new hr2 _ _ upd_same) ((Z.ex ((Ex.new ht2).trans (Ex.new hr2))).tas))
        · refine .inr ⟨_, rfl, b', rfl, ⟨us, st_of hb⟩, fun D hD => lc_it (walk_tup (K := K) (a := b') (xs := us)) (fun i H6 => Ex H H6 ∧ ∃ zs, H6 D = some (.lst zs) ∧ Kids true H6 zs (ts.list.take i)) ⟨Ex.new hD, [], upd_same, .nil⟩ (fun i H6 _ hw => st_of (hw.1 _ _ hb)) (fun i x H6 H7 hi hw hy => ?_) (fun H6 hw => ?_)⟩
          · obtain ⟨e6, zs, hz, Z⟩ := hw
            obtain ⟨rfl, hx⟩ := hy
            obtain ⟨kt, hkt, hka⟩ := KK.get hx
            have mem := List.mem_of_getElem? hkt
            have dk := Trs.depth_mem kt mem
            have sk : kt.size ≤ ts.size := by
              have h1 := size_mem mem
              rw [Trs.total] at h1
              exact h1
            have lz := Z.len
            rw [List.length_take] at lz
            refine ⟨rfl, _, rfl, _, rfl, kt, x, _, l, wd, n, an, xs, rfl, hka.ex e6, Trs.ok_mem hok.2.2 kt mem, e6 _ _ han, hS, by omega, by omega, fun H8 v8 e8 hv8 => ?_⟩
            refine ⟨zs, e8 _ _ hz, sz_lt (by omega), (e6.trans e8).mut hD, zs ++ [v8], upd_same, ?_⟩
            rw [take_next' hkt]
            refine Kids.upd (fun ys hh => ?_) ((Z.ex e8).snoc hv8)
            rw [e8 _ _ hz] at hh
            cases hh
          · obtain ⟨e6, zs, hz, Z⟩ := hw
            rw [lks, List.take_length] at Z
            refine ⟨D, zs, rfl, .inl ⟨sq_of hz, fun t2 ht2 => ⟨by show 3 ≤ sizeLine; decide, fun r hr2 => ?_⟩⟩⟩
            exact q _ _ ((e6.trans (Ex.new ht2)).trans (Ex.new hr2)) (.read upd_same (Ex.new hr2 _ _ upd_same) ((Z.ex ((Ex.new ht2).trans (Ex.new hr2))).tas))
end
end Law

namespace TR
open PySem PySem.Spec L2 Evl
def rLenQ (K : PySem.W.Frag) : List V → Hp → VK → Prop := fun xs H Q => ∃ p ys, xs = [.ref p] ∧ (SqL K H p ys ∨ SqT K H p ys) ∧ Q (.int ys.length) H
end TR
namespace Law
open PySem PySem.Spec PyProof.Rows L2 Evl TR
abbrev lcR (g : TG) (tt : TT) (tl : TE) (vs : List Nat) (σ : L2.St) (Q : Addr → Hp → Prop) : It → Hp → Prop := fun J H1 => ∀ D, H1 D = none → ∃ W : Nat → Nat → Hp → Prop, (∃ m, W 0 m (upd H1 D (.lst []))) ∧ ∀ i m H, W i m H →
  (J.stop i H ∧ Q D H) ∨ (J.go i H ∧ ∃ Nx : Hp → Prop, (∀ H', Nx H' → ∃ m', m' < m ∧ W (i + 1) m' H') ∧ ∀ x H', J.yld i H x H' → g x (wipe σ vs) H' fun σ2 H2 => wipe σ2 vs = wipe σ vs ∧ tt σ2 H2 fun b H3 =>
    if b = true then tl σ2 H3 fun y H4 => ∃ acc, H4 D = some (.lst acc) ∧ acc.length < sizeLine ∧ Nx (upd H4 D (.lst (acc ++ [y]))) else Nx H3)
/-- a walk over a list or a tuple, in a comprehension -/
theorem lcq {K : PySem.W.Frag} {te tl : TE} {g : TG} {tt : TT} {vs : List Nat} {σ : L2.St} {H : Hp} {Q : Addr → Hp → Prop} {a : Addr} {k : Bool} {xs : List V} (h : H a = some (ob k xs)) (hv : ∀ R : VK, R (.ref a) H → te σ H R) (Pv : Addr → Nat → Hp → Prop)
    (h0 : ∀ D, H D = none → Pv D 0 (upd H D (.lst []))) (hk : ∀ D i H', H D = none → Pv D i H' → Ex H H')
    (hs : ∀ D i x H', H D = none → xs[i]? = some x → Pv D i H' → g x (wipe σ vs) H' fun σ2 H2 => wipe σ2 vs = wipe σ vs ∧ tt σ2 H2 fun b H3 =>
      if b = true then tl σ2 H3 fun y H4 => ∃ acc, H4 D = some (.lst acc) ∧ acc.length < sizeLine ∧ Pv D (i + 1) (upd H4 D (.lst (acc ++ [y]))) else Pv D (i + 1) H3)
    (hd : ∀ D H', H D = none → Pv D xs.length H' → Q D H') : iList K te σ H (lcR g tt tl vs σ Q) ∨ iTup K te σ H (lcR g tt tl vs σ Q) := by
  cases k
  · exact .inl (hv _ ⟨a, rfl, ⟨xs, sq_of h⟩, fun D hD => lc_list (Pv D) (h0 D hD) (fun i H' _ p => sq_of (hk D i H' hD p _ _ h)) (fun i x H' hx p => hs D i x H' hD hx p) (fun H' p => hd D H' hD p)⟩)
  · exact .inr (hv _ ⟨a, rfl, ⟨xs, st_of h⟩, fun D hD => lc_tup (Pv D) (h0 D hD) (fun i H' _ p => st_of (hk D i H' hD p _ _ h)) (fun i x H' hx p => hs D i x H' hD hx p) (fun H' p => hd D H' hD p)⟩)
/-- .. in a loop over enumerate -/
theorem forq {K : PySem.W.Frag} {ta : TA} {g : TG} {tb : TS} {D : Ends} {σ : L2.St} {H : Hp} {a : Addr} {k : Bool} {xs : List V} (h : H a = some (ob k xs)) (hv : ∀ R : List V → Hp → Prop, R [.ref a] H → ta σ H R) (Pv : Nat → L2.St → Hp → Prop) (h0 : Pv 0 σ H)
    (hk : ∀ i σ H', Pv i σ H' → Ex H H')
    (hs : ∀ (i : Nat) (x : V) (T : Addr) (σ : L2.St) (H : Hp), xs[i]? = some x → Pv i σ H → H T = none → g (.ref T) σ (upd H T (.tup [.int (i : Nat), x])) fun σ2 H2 => tb { D with nx := Pv (i + 1), ct := Pv (i + 1), bk := D.nx } σ2 H2)
    (hd : ∀ σ H, Pv xs.length σ H → D.nx σ H) : tFor (iEnumQ K ta) g tb D σ H := by
  cases k
  · exact .inl (hv _ ⟨a, xs, rfl, sq_of h, EN.for_enumL Pv h0 (fun i σ H' p => sq_of (hk i σ H' p _ _ h)) hs hd⟩)
  · exact .inr (hv _ ⟨a, xs, rfl, st_of h, EN.for_enumT Pv h0 (fun i σ H' p => st_of (hk i σ H' p _ _ h)) hs hd⟩)
/-- what of the text the class has -/
structure SC (K : PySem.W.Frag) (C : Addr) : Prop where
  cl : Cls K C
  nl : NoAttr K C "letters"
  nw : NoAttr K C "width"
  ns : NoAttr K C "states"
  nn : NoAttr K C "nodes"
def sFs (l w s n : V) : List (Str × V) := [("letters", l), ("width", w), ("states", s), ("nodes", n)]
theorem putF4 (l w s n : V) : putF "nodes" n (putF "states" s (putF "width" w (putF "letters" l []))) = sFs l w s n := by
  have a1 : ¬ (("letters" : Str) = "width") := by decide +kernel
  have a2 : ¬ (("letters" : Str) = "states") := by decide +kernel
  have a3 : ¬ (("letters" : Str) = "nodes") := by decide +kernel
  have a4 : ¬ (("width" : Str) = "states") := by decide +kernel
  have a5 : ¬ (("width" : Str) = "nodes") := by decide +kernel
  have a6 : ¬ (("states" : Str) = "nodes") := by decide +kernel
  simp [putF, sFs, a1, a2, a3, a4, a5, a6]
/-- a searcher: its letters, its width, its trees -/
structure SObj (C : Addr) (H : Hp) (o : Addr) (L : List Nat) (w : Nat) (ts : List Tr) : Prop where
  ex : ∃ (dx st : Addr) (us : List V), H o = some (.ins C dx (sFs (.str (tx L)) (.int (w : Int)) (.ref st) (.int (total ts : Nat)))) ∧ H st = some (.tup us) ∧ Kids true H us ts
theorem sum_sizes : ∀ ts : List Tr, (ts.map fun t => (t.size : Int)).sum = ((total ts : Nat) : Int)
  | [] => rfl
  | t :: r => by
    rw [List.map_cons, List.sum_cons, sum_sizes r]
    show _ = (((t.size + total r : Nat)) : Int)
    omega
def spInit (C : Addr) : Sp := fun vs H Q _ => ∃ (o dx sa : Addr) (L : List Nat) (w : Nat) (kt k : Bool) (xs : List V) (ts : List Tr) (H0 : Hp), vs = [.ref o, .str (tx L), .int (w : Int), .ref sa] ∧ Ex H0 H ∧ H0 o = none ∧ H o = some (.ins C dx []) ∧ H0 sa = some (ob kt xs) ∧ KidX k H0 xs ts ∧ LG L ∧ 1 ≤ w ∧ w ≤ 8 ∧ 1 ≤ ts.length ∧ ts.length ≤ 64 ∧ (∀ t ∈ ts, t.ok L.length w ts.length ∧ t.depth ≤ 40) ∧ total ts ≤ 3000 ∧ ∀ H', Ex H0 H' → SObj C H' o L w ts → Q .non H'
theorem same_rg (n : Nat) : Same1 (rgV 0 (n : Int)) n := by
  intro q hq
  unfold rgV
  rw [show (((n : Int) - 0).toNat) = n by omega]
  refine atI_nat ?_
  rw [List.getElem?_map, List.getElem?_range hq]
  show some (V.int (0 + (q : Int))) = _
  rw [Int.zero_add]
section
variable {P : Program} {w : World} {K : PySem.W.Frag} {mg : Str → Option Value} {base : Heap}
theorem ok_init {f C : Addr} {fd : FuncData} (F : Fun K "__init__" "Searcher.__init__" s_Searcher_init f fd) (T : Tx mg) (S : SC K C) (c_are_letters : Kn P w K mg base "are_letters" ["value"] 1 spAreL)
    (c_is_whole : Kn P w K mg base "is_whole" ["value", "low", "high"] 2 spWhole) (c_is_list : Kn P w K mg base "is_list" ["value"] 1 spIsQ) (c_first_wrong : Kn P w K mg base "first_wrong" ["tree", "letters", "width", "states"] 4 spFW)
    (c_all_parts : Kn P w K mg base "all_parts" ["tree"] 2 spAll) (c_renamed : Kn P w K mg base "renamed" ["tree", "names"] 41 (spRen 40)) : FnOk P w K mg base CX0 42 f fd ["self", "letters", "width", "states"] (spInit C) := by
  refine F.ok sc_Searcher_init (fun vs H Q E h => ?_) (fun cdv A outer s H vs Q E hr h => ?_)
  · obtain ⟨o, dx, sa, L, wd, kt, k, xs, ts, H0, rfl, _⟩ := h
    rfl
  · obtain ⟨o, dx, sa, L, wd, kt, k, xs, ts, H0, rfl, e0, ho0, ho, hsa, KK, hL, w1, w8, n1, n64, hall, htot, q⟩ := h
    have lks := KK.len
    have hL2 := hL.hi
    refine ⟨_, (pss_cons (ps_if (pt_not (pt_val (pe_call c_are_letters.ok (hr.mono (by decide)) (by rfl) c_are_letters.g c_are_letters.kp c_are_letters.b .nil pass0 (pa_cons (pv 1) pa_nil)))) (pss_one ps_never) pss_nil)
      (pss_cons (ps_if (pt_not (pt_val (pe_call c_is_whole.ok (hr.mono (by decide)) (by rfl) c_is_whole.g c_is_whole.kp c_is_whole.b .nil pass0 (pa_cons (pv 2) (pa_cons pe_int (pa_cons (pe_glob (v := .int 8) rfl T.m_MOST_WIDTH ⟨_, rfl⟩) pa_nil)))))) (pss_one ps_never) pss_nil)
      (pss_cons (ps_set (i := 4) sc_Searcher_init.nd rfl (Or.inl rfl) (pe_ifExp (pt_val (pe_call c_is_list.ok (hr.mono (by decide)) (by rfl) c_is_list.g c_is_list.kp c_is_list.b .nil pass0 (pa_cons (pv 3) pa_nil))) (pe_callB call_len_seq (by rfl) T.len PySem.boot_len (pa_cons (pv 3) pa_nil)) pe_int))
      (pss_cons (ps_if (pt_not (pt_chain op_le op_le pe_int (pv 4) (pe_glob (v := .int 64) rfl T.m_MOST_STATES ⟨_, rfl⟩))) (pss_one ps_never) pss_nil)
      (pss_cons (ps_for PassesOwn.never rfl (TR.pi_enumQ (by rfl) T.enumerate (pa_cons (pv 3) pa_nil)) (pg_tup (by rfl) (pgs_cons (pg_name (i := 5) sc_Searcher_init.nd rfl (Or.inl rfl)) (pgs_cons (pg_name (i := 6) sc_Searcher_init.nd rfl (Or.inl rfl)) pgs_nil))) (pss_cons (ps_set (i := 7) sc_Searcher_init.nd rfl (Or.inl rfl) (pe_call c_first_wrong.ok (hr.mono (by decide)) (by rfl) c_first_wrong.g c_first_wrong.kp c_first_wrong.b .nil pass0 (pa_cons (pv 6) (pa_cons (pv 1) (pa_cons (pv 2) (pa_cons (pv 4) pa_nil))))))
      (pss_one (ps_if (pt_cmpR op_notN (pv 7) pe_non (nomark _)) (pss_one ps_never) pss_nil))))
      (pss_cons (ps_set (i := 8) sc_Searcher_init.nd rfl (Or.inl rfl) (pe_callB (cr_sum rfl) (by rfl) T.sum (by decide +kernel) (pa_cons (pe_lc (own := [("tree", 6)]) (g := gName 6) (tt := tYes) rfl sc_Searcher_init.nd (TR.pi_seq (pv 3)) (blkOk_by (N := N_Searcher_init) (sc := defScope s_Searcher_init) (by decide +kernel)) (fun _ _ _ _ _ => (pg_name (i := 6) sc_Searcher_init.nd rfl (Or.inl rfl))) (fun _ _ _ _ _ => pts_nil) (fun _ _ _ _ _ => (pe_callB (show CallR _ _ (TR.rLenQ K) from call_len_seq) (by rfl) T.len PySem.boot_len (pa_cons (pe_call c_all_parts.ok (hr.mono (by decide)) (by rfl) c_all_parts.g c_all_parts.kp c_all_parts.b .nil pass0 (pa_cons (pv 6) pa_nil)) pa_nil)))) pa_nil)))
      (pss_cons (ps_if (pt_cmpR op_gt (pv 8) (pe_glob (v := .int 3000) rfl T.m_MOST_NODES ⟨_, rfl⟩) (nomark _)) (pss_one ps_never) pss_nil)
      (pss_cons (ps_set (i := 9) sc_Searcher_init.nd rfl (Or.inr rfl) (pe_listRg rfl (by rfl) T.list (prg_1 (by rfl) T.range (pv 4))))
      (pss_cons (ps_fld (pv 0) (pv 1) rfl)
      (pss_cons (ps_fld (pv 0) (pv 2) rfl)
      (pss_cons (ps_fld (pv 0) (pe_callTy call_tuple_of (by rfl) T.tuple PyProof.Rows.boot_tuple (pa_cons (pe_lc (own := [("tree", 6)]) (g := gName 6) (tt := tYes) rfl sc_Searcher_init.nd (TR.pi_seq (pv 3)) (blkOk_by (N := N_Searcher_init) (sc := defScope s_Searcher_init) (by decide +kernel)) (fun _ _ _ _ _ => (pg_name (i := 6) sc_Searcher_init.nd rfl (Or.inl rfl))) (fun _ _ _ _ _ => pts_nil) (fun _ _ _ _ _ => (pe_call c_renamed.ok (hr.mono (by decide)) (by rfl) c_renamed.g c_renamed.kp c_renamed.b .nil pass0 (pa_cons (pv 6) (pa_cons (pv 9) pa_nil))))) pa_nil)) rfl)
      (pss_one (ps_fld (pv 0) (pv 8) rfl))))))))))))), ?_⟩
    refine ⟨_, rfl, L, rfl, hL, fun H1 e1 => ⟨true, rfl, ?_⟩⟩
    refine ⟨_, rfl, _, _, _, rfl, by omega, by omega, fun H2 e2 => ⟨true, rfl, ?_⟩⟩
    have e3 := e1.trans e2
    have hs2 := e3 _ _ (e0 _ _ hsa)
    refine ⟨_, rfl, sa, kt, xs, rfl, hs2, fun H3 e4 => ⟨true, rfl, ?_⟩⟩
    have hs3 := e4 _ _ hs2
    refine ⟨_, rfl, sa, _, rfl, ob_seq hs3, ?_⟩
    refine ⟨_, rfl, _, _, rfl, rfl, _, rfl, iteD (by omega) ⟨_, _, rfl, rfl, _, rfl, ite2 (fun hb => ?_) (fun _ => ?_)⟩⟩
    · rw [decide_eq_true (by omega)] at hb
      cases hb
    have e5 := e3.trans e4
    have e6 := e0.trans e5
    refine forq hs3 (fun R h => ⟨_, rfl, h⟩) (fun i σ H' => ∃ y5 y6 y7 : Option V, σ = [some (.ref o), some (.str (tx L)), some (.int (wd : Int)), some (.ref sa), some (.int (xs.length : Nat)), y5, y6, y7, none, none] ∧ Ex H3 H') ⟨none, none, none, rfl, Ex.refl _⟩ (fun i σ H' p => by obtain ⟨_, _, _, _, e⟩ := p; exact e) (fun i x T' σ H' hx p hT => ?_) (fun σ H' p => ?_)
    · obtain ⟨y5, y6, y7, rfl, e7⟩ := p
      have e8 := e7.trans (Ex.new (o := .tup [.int (i : Nat), x]) hT)
      obtain ⟨t, ht, hta⟩ := KK.get hx
      have mem := List.mem_of_getElem? ht
      obtain ⟨tok, tdp⟩ := hall t mem
      have tsz := size_mem mem
      refine ⟨T', _, rfl, .inl (.inl upd_same), rfl, _, _, rfl, _, _, rfl, rfl, ?_⟩
      refine ⟨_, rfl, _, rfl, _, rfl, _, rfl, t, x, k, L, wd, ts.length, by rw [lks]; rfl, hta.ex (e6.trans e8), tok, by omega, tdp, by omega, fun H4 e9 => ?_⟩
      refine ⟨_, rfl, rfl, _, rfl, ite2 (fun hb => by cases hb) (fun _ => ?_)⟩
      exact ⟨_, _, _, rfl, e8.trans e9⟩
    obtain ⟨y5, y6, y7, rfl, e7⟩ := p
    have hs4 := e7 _ _ hs3
    have e8 := e6.trans e7
    refine lcq hs4 (fun R h => ⟨_, rfl, h⟩) (fun D i H'' => Ex H' H'' ∧ H'' D = some (.lst (((ts.take i).map fun t => (t.size : Int)).map V.int))) (fun D hD => ⟨Ex.new hD, upd_same⟩) (fun D i H'' _ p => p.1) (fun D i x H'' hD hx p => ?_) (fun D H'' hD p => ?_)
    · obtain ⟨e9, hz⟩ := p
      obtain ⟨t, ht, hta⟩ := KK.get hx
      have mem := List.mem_of_getElem? ht
      have tsz := size_mem mem
      have hi := (List.getElem?_eq_some_iff.mp ht).1
      refine ⟨rfl, _, rfl, t, x, k, rfl, hta.ex (e8.trans e9), by omega, fun r H5 us e10 hr hus hl => ?_⟩
      refine ⟨r, us, rfl, .inl (sq_of hus), _, e10 _ _ hz, ?_, (e9.trans e10).mut hD, ?_⟩
      · rw [List.length_map, List.length_map, List.length_take]
        exact sz_lt (by omega)
      · rw [upd_same, take_next' ht, List.map_append, List.map_append, hl]
        rfl
    obtain ⟨e9, hz⟩ := p
    rw [lks, List.take_length] at hz
    refine ⟨D, _, rfl, sq_of hz, ?_⟩
    rw [sum_sizes]
    refine ⟨_, rfl, _, _, rfl, rfl, _, rfl, ite2 (fun hb => absurd (of_decide_eq_true hb) (by omega)) (fun _ => ?_)⟩
    refine ⟨_, rfl, _, rfl, RgOk.of_le (by omega) (by omega) (by omega) (by omega), fun an han => ?_⟩
    have eA := (e8.trans e9).trans (Ex.new (o := .lst (rgV 0 (xs.length : Int))) han)
    have hoA := ((((e5.trans e7).trans e9).trans (Ex.new (o := .lst (rgV 0 (xs.length : Int))) han)) _ _ ho)
    have hanA : (upd H'' an (.lst (rgV 0 (xs.length : Int)))) an = some (.lst (rgV 0 (xs.length : Int))) := upd_same
    generalize (upd H'' an (.lst (rgV 0 (xs.length : Int)))) = HA at eA hoA hanA ⊢
    have nao : an ≠ o := ne_of hanA hoA (by intro z; cases z)
    refine ⟨_, rfl, _, rfl, o, C, dx, _, rfl, hoA, S.cl, S.nl, by show 0 < 1000; decide, ?_⟩
    have eB := eA.mut (o := .ins C dx (putF "letters" (.str (tx L)) [])) ho0
    have hoB : (upd HA o (.ins C dx (putF "letters" (.str (tx L)) []))) o = _ := upd_same
    have hanB := (upd_ne (H := HA) (o := .ins C dx (putF "letters" (.str (tx L)) [])) nao).trans hanA
    generalize (upd HA o (.ins C dx (putF "letters" (.str (tx L)) []))) = HB at eB hoB hanB ⊢
    refine ⟨_, rfl, _, rfl, o, C, dx, _, rfl, hoB, S.cl, S.nw, by show 1 < 1000; decide, ?_⟩
    generalize hf2 : putF "width" (.int (wd : Int)) (putF "letters" (.str (tx L)) []) = f2
    have lf2 : f2.length < 1000 := by
      rw [← hf2]
      show 2 < 1000
      decide
    have eC := eB.mut (o := .ins C dx f2) ho0
    have hoC : (upd HB o (.ins C dx f2)) o = _ := upd_same
    have hanC := (upd_ne (H := HB) (o := .ins C dx f2) nao).trans hanB
    generalize (upd HB o (.ins C dx f2)) = HC at eC hoC hanC ⊢
    refine lcq (eC _ _ hsa) (fun R h => ⟨_, rfl, h⟩) (fun D i H'' => Ex HC H'' ∧ ∃ zs, H'' D = some (.lst zs) ∧ Kids true H'' zs (ts.take i)) (fun D hD => ⟨Ex.new hD, [], upd_same, .nil⟩) (fun D i H'' _ p => p.1) (fun D i x H'' hD hx p => ?_) (fun D H'' hD p => ?_)
    · obtain ⟨e9, zs, hz, Z⟩ := p
      obtain ⟨t, ht, hta⟩ := KK.get hx
      have mem := List.mem_of_getElem? ht
      obtain ⟨tok, tdp⟩ := hall t mem
      have tsz := size_mem mem
      have lz := Z.len
      rw [List.length_take] at lz
      refine ⟨rfl, _, rfl, _, rfl, t, x, k, L.length, wd, ts.length, an, _, rfl, hta.ex (eC.trans e9), tok, e9 _ _ hanC, ?_, tdp, by omega, fun H8 v8 e10 hv8 => ?_⟩
      · rw [← lks]
        exact same_rg _
      refine ⟨zs, e10 _ _ hz, sz_lt (by omega), (e9.trans e10).mut hD, zs ++ [v8], upd_same, ?_⟩
      rw [take_next' ht]
      refine Kids.upd (fun ys hh => ?_) ((Z.ex e10).snoc hv8)
      rw [e10 _ _ hz] at hh
      cases hh
    obtain ⟨e9, zs, hz, Z⟩ := p
    rw [lks, List.take_length] at Z
    refine ⟨D, zs, rfl, .inl ⟨sq_of hz, fun t2 ht2 => ?_⟩⟩
    have e10 := e9.trans (Ex.new (o := .tup zs) ht2)
    have hoD := e10 _ _ hoC
    have ZD := Z.ex (Ex.new (o := .tup zs) ht2)
    have ht3 : (upd H'' t2 (.tup zs)) t2 = some (.tup zs) := upd_same
    have eD := eC.trans e10
    generalize (upd H'' t2 (.tup zs)) = HD at hoD ZD ht3 eD ⊢
    have nto : t2 ≠ o := ne_of ht3 hoD (by intro z; cases z)
    refine ⟨_, rfl, o, C, dx, _, rfl, hoD, S.cl, S.ns, lf2, ?_⟩
    refine ⟨_, rfl, _, rfl, o, C, dx, _, rfl, upd_same, S.cl, S.nn, ?_, ?_⟩
    · rw [← hf2]
      show 3 < 1000
      decide
    refine q _ ((eD.mut ho0).mut ho0) ⟨dx, t2, zs, ?_, ?_, ?_⟩
    · rw [upd_same, ← hf2, putF4]
    · rw [upd_ne nto, upd_ne nto]
      exact ht3
    · refine Kids.upd (fun ys hh => ?_) (Kids.upd (fun ys hh => ?_) ZD)
      · rw [upd_same] at hh
        cases hh
      · rw [hoD] at hh
        cases hh
end
end Law

/-! x == a text, whatever x is -/
namespace ES
open PySem PySem.Spec PyProof.Rows L2
open AutoSeq1 (wpAny_loadPart')
open MeetsSeq MeetsSeq2 MeetsSeq3 SeqRoads2
theorem dict_says_no (l : Addr) (es : Array DictEntry) (n : Nat) (dd : Option Addr) (sl : Array (Option Value)) (b : Str) (u : Tok) :
    Meets (Builtin.«dict.__eq__» ⟨[.ref l, .str b u], []⟩) (fun _ R s => s.heap.get? l = some { cls := .type "dict", dict := dd, data := .dict es n, slots := sl } ∧ R (.ok (.ret .notImplemented)) s) :=
  .of_wp fun prog w A R s h => by
    obtain ⟨hp, g, d, tk, os⟩ := s
    obtain ⟨hl, h⟩ := h
    have f1 := F.sub_str_dict
    wp_walk using wpAny_loadPart' hl
    exact ⟨_, rfl, h⟩
theorem str_says_no (b : Str) (u : Tok) (l : Addr) (c : Value) (es : Array DictEntry) (n : Nat) (dd : Option Addr) (sl : Array (Option Value)) :
    Meets (Builtin.«str.__eq__» ⟨[.str b u, .ref l], []⟩) (fun _ R s => s.heap.get? l = some { cls := c, dict := dd, data := .dict es n, slots := sl } ∧ R (.ok (.ret .notImplemented)) s) :=
  .of_wp fun prog w A R s h => by
    obtain ⟨hp, g, d, tk, os⟩ := s
    obtain ⟨hl, h⟩ := h
    wp_walk using wpAny_loadPart' hl, wpAny_load hl
    exact ⟨_, rfl, h⟩
theorem dict_str {A : Around} {s : Shared} {l : Addr} {o : Obj} {es : Array DictEntry} {n : Nat} (b : Str) (u : Tok) (ho : s.heap.get? l = some o) (hc : o.cls = .type "dict") (hd : o.data = .dict es n) (hu : A.units < cLine) : SeqAt.RcAt A s (.ref l) (.str b u) false := fun prog w E Q h => by
  obtain ⟨cls, dd, data, sl⟩ := o
  simp only at hc hd
  subst hc hd
  exact SeqAt.rc_eq_decline_or (k := false) ⟨_, ho, rfl⟩ (typeIs_str s b u) (by decide) F.sub_str_dict F.slot_dict_eq F.slot_str_eq_refl
    (fun _ hq => call_meets F.slot_dict_eq ⟨_, ho, rfl⟩ F.entry_dict_eq (F.args_dict_eq_2 _ _) (dict_says_no l es n dd sl b u) ⟨ho, hq⟩)
    (fun _ hq => call_meets F.slot_str_eq_refl (typeIs_str s b u) F.entry_str_eq (F.args_str_eq_2 _ _) (str_says_no b u l (.type "dict") es n dd sl) ⟨ho, hq⟩)
    (fun _ hq => wpAny_of_eq (rfl : isSame (.ref l) (.str b u) = pure false) hq) (.inr hu) h
def rEqS (K : PySem.W.Frag) : R2 := fun x y H Q => rEq x y H Q ∨ ∃ a z, x = .ref a ∧ y = .str z ∧ ((∃ xs, SqL K H a xs) ∨ (∃ xs, SqT K H a xs) ∨ ∃ kvs, H a = some (.dK kvs)) ∧ Q (.bl false) H
theorem op_eqS {X : Cx} (hu : X.A.units + 64 < cLine) : OpR X (compareOp .Eq) (rEqS X.K) := by
  intro pins s σ H x y v u Q I rx ry h
  rcases h with h | ⟨a, z, rfl, rfl, h, q⟩
  · exact op_eq pins s σ H x y v u Q I rx ry h
  · cases (show v = Value.ref a from rx)
    obtain ⟨t, rfl⟩ := ry
    have un : X.A.units < cLine := by omega
    show wpAny _ _ (richCompare .Eq _ _) _ _ _
    rcases h with ⟨xs, h⟩ | ⟨xs, h⟩ | ⟨kvs, h⟩
    · obtain ⟨us, r1, p1, _⟩ := I.list h
      exact (SeqAt.RcAt.list_str z t p1.isList un) X.prog X.w _ _ ⟨.bl false, H, I, rfl, q⟩
    · obtain ⟨us, r1, p1, _⟩ := I.tuple h
      exact (SeqAt.RcAt.tuple_str z t p1 un) X.prog X.w _ _ ⟨.bl false, H, I, rfl, q⟩
    · obtain ⟨_, _, vs, kv, o, es, ep, g, ed, dd, _⟩ := dk_of I.hok h
      exact (dict_str z t g ed.1 dd un) X.prog X.w _ _ ⟨.bl false, H, I, rfl, q⟩
end ES

/-! what may stand where a tree should: any data -/
namespace GX
open PySem PySem.Spec PyProof.Rows L2 Evl TR
inductive Gt where
  | int (i : Int)
  | str (z : Str)
  | bl (b : Bool)
  | oth
  | seq (k : Bool) (gs : List Gt)
mutual
inductive GA (H : Hp) : V → Gt → Prop
  | int (i : Int) : GA H (.int i) (.int i)
  | str (z : Str) : GA H (.str z) (.str z)
  | bl (b : Bool) : GA H (.bl b) (.bl b)
  | non : GA H .non .oth
  | dct {a : Addr} {kvs : List (Key × V)} : H a = some (.dK kvs) → GA H (.ref a) .oth
  | seq {a : Addr} {k : Bool} {vs : List V} {gs : List Gt} : H a = some (ob k vs) → GAs H vs gs → GA H (.ref a) (.seq k gs)
inductive GAs (H : Hp) : List V → List Gt → Prop
  | nil : GAs H [] []
  | cons {v : V} {g : Gt} {vs : List V} {gs : List Gt} : GA H v g → GAs H vs gs → GAs H (v :: vs) (g :: gs)
end
mutual
theorem GA.ex {H H' : Hp} (e : Ex H H') : ∀ {v : V} {g : Gt}, GA H v g → GA H' v g
  | _, _, .int i => .int i
  | _, _, .str z => .str z
  | _, _, .bl b => .bl b
  | _, _, .non => .non
  | _, _, .dct h => .dct (e _ _ h)
  | _, _, .seq h r => .seq (e _ _ h) (GAs.ex e r)
theorem GAs.ex {H H' : Hp} (e : Ex H H') : ∀ {vs : List V} {gs : List Gt}, GAs H vs gs → GAs H' vs gs
  | _, _, .nil => .nil
  | _, _, .cons h r => .cons (GA.ex e h) (GAs.ex e r)
end
section
variable {H : Hp}
theorem GAs.len : ∀ {vs : List V} {gs : List Gt}, GAs H vs gs → vs.length = gs.length
  | _, _, .nil => rfl
  | _, _, .cons _ r => by rw [List.length_cons, List.length_cons, r.len]
theorem GAs.get : ∀ {vs : List V} {gs : List Gt} {i : Nat} {v : V}, GAs H vs gs → vs[i]? = some v → ∃ g, gs[i]? = some g ∧ GA H v g
  | _, _, _, _, .nil, h => by cases h
  | _, _, 0, _, .cons (g := g) a _, h => by
    cases h
    exact ⟨g, rfl, a⟩
  | _, _, i + 1, _, .cons _ r, h => GAs.get (i := i) r h
theorem GAs.get' : ∀ {vs : List V} {gs : List Gt} {i : Nat} {g : Gt}, GAs H vs gs → gs[i]? = some g → ∃ v, vs[i]? = some v ∧ GA H v g
  | _, _, _, _, .nil, h => by cases h
  | _, _, 0, _, .cons (v := v) a _, h => by
    cases h
    exact ⟨v, rfl, a⟩
  | _, _, i + 1, _, .cons _ r, h => GAs.get' (i := i) r h
theorem GAs.app : ∀ {vs : List V} {gs : List Gt} {us : List V} {fs : List Gt}, GAs H vs gs → GAs H us fs → GAs H (vs ++ us) (gs ++ fs)
  | _, _, _, _, .nil, h => h
  | _, _, _, _, .cons h1 r, h => .cons h1 (GAs.app r h)
theorem GAs.snoc {vs : List V} {gs : List Gt} {v : V} {g : Gt} (h : GAs H vs gs) (h1 : GA H v g) : GAs H (vs ++ [v]) (gs ++ [g]) := h.app (.cons h1 .nil)
theorem GAs.rev : ∀ {vs : List V} {gs : List Gt}, GAs H vs gs → GAs H vs.reverse gs.reverse
  | _, _, .nil => .nil
  | _, _, .cons h r => by
    rw [List.reverse_cons, List.reverse_cons]
    exact r.rev.snoc h
theorem GAs.take : ∀ {vs : List V} {gs : List Gt} (k : Nat), GAs H vs gs → GAs H (vs.take k) (gs.take k)
  | _, _, k, .nil => by rw [List.take_nil, List.take_nil]; exact .nil
  | _, _, 0, .cons _ _ => .nil
  | _, _, k + 1, .cons h r => .cons h (GAs.take k r)
theorem GAs.drop : ∀ {vs : List V} {gs : List Gt} (k : Nat), GAs H vs gs → GAs H (vs.drop k) (gs.drop k)
  | _, _, k, .nil => by rw [List.drop_nil, List.drop_nil]; exact .nil
  | _, _, 0, .cons h r => .cons h r
  | _, _, k + 1, .cons _ r => GAs.drop k r
theorem GAs.last : ∀ {vs : List V} {gs : List Gt}, GAs H vs gs → vs ≠ [] → ∃ us v fs g, vs = us ++ [v] ∧ gs = fs ++ [g] ∧ GAs H us fs ∧ GA H v g
  | _, _, .nil, h => absurd rfl h
  | _, _, .cons (v := v) (g := g) h .nil, _ => ⟨[], v, [], g, rfl, rfl, .nil, h⟩
  | _, _, .cons (v := v) (g := g) h (.cons a1 a2), _ => by
    obtain ⟨us, v', fs, g', e1, e2, s, b1⟩ := GAs.last (.cons a1 a2) (by intro q; cases q)
    exact ⟨v :: us, v', g :: fs, g', by rw [e1]; rfl, by rw [e2]; rfl, .cons h s, b1⟩
end
/-! ### the whole of it: how many parts, how deep -/
mutual
def Gt.size : Gt → Nat
  | .seq _ gs => Gt.sizes gs + 1
  | _ => 1
def Gt.sizes : List Gt → Nat
  | [] => 0
  | g :: r => g.size + Gt.sizes r
end
mutual
def Gt.depth : Gt → Nat
  | .seq _ gs => Gt.depths gs + 1
  | _ => 1
def Gt.depths : List Gt → Nat
  | [] => 0
  | g :: r => max g.depth (Gt.depths r)
end
theorem size_pos (g : Gt) : 1 ≤ g.size := by
  cases g <;> simp only [Gt.size] <;> omega
theorem sizes_app : ∀ a b : List Gt, Gt.sizes (a ++ b) = Gt.sizes a + Gt.sizes b
  | [], b => by simp only [List.nil_append, Gt.sizes, Nat.zero_add]
  | g :: r, b => by
    simp only [List.cons_append, Gt.sizes, sizes_app r b]
    omega
theorem sizes_rev : ∀ a : List Gt, Gt.sizes a.reverse = Gt.sizes a
  | [] => rfl
  | g :: r => by
    rw [List.reverse_cons, sizes_app, sizes_rev r]
    simp only [Gt.sizes]
    omega
theorem len_sizes : ∀ a : List Gt, a.length ≤ Gt.sizes a
  | [] => Nat.zero_le _
  | g :: r => by
    have := len_sizes r
    have := size_pos g
    simp only [Gt.sizes, List.length_cons]
    omega
theorem size_mem : ∀ {a : List Gt} {g : Gt}, g ∈ a → g.size ≤ Gt.sizes a
  | x :: r, g, h => by
    simp only [Gt.sizes]
    rcases List.mem_cons.mp h with q | q
    · rw [q]; omega
    · have := size_mem q
      omega
theorem depth_mem : ∀ {a : List Gt} {g : Gt}, g ∈ a → g.depth ≤ Gt.depths a
  | x :: r, g, h => by
    simp only [Gt.depths]
    rcases List.mem_cons.mp h with q | q
    · rw [q]; omega
    · have := depth_mem q
      omega
/-! ### right parts -/
def hd (z : Str) : Gt → Bool
  | .str y => decide (y = z)
  | _ => false
def whole (lo hi : Int) : Gt → Bool
  | .int i => decide (lo ≤ i) && decide (i ≤ hi)
  | _ => false
def seqN (n : Nat) : Gt → Bool
  | .seq _ gs => decide (gs.length = n)
  | _ => false
def isP (l w n : Nat) : Gt → Bool
  | .seq _ [h, a, r] => if hd "read" h = true then whole 0 w a && seqN l r else if hd "tell" h = true then whole 0 2 a else if hd "go" h = true then whole 1 (w + 1) a && whole 0 ((n : Int) - 1) r else false
  | _ => false
def kids : Gt → List Gt
  | .seq _ [h, _, r] => if hd "read" h = true then (match r with
      | .seq _ gs => gs
      | _ => []) else if hd "tell" h = true then [r] else []
  | _ => []
theorem kids_size (g : Gt) : Gt.sizes (kids g) + 1 ≤ g.size := by
  unfold kids
  split
  · rename_i k h a r
    have := size_pos h
    have := size_pos a
    split
    · split
      · simp only [Gt.size, Gt.sizes]
        omega
      · simp only [Gt.size, Gt.sizes]
        omega
    · split
      · simp only [Gt.size, Gt.sizes]
        omega
      · simp only [Gt.size, Gt.sizes]
        omega
  · have := size_pos g
    simp only [Gt.sizes]
    omega
/-! ### the walk -/
def tot (ps : List (Gt × Nat)) : Nat := Gt.sizes (ps.map (·.1))
def fwF (l w n : Nat) : Nat → List (Gt × Nat) → Nat → Bool × Nat
  | 0, _, m => (false, m)
  | _ + 1, [], m => (false, m)
  | f + 1, (g, d) :: r, m => if d > 40 ∨ isP l w n g = false then (true, m) else fwF l w n f ((kids g).map (fun x => (x, d + 1)) ++ r) (m + 1)
theorem fw_nil {l w n f m : Nat} : fwF l w n f [] m = (false, m) := by
  cases f <;> rfl
def cntF : Nat → List Gt → Nat → Nat
  | 0, _, m => m
  | _ + 1, [], m => m
  | f + 1, g :: r, m => cntF f (kids g ++ r) (m + 1)
theorem cnt_nil {f m : Nat} : cntF f [] m = m := by
  cases f <;> rfl
theorem fw_cnt {l w n : Nat} : ∀ {f : Nat} {ps : List (Gt × Nat)} {m N : Nat}, fwF l w n f ps m = (false, N) → cntF f (ps.map (·.1)) m = N
  | 0, _, _, _, h => by cases h; rfl
  | f + 1, [], _, _, h => by cases h; rfl
  | f + 1, (g, d) :: r, m, N, h => by
    unfold fwF at h
    split at h
    · cases h
    · have := fw_cnt h
      rw [List.map_append, List.map_map] at this
      show cntF f (kids g ++ r.map (·.1)) (m + 1) = N
      have e : List.map ((fun x : Gt × Nat => x.1) ∘ fun x => (x, d + 1)) (kids g) = kids g := by
        rw [show ((fun x : Gt × Nat => x.1) ∘ fun x => (x, d + 1)) = (id : Gt → Gt) from rfl, List.map_id]
      rw [e] at this
      exact this
/-- right within so many levels -/
inductive Rt (l w n : Nat) : Nat → Gt → Prop
  | mk {d : Nat} {g : Gt} : isP l w n g = true → (∀ x ∈ kids g, Rt l w n d x) → Rt l w n (d + 1) g
theorem fw_rt {l w n : Nat} : ∀ {f : Nat} {ps : List (Gt × Nat)} {m N : Nat}, fwF l w n f ps m = (false, N) → tot ps ≤ f → ∀ p ∈ ps, Rt l w n (41 - p.2) p.1
  | 0, ps, _, _, _, ht => fun p hp => by
    have : p.1.size ≤ tot ps := size_mem (List.mem_map.mpr ⟨p, hp, rfl⟩)
    have := size_pos p.1
    omega
  | f + 1, [], _, _, _, _ => fun p hp => by cases hp
  | f + 1, (g, d) :: r, m, N, h, ht => by
    unfold fwF at h
    split at h
    · cases h
    · rename_i hc
      have hd : d ≤ 40 := Nat.le_of_not_lt fun z => hc (.inl z)
      have hp : isP l w n g = true := by
        cases q : isP l w n g with
        | true => rfl
        | false => exact absurd (.inr q) hc
      have ks := kids_size g
      have t2 : tot ((kids g).map (fun x => (x, d + 1)) ++ r) ≤ f := by
        unfold tot at ht ⊢
        rw [List.map_append, List.map_map, sizes_app, show ((fun x : Gt × Nat => x.1) ∘ fun x => (x, d + 1)) = (id : Gt → Gt) from rfl, List.map_id]
        simp only [List.map_cons, Gt.sizes] at ht
        omega
      have ih := fw_rt h t2
      intro p hpm
      rcases List.mem_cons.mp hpm with e | e
      · subst e
        show Rt l w n (41 - d) g
        rw [show 41 - d = (40 - d) + 1 by omega]
        refine .mk hp fun x hx => ?_
        have := ih (x, d + 1) (List.mem_append_left _ (List.mem_map.mpr ⟨x, hx, rfl⟩))
        rw [show 40 - d = 41 - (d + 1) by omega]
        exact this
      · exact ih p (List.mem_append_right _ e)
/-! ### the waiting ones, the top at the end -/
inductive Stk (H0 H : Hp) : List V → List (Gt × Nat) → Prop
  | nil : Stk H0 H [] []
  | cons {r : Addr} {v : V} {g : Gt} {d : Nat} {vs : List V} {ps : List (Gt × Nat)} : H r = some (.tup [v, .int (d : Nat)]) → GA H0 v g → Stk H0 H vs ps → Stk H0 H (.ref r :: vs) ((g, d) :: ps)
theorem Stk.ex {H0 H H' : Hp} (e : Ex H H') : ∀ {vs : List V} {ps : List (Gt × Nat)}, Stk H0 H vs ps → Stk H0 H' vs ps
  | _, _, .nil => .nil
  | _, _, .cons h1 h2 r => .cons (e _ _ h1) h2 (Stk.ex e r)
theorem Stk.len {H0 H : Hp} : ∀ {vs : List V} {ps : List (Gt × Nat)}, Stk H0 H vs ps → vs.length = ps.length
  | _, _, .nil => rfl
  | _, _, .cons _ _ r => by rw [List.length_cons, List.length_cons, r.len]
theorem Stk.app {H0 H : Hp} : ∀ {vs : List V} {ps : List (Gt × Nat)} {us : List V} {qs : List (Gt × Nat)}, Stk H0 H vs ps → Stk H0 H us qs → Stk H0 H (vs ++ us) (ps ++ qs)
  | _, _, _, _, .nil, h => h
  | _, _, _, _, .cons h1 h2 r, h => .cons h1 h2 (Stk.app r h)
theorem Stk.upd {H0 H : Hp} {a : Addr} {o : HO} : ∀ {vs : List V} {ps : List (Gt × Nat)}, Stk H0 H vs ps → (∀ xs, H a ≠ some (.tup xs)) → Stk H0 (L2.upd H a o) vs ps
  | _, _, .nil, _ => .nil
  | _, _, .cons (r := r) h1 h2 r1, hn => .cons (by rw [upd_ne (fun q : r = a => hn _ (by rw [← q]; exact h1))]; exact h1) h2 (Stk.upd r1 hn)
theorem Stk.last {H0 H : Hp} : ∀ {vs : List V} {ps : List (Gt × Nat)}, Stk H0 H vs ps → vs ≠ [] →
    ∃ us r v g d qs, vs = us ++ [.ref r] ∧ ps = qs ++ [(g, d)] ∧ Stk H0 H us qs ∧ H r = some (.tup [v, .int (d : Nat)]) ∧ GA H0 v g
  | _, _, .nil, h => absurd rfl h
  | _, _, .cons (r := r) (v := v) (g := g) (d := d) h1 h2 .nil, _ => ⟨[], r, v, g, d, [], rfl, rfl, .nil, h1, h2⟩
  | _, _, .cons (r := r) (v := v) (g := g) (d := d) h1 h2 (.cons a1 a2 a3), _ => by
    obtain ⟨us, r', v', g', d', qs, e1, e2, s, b1, b2⟩ := Stk.last (.cons a1 a2 a3) (by intro q; cases q)
    exact ⟨.ref r :: us, r', v', g', d', (g, d) :: qs, by rw [e1]; rfl, by rw [e2]; rfl, .cons h1 h2 s, b1, b2⟩
theorem tot_app (ps qs : List (Gt × Nat)) : tot (ps ++ qs) = tot ps + tot qs := by
  unfold tot
  rw [List.map_append, sizes_app]
theorem tot_map (gs : List Gt) (d : Nat) : tot (gs.map fun g => (g, d)) = Gt.sizes gs := by
  unfold tot
  rw [List.map_map, show ((fun x : Gt × Nat => x.1) ∘ fun g => (g, d)) = (id : Gt → Gt) from rfl, List.map_id]
theorem len_tot (ps : List (Gt × Nat)) : ps.length ≤ tot ps := by
  have := len_sizes (ps.map (·.1))
  rw [List.length_map] at this
  exact this
/-! ### right trees of the law's own making -/
mutual
def ofT : Tr → Gt
  | .go s q => .seq true [.str "go", .int (s : Nat), .int (q : Nat)]
  | .tell n t => .seq true [.str "tell", .int (n : Nat), ofT t]
  | .read p ts => .seq true [.str "read", .int (p : Nat), .seq true (ofTs ts)]
def ofTs : Trs → List Gt
  | .nil => []
  | .cons t r => ofT t :: ofTs r
end
mutual
theorem TA.ga {H : Hp} : ∀ {t : Tr} {v : V}, TA true H v t → GA H v (ofT t)
  | _, _, .go h => .seq h (.cons (.str _) (.cons (.int _) (.cons (.int _) .nil)))
  | _, _, .tell h r => .seq h (.cons (.str _) (.cons (.int _) (.cons (TA.ga r) .nil)))
  | _, _, .read h hb r => .seq h (.cons (.str _) (.cons (.int _) (.cons (.seq hb (TAs.ga r)) .nil)))
theorem TAs.ga {H : Hp} : ∀ {ts : Trs} {vs : List V}, TAs true H vs ts → GAs H vs (ofTs ts)
  | _, _, .nil => .nil
  | _, _, .cons h r => .cons (TA.ga h) (TAs.ga r)
end
end GX

namespace GD
open PySem PySem.Spec PyProof.Rows L2
/-- a law's promise, where no text of an object is being made -/
structure Gd (P : Program) (w : World) (K : PySem.W.Frag) (mg : Str → Option Value) (base : Heap) (k : Nat) (f : Addr) (fd : FuncData) (ps : List Str) (sp : Sp) : Prop where
  run : ∀ (A : Around) (outer : List Env) (s : Shared) (H : Hp) (args : Args) (us : List Value) (vs : List V) (Q : VK) (E : XK), Room k A → A.guards = some [] → Env0 P w K mg base A outer s H → BindsTo s fd args (ps.zip us) → Vals vs us → sp vs H Q E →
    codeAny (model P w) A (.call (.ref f) args) (CR CX0 outer P w H s Q E) s
section
variable {P : Program} {w : World} {K : PySem.W.Frag} {mg : Str → Option Value} {base : Heap}
theorem deeper_guards {A : Around} {env : Env} (h : A.guards = some []) : (A.deeper env).guards = some [] := h
/-- the rule for a def, once more -/
theorem okG {x qual : Str} {st : Stmt} {f : Addr} {fd : FuncData} {N ps : List Str} {k : Nat} {sp : Sp} (F : Fun K x qual st f fd) (S : FnScope N ps (defScope st)) (len : ∀ vs H Q E, sp vs H Q E → vs.length = ps.length)
    (hbody : ∀ (cdv : Value) (A : Around) (outer : List Env) (s : Shared) (H : Hp) (vs : List V) (Q : VK) (E : XK), Room k (A.deeper (envOfC qual (defScope st) s.heap.objs.size f cdv)) → (A.deeper (envOfC qual (defScope st) s.heap.objs.size f cdv)).guards = some [] → sp vs H Q E →
      ∃ t, PSs (cxOf CX0 P w K mg base N qual (defScope st) f cdv A outer s H E).nox (defBody st) t ∧ t { nx := fun _ H' => Q .non H', rt := Q } (start N vs) H) : Gd P w K mg base (k + 1) f fd ps sp := by
  obtain ⟨oc, od, kV, doc, pm, an, cdv, ct, osl, rfl, lk, hcd⟩ := F.ex
  refine ⟨fun A outer s H args us vs Q E hr hg e0 hb r hsp => ?_⟩
  have kin : K.In s.heap := e0.mod.kin.keeps fun b o e => (e0.bs b o e).1
  have nolim : s.heap.NoLimit := e0.mod.nolimit.keeps fun b o e => (e0.bs b o e).1
  have names : ∀ y ∈ ps.zip us, (defScope st).names.lookup y.1 = some .local ∨ ((defScope st).names.lookup y.1 = some .cell ∧ ((cellsFrom (s.heap.objs.size + 1) (defScope st).names []).lookup y.1).isSome = true) := by
    rintro ⟨n, v⟩ hy
    rcases S.par n (List.of_mem_zip hy).1 with q | q
    · exact .inl q
    · exact .inr ⟨q, PySem.W.cellsFrom_some _ _ _ (.inl q)⟩
  refine codeAny_call_function hr.depth (kin _ _ lk) rfl S.co S.gen rfl (PySem.W.codeRec_of kin hcd) (hb _ _ _ _ (wpAny_newFunctionEnv_cells S.kind names fun env he s1 z => ?_))
  subst he
  refine ⟨nolim.keeps z.toInCall.keep, codeAny_func ?_⟩
  obtain ⟨t, ht, hq⟩ := hbody cdv A outer s H vs Q E (hr.deeper _) (deeper_guards hg) hsp
  have I := inv_start (CX := CX0) (E := E) S hr.hd e0 (len _ _ _ _ hsp) r z
  refine wpAny_mono (ht.nox.run [] s1 (start N vs) H _ I hq) (fun fl s' hs => ?_) fun e s' hs => hs
  cases fl with
  | ret u =>
    obtain ⟨v, σ', H', J, rv, q⟩ := hs
    exact ⟨v, H', J.os, J.bare, J.base, J.hok, rv, q⟩
  | next =>
    obtain ⟨σ', H', J, q⟩ := hs
    exact ⟨V.non, H', J.os, J.bare, J.base, J.hok, rfl, q⟩
  | brk =>
    obtain ⟨_, _, _, q⟩ := hs
    exact q.elim
  | cont =>
    obtain ⟨_, _, _, q⟩ := hs
    exact q.elim
end
/-! ### the end: the law's promise at the heap behind the top -/
/-- the script alone is known -/
def one (a : Addr) (vs : List Value) (ns : List Int) : Hp := fun b => if b = a then some (.frz { cls := .type "list", data := .seq vs.toArray } (.lst (ns.map V.int))) else none
theorem callG {P : Program} {w : World} {K : PySem.W.Frag} {mg mb : Str → Option Value} {k : Nat} {fa a : Addr} {fd : FuncData} {x : Str} {sp : Sp} {s : Shared} {vs : List Value} {ns : List Int}
    (kin : K.In s.heap) (hns : s.heap.Ns mainGlobals mg) (hb : s.heap.Ns builtinsNs mb) (hbb : ∀ x : Str, x ≠ "__name__" → mb x = bootBuiltins x) (nolim : s.heap.NoLimit) (gens : s.gens = #[])
    (ha : s.heap.get? a = some { cls := .type "list", data := .seq vs.toArray }) (hi : IntsAre vs ns) (hl : ns.length ≤ sizeLine) (room : Room k callerA)
    (F : ∀ base : Heap, K.In base → base.Ns mainGlobals mg → Gd P w K mg base k fa fd [x] sp) (binds : ∀ (s : Shared) (u : Value), BindsTo s fd ⟨[u], []⟩ [(x, u)])
    (hsp : ∀ H : Hp, SqL K H a (ns.map V.int) → sp [.ref a] H (fun v _ => v = .bl true) E0) :
    codeAny (model P w) callerA (.call (.ref fa) ⟨[.ref a], []⟩) (fun r s' => r = .ok (.ret (.bool true)) ∧ OldK s.heap s'.heap ∧ s'.os = s.os ∧ AllBare s'.gens) s := by
  have rv := vals_ints hi
  have step : ∀ H : Hp, (∀ b u, H b = some u → b = a ∧ K.lookup a = none ∧ ∃ o xs, u = .frz o (.lst xs)) → HOk P w H s.heap → SqL K H a (ns.map V.int) →
      codeAny (model P w) callerA (.call (.ref fa) ⟨[.ref a], []⟩) (fun r s' => r = .ok (.ret (.bool true)) ∧ OldK s.heap s'.heap ∧ s'.os = s.os ∧ AllBare s'.gens) s := by
    intro H only hok hS
    have free : ∀ {b : Addr}, b ≠ a → H b = none := fun {b} n => by
      cases e : H b with
      | none => rfl
      | some u => exact absurd (only b u e).1 n
    have stays : ∀ {b : Addr} {m : Str → Option Value}, s.heap.Ns b m → (hidT s.heap H).Ns b m := fun {b m} ⟨o, es, ep, e, d, r⟩ => by
      refine ⟨o, es, ep, hidT_get e (free fun z => ?_), d, r⟩
      rw [z, ha] at e
      cases e
      cases (show Data.seq vs.toArray _ = Data.dict es ep from d)
    have kinB : K.In (hidT s.heap H) := fun b o e => hidT_get (kin b o e) (by
      cases q : H b with
      | none => rfl
      | some u =>
        obtain ⟨h1, h2, _⟩ := only b u q
        rw [h1, h2] at e
        cases e)
    have e0 : Env0 P w K mg (hidT s.heap H) callerA [] s H :=
      ⟨rfl, ⟨kinB, stays hns, ⟨mb, stays hb, hbb⟩, let ⟨mc, h1, h2⟩ := nolim; ⟨mc, stays h1, h2⟩⟩, fun b o e => of_hidT e, Nat.le_of_eq (hidT_size _ _), trivial, fun b hb => (nomatch (show b ∈ ([] : List Addr) from hb)), hok, .of_eq gens⟩
    refine codeAny_mono ((F _ kinB (stays hns)).run callerA [] s H ⟨[.ref a], []⟩ [.ref a] [.ref a] _ E0 room rfl e0 (binds s (.ref a)) (.cons rfl .nil) (hsp H hS)) fun r s' h => ?_
    cases r with
    | error e => exact h.elim
    | ok fl =>
      cases fl with
      | ret u =>
        obtain ⟨v, H', os, bare, un, hok', r', q⟩ := h
        obtain rfl : v = .bl true := q
        obtain rfl : u = Value.bool true := r'
        refine ⟨rfl, OldK.of_keep fun b o e => ?_, os, bare⟩
        cases q : H b with
        | none => exact un.keep b o e q (by intro z; exact (nomatch (show b ∈ ([] : List Addr) from z))) (by simp)
        | some u =>
          obtain ⟨_, _, ob, xs, rfl⟩ := only b u q
          obtain ⟨e1, _⟩ := hok b _ q
          obtain ⟨e2, _⟩ := hok' b _ (un.frzs b ob _ q)
          rw [e] at e1
          cases e1
          exact e2
      | next => exact h.elim
      | brk => exact h.elim
      | cont => exact h.elim
  cases hk : K.lookup a with
  | some o =>
    have e := kin a o hk
    rw [ha] at e
    cases e
    refine step (fun _ => none) (fun b u z => by cases z) (fun b u z => by cases z) (.inr ⟨_, vs.toArray, _, hk, rfl, rfl, rfl, ?_, by simpa using rv⟩)
    rw [List.size_toArray, hi.length]
    exact hl
  | none =>
    refine step (one a vs ns) (fun b u z => ?_) (fun b u z => ?_) (.inl (.inr ⟨_, if_pos rfl⟩))
    · unfold one at z
      by_cases q : b = a
      · rw [if_pos q] at z
        cases z
        exact ⟨q, hk, _, _, rfl⟩
      · rw [if_neg q] at z
        cases z
    · unfold one at z
      by_cases q : b = a
      · rw [if_pos q] at z
        cases z
        subst q
        exact ⟨ha, by rw [List.length_map]; exact hl, vs, _, rv, ha⟩
      · rw [if_neg q] at z
        cases z
theorem walkG {l : PySem.W.OpenLaw} {n k : Nat} {q : Program} {loose : List Str} {XP : (Str → Option Value) → Heap → Prop} {YP : World → Heap → Prop} {d : DefRec} {K : Params → PySem.W.Frag} {sp : World → Sp} {x : Str}
    (hn : l.most = some n) (hn2 : n ≤ sizeLine) (hdf : d.params.defaults = []) (hr : Room k callerA) (hY : ∀ (w : World) (h : Heap), YP w h → (K w.params).In h)
    (F : ∀ (w : World) (mg : Str → Option Value) (fa : Addr) (h : Heap), (K w.params).In h → h.Ns mainGlobals mg → mg d.name = some (.ref fa) →
      ∃ fd : FuncData, (∀ (s : Shared) (u : Value), BindsTo s fd ⟨[u], []⟩ [(x, u)]) ∧ ∀ base : Heap, (K w.params).In base → base.Ns mainGlobals mg → Gd l.prog w (K w.params) mg base k fa fd [x] (sp w))
    (hsp : ∀ (w : World) (H : Hp) (a : Addr) (ns : List Int), ns.length ≤ n → SqL (K w.params) H a (ns.map V.int) → sp w [.ref a] H (fun v _ => v = .bl true) E0) :
    PySem.W.WalkO q loose XP YP l.row.toRowW d [] (fun f vs => PySem.call f vs) := by
  refine Att.attach_call hn hdf fun w s₀ s₁ mg mb fa o pm cd doc a vs ns G Y ho hd hcd hmg hobj hints hlen hg => ?_
  have kin := hY w _ Y
  obtain ⟨fd, hb, hF⟩ := F w mg fa _ kin G.T.g hmg
  exact callG kin G.T.g G.T.b G.T.builtins G.T.nolimit hg hobj hints (Nat.le_trans hlen hn2) hr hF hb fun H hS => hsp w H a ns hlen hS
end GD

/-! repr of data with dicts that are empty: only the dicts must stand apart from the modules' table -/
namespace DY
open PySem PySem.Spec PyProof.Rows L2
/-- whole numbers to whole numbers -/
def kvI (ks : List (Int × Int)) : List (Key × V) := ks.map fun p => (.inl p.1, .int p.2)
def kdI (ks : List (Int × Int)) : List (PyData × PyData) := ks.map fun p => (.int p.1, .int p.2)
mutual
/-- v is the data d; a dict is an empty one -/
inductive DE (K : PySem.W.Frag) (H : Hp) : V → PyData → Prop
  | non : DE K H .non .none
  | bl (b : Bool) : DE K H (.bl b) (.bool b)
  | int (i : Int) : DE K H (.int i) (.int i)
  | str (x : Str) : DE K H (.str x) (.str x)
  | lst {a : Addr} {xs : List V} {ds : List PyData} : SqL K H a xs → DEs K H xs ds → DE K H (.ref a) (.list ds)
  | tup {a : Addr} {xs : List V} {ds : List PyData} : SqT K H a xs → DEs K H xs ds → DE K H (.ref a) (.tuple ds)
  | emp {a : Addr} : H a = some (.dK []) → DE K H (.ref a) (.dict [])
  | one {a : Addr} {k : Str} {i : Int} : H a = some (.dK [(.inr k, .int i)]) → DE K H (.ref a) (.dict [(.str k, .int i)])
  | dks {a : Addr} {ks : List (Int × Int)} : H a = some (.dK (kvI ks)) → DE K H (.ref a) (.dict (kdI ks))
inductive DEs (K : PySem.W.Frag) (H : Hp) : List V → List PyData → Prop
  | nil : DEs K H [] []
  | cons {v : V} {vs : List V} {d : PyData} {ds : List PyData} : DE K H v d → DEs K H vs ds → DEs K H (v :: vs) (d :: ds)
end
section
variable {X : Cx} {pins : List (Addr × Obj)} {σ : L2.St} {H : Hp} {s : Shared}
theorem emp_at (I : Inv X pins σ H s) {a : Addr} (h : H a = some (.dK [])) : (a == sysModules) = false ∧ ∃ o n, s.heap.get? a = some o ∧ o.cls = .type "dict" ∧ o.data = .dict #[] n := by
  obtain ⟨_, h1, vs, kv, o, es, ep, g, ed, dd, k1, k2, _⟩ := dk_of I.hok h
  cases kv
  have e : es = #[] := by
    cases es with
    | mk l =>
      cases l with
      | nil => rfl
      | cons x r => cases k2
  subst e
  exact ⟨h1, o, ep, g, ed.1, dd⟩
theorem one_at (I : Inv X pins σ H s) {a : Addr} {k : Str} {i : Int} (h : H a = some (.dK [(.inr k, .int i)])) : (a == sysModules) = false ∧ ∃ o n e t1 t2, s.heap.get? a = some o ∧ o.cls = .type "dict" ∧ o.data = .dict #[e] n ∧ e.key = Value.str k t1 ∧ e.val = Value.int i t2 := by
  obtain ⟨_, h1, vs, kv, o, es, ep, g, ed, dd, k1, k2, _⟩ := dk_of I.hok h
  cases kv with
  | cons hp hn =>
    cases hn
    obtain ⟨q1, q2⟩ := hp
    cases es with
    | mk l =>
      cases l with
      | nil => cases k2
      | cons x r =>
        cases k2 with
        | cons r1 r2 r3 =>
          cases r3
          rw [← q1] at r1
          have r1' : keyIs (.inr k) x.key = true := r1
          obtain ⟨i2, t, z, _⟩ | ⟨y, t, z, e1⟩ := keyIs_shape r1'
          · cases z
          · cases z
            obtain ⟨t2, e2⟩ := q2
            exact ⟨h1, o, ep, x, t, t2, g, ed.1, dd, e1, by rw [r2, e2]⟩
inductive IE : List (Int × Int) → List DictEntry → Prop
  | nil : IE [] []
  | cons {k i : Int} {ks : List (Int × Int)} {e : DictEntry} {es : List DictEntry} {t1 t2 : Nat} : e.key = Value.int k t1 → e.val = Value.int i t2 → IE ks es → IE ((k, i) :: ks) (e :: es)
theorem ie_of {P : Program} {w : World} : ∀ {ks : List (Int × Int)} {vs : List (Key × Value)} {es : List DictEntry}, KV (kvI ks) vs → Pairs (mixKind P w) es vs → IE ks es
  | [], _, _, .nil, .nil => .nil
  | (k, i) :: ks, _, _, .cons hp hn, .cons r1 r2 r3 => by
    obtain ⟨q1, q2⟩ := hp
    rw [← q1] at r1
    have r1' : keyIs (.inl k) _ = true := r1
    obtain ⟨i2, t, z, e1⟩ | ⟨y, t, z, _⟩ := keyIs_shape r1'
    · cases z
      obtain ⟨t2, e2⟩ := q2
      exact .cons e1 (by rw [r2, e2]) (ie_of hn r3)
    · cases z
theorem dks_at (I : Inv X pins σ H s) {a : Addr} {ks : List (Int × Int)} (h : H a = some (.dK (kvI ks))) : (a == sysModules) = false ∧ ∃ (o : Obj) (n : Nat) (es : Array DictEntry), s.heap.get? a = some o ∧ o.cls = .type "dict" ∧ o.data = .dict es n ∧ IE ks es.toList := by
  obtain ⟨_, h1, vs, kv, o, es, ep, g, ed, dd, k1, k2, _⟩ := dk_of I.hok h
  exact ⟨h1, o, ep, es, g, ed.1, dd, ie_of kv k2⟩
theorem IE.reads {h : Heap} : ∀ {ks : List (Int × Int)} {es : List DictEntry}, IE ks es → (∃ as, ReadsAll h (es.map (·.key)) ((kdI ks).map (·.1)) as) ∧ ∃ as, ReadsAll h (es.map (·.val)) ((kdI ks).map (·.2)) as
  | _, _, .nil => ⟨⟨_, ReadsAll.nil⟩, ⟨_, ReadsAll.nil⟩⟩
  | _, _, @IE.cons k i ks e es t1 t2 e1 e2 r => by
    obtain ⟨⟨a1, r1⟩, ⟨a2, r2⟩⟩ := IE.reads (h := h) r
    refine ⟨⟨_, ReadsAll.cons (as := []) ?_ r1⟩, ⟨_, ReadsAll.cons (as := []) ?_ r2⟩⟩
    · show Reads h e.key (.int k) []
      rw [e1]; exact Reads.int k t1
    · show Reads h e.val (.int i) []
      rw [e2]; exact Reads.int i t2
theorem IE.rk {P : Program} {w : World} {h : Heap} {d : Nat} : ∀ {ks : List (Int × Int)} {es : List DictEntry}, IE ks es → PyData.showableAll ((kdI ks).map (·.1)) = true → PyData.showableAll ((kdI ks).map (·.2)) = true →
    ReprAllK P w [] h d (es.map (·.key)) (PyData.shownAll ((kdI ks).map (·.1))) ∧ ReprAllK P w [] h d (es.map (·.val)) (PyData.shownAll ((kdI ks).map (·.2)))
  | _, _, .nil, _, _ => ⟨by simp only [kdI, List.map_nil, PyData.shownAll]; exact .nil, by simp only [kdI, List.map_nil, PyData.shownAll]; exact .nil⟩
  | _, _, @IE.cons k i ks e es t1 t2 e1 e2 r, s1, s2 => by
    have s1' : (PyData.int k).showable = true ∧ PyData.showableAll ((kdI ks).map (·.1)) = true := by simpa [kdI, PyData.showableAll] using s1
    have s2' : (PyData.int i).showable = true ∧ PyData.showableAll ((kdI ks).map (·.2)) = true := by simpa [kdI, PyData.showableAll] using s2
    obtain ⟨q1, q2⟩ := IE.rk (P := P) (w := w) (h := h) (d := d) r s1'.2 s2'.2
    have x1 : (kdI ((k, i) :: ks)).map (·.1) = .int k :: (kdI ks).map (·.1) := rfl
    have x2 : (kdI ((k, i) :: ks)).map (·.2) = .int i :: (kdI ks).map (·.2) := rfl
    rw [x1, x2]
    simp only [PyData.shownAll, PyData.shown, List.map_cons]
    refine ⟨.cons ?_ q1, .cons ?_ q2⟩
    · rw [e1]
      exact .of_is (ReprIs.int t1 (by simpa [PyData.showable] using s1'.1)) _ _ _
    · rw [e2]
      exact .of_is (ReprIs.int t2 (by simpa [PyData.showable] using s2'.1)) _ _ _
/-- how v is read and shown -/
structure Sh (prog : Program) (w : World) (h : Heap) (u : Value) (d : PyData) : Prop where
  r : ∃ as, Reads h u d as
  k : ∃ bs, ReadAtMost h d.depth bs ∧ ReprK prog w bs h d.depth u d.shown
structure Shs (prog : Program) (w : World) (h : Heap) (us : List Value) (ds : List PyData) : Prop where
  r : ∃ as, ReadsAll h us ds as
  k : ∃ bs, ReadAtMost h (PyData.depthAll ds) bs ∧ ReprAllK prog w bs h (PyData.depthAll ds) us (PyData.shownAll ds)
theorem mem_l {t : Str} {ts : List Str} (h : t ∈ ts) : t.length ≤ (listText ts).length := by
  have z := PySem.listText_mem_le h
  exact z
mutual
theorem DE.sh (I : Inv X pins σ H s) : ∀ (d : PyData) (v : V) (u : Value), DE X.K H v d → RelV v u → d.showable = true → d.shown.length ≤ sizeLine → Sh X.prog X.w s.heap u d
  | .none, _, _, h, r, _, _ => by
    cases h
    cases r
    exact ⟨⟨_, Reads.none⟩, [], (fun _ h => nomatch h), by simp only [PyData.shown]; exact .of_is ReprIs.none _ _ _⟩
  | .bool b, _, _, h, r, _, _ => by
    cases h
    cases r
    exact ⟨⟨_, Reads.bool b⟩, [], (fun _ h => nomatch h), by simp only [PyData.shown]; exact .of_is (ReprIs.bool b) _ _ _⟩
  | .int i, _, _, h, r, hs, _ => by
    cases h
    obtain ⟨t, rfl⟩ := r
    exact ⟨⟨_, Reads.int i t⟩, [], (fun _ h => nomatch h), by simp only [PyData.shown]; exact .of_is (ReprIs.int t (by simpa [PyData.showable] using hs)) _ _ _⟩
  | .str x, _, _, h, r, _, hz => by
    cases h
    obtain ⟨t, rfl⟩ := r
    exact ⟨⟨_, Reads.str x t⟩, [], (fun _ h => nomatch h), by simp only [PyData.shown]; exact .of_is (ReprIs.str x t (by simpa only [PyData.shown] using hz)) _ _ _⟩
  | .list ds, _, _, h, r, hs, hz => by
    cases h with
    | lst hq ha =>
      cases r
      obtain ⟨its, rv, ⟨o, n, ho, hc, _, hd⟩, _⟩ := I.list hq
      have hz2 : (listText (PyData.shownAll ds)).length ≤ sizeLine := by simpa only [PyData.shown] using hz
      obtain ⟨⟨as, hr⟩, bs, hb, hk⟩ := DEs.sh I ds _ its ha rv (by simpa [PyData.showable] using hs) fun t ht => Nat.le_trans (listText_mem_le ht) hz2
      have r2 : Reads s.heap _ (.list ds) _ := Reads.list ho hc hd hr
      refine ⟨⟨_, r2⟩, _ :: bs, ReadAtMost.cons r2 (by simp only [PyData.depth]; omega) hb, ?_⟩
      have hna := not_mem_of_deeper r2 (show PyData.depthAll ds < _ by simp only [PyData.depth]; omega) hb
      simp only [PyData.depth, PyData.shown]
      cases its with
      | nil =>
        cases rv
        cases ha
        simp only [PyData.shownAll, listText_nil]
        exact ReprK.listEmpty ho hc hd
      | cons x l => exact ReprK.list ho hc hd hna (by simpa using hk.length_eq) (fun i y e => hk.item i y (by simpa using e))
  | .tuple ds, _, _, h, r, hs, hz => by
    cases h with
    | tup hq ha =>
      cases r
      obtain ⟨its, rv, ⟨o, ho, hc, n, hd⟩, _⟩ := I.tuple hq
      have hz2 : (tupleText (PyData.shownAll ds)).length ≤ sizeLine := by simpa only [PyData.shown] using hz
      obtain ⟨⟨as, hr⟩, bs, hb, hk⟩ := DEs.sh I ds _ its ha rv (by simpa [PyData.showable] using hs) fun t ht => Nat.le_trans (tupleText_mem_le ht) hz2
      have r2 : Reads s.heap _ (.tuple ds) _ := Reads.tuple ho hc hd hr
      refine ⟨⟨_, r2⟩, _ :: bs, ReadAtMost.cons r2 (by simp only [PyData.depth]; omega) hb, ?_⟩
      have hna := not_mem_of_deeper r2 (show PyData.depthAll ds < _ by simp only [PyData.depth]; omega) hb
      simp only [PyData.depth, PyData.shown]
      exact ReprK.tuple ho hc hd hna hk
  | .dict kvs, _, _, h, r, hs, hz => by
    cases h with
    | emp hq =>
      cases r
      obtain ⟨hy, o, n, ho, hc, hd⟩ := emp_at I hq
      have r2 : Reads s.heap _ (.dict []) _ := Reads.dict ho hc hd ReadsAll.nil ReadsAll.nil
      refine ⟨⟨_, r2⟩, [_], ReadAtMost.cons r2 (Nat.le_refl _) (fun _ h => nomatch h), ?_⟩
      simp only [PyData.depth, PyData.shown, PyData.shownKv_eq]
      exact ReprK.dict ho hc hd hy (fun h => nomatch h) (ReprEntriesK.of_two [] _ _ .nil .nil)
    | @one a k i hq =>
      cases r
      obtain ⟨hy, o, n, e, t1, t2, ho, hc, hd, e1, e2⟩ := one_at I hq
      have hs2 : (PyData.int i).showable = true := by
        simp only [PyData.showable, PyData.showableKv, Bool.and_eq_true] at hs ⊢
        first
          | exact hs.1.2
          | exact hs.2.1
          | exact hs.2
          | simpa using hs
      have hz2 : (dictText (PyData.shownKv [(.str k, .int i)])).length ≤ sizeLine := by simpa only [PyData.shown] using hz
      have hk : (PyData.str k).shown.length ≤ sizeLine := by
        have h1 := dictText_mem_le (ps := PyData.shownKv [(.str k, .int i)]) (p := (PyData.str k).shown ++ ": " ++ (PyData.int i).shown) (by simp only [PyData.shownKv]; exact List.mem_cons_self ..)
        rw [Str.length_append, Str.length_append] at h1
        omega
      have rk : Reads s.heap e.key (.str k) [] := by rw [e1]; exact Reads.str k t1
      have rv : Reads s.heap e.val (.int i) [] := by rw [e2]; exact Reads.int i t2
      have r2 : Reads s.heap (.ref a) (.dict [(.str k, .int i)]) _ := Reads.dict ho hc hd (ReadsAll.cons rk ReadsAll.nil) (ReadsAll.cons rv ReadsAll.nil)
      refine ⟨⟨_, r2⟩, [_], ReadAtMost.cons r2 (Nat.le_refl _) (fun _ h => nomatch h), ?_⟩
      simp only [PyData.depth, PyData.shown, PyData.shownKv_eq]
      refine ReprK.dict ho hc hd hy (fun h => nomatch h) (ReprEntriesK.of_two [e] _ _ (.cons ?_ .nil) (.cons ?_ .nil))
      · show ReprK X.prog X.w [] s.heap _ e.key (PyData.str k).shown
        rw [e1]
        simp only [PyData.shown]
        exact .of_is (ReprIs.str k t1 (by simpa only [PyData.shown] using hk)) _ _ _
      · show ReprK X.prog X.w [] s.heap _ e.val (PyData.int i).shown
        rw [e2]
        simp only [PyData.shown]
        exact .of_is (ReprIs.int t2 (by simpa [PyData.showable] using hs2)) _ _ _
    | @dks a ks hq =>
      cases r
      obtain ⟨hy, o, n, es, ho, hc, hd, fo⟩ := dks_at I hq
      have hs2 : PyData.showableKv (kdI ks) = true := by simpa only [PyData.showable] using hs
      obtain ⟨y1, y2⟩ := PyData.showableKv_split _ hs2
      obtain ⟨⟨_, r1⟩, ⟨_, r2⟩⟩ := IE.reads (h := s.heap) fo
      have r3 : Reads s.heap (.ref a) (.dict (kdI ks)) _ := Reads.dict ho hc hd r1 r2
      refine ⟨⟨_, r3⟩, [_], ReadAtMost.cons r3 (Nat.le_refl _) (fun _ h => nomatch h), ?_⟩
      simp only [PyData.depth, PyData.shown, PyData.shownKv_eq]
      exact ReprK.dict ho hc hd hy (fun h => nomatch h) (ReprEntriesK.of_two _ _ _ (fo.rk y1 y2).1 (fo.rk y1 y2).2)
theorem DEs.sh (I : Inv X pins σ H s) : ∀ (ds : List PyData) (vs : List V) (us : List Value), DEs X.K H vs ds → Vals vs us → PyData.showableAll ds = true → (∀ t ∈ PyData.shownAll ds, t.length ≤ sizeLine) → Shs X.prog X.w s.heap us ds
  | [], _, _, h, r, _, _ => by
    cases h
    cases r
    exact ⟨⟨_, ReadsAll.nil⟩, [], (fun _ h => nomatch h), by simp only [PyData.shownAll]; exact .nil⟩
  | d :: ds, _, _, h, r, hs, hz => by
    cases h with
    | cons h1 h2 =>
      cases r with
      | cons r1 r2 =>
        have hs2 : d.showable = true ∧ PyData.showableAll ds = true := by simpa [PyData.showableAll] using hs
        obtain ⟨⟨as, q1⟩, b1, hb1, k1⟩ := DE.sh I d _ _ h1 r1 hs2.1 (hz _ (by simp only [PyData.shownAll]; exact List.mem_cons_self ..))
        obtain ⟨⟨bs, q2⟩, b2, hb2, k2⟩ := DEs.sh I ds _ _ h2 r2 hs2.2 fun t ht => hz t (by simp only [PyData.shownAll]; exact List.mem_cons_of_mem _ ht)
        refine ⟨⟨_, ReadsAll.cons q1 q2⟩, b1 ++ b2, fun b hm => ?_, ?_⟩
        · simp only [PyData.depthAll]
          rcases List.mem_append.mp hm with hm | hm
          · obtain ⟨e, ys, y1, y2⟩ := hb1 b hm
            exact ⟨e, ys, y1, Nat.le_trans y2 (Nat.le_max_left _ _)⟩
          · obtain ⟨e, ys, y1, y2⟩ := hb2 b hm
            exact ⟨e, ys, y1, Nat.le_trans y2 (Nat.le_max_right _ _)⟩
        · simp only [PyData.depthAll, PyData.shownAll]
          exact .cons ((k1.more fun b hb => List.mem_append_left _ hb).level_le (Nat.le_max_left _ _)) (k2.more_le (fun b hb => List.mem_append_right _ hb) (Nat.le_max_right _ _))
end
/-- repr of None, or of a tuple of data, where no text is being made -/
structure RX (K : PySem.W.Frag) (xs : List V) (H : Hp) (Q : VK) : Prop where
  ex : (xs = [.non] ∧ Q (.str "None") H) ∨ ∃ a ys ds, xs = [.ref a] ∧ SqT K H a ys ∧ DEs K H ys ds ∧ (PyData.tuple ds).showable = true ∧ (PyData.tuple ds).depth ≤ 64 ∧ (PyData.tuple ds).shown.length ≤ sizeLine ∧ Q (.str (PyData.tuple ds).shown) H
abbrev rRy (K : PySem.W.Frag) : List V → Hp → VK → Prop := fun xs H Q => RX K xs H Q
theorem call_reprY {X : Cx} (hg : X.A.guards = some []) (hu : X.A.units + 70 < cLine) : CallR X (.builtin "repr") (rRy X.K) := by
  intro pins s σ H xs us Q I r h
  rcases h.ex with ⟨rfl, q⟩ | ⟨a, xs, ds, rfl, hq, ha, h1, h3, h4, q⟩
  · obtain ⟨u, rfl, rfl⟩ := vals1 r
    exact PySem.P.repr_of_none ⟨.str _, H, I.tok _, ⟨_, rfl⟩, q⟩
  · obtain ⟨u, rfl, ru⟩ := vals1 r
    have fin : ∀ h' u' tk, (∀ b o, s.heap.get? b = some o → h'.get? b = some o) → EP X pins σ Q (.str (PyData.tuple ds).shown u') { s with heap := h', toks := tk } := fun h' u' tk hk => ⟨.str (PyData.tuple ds).shown, H, I.kept hk, ⟨u', rfl⟩, q⟩
    have un : X.A.units + 1 < cLine := by omega
    cases ru
    obtain ⟨its, rv, ⟨o, ho, hc, n, hd⟩, _⟩ := I.tuple hq
    have hz2 : (tupleText (PyData.shownAll ds)).length ≤ sizeLine := by simpa only [PyData.shown] using h4
    obtain ⟨⟨as, hr⟩, bs, hb, hk⟩ := DEs.sh I ds _ its ha rv (by simpa [PyData.showable] using h1) fun t ht => Nat.le_trans (tupleText_mem_le ht) hz2
    have r2 : Reads s.heap (.ref a) (.tuple ds) _ := Reads.tuple ho hc hd hr
    have hna := not_mem_of_deeper r2 (show PyData.depthAll ds < _ by simp only [PyData.depth]; omega) hb
    simp only [PyData.depth] at h3
    simp only [PyData.shown] at fin
    refine call_repr_slot un ⟨o, ho, hc⟩ F.slot_tuple_repr ?_
    exact call_tuple_reprK ho hc hd hna hk hg (fun b _ => Clear.nil b) (by show X.A.units + 1 + _ < cLine; omega) (fun _ _ e => e) (fun h' u' tk hk' => ⟨_, _, rfl, fin h' u' tk hk'⟩) hz2
end
end DY

/-! own errors over an own base whose __init__ they call; several except clauses with a name -/
namespace EK
open PySem PySem.Spec PyProof.Rows L2
section
variable {X : Cx} {C0 : Addr} {x : Str} {e : Expr} {es : List Expr} {ta : TA} {p1 p2 pos : Pos}
/-- B.__init__(self, ..), B an own class over ValueError without an __init__ of its own -/
theorem pe_skinit {pl : Sem Bool} (hg : Gl X x) (hm : X.mg x = some (.ref C0)) (r : ClX.CRead X.K C0 (.type "type")) (k : PySem.W.findCls X.K (.ref C0) (.type "type") "__init__" = some (.val (.builtin "ValueError.__init__"))) (ha : PA X (e :: es) ta)
    (hc : eval (.Call (.Attribute (.Name x p1) "__init__" p2) (e :: es) [] pos) X.env = (do
      let ov ← eval (.Name x p1) X.env
      standAt p2.atName
      let (f, first) ← holding [ov] (getMethod ov "__init__" pl)
      callWith pos f first (backTo pos (starEach (e :: es) X.env)) (backToKw pos (keywordEach [] X.env))) := by rfl)
    (hdb : (x == ("__debug__" : Str)) = false := by decide)
    (he : starEach (e :: es) X.env = (false, eval e X.env) :: starEach es X.env := by rfl) (hpl : (backTo pos (starEach es X.env)).any (·.1) = false := by rfl) :
    PE X (.Call (.Attribute (.Name x p1) "__init__" p2) (e :: es) [] pos) (tVeI X.K ta) := by
  refine ⟨fun pins s σ H Q I h => ?_⟩
  refine PySem.W.methodCall_KW (ld_glob I hg hm ?_ hdb) hc
  refine PySem.W.method_cls I.kIn r.ga (PySem.W.cls_value I.kIn r.rd k rfl ?_)
  show wpAny _ _ (callWith pos (Value.builtin "ValueError.__init__") [] (backTo pos (starEach (e :: es) X.env)) []) _ _ _
  refine PyProof.Rows.callWith_method1 (thn (ha.run pos pins _ σ H _ (I.tok _) h) fun us s1 ⟨vs, H1, I1, r1, a, C, ws, ev, hl, T, ea, q⟩ => ?_) he hpl
  subst ev
  cases r1 with
  | @cons _ u0 _ ur ra rw' =>
    obtain rfl : u0 = Value.ref a := ra
    have hlen : ur.length ≤ sizeLine := by
      rw [← Paired.length rw', sizeLine_eq]
      omega
    exact oinit_ok T I1 ea hlen fun s' J => ⟨.non, H1, J, rfl, q⟩
end
end EK
/-! ### isinstance of a caught error that has its dict -/
namespace PySem.W
open PySem PySem.Spec PySem.Calls PyProof.Rows
section
variable {prog : Program} {w : World} {A : Around} {E : Value → Shared → Prop} {s : Shared} {K : Frag} {x D : Addr} {ox : Obj} {od : Option Obj}
theorem ek_findObj {C : Addr} {name : Str} {a g : Value} (hc : (clsIn K C).isSome = true) (ha : findIn K (.ref C) name = some (some a)) (hg : specialIn K a "__get__" = some (some g)) (ht : takesIn K a = some true) : findObj K C od name = some (.bind g a) := by
  obtain ⟨cd, hc⟩ := Option.isSome_iff_exists.mp hc
  unfold findObj
  rw [hc, Option.bind_some, ha, Option.bind_some]
  simp [hg, ht]
theorem ek_kin_class {Q : Option Value → Shared → Prop} (hga : findIn K (.ref D) "__getattribute__" = some (some (.builtin "BaseException.__getattribute__"))) (hgt : findIn K (.ref D) "__getattr__" = some none) (hsub : subIn K (.ref D) (.type "BaseException") = some true)
    (hdct : hasDictIn K D = true) (ha : findIn K (.ref D) "__class__" = some (some (.builtin "object.__class__")))
    (hn : specialIn K (.builtin "object.__class__") "__get__" = some (some (.builtin "getset_descriptor.__get__"))) (htk : takesIn K (.builtin "object.__class__") = some true) (hm : mroIn K D (.type "object") = some true)
    (X : K.In s.heap) (I : InstAt s.heap x ox D od) (h : Q (some (.ref D)) { s with toks := s.toks + 1 }) : wpAny (model prog w) A (getAttr? (.ref x) "__class__") Q E s := by
  have hf : findObj K D od "__class__" = some (.bind (.builtin "getset_descriptor.__get__") (.builtin "object.__class__")) := ek_findObj (by obtain ⟨cd, hc, _⟩ := any_some hdct; rw [hc]; rfl) ha hn htk
  obtain ⟨hp, g, d, t, os⟩ := s
  have L0 := I.type (M := model prog w)
  have L1 := looks_findIn (M := model prog w) X hga
  have L2 := looks_findIn (M := model prog w) X hgt
  have L3 := looks_find (M := model prog w) X I hf
  have sub : Looks (model prog w) hp (isInstance (.ref x) (.type "BaseException")) true := L0.andThen (looks_subIn X hsub)
  have hx0 : (false && onTheHeap (Value.builtin "BaseException.__getattribute__")) = false := rfl
  have hx2 : (Value.builtin "BaseException.__getattribute__" == Value.builtin "object.__getattribute__") = false := by decide +kernel
  have hx1 : (onTheHeap (Value.ref D) && Value.builtin "BaseException.__getattribute__" == Value.builtin "object.__getattribute__") = false := by rw [hx2]; rfl
  unfold getAttr? getAttrBy? getAttrBy
  refine wpAny_bind (wpAny_mkText (wpAny_bind (wpAny_attempt (wpAny_holding (wpAny_bind (L0.at (wpAny_bind (L1.at ?_))))))))
  show wpAny _ _ (if (onTheHeap (Value.ref D) && Value.builtin "BaseException.__getattribute__" == Value.builtin "object.__getattribute__") = true then _ else _) _ _ _
  rw [hx1, if_neg Bool.false_ne_true]
  unfold getAttrByItsOwn hookBefore
  refine wpAny_bind ?_
  rw [if_pos (show onTheHeap (Value.ref D) = true from rfl)]
  refine L2.at ?_
  refine wpAny_bind (wpAny_attempt (wpAny_holding ?_))
  unfold callGetattribute
  rw [hx0, if_neg Bool.false_ne_true]
  unfold boundAndCalled
  rw [PySem.F.excAttr_ValueError.ga.bind (.ref x)]
  refine wpAny_bind (wpAny_pure ?_)
  show wpAny _ _ (call (.builtin "BaseException.__getattribute__") [.ref x, .str "__class__" t]) _ _ _
  refine wpAny_call (codeAny_call_builtin PySem.F.excAttr_ValueError.ga.plain PySem.F.entry_bexc_ga ?_)
  refine @check_slot (model prog w) _ _ ⟨hp, g, d, t + 1, os⟩ "BaseException.__getattribute__" "BaseException" "__getattribute__" (.ref x) [.str "__class__" t] [] _ (by decide +kernel) (by decide +kernel) sub (PySem.F.args_bexc_ga (.ref x) (.str "__class__" t)) ?_
  unfold Builtin.«object.__getattribute__»
  refine wpAny_bind (wpAny_of_eq (a := ((Value.ref x : Value), [Value.str "__class__" t])) (by first | rfl | (simp only [slotArgs]; rfl)) ?_)
  refine wpAny_bind (wpAny_pure (wpAny_bind (L0.at (wpAny_bind (L3.at ?_)))))
  show wpAny _ _ (holding [Value.builtin "object.__class__"] (call (.builtin "getset_descriptor.__get__") [.builtin "object.__class__", .ref x, .ref D]) >>= ret) _ _ _
  refine wpAny_bind (wpAny_holding (wpAny_call (class_get (s := ⟨hp, g, d, t + 1, os⟩) (ox := ox) (od := od) X I hm ?_)))
  refine wpAny_pure ?_
  show wpAny _ _ (handedOut (.ref D)) _ _ _
  rw [handedOut_of (v := .ref D) rfl]
  first
    | exact wpAny_pure (wpAny_pure h)
    | exact wpAny_pure h
    | exact wpAny_pure (wpAny_bind (wpAny_pure (wpAny_pure h)))
theorem ek_kitx (hga : findIn K (.ref D) "__getattribute__" = some (some (.builtin "BaseException.__getattribute__"))) (hgt : findIn K (.ref D) "__getattr__" = some none) (hsub : subIn K (.ref D) (.type "BaseException") = some true) (hdct : hasDictIn K D = true) (ha : findIn K (.ref D) "__class__" = some (some (.builtin "object.__class__")))
    (hn : specialIn K (.builtin "object.__class__") "__get__" = some (some (.builtin "getset_descriptor.__get__"))) (htk : takesIn K (.builtin "object.__class__") = some true) (hm : mroIn K D (.type "object") = some true) :
    KitX K (.ref x) (.ref D) (fun h => InstAt h x ox D od) where
  ty := fun _ _ _ I => I.type
  it := fun _ _ X _ => by
    obtain ⟨cdD, hcD, _⟩ := any_some hdct
    unfold clsIn at hcD
    split at hcD
    · rename_i c' d' cd' sl' ho
      intro A' Q' E' s' k q
      unfold isType loadHead
      exact wpAny_bind (wpAny_loadPart (k _ _ (X _ _ ho)) (wpAny_pure q))
    · cases hcD
  ne := fun h tp dd its n sl X htp => by
    obtain ⟨cdD, hcD, _⟩ := any_some hdct
    refine Bool.eq_false_iff.mpr fun q => ?_
    have e : D = tp := Value.ref.inj (beq_iff_eq.mp q)
    subst e
    unfold clsIn at hcD
    split at hcD
    · rename_i c' d' cd' sl' ho
      have z := (X _ _ ho).symm.trans htp
      cases z
    · cases hcD
  ca := fun X I k => ek_kin_class hga hgt hsub hdct ha hn htk hm X I k
end
end PySem.W
namespace EK
open PySem PySem.Spec PyProof.Rows L2
/-- isinstance(e, c), e the exception that the suite holds: its class D, its dict at d -/
def rIsE (K : PySem.W.Frag) (cls : Value) (d : Option Addr) (D a : Addr) : List V → Hp → VK → Prop := fun xs H Q => ∃ (c : V) (cv : Value) (b : Bool), xs = [.ref a, c] ∧ cls = .ref D ∧ (∃ dd fs, d = some dd ∧ H dd = some (.xd fs)) ∧ ClsV c cv ∧ PySem.W.kitOne K (.ref D) cv = some b ∧ Q (.bl b) H
theorem call_isE {X : Cx} {a D : Addr} {cls : Value} {d : Option Addr} {oe : Obj} {pn : List (Addr × Obj)} (C : ExcC X.K D) (hz : Zc cls d oe) (hf : ∃ vs, oe.data = .fields vs) : CallR (X.suite a ((a, oe) :: pn)) (.builtin "isinstance") (rIsE X.K cls d D a) := by
  intro pins s σ H xs us Q I r h
  obtain ⟨c, cv, b, rfl, ec, ⟨dd, fs, ed, hd⟩, k, e, q⟩ := h
  obtain ⟨u1, u2, rfl, r1, r2⟩ := vals2 r
  cases r1
  have e2 := k.eq r2
  subst e2 ec ed
  obtain ⟨hget, _⟩ := I.pin (a, oe) (List.mem_append.mpr (.inl List.mem_cons_self))
  obtain ⟨vs, hv⟩ := hf
  have hx : ObjOk X.prog X.w H s.heap dd (.xd fs) := I.hok dd _ hd
  obtain ⟨mA, hns, _⟩ := hx
  obtain ⟨od, ho, _⟩ := lookIn_ns hns
  have J : PySem.W.InstAt s.heap a oe D (some od) := ⟨hget, hz.1, by unfold PySem.W.notCls; rw [hv] <;> rfl, by rw [hz.2]; exact ho⟩
  exact PySem.W.kia_one (PySem.W.ek_kitx C.hg C.hk C.hs C.hd C.ha C.hn C.ht C.hm) I.kIn J e (fun z => nomatch z) fun tk => ⟨.bl b, H, I.kept (t' := tk) fun _ _ z => z, rfl, q⟩
/-! ### several except clauses, all with one name -/
def endsN (D : Ends) (i : Nat) : Ends := { nx := fun σ' H' => D.nx (σ'.set i none) H', rt := D.rt, bk := fun σ' H' => D.bk (σ'.set i none) H', ct := fun σ' H' => D.ct (σ'.set i none) H' }
def wManyN (K : PySem.W.Frag) (Wout : WX) (D : Ends) (i : Nat) : List (Value × (Addr → Value → Option Addr → TS)) → WX
  | [] => Wout
  | (c, ts) :: r => fun cls d σ H => ∃ b, PySem.W.exmOne K cls c = some b ∧ (b = true → ∀ a, H a = none → ts a cls d (endsN D i) (σ.set i (some (.ref a))) H) ∧ (b = false → wManyN K Wout D i r cls d σ H)
inductive HdsN (X : Cx) (n : Str) : List ExceptHandler → List (Value × (Addr → Value → Option Addr → TS)) → Prop
  | nil : HdsN X n [] []
  | cons {x : Str} {c : Value} {ts : Addr → Value → Option Addr → TS} {b₀ : Stmt} {suite : List Stmt} {np pos' : Pos} {hds : List ExceptHandler} {l : List (Value × (Addr → Value → Option Addr → TS))} (hc : Names X x c)
      (hsu : ∀ (a : Addr) (oe : Obj) (cls : Value) (d : Option Addr) (pn : List (Addr × Obj)), Zc cls d oe → (∃ vs, oe.data = .fields vs) → PSs (X.suite a ((a, oe) :: pn)) (b₀ :: suite) (ts a cls d)) (r : HdsN X n hds l) :
      HdsN X n (.ExceptHandler (some (.Name x np)) (some n) (b₀ :: suite) pos' :: hds) ((c, ts) :: l)
section
variable {X : Cx} {n : Str} {i : Nat} {body : List Stmt} {h₀ : ExceptHandler} {hds : List ExceptHandler} {l : List (Value × (Addr → Value → Option Addr → TS))} {pos : Pos} {tb : WX → TS} {Wout : WX}
theorem ps_tryN (hs : X.stack = X.env :: X.outer) (hf : X.env.frame = some X.env.locals) (hN : X.N.Nodup) (hi : X.N[i]? = some n) (hln : X.env.kindOf n = some .local) (tk : Takes X Wout)
    (hb : ∀ (W : WX) (pn : List (Addr × Obj)) (xe : Value → Shared → Prop), Takes (X.tr pn xe) W → PassesOwn (model X.prog X.w) X.A X.env xe → PSs (X.tr pn xe) body (tb W))
    (hh : HdsN X n (h₀ :: hds) l) : PS X (.Try body (h₀ :: hds) [] [] pos) (fun D σ H => tb (wManyN X.K Wout D i l) D σ H) := by
  refine ⟨fun pins s σ H D I h => ?_⟩
  have ok := I.ok
  have hfr : X.A.frames = some (X.env :: X.outer) := by rw [ok.frames, hs]
  have hloc : Loc X.env.scope n := .inl hln
  refine wpAny_Try_except ?_
  refine wpAny_mono ((hb (wManyN X.K Wout D i l) (X.pn ++ pins) (fun e s₁ => wpAny (model X.prog X.w) X.A (noteFrame e X.env) (fun _ s₂ => wpAny (model X.prog X.w) X.A (setFlight e none) (fun _ s₃ =>
    wpAny (model X.prog X.w) X.A (handleBy e X.env (h₀ :: hds)) (SP X pins D) X.xe s₃) X.xe s₂) X.xe s₁) (fun u s' xx => ?_) PassesOwn.looking).run [] s σ H D (I.toTry _) h) (fun f s1 hsp => ?_) (fun e s1 he => he)
  · -- the catch
    obtain ⟨a, B, sI, pins', σ', H', cls, d, rfl, J', nb, up, sky, na, os, ag, w⟩ := xx
    have J : Inv X pins σ' H' sI := J'.ofTry ok
    have sky' : Sky B (X.env :: X.outer) a (Zc cls d) X.env.locals s'.heap := by rw [← hs]; exact sky
    show wpAny (model X.prog X.w) X.A (noteFrame (.ref a) X.env) _ _ _
    refine Sky.land Zc.steady hfr hf sky' fun h3 fl3 up3 => ?_
    have J3 : Inv X pins σ' H' { s' with heap := h3 } := J.landed nb fl3.1 (up.trans up3) os ag
    obtain ⟨oe3, vs3, he3, hz3, hd3⟩ := fl3.there
    have notFr : ∀ {h : Heap} {o : Obj} {vs : Array Value}, h.FunFrames B (X.env :: X.outer) → h.get? a = some o → o.data = .fields vs → a ∉ frs (X.env :: X.outer) := fun {h o vs} ff e dd hm => by
      obtain ⟨_, o', e', hnf⟩ := ff.mem hm
      rw [e] at e'; cases e'
      exact hnf _ dd
    have nfr := notFr fl3.2.2.1 he3 hd3
    have nL : a ≠ X.env.locals := fun z => nfr (List.mem_filterMap.mpr ⟨X.env, List.mem_cons_self, by rw [hf, z]⟩)
    have nF : a ∉ X.fs := fun hm => by
      obtain ⟨e, he, q⟩ := List.mem_filterMap.mp hm
      exact nfr (List.mem_filterMap.mpr ⟨e, List.mem_cons_of_mem _ he, q⟩)
    have S3 := J3.suite he3 hd3 na nL nF
    have go : ∀ {hds' : List ExceptHandler} {l' : List (Value × (Addr → Value → Option Addr → TS))}, HdsN X n hds' l' → wManyN X.K Wout D i l' cls d σ' H' →
        wpAny (model X.prog X.w) X.A (handleBy (.ref a) X.env hds') (SP X pins D) X.xe { s' with heap := h3 } := by
      intro hds' l' hk
      induction hk with
      | nil =>
        intro w
        refine wpAny_handleBy_nil ?_
        obtain ⟨k1, k2, k3, oe, vs, T, oT, ts', he, hz, hd, h1, hr⟩ := id fl3
        unfold PySem.passOn
        refine wpAny_bind (wpAny_field he hd h1 ?_)
        rw [if_neg (show ¬ ((Value.ref T == Value.none) = true) from by simp)]
        have fin : wpAny (model X.prog X.w) X.A (setFlight (.ref a) X.env.frame) (fun _ s4 => wpAny (model X.prog X.w) X.A (throw (.ref a) : Sem Flow) (SP X pins D) X.xe s4) X.xe { s' with heap := h3 } := by
          rw [hf]
          refine HandSPX.setFlight_upZ fl3 fun h4 hh4 up4 => wpAny_throw (tk _ _ ?_)
          exact ⟨a, B, sI, pins, σ', H', cls, d, rfl, J, nb, (up.trans up3).trans up4, .inr (.inr (by rw [hs]; exact hh4)), na, os, ag, w⟩
        first
          | exact wpAny_bind (wpAny_pure (wpAny_bind fin))
          | exact wpAny_bind fin
      | @cons x c ts b₀ suite np pos' hds2 l2 hc hsu r ih =>
        intro w
        obtain ⟨b, hb1, hyes, hno⟩ := w
        refine wpAny_handleBy_cons (codeAny_handlers_test ?_) (by intro q; cases q)
        have LT : PySem.W.Looks (model X.prog X.w) h3 (typeOf (.ref a)) cls := fun A Q E s k q => wpAny_typeOf_ref (k _ _ he3) (by rw [hz3.1]; exact q)
        have LM := PySem.W.exm_one (M := model X.prog X.w) (J3.kIn) LT hb1
        have test : ∀ {Q : Value → Shared → Prop} {E : Value → Shared → Prop}, Q c { s' with heap := h3 } → wpAny (model X.prog X.w) (X.A.mark (some (.ref a))) (eval (.Name x np) X.env) Q E { s' with heap := h3 } := fun {Q E} q => by
          obtain ⟨hg, hdbg, hm | ⟨hm, hv, hnn⟩⟩ := hc
          · exact ld_glob (X := X.suite a ((a, oe3) :: (X.pn ++ pins))) S3 hg hm q hdbg
          · exact ld_blt (X := X.suite a ((a, oe3) :: (X.pn ++ pins))) S3 hg hm hv q hnn hdbg
        refine test (LM.here ?_)
        cases b with
        | true =>
          refine codeAny_handlers_suite_as ?_
          refine HandSPX.lands_againZ fl3 fun h4 fl4 up4 => ?_
          have J4 : Inv X pins σ' H' { s' with heap := h4 } := J.landed nb fl4.1 ((up.trans up3).trans up4) os ag
          obtain ⟨oe4, vs4, he4, hz4, hd4⟩ := fl4.there
          have S4 := J4.suite he4 hd4 na nL nF
          refine store_ok (X := X.suite a ((a, oe4) :: (X.pn ++ pins))) (v := .ref a) S4 hN hi hloc rfl (fun s5 S5 => ?_) (.inr hln)
          refine wpAny_mono ((hsu a oe4 cls d (X.pn ++ pins) hz4 ⟨_, hd4⟩).run [] s5 _ H' _ S5 (hyes rfl a na)) (fun f s6 hsp => ?_) (fun _ _ z => False.elim z)
          have end_ : ∀ {σ6 : L2.St} {H6 : Hp} {Q : Shared → Prop}, Inv (X.suite a ((a, oe4) :: (X.pn ++ pins))) [] σ6 H6 s6 → (∀ s7, Inv X pins (σ6.set i none) H6 s7 → Q s7) →
              wpAny (model X.prog X.w) X.A (do bindName X.env n .none; unbindBehindTheSuite X.env n pos') (fun _ s7 => Q s7) X.xe s6 := fun {σ6 H6 Q} S6 hq => gone_ok (S6.unsuite ok) hN hi hln hq
          cases f with
          | next =>
            obtain ⟨σ6, H6, S6, q6⟩ := hsp
            exact end_ S6 fun s7 J7 => ⟨_, _, J7, q6⟩
          | brk =>
            obtain ⟨σ6, H6, S6, q6⟩ := hsp
            exact end_ S6 fun s7 J7 => ⟨_, _, J7, q6⟩
          | cont =>
            obtain ⟨σ6, H6, S6, q6⟩ := hsp
            exact end_ S6 fun s7 J7 => ⟨_, _, J7, q6⟩
          | ret u =>
            obtain ⟨v6, σ6, H6, S6, r6, q6⟩ := hsp
            exact end_ S6 fun s7 J7 => ⟨_, _, _, J7, r6, q6⟩
        | false =>
          show wpAny _ X.A (handleBy (.ref a) X.env hds2) _ _ _
          exact ih (hno rfl)
    exact go hh w
  · cases f with
    | next =>
      obtain ⟨σ', H', J', q⟩ := hsp
      exact wpAny_execs_nil ⟨σ', H', J'.ofTry ok, q⟩
    | brk =>
      obtain ⟨σ', H', J', q⟩ := hsp
      exact ⟨σ', H', J'.ofTry ok, q⟩
    | cont =>
      obtain ⟨σ', H', J', q⟩ := hsp
      exact ⟨σ', H', J'.ofTry ok, q⟩
    | ret u =>
      obtain ⟨v, σ', H', J', r, q⟩ := hsp
      exact ⟨v, σ', H', J'.ofTry ok, r, q⟩
end
end EK

/-! exceptions of own classes as values: made by position and by name, their fields, isinstance -/
namespace PySem
namespace ExV
open PySem.Spec PySem.W PySem.Calls PyProof.Rows PySem.HandSPX Builtin Builtin.ObjectAttr
section
variable {M : Model} {prog : Program} {w : World} {A : Around} {E : Value → Shared → Prop} {R : Result → Shared → Prop} {h : Heap} {g : Array GenState} {d : Drawn} {t : Nat} {os : OsState}
variable {nm q : Str} {C N : Addr} {bs bm bmB : List Value} {hdct : Bool} {sn : List Str} {sub : List Value} {ab : Bool} {col : Option Bool} {dd : Option Addr} {k0 k1 k2 k3 k5 : Option Value} {B newId initId : String} {kw : List (Str × Value)} {xs : List Value}
theorem own_check (F : ExcBaseFacts B newId initId bmB) (hT : ∀ X : String, bm.contains (.type X) = bmB.contains (.type X)) {Q : Unit → Shared → Prop}
    (hC : h.get? C = some (excClassObj nm q C N bs bm hdct sn sub ab col dd k0 k1 k2 k3 k5 newId)) (z : Q () ⟨h, g, d, t, os⟩) : wpAny M A (checkBuiltinCall newId ⟨.ref C :: xs, kw⟩) Q E ⟨h, g, d, t, os⟩ := by
  have inB : (Value.ref C :: bm).contains (.type B) = true := by
    rw [List.contains_cons, hT, F.hasB, Bool.or_true]
  have st := F.noStar
  simp only [checkBuiltinCall, F.newKind, F.newSplit, F.newRow]
  repeat (first | refine wpAny_loadPart_at hC ?_ | (refine wpAny_isSubtype_exc hC ?_; rw [inB]) | refine wpAny_staticBase_exc hC ?_ | refine wpAny_madeBy_exc hC ?_ | simp only [bne_self_eq_false, Bool.false_eq_true, if_false] | wp_step)
  exact z
theorem own_new (F : ExcBaseFacts B newId initId bmB) (hT : ∀ X : String, bm.contains (.type X) = bmB.contains (.type X))
    (hC : h.get? C = some (excClassObj nm q C N bs bm hdct sn sub ab col dd k0 k1 k2 k3 k5 newId))
    (z : R (.ok (.ret (.ref (h.objs.size + 1)))) ⟨(h.push (W.kdv_tup xs)).push (excO C h.objs.size), g, d, t, os⟩) (hl : xs.length ≤ sizeLine) :
    codeAny (model prog w) A (.builtin newId ⟨.ref C :: xs, kw⟩) R ⟨h, g, d, t, os⟩ := by
  have en := F.ends
  have inB : (Value.ref C :: bm).contains (.type B) = true := by
    rw [List.contains_cons, hT, F.hasB, Bool.or_true]
  have noA : (Value.ref C :: bm).contains (.type "AttributeError") = false := by
    rw [List.contains_cons, hT, F.noAttr]
    rfl
  have noN : (Value.ref C :: bm).contains (.type "NameError") = false := by
    rw [List.contains_cons, hT, F.noName]
    rfl
  refine codeAny_builtinAt F.entry ?_
  unfold Builtin.«BaseException.__new__»
  refine wpAt_bind ?_
  show wpAt _ _ _ (stack >>= _) _ _ _
  refine wpAt_bind (wpAt_stack fun p below => wpAt_of_wpAny ?_)
  wp_walk
  refine wpAt_of_wpAny ?_
  rw [F.owner]
  repeat (first | with_reducible refine wpAny_madeHere_exc F.canon hC ?_ | with_reducible refine wpAny_loadPart_at hC ?_ | (with_reducible refine wpAny_isSubtype_exc hC ?_; first | rw [inB] | rw [noA] | rw [noN]) | wp_step)
  show R _ _
  rw [Heap.size_push]
  exact z
theorem own_type (F : ExcBaseFacts B newId initId bmB) (hT : ∀ X : String, bm.contains (.type X) = bmB.contains (.type X)) {fv : Value} {Q : Fin → Shared → Prop}
    (hC : h.get? C = some (excClassObj nm q C N bs bm hdct sn sub ab col dd k0 k1 k2 k3 k5 newId))
    (hi : W.Looks (model prog w) h (typeLookup (.ref C) "__init__") (some fv)) (hb : ∀ self, W.Looks (model prog w) h (bindSpecial fv self) (fv, [self])) (hl : xs.length ≤ sizeLine)
    (z : codeAny (model prog w) A (.call fv ⟨.ref (h.objs.size + 1) :: xs, kw⟩) (fun r s' => match r with | .ok (.ret v) => v = .none ∧ Q (.done (.ret (.ref (h.objs.size + 1)))) s' | .ok _ => False | .error e => E e s')
      ⟨(h.push (W.kdv_tup xs)).push (excO C h.objs.size), g, d, t, os⟩) :
    wpAny (model prog w) A (Builtin.«type.__call__» ⟨.ref C :: xs, kw⟩) Q E ⟨h, g, d, t, os⟩ := by
  repeat (first | with_reducible refine wpAny_loadPart_at hC ?_ | with_reducible refine wpAny_madeBy_exc hC ?_ | wp_step)
  refine codeAny_call_builtin_code (Code.quiet_builtin _ F.quiet) (own_check F hT hC ?_)
  refine own_new F hT hC ?_ hl
  show wpAny _ _ _ _ _ _
  have kp : ∀ b o, h.get? b = some o → ((h.push (W.kdv_tup xs)).push (excO C h.objs.size)).get? b = some o := fun b o y => Heap.get?_push_of_some _ (Heap.get?_push_of_some _ y)
  have hC2 := kp _ _ hC
  have he : ((h.push (W.kdv_tup xs)).push (excO C h.objs.size)).get? (h.objs.size + 1) = some (excO C h.objs.size) := by heap_get
  have inC : (Value.ref C :: bm).contains (.ref C) = true := by simp
  have hi2 := hi.keeps kp
  have hb2 := (hb (.ref (h.objs.size + 1))).keeps kp
  unfold isInstance
  repeat (first | with_reducible refine wpAny_loadPart_at he ?_ | (with_reducible refine wpAny_isSubtype_exc hC2 ?_; rw [inC]) | wp_step)
  show wpAny _ _ (typeLookup (.ref C) _) _ _ _
  refine hi2.at ?_
  refine wpAny_holding (wpAny_bind (hb2.at ?_))
  refine wpAny_bind (wpAny_call (codeAny_mono z fun r s' y => ?_))
  rcases r with e | (v | _ | _ | _) <;> first | exact y | exact y.elim | skip
  obtain ⟨rfl, y⟩ := y
  first
    | exact wpAny_pure (wpAny_pure y)
    | (wp_walk; exact y)
theorem own_chk {Q : Unit → Shared → Prop} (hC : h.get? C = some (excClassObj nm q C N bs bm hdct sn sub ab col dd k0 k1 k2 k3 k5 newId))
    (hq : Q () ⟨h, g, d, t, os⟩) : wpAny M A (checkBuiltinCall "type.__call__" ⟨.ref C :: xs, kw⟩) Q E ⟨h, g, d, t, os⟩ := by
  have sb := tc_sub
  have ty : (⟨h, g, d, t, os⟩ : Shared).TypeIs (.ref C) "type" := ⟨_, hC, rfl⟩
  simp only [checkBuiltinCall, tc_kind, tc_split]
  repeat (any_goals (first | assumption | with_reducible refine wpAny_loadPart_at hC ?_ | with_reducible refine wpAny_onRaise ?_ | with_reducible refine wpAny_map ?_ | wp_step))
theorem own_call (F : ExcBaseFacts B newId initId bmB) (hT : ∀ X : String, bm.contains (.type X) = bmB.contains (.type X)) {fv : Value}
    (hC : h.get? C = some (excClassObj nm q C N bs bm hdct sn sub ab col dd k0 k1 k2 k3 k5 newId))
    (hi : W.Looks (model prog w) h (typeLookup (.ref C) "__init__") (some fv)) (hb : ∀ self, W.Looks (model prog w) h (bindSpecial fv self) (fv, [self])) (hl : xs.length ≤ sizeLine)
    (z : codeAny (model prog w) (A.under (.builtin "type.__call__" ⟨.ref C :: xs, kw⟩)) (.call fv ⟨.ref (h.objs.size + 1) :: xs, kw⟩) (W.InitBack (h.objs.size + 1) R)
      ⟨(h.push (W.kdv_tup xs)).push (excO C h.objs.size), g, d, t, os⟩) : codeAny (model prog w) A (.call (.ref C) ⟨xs, kw⟩) R ⟨h, g, d, t, os⟩ := by
  have lk := tc_lookup
  have bd := tc_bind (.ref C)
  have ty : (⟨h, g, d, t, os⟩ : Shared).TypeIs (.ref C) "type" := ⟨_, hC, rfl⟩
  refine codeAny_of_tree ?_
  show wpAny _ _ (callAny (.ref C) _) _ _ _
  repeat (any_goals (first | assumption | with_reducible refine wpAny_loadPart_at hC ?_ | wp_step))
  refine ⟨rfl, ?_⟩
  refine codeAny_call_builtin_at (Code.quiet_builtin _ (by decide +kernel)) entry_typeCall (own_chk hC (own_type F hT hC hi hb hl ?_))
  refine codeAny_mono z fun r s' y => ?_
  rcases r with e | (v | _ | _ | _) <;> exact y
end
end ExV
end PySem
namespace EK
open PySem PySem.Spec PyProof.Rows L2
/-- C(..) kept as a value: __init__ keeps sp -/
def tMkV (C : Addr) (sp : Sp) (ta : TA) : TE := fun σ H Q => ta σ H fun vs H1 => vs.length ≤ 1000 ∧ ∀ a, H1 a = none → sp (.ref a :: vs) (upd H1 a (exo a C none)) (fun v H2 => v = .non ∧ Q (.ref a) H2) (fun _ _ _ => False)
/-- .. by names, put in their order by g -/
def tMkN (C : Addr) (sp : Sp) (n : Nat) (g : List V → List V → List V) (tk : TA) : TE := fun σ H Q => tk σ H fun zs H1 => zs.length = n ∧ ∀ a, H1 a = none → sp (g [.ref a] zs) (upd H1 a (exo a C none)) (fun v H2 => v = .non ∧ Q (.ref a) H2) (fun _ _ _ => False)
section
variable {X : Cx} {CX : CXT} {x : Str} {e : Expr} {es : List Expr} {ta tk : TA} {p pos : Pos} {C fI : Addr} {k : Nat} {fd : FuncData} {ps ks : List Str} {sp : Sp} {kws : List Keyword} {pins : List (Addr × Obj)} {σ : L2.St} {H : Hp} {s : Shared} {Q : VK}
theorem run_mkv (T : OexC X.K C) (iC : PySem.W.findIn X.K (.ref C) "__init__" = some (some (.ref fI))) (tI : PySem.W.typeIn X.K (.ref fI) = some (.type "function")) (F1 : FnOk X.prog X.w X.K X.mg X.base CX k fI fd ps sp) (hr : Room (k + 1) X.A)
    (hx : Passes CX X (fun _ _ _ => False)) (I : Inv X pins σ H s) {us : List Value} {kw : List (Str × Value)} (hl : us.length ≤ sizeLine) {G : Value → List Value} {gv : V → List V} (hb : ∀ (s' : Shared) (u : Value), X.K.In s'.heap → BindsTo s' fd ⟨u :: us, kw⟩ (ps.zip (G u)))
    (r2 : ∀ a : Addr, Vals (gv (.ref a)) (G (.ref a))) (h : ∀ a, H a = none → sp (gv (.ref a)) (upd H a (exo a C none)) (fun v H2 => v = .non ∧ Q (.ref a) H2) (fun _ _ _ => False)) : wpAny (model X.prog X.w) X.A (call (.ref C) us kw) (EP X pins σ Q) X.xe s := by
  obtain ⟨nm, q, N, bs, bm, sn, sub, ab, col, dd, k0, k1, k2, k3, k5, hC, hbm⟩ := T.cls
  obtain ⟨hp, g, dr, tk, os⟩ := s
  have up : hp.objs.size ≤ hp.objs.size + 1 := Nat.le_succ _
  have hq := h (hp.objs.size + 1) (I.hok.fresh up)
  have kk : ∀ b o, hp.get? b = some o → ((hp.push (PySem.W.kdv_tup us)).push (PySem.HandSPX.excO C hp.objs.size)).get? b = some o := fun b o y => Heap.get?_push_of_some _ (Heap.get?_push_of_some _ y)
  have he : ((hp.push (PySem.W.kdv_tup us)).push (PySem.HandSPX.excO C hp.objs.size)).get? (hp.objs.size + 1) = some (PySem.HandSPX.excO C hp.objs.size) := by heap_get
  have I2 : Inv X pins σ (upd H (hp.objs.size + 1) (exo (hp.objs.size + 1) C none)) ⟨(hp.push (PySem.W.kdv_tup us)).push (PySem.HandSPX.excO C hp.objs.size), g, dr, tk, os⟩ :=
    I.laid (t' := tk) (a := hp.objs.size + 1) (o := exo (hp.objs.size + 1) C none) (h' := (hp.push (PySem.W.kdv_tup us)).push (PySem.HandSPX.excO C hp.objs.size)) kk up (exo_ok he)
  refine wpAny_call (PySem.ExV.own_call F.excBase_ValueError (fun Y => PySem.HandSPX.refsVE_contains Y bm hbm) (I.kIn _ _ hC) (PySem.W.looks_findIn I.kIn iC) (fun self => PySem.W.bind_fn I.kIn self tI) hl
    (codeAny_mono (F1.run _ X.stack _ _ ⟨Value.ref (hp.objs.size + 1) :: us, kw⟩ (G (.ref (hp.objs.size + 1))) _ _ (fun _ _ _ => False) (hr.make C us kw) (I2.env0.make C us kw) (hb _ _ I2.kIn) (r2 _) hq) fun r s' hq' => ?_))
  cases r with
  | error er => exact hx pins σ _ _ er s' I2 hq'
  | ok fl =>
    cases fl with
    | ret u =>
      obtain ⟨v, H', I3, rv, ev, q3⟩ := I2.after hq'
      subst ev
      exact ⟨rv, ⟨V.ref (hp.objs.size + 1), H', I3, rfl, q3⟩⟩
    | next => exact False.elim hq'
    | brk => exact False.elim hq'
    | cont => exact False.elim hq'
theorem pe_mkv (T : OexC X.K C) (iC : PySem.W.findIn X.K (.ref C) "__init__" = some (some (.ref fI))) (tI : PySem.W.typeIn X.K (.ref fI) = some (.type "function")) (F1 : FnOk X.prog X.w X.K X.mg X.base CX k fI fd ps sp) (hr : Room (k + 1) X.A) (hb : Binds X.K fd ps [])
    (hx : Passes CX X (fun _ _ _ => False)) (hg : Gl X x) (hm : X.mg x = some (.ref C)) (ha : PA X (e :: es) ta) (hdb : (x == ("__debug__" : Str)) = false := by decide) (he : starEach (e :: es) X.env = (false, eval e X.env) :: starEach es X.env := by rfl)
    (hpl : (backTo pos (starEach es X.env)).any (·.1) = false := by rfl) : PE X (.Call (.Name x p) (e :: es) [] pos) (tMkV C sp ta) := by
  refine ⟨fun pins s σ H Q I h => ?_⟩
  refine wpAny_Call_Name_kw (ld_glob I hg hm ?_ hdb)
  refine PySem.W.callWith_K (h₀ := X.base) I.ok.mod.kin T.kC (thn (ha.run pos pins s σ H _ I h) fun us s1 ⟨vs, H1, I1, r1, hz, q1⟩ => ⟨I1.kIn, ?_⟩) he hpl
  have hus : us.length ≤ sizeLine := by
    rw [← Paired.length r1, sizeLine_eq]
    omega
  show wpAny _ _ (call (.ref C) us) _ _ _
  refine run_mkv (gv := fun v => v :: vs) (G := fun u => u :: us) T iC tI F1 hr hx I1 hus (fun s' u X' => ?_) (fun a => .cons rfl r1) q1
  have y := hb s' (u :: us) X' ?_
  · rw [List.append_nil] at y
    exact y
  have el : (Value.ref 0 :: us).length = ps.length := by
    have z := F1.len _ _ _ _ (q1 _ (I1.hok.fresh (Nat.le_refl _)))
    rw [← z]
    exact (Paired.length (F := RelV) (.cons (a := V.ref 0) (b := Value.ref 0) rfl r1)).symm
  simpa using el
theorem pe_mkn {g : List Value → List Value → List Value} {gV : List V → List V → List V} (T : OexC X.K C) (iC : PySem.W.findIn X.K (.ref C) "__init__" = some (some (.ref fI))) (tI : PySem.W.typeIn X.K (.ref fI) = some (.type "function")) (F1 : FnOk X.prog X.w X.K X.mg X.base CX k fI fd ps sp)
    (hr : Room (k + 1) X.A) (hb : KBn X.K fd ps 1 ks g gV) (hx : Passes CX X (fun _ _ _ => False)) (hg : Gl X x) (hm : X.mg x = some (.ref C)) (hkw : PK X kws tk) (hall : (backToKw pos (keywordEach kws X.env)).all (·.1.isSome) = true := by rfl)
    (hks : (backToKw pos (keywordEach kws X.env)).filterMap (·.1) = ks := by rfl) (hdb : (x == ("__debug__" : Str)) = false := by decide) (hpl : ((backTo pos (starEach [] X.env)).any (·.1) || (backToKw pos (keywordEach kws X.env)).any (·.1.isNone)) = false := by rfl) :
    PE X (.Call (.Name x p) [] kws pos) (tMkN C sp ks.length gV tk) := by
  refine ⟨fun pins s σ H Q I h => ?_⟩
  refine wpAny_Call_Name_kw (ld_glob I hg hm ?_ hdb)
  refine PySem.W.callWith_KW0 (h₀ := X.base) I.ok.mod.kin T.kC hall ?_ hpl
  refine thn (hkw.run pos pins s σ H _ I h) fun ws s2 ⟨zs, H2, I2, rz, l1, q2⟩ => ⟨I2.kIn, ?_⟩
  rw [hks]
  exact run_mkv (gv := fun v => gV [v] zs) (G := fun u => g [u] ws) T iC tI F1 hr hx I2 (Nat.zero_le _) (fun s' u X' => hb.to s' [u] ws X' rfl (rz.length.symm.trans l1)) (fun a => hb.rel (.cons rfl .nil) rz) q2
/-- C(), C without an __init__ of its own -/
def tMk0 (C : Addr) : TE := fun _ H Q => ∀ a, H a = none → Q (.ref a) (upd H a (exo a C none))
theorem pe_mk0 (T : OexC X.K C) (iC : PySem.W.findIn X.K (.ref C) "__init__" = some (some (.builtin "ValueError.__init__"))) (hg : Gl X x) (hm : X.mg x = some (.ref C)) (hdb : (x == ("__debug__" : Str)) = false := by decide) :
    PE X (.Call (.Name x p) [] [] pos) (tMk0 C) := by
  refine ⟨fun pins s σ H Q I h => ?_⟩
  refine wpAny_Call_Name_kw (ld_glob I hg hm ?_ hdb)
  refine PySem.W.callWith_K0 (first := []) I.kIn T.kC ?_
  show wpAny _ _ (call (.ref C) []) _ _ _
  obtain ⟨nm, q, N, bs, bm, sn, sub, ab, col, dd, k0, k1, k2, k3, k5, hC, hbm⟩ := T.cls
  obtain ⟨hp, g, dr, tk, os⟩ := s
  have up : hp.objs.size ≤ hp.objs.size + 1 := Nat.le_succ _
  have kk : ∀ b o, hp.get? b = some o → ((hp.push (PySem.W.kdv_tup [])).push (PySem.HandSPX.excO C hp.objs.size)).get? b = some o := fun b o y => Heap.get?_push_of_some _ (Heap.get?_push_of_some _ y)
  have he : ((hp.push (PySem.W.kdv_tup [])).push (PySem.HandSPX.excO C hp.objs.size)).get? (hp.objs.size + 1) = some (PySem.HandSPX.excO C hp.objs.size) := by heap_get
  have I2 : Inv X pins σ (upd H (hp.objs.size + 1) (exo (hp.objs.size + 1) C none)) ⟨(hp.push (PySem.W.kdv_tup [])).push (PySem.HandSPX.excO C hp.objs.size), g, dr, tk, os⟩ :=
    I.laid (t' := tk) (a := hp.objs.size + 1) (o := exo (hp.objs.size + 1) C none) (h' := (hp.push (PySem.W.kdv_tup [])).push (PySem.HandSPX.excO C hp.objs.size)) kk up (exo_ok he)
  refine wpAny_call (PySem.ExV.own_call (fv := .builtin "ValueError.__init__") F.excBase_ValueError (fun Y => PySem.HandSPX.refsVE_contains Y bm hbm) (I.kIn _ _ hC) (PySem.W.looks_findIn I.kIn iC) (fun self => .of_pure (F.excBase_ValueError.init.bind self)) (Nat.zero_le _)
    (PySem.HandSPX.init_base F.excBase_ValueError (fun Y => PySem.HandSPX.refsVE_contains Y bm hbm) (I2.kIn _ _ hC) he (Nat.zero_le _) fun h' t2 kh hx => ?_))
  have eu : upd (upd H (hp.objs.size + 1) (exo (hp.objs.size + 1) C none)) (hp.objs.size + 1) (exo (hp.objs.size + 1) C none) = upd H (hp.objs.size + 1) (exo (hp.objs.size + 1) C none) := upd_upd
  have J := I2.write (t' := tk) (x := hp.objs.size + 1) (e := hp.objs.size + 1) (o := exo (hp.objs.size + 1) C none) (by rw [upd_same]; exact True.intro) (.inl rfl) kh ⟨_, hx⟩ (exo_ok hx)
  rw [eu] at J
  exact ⟨rfl, V.ref (hp.objs.size + 1), _, J, rfl, h _ (I.hok.fresh up)⟩
/-- e.f, e an exception that stands in the heap -/
def tEf (K : PySem.W.Frag) (f : Str) (te : TE) : TE := fun σ H Q => te σ H fun x H1 => ∃ (a C d : Addr) (fs : List (Str × V)) (v : V), x = .ref a ∧ XfC K C ∧ PySem.W.findIn K (.ref C) f = some none ∧ H1 a = some (exo a C (some d)) ∧ H1 d = some (exd d fs) ∧ fs.lookup f = some v ∧ Q v H1
theorem pe_ef {te : TE} {n : Str} (he : PE X e te) (hb : attributeBase e n X.env (eval e X.env) = eval e X.env := by rfl) : PE X (.Attribute e n pos) (tEf X.K n te) := by
  refine ⟨fun pins s σ H Q I h => ?_⟩
  refine attr_of hb (thn (he.run pins s σ H _ I h) fun u s1 hh => ?_)
  obtain ⟨x, H1, I1, rx, a, C, d, fs, v, ex, T, hno, ha, hd, l, q⟩ := hh
  subst ex
  obtain rfl : u = Value.ref a := rx
  obtain ⟨t1, ho⟩ := exo_at I1.hok ha
  obtain ⟨mA, hns, hr⟩ := exd_at I1.hok hd
  obtain ⟨od, ho2, hl⟩ := lookIn_ns hns
  obtain ⟨u, hu, ru⟩ := RelO.some_of (v := v) (o := mA n) (by rw [← l]; exact hr n)
  have J : PySem.W.InstAt s1.heap a _ C (some od) := ⟨ho, rfl, rfl, ho2⟩
  exact HandSPX.exc_get I1.kIn J T.ga T.gg T.exC (PySem.W.findObj_own T.hdC hno rfl (by rw [hl, hu])) (handed_of ru) ⟨v, H1, I1.tok _, ru, q⟩
/-- isinstance(e, D), e an exception that stands in the heap -/
def rIsX (K : PySem.W.Frag) : List V → Hp → VK → Prop := fun xs H Q => ∃ (a C : Addr) (d : Option Addr) (c : V) (cv : Value) (b : Bool), xs = [.ref a, c] ∧ ExcC K C ∧ H a = some (exo a C d) ∧ (∀ dd, d = some dd → ∃ fs, H dd = some (exd dd fs)) ∧ ClsV c cv ∧ PySem.W.kitOne K (.ref C) cv = some b ∧ Q (.bl b) H
theorem call_isX : CallR X (.builtin "isinstance") (rIsX X.K) := by
  intro pins s σ H xs us Q I r h
  obtain ⟨a, C, d, c, cv, b, rfl, EC, ha, hd, kc, e, q⟩ := h
  obtain ⟨u1, u2, rfl, r1, r2⟩ := vals2 r
  cases r1
  have e2 := kc.eq r2
  subst e2
  obtain ⟨t1, ho⟩ := exo_at I.hok ha
  cases d with
  | none =>
    have J : PySem.W.InstAt s.heap a _ C none := ⟨ho, rfl, rfl, trivial⟩
    exact PySem.W.kia_one (PySem.W.ek_kitx EC.hg EC.hk EC.hs EC.hd EC.ha EC.hn EC.ht EC.hm) I.kIn J e (fun z => nomatch z) fun tk => ⟨.bl b, H, I.kept (t' := tk) fun _ _ z => z, rfl, q⟩
  | some dd =>
    obtain ⟨fs, hx⟩ := hd dd rfl
    obtain ⟨mA, hns, _⟩ := exd_at I.hok hx
    obtain ⟨od, ho2, _⟩ := lookIn_ns hns
    have J : PySem.W.InstAt s.heap a _ C (some od) := ⟨ho, rfl, rfl, ho2⟩
    exact PySem.W.kia_one (PySem.W.ek_kitx EC.hg EC.hk EC.hs EC.hd EC.ha EC.hn EC.ht EC.hm) I.kIn J e (fun z => nomatch z) fun tk => ⟨.bl b, H, I.kept (t' := tk) fun _ _ z => z, rfl, q⟩
end
end EK

namespace Law
open PySem PySem.Spec PyProof.Rows L2 Evl TR GX
/-- the builtin type of what stands there -/
def Tn (T : String) : Gt → Prop
  | .int _ => T = "int"
  | .str _ => T = "str"
  | .bl _ => T = "bool"
  | .oth => T = "NoneType" ∨ T = "dict"
  | .seq k _ => T = if k = true then "tuple" else "list"
theorem GA.ty {K : PySem.W.Frag} {H : Hp} {v : V} {g : Gt} (h : GA H v g) : ∃ T, TyX K H v (.type T) ∧ Tn T g := by
  cases h with
  | int i => exact ⟨_, .base (.int i), rfl⟩
  | str z => exact ⟨_, .base (.str z), rfl⟩
  | bl b => exact ⟨_, .base (.bl b), rfl⟩
  | non => exact ⟨_, .base .non, .inl rfl⟩
  | dct h => exact ⟨_, .base (.dK h), .inr rfl⟩
  | @seq a k vs gs h r =>
    cases k
    · exact ⟨_, .base (.lst h), rfl⟩
    · exact ⟨_, .base (.tup h), rfl⟩
def isSq : Gt → Bool
  | .seq _ _ => true
  | _ => false
def isI : Gt → Bool
  | .int _ => true
  | _ => false
def isS : Gt → Bool
  | .str _ => true
  | _ => false
def isIB : Gt → Bool
  | .int _ => true
  | .bl _ => true
  | _ => false
def isB : Gt → Bool
  | .bl _ => true
  | _ => false
theorem kit_l {K : PySem.W.Frag} {T : String} {g : Gt} (h : Tn T g) : PySem.W.kitAny K (.type T) [.type "list", .type "tuple"] = some (isSq g) := by
  have no : ∀ T : String, PySem.W.kitOne K (.type T) (.type "list") = some false → PySem.W.kitOne K (.type T) (.type "tuple") = some false → PySem.W.kitAny K (.type T) [.type "list", .type "tuple"] = some false := fun T h1 h2 =>
    kitAny_cons (b := false) h1 (fun _ => kitAny_cons (b := false) h2 (fun _ => rfl) fun h => by cases h) fun h => by cases h
  cases g with
  | int i => cases h; exact no _ (kit_ty (by decide +kernel)) (kit_ty (by decide +kernel))
  | str z => cases h; exact no _ (kit_ty (by decide +kernel)) (kit_ty (by decide +kernel))
  | bl b => cases h; exact no _ (kit_ty (by decide +kernel)) (kit_ty (by decide +kernel))
  | oth =>
    rcases h with rfl | rfl
    · exact no _ (kit_ty (by decide +kernel)) (kit_ty (by decide +kernel))
    · exact no _ (kit_ty (by decide +kernel)) (kit_ty (by decide +kernel))
  | seq k gs =>
    cases k
    · cases h; exact kit_lt
    · cases h; exact kit_tt
theorem kit_i {K : PySem.W.Frag} {T : String} {g : Gt} (h : Tn T g) : PySem.W.kitOne K (.type T) (.type "int") = some (isIB g) := by
  cases g with
  | int i => cases h; show PySem.W.kitOne K (.type "int") (.type "int") = some true; exact kit_ty (by decide +kernel)
  | str z => cases h; show PySem.W.kitOne K (.type "str") (.type "int") = some false; exact kit_ty (by decide +kernel)
  | bl b => cases h; show PySem.W.kitOne K (.type "bool") (.type "int") = some true; exact kit_ty (by decide +kernel)
  | oth =>
    rcases h with rfl | rfl
    · show PySem.W.kitOne K (.type "NoneType") (.type "int") = some false; exact kit_ty (by decide +kernel)
    · show PySem.W.kitOne K (.type "dict") (.type "int") = some false; exact kit_ty (by decide +kernel)
  | seq k gs =>
    cases k
    · cases h; show PySem.W.kitOne K (.type "list") (.type "int") = some false; exact kit_ty (by decide +kernel)
    · cases h; show PySem.W.kitOne K (.type "tuple") (.type "int") = some false; exact kit_ty (by decide +kernel)
theorem kit_b {K : PySem.W.Frag} {T : String} {g : Gt} (h : Tn T g) : PySem.W.kitOne K (.type T) (.type "bool") = some (isB g) := by
  cases g with
  | int i => cases h; show PySem.W.kitOne K (.type "int") (.type "bool") = some false; exact kit_ty (by decide +kernel)
  | str z => cases h; show PySem.W.kitOne K (.type "str") (.type "bool") = some false; exact kit_ty (by decide +kernel)
  | bl b => cases h; show PySem.W.kitOne K (.type "bool") (.type "bool") = some true; exact kit_ty (by decide +kernel)
  | oth =>
    rcases h with rfl | rfl
    · show PySem.W.kitOne K (.type "NoneType") (.type "bool") = some false; exact kit_ty (by decide +kernel)
    · show PySem.W.kitOne K (.type "dict") (.type "bool") = some false; exact kit_ty (by decide +kernel)
  | seq k gs =>
    cases k
    · cases h; show PySem.W.kitOne K (.type "list") (.type "bool") = some false; exact kit_ty (by decide +kernel)
    · cases h; show PySem.W.kitOne K (.type "tuple") (.type "bool") = some false; exact kit_ty (by decide +kernel)
theorem kit_s {K : PySem.W.Frag} {T : String} {g : Gt} (h : Tn T g) : PySem.W.kitOne K (.type T) (.type "str") = some (isS g) := by
  cases g with
  | int i => cases h; show PySem.W.kitOne K (.type "int") (.type "str") = some false; exact kit_ty (by decide +kernel)
  | str z => cases h; show PySem.W.kitOne K (.type "str") (.type "str") = some true; exact kit_ty (by decide +kernel)
  | bl b => cases h; show PySem.W.kitOne K (.type "bool") (.type "str") = some false; exact kit_ty (by decide +kernel)
  | oth =>
    rcases h with rfl | rfl
    · show PySem.W.kitOne K (.type "NoneType") (.type "str") = some false; exact kit_ty (by decide +kernel)
    · show PySem.W.kitOne K (.type "dict") (.type "str") = some false; exact kit_ty (by decide +kernel)
  | seq k gs =>
    cases k
    · cases h; show PySem.W.kitOne K (.type "list") (.type "str") = some false; exact kit_ty (by decide +kernel)
    · cases h; show PySem.W.kitOne K (.type "tuple") (.type "str") = some false; exact kit_ty (by decide +kernel)
theorem eqS_of {K : PySem.W.Frag} {H : Hp} {v : V} {g : Gt} {z : Str} {Q : VK} (h : GA H v g) (q : Q (.bl (hd z g)) H) : ES.rEqS K v (.str z) H Q := by
  cases h with
  | int i => exact .inl ⟨rfl, by rw [decide_eq_false (fun z => by cases z)]; exact q⟩
  | str y =>
    refine .inl ⟨rfl, ?_⟩
    have : decide (V.str y = V.str z) = hd z (.str y) := by
      show _ = decide (y = z)
      rw [decide_eq_decide]
      exact ⟨fun h => V.str.inj h, fun h => by rw [h]⟩
    rw [this]
    exact q
  | bl b => exact .inl ⟨rfl, by rw [decide_eq_false (fun z => by cases z)]; exact q⟩
  | non => exact .inl ⟨rfl, by rw [decide_eq_false (fun z => by cases z)]; exact q⟩
  | dct h => exact .inr ⟨_, _, rfl, rfl, .inr (.inr ⟨_, h⟩), q⟩
  | @seq a k vs gs h r =>
    cases k
    · exact .inr ⟨_, _, rfl, rfl, .inl ⟨_, sq_of h⟩, q⟩
    · exact .inr ⟨_, _, rfl, rfl, .inr (.inl ⟨_, st_of h⟩), q⟩
def spIsLG : Sp := fun vs H Q _ => ∃ (v : V) (g : Gt), vs = [v] ∧ GA H v g ∧ ∀ H', Ex H H' → Q (.bl (isSq g)) H'
def spIsIG : Sp := fun vs H Q _ => ∃ (v : V) (g : Gt), vs = [v] ∧ GA H v g ∧ Q (.bl (isI g)) H
def spWhG : Sp := fun vs H Q _ => ∃ (v : V) (g : Gt) (lo hi : Int), vs = [v, .int lo, .int hi] ∧ GA H v g ∧ ∀ H', Ex H H' → Q (.bl (whole lo hi g)) H'
def spPartG : Sp := fun vs H Q _ => ∃ (v : V) (g : Gt) (L : List Nat) (w n : Nat), vs = [v, .str (tx L), .int (w : Int), .int (n : Int)] ∧ GA H v g ∧ L.length ≤ 10 ∧ ∀ H', Ex H H' → Q (.bl (isP L.length w n g)) H'
def spWithG : Sp := fun vs H Q _ => ∃ (v : V) (g : Gt) (l w n : Nat) (H0 : Hp), vs = [v] ∧ GA H0 v g ∧ isP l w n g = true ∧ Ex H0 H ∧ ∀ r H' us, Ex H H' → H r = none → H' r = some (.lst us) → GAs H0 us (kids g) → Q (.ref r) H'
section
variable {P : Program} {w : World} {K : PySem.W.Frag} {mg : Str → Option Value} {base : Heap}
theorem ok_isLG {f : Addr} {fd : FuncData} (F : Fun K "is_list" "is_list" s_is_list f fd) (T : Tx mg) : FnOk P w K mg base CX0 1 f fd ["value"] spIsLG := by
  refine F.ok sc_is_list (fun vs H Q E h => ?_) (fun cdv A outer s H vs Q E hr h => ?_)
  · obtain ⟨v, g, rfl, _⟩ := h
    rfl
  · obtain ⟨v, g, rfl, hg, q⟩ := h
    refine ⟨_, (pss_one (ps_ret (pe_callB call_isiT (by rfl) T.isinstance PyProof.Rows.boot_isinstance (pa_cons (pv 0) (pa_cons (pe_tup (pa_cons (pe_bltn (v := .ty "list") (by rfl) T.list PyProof.Rows.boot_list rfl) (pa_cons (pe_bltn (v := .ty "tuple") (by rfl) T.tuple PyProof.Rows.boot_tuple rfl) pa_nil))) pa_nil))))), ?_⟩
    refine ⟨_, rfl, by show 2 ≤ sizeLine; decide, fun t ht => ?_⟩
    obtain ⟨TT, ty, tn⟩ := GA.ty (K := K) (GA.ex (Ex.new ht) hg)
    exact ⟨_, t, _, _, _, _, rfl, upd_same, .cons (.ty _) (.cons (.ty _) .nil), ty, kit_l tn, q _ (Ex.new ht)⟩
theorem ok_isIG {f : Addr} {fd : FuncData} (F : Fun K "is_integer" "is_integer" s_is_integer f fd) (T : Tx mg) : FnOk P w K mg base CX0 1 f fd ["value"] spIsIG := by
  refine F.ok sc_is_integer (fun vs H Q E h => ?_) (fun cdv A outer s H vs Q E hr h => ?_)
  · obtain ⟨v, g, rfl, _⟩ := h
    rfl
  · obtain ⟨v, g, rfl, hg, q⟩ := h
    obtain ⟨TT, ty, tn⟩ := GA.ty (K := K) hg
    refine ⟨_, (pss_one (ps_ret (pe_and (pe_callB call_isi (by rfl) T.isinstance PyProof.Rows.boot_isinstance (pa_cons (pv 0) (pa_cons (pe_bltn (v := .ty "int") (by rfl) T.int PyProof.Rows.boot_int rfl) pa_nil))) (pe_one (pe_not (pe_callB call_isi (by rfl) T.isinstance PyProof.Rows.boot_isinstance (pa_cons (pv 0) (pa_cons (pe_bltn (v := .ty "bool") (by rfl) T.bool PyProof.Rows.boot_bool rfl) pa_nil)))))))), ?_⟩
    refine ⟨_, rfl, _, _, _, _, _, rfl, .ty _, ty, kit_i tn, _, rfl, ?_⟩
    cases g with
    | int i => exact ⟨_, rfl, _, _, _, _, _, rfl, .ty _, ty, kit_b tn, _, rfl, q⟩
    | bl b => exact ⟨_, rfl, _, _, _, _, _, rfl, .ty _, ty, kit_b tn, _, rfl, q⟩
    | str z => exact q
    | oth => exact q
    | seq k gs => exact q
theorem ok_whG {f : Addr} {fd : FuncData} (F : Fun K "is_whole" "is_whole" s_is_whole f fd) (T : Tx mg) (c_is_integer : Kn P w K mg base "is_integer" ["value"] 1 spIsIG) : FnOk P w K mg base CX0 2 f fd ["value", "low", "high"] spWhG := by
  refine F.ok sc_is_whole (fun vs H Q E h => ?_) (fun cdv A outer s H vs Q E hr h => ?_)
  · obtain ⟨v, g, lo, hi, rfl, _⟩ := h
    rfl
  · obtain ⟨v, g, lo, hi, rfl, hg, q⟩ := h
    refine ⟨_, (pss_one (ps_ret (pe_and (pe_call c_is_integer.ok (hr.mono (by decide)) (by rfl) c_is_integer.g c_is_integer.kp c_is_integer.b .nil pass0 (pa_cons (pv 0) pa_nil)) (pe_one (pe_chain op_le op_le (pv 1) (pv 0) (pv 2)))))), ?_⟩
    have q0 := q H (Ex.refl _)
    refine ⟨_, rfl, v, g, rfl, hg, _, rfl, ?_⟩
    cases hg with
    | int i =>
      refine ⟨_, rfl, _, rfl, _, _, rfl, rfl, _, rfl, ?_⟩
      have e : whole lo hi (.int i) = (decide (lo ≤ i) && decide (i ≤ hi)) := rfl
      rw [e] at q0
      cases hl : decide (lo ≤ i) with
      | true =>
        rw [hl, Bool.true_and] at q0
        exact ⟨_, rfl, _, _, rfl, rfl, q0⟩
      | false =>
        rw [hl, Bool.false_and] at q0
        exact q0
    | str z => exact q0
    | bl b => exact q0
    | non => exact q0
    | dct h => exact q0
    | seq h r => exact q0
end
end Law

namespace Law
open PySem PySem.Spec PyProof.Rows L2 Evl EK
/-- a word of these letters -/
structure WG (L : List Nat) (m : Nat) (w : List Nat) : Prop where
  len : w.length = m
  of : ∀ c ∈ w, c ∈ L
def wv (ws : List (List Nat)) : List V := ws.map fun w => V.str (tx w)
def spIsL : Sp := fun vs H Q _ => ∃ (a : Addr) (xs : List V), vs = [.ref a] ∧ H a = some (.lst xs) ∧ ∀ H', Ex H H' → Q (.bl true) H'
section
variable {P : Program} {w : World} {K : PySem.W.Frag} {mg : Str → Option Value} {base : Heap}
theorem ok_isL {f : Addr} {fd : FuncData} (F : Fun K "is_list" "is_list" s_is_list f fd) (T : Tx mg) : FnOk P w K mg base CX0 1 f fd ["value"] spIsL := by
  refine F.ok sc_is_list (fun vs H Q E h => ?_) (fun cdv A outer s H vs Q E hr h => ?_)
  · obtain ⟨a, xs, rfl, _⟩ := h
    rfl
  · obtain ⟨a, xs, rfl, ha, q⟩ := h
    refine ⟨_, (pss_one (ps_ret (pe_callB call_isiT (by rfl) T.isinstance PyProof.Rows.boot_isinstance (pa_cons (pv 0) (pa_cons (pe_tup (pa_cons (pe_bltn (v := .ty "list") (by rfl) T.list PyProof.Rows.boot_list rfl) (pa_cons (pe_bltn (v := .ty "tuple") (by rfl) T.tuple PyProof.Rows.boot_tuple rfl) pa_nil))) pa_nil))))), ?_⟩
    refine ⟨_, rfl, by show 2 ≤ sizeLine; decide, fun t ht => ?_⟩
    exact ⟨_, t, _, _, _, true, rfl, upd_same, .cons (.ty _) (.cons (.ty _) .nil), .base (.lst (Ex.new ht _ _ ha)), kit_lt, q _ (Ex.new ht)⟩
end
/-- a value that is no text -/
def NoS (K : PySem.W.Frag) (H : Hp) (v : V) : Prop := ∃ t, TyX K H v t ∧ PySem.W.kitOne K t (.type "str") = some false
def azB (c : Nat) : Bool := decide (97 ≤ c) && decide (c ≤ 122)
def areB (x : List Nat) : Bool := decide (2 ≤ x.length ∧ x.length ≤ 4) && (x.all azB && decide (ST.dct (x.map sg) x.length = x.length))
theorem areB_good {L : List Nat} (h : LG L) : areB L = true := by
  unfold areB
  rw [decide_eq_true (show 2 ≤ L.length ∧ L.length ≤ 4 from ⟨h.lo, h.hi⟩), decide_eq_true (dct_nodup h.nd _ (Nat.le_refl _)), Bool.and_true, Bool.true_and, List.all_eq_true]
  intro c hc
  have := h.az c hc
  unfold azB
  rw [decide_eq_true this.1, decide_eq_true this.2]
  rfl
theorem a_dec (c : Nat) : (!decide ((sg c).cps.toList < (Str.ofString "a").cps.toList)) = decide (97 ≤ c) := by
  by_cases h : 97 ≤ c
  · rw [le_a h, decide_eq_true h]
  · rw [decide_eq_false h, show (Str.ofString "a").cps.toList = [97] by decide +kernel, show (sg c).cps.toList = [c] from rfl, decide_eq_true]
    · rfl
    · rw [List.cons_lt_cons_iff]
      exact .inl (by omega)
theorem z_dec (c : Nat) : (!decide ((Str.ofString "z").cps.toList < (sg c).cps.toList)) = decide (c ≤ 122) := by
  by_cases h : c ≤ 122
  · rw [le_z h, decide_eq_true h]
  · rw [decide_eq_false h, show (Str.ofString "z").cps.toList = [122] by decide +kernel, show (sg c).cps.toList = [c] from rfl, decide_eq_true]
    · rfl
    · rw [List.cons_lt_cons_iff]
      exact .inl (by omega)
def wdB (L x : List Nat) : Bool := decide (1 ≤ x.length ∧ x.length ≤ 8 ∧ ∀ c ∈ x, c ∈ L)
def spAreG (K : PySem.W.Frag) : Sp := fun vs H Q _ => ∃ v, vs = [v] ∧ ((∃ x, v = .str (tx x) ∧ x.length < 500 ∧ ∀ H', Ex H H' → Q (.bl (areB x)) H') ∨ (NoS K H v ∧ Q (.bl false) H))
def spWS (K : PySem.W.Frag) : Sp := fun vs H Q _ => ∃ L : List Nat, L.length ≤ 10 ∧ ((∃ T, vs = [.str (tx L), .str (tx T)] ∧ (∀ H', Ex H H' → (∀ c ∈ T, c ∈ L) → Q .non H') ∧
    ∀ H' i c, Ex H H' → T[i]? = some c → c ∉ L → (∀ j d, j < i → T[j]? = some d → d ∈ L) → Q (.int (i : Nat)) H') ∨
  ∃ v, vs = [.str (tx L), v] ∧ NoS K H v ∧ Q (.int 0) H)
def spWdG (K : PySem.W.Frag) : Sp := fun vs H Q _ => ∃ (L : List Nat) (v : V), vs = [.str (tx L), v] ∧ L.length ≤ 10 ∧ ((∃ x, v = .str (tx x) ∧ x.length < 900 ∧ ∀ H', Ex H H' → Q (.bl (wdB L x)) H') ∨ (NoS K H v ∧ Q (.bl false) H))
theorem tx_all (z : Str) : z = tx z.cps.toList := by
  cases z
  simp [tx]
section
variable {P : Program} {w : World} {K : PySem.W.Frag} {mg : Str → Option Value} {base : Heap}
theorem ok_areG {f : Addr} {fd : FuncData} (F : Fun K "are_letters" "are_letters" s_are_letters f fd) (T : Tx mg) : FnOk P w K mg base CX0 1 f fd ["value"] (spAreG K) := by
  refine F.ok sc_are_letters (fun vs H Q E h => ?_) (fun cdv A outer s H vs Q E hr h => ?_)
  · obtain ⟨v, rfl, _⟩ := h
    rfl
  · obtain ⟨v, rfl, h⟩ := h
    refine ⟨_, (pss_cons (ps_if (PW.pt (pw_or (pt_not (pt_val (pe_callB call_isi (by rfl) T.isinstance PyProof.Rows.boot_isinstance (pa_cons (pv 0) (pa_cons (pe_bltn (v := .ty "str") (by rfl) T.str PyProof.Rows.boot_str rfl) pa_nil))))) (pw_or1 (pt_not (pt_chain op_le op_le pe_int (pe_callB call_len_str (by rfl) T.len PySem.boot_len (pa_cons (pv 0) pa_nil)) pe_int))))) (pss_one (ps_ret pe_bl)) pss_nil)
      (pss_one (ps_ret (pe_and (pe_callB (cr_all rfl) (by rfl) T.all PyProof.Rows.boot_all (pa_cons (pe_lc (own := [("sign", 1)]) (g := gName 1) (tt := tYes) rfl sc_are_letters.nd (pi_str (pv 0)) (blkOk_by (N := N_are_letters) (sc := defScope s_are_letters) (by decide +kernel)) (fun _ _ _ _ _ => (pg_name (i := 1) sc_are_letters.nd rfl (Or.inl rfl))) (fun _ _ _ _ _ => pts_nil) (fun _ _ _ _ _ => (pe_chain op_le_str op_le_str pe_str (pv 1) pe_str))) pa_nil)) (pe_one (pe_cmpR op_eq (EN.pe_lenSetS rfl (by rfl) T.len (by rfl) T.set (pv 0)) (pe_callB call_len_str (by rfl) T.len PySem.boot_len (pa_cons (pv 0) pa_nil)) (nomark _))))))), ?_⟩
    rcases h with ⟨x, rfl, hx, q⟩ | ⟨⟨t, ty, kk⟩, q⟩
    · refine ⟨_, rfl, _, _, _, _, true, rfl, .ty _, .base (.str _), kit_ss, true, rfl, ?_⟩
      have q0 := q H (Ex.refl _)
      by_cases h2 : 2 ≤ x.length
      · by_cases h4 : x.length ≤ 4
        · refine ⟨_, rfl, _, rfl, tx_le (by omega), _, _, rfl, rfl, _, rfl, ite2 (fun _ => ?_) (fun hn => absurd (decide_eq_true (by rw [tx_len]; omega)) hn)⟩
          refine ⟨_, _, rfl, rfl, _, rfl, ite2 (fun hb => ?_) (fun _ => ?_)⟩
          · rw [tx_len, decide_eq_true (by omega)] at hb
            cases hb
          refine ⟨_, rfl, _, rfl, fun D hD => ?_⟩
          refine lc_str (x := tx x) (fun i H' => Ex H H' ∧ H' D = some (.lst (((x.take i).map azB).map V.bl))) ⟨Ex.new hD, upd_same⟩ (fun i c H' hic hw => ?_) (fun H' hw => ?_)
          · obtain ⟨e, hl⟩ := hw
            have hc := tx_at hic
            have hi := (List.getElem?_eq_some_iff.mp hc).1
            have fin : ∀ b : Bool, azB c = b → ∃ acc, H' D = some (.lst acc) ∧ acc.length < sizeLine ∧ Ex H (L2.upd H' D (.lst (acc ++ [V.bl b]))) ∧ (L2.upd H' D (.lst (acc ++ [V.bl b]))) D = some (.lst (((x.take (i + 1)).map azB).map V.bl)) := fun b hb => by
              refine ⟨_, hl, ?_, e.mut hD, ?_⟩
              · rw [List.length_map, List.length_map, List.length_take]
                exact sz_lt (by omega)
              · rw [upd_same, List.take_add_one, hc, List.map_append, List.map_append]
                show _ = some (HO.lst (_ ++ [V.bl (azB c)]))
                rw [hb]
            refine ⟨rfl, _, rfl, _, _, rfl, rfl, _, rfl, ite2 (fun hb => ?_) (fun hn => ?_)⟩
            · refine ⟨_, _, rfl, rfl, ?_⟩
              refine fin _ ?_
              have hb2 : (!decide ((sg c).cps.toList < (Str.ofString "a").cps.toList)) = true := hb
              rw [a_dec] at hb2
              unfold azB
              rw [hb2, Bool.true_and]
              exact (z_dec c).symm
            · refine fin _ ?_
              have hb2 : ¬ (!decide ((sg c).cps.toList < (Str.ofString "a").cps.toList)) = true := hn
              rw [a_dec, Bool.not_eq_true] at hb2
              unfold azB
              rw [hb2, Bool.false_and]
          · obtain ⟨e, hl⟩ := hw
            rw [tx_size, List.take_length] at hl
            refine ⟨D, _, rfl, sq_of hl, _, rfl, ?_⟩
            have q1 := q H' e
            have ea : areB x = ((x.map azB).all id && decide (ST.dct (x.map sg) x.length = x.length)) := by
              unfold areB
              rw [decide_eq_true (show 2 ≤ x.length ∧ x.length ≤ 4 from ⟨h2, h4⟩), Bool.true_and, List.all_map]
              rfl
            rw [ea] at q1
            cases hall : (x.map azB).all id with
            | false =>
              rw [hall, Bool.false_and] at q1
              exact q1
            | true =>
              rw [hall, Bool.true_and] at q1
              refine ⟨_, rfl, _, rfl, by rw [tx_size]; omega, _, rfl, _, rfl, tx_le (by omega), rfl, ?_⟩
              have e2 : decide (V.int ((ST.dct (ST.signsOf (tx x)) (tx x).cps.size : Nat) : Int) = V.int (((tx x).length : Nat) : Int)) = decide (ST.dct (x.map sg) x.length = x.length) := by
                rw [decide_eq_decide, sgs_of, tx_size, tx_len]
                constructor
                · intro z
                  have := V.int.inj z
                  omega
                · intro z
                  rw [z]
              show Q (V.bl (decide (V.int ((ST.dct (ST.signsOf (tx x)) (tx x).cps.size : Nat) : Int) = V.int (((tx x).length : Nat) : Int)))) H'
              rw [e2]
              exact q1
        · have ea : areB x = false := by
            unfold areB
            rw [decide_eq_false (fun z => h4 z.2), Bool.false_and]
          rw [ea] at q0
          refine ⟨_, rfl, _, rfl, tx_le (by omega), _, _, rfl, rfl, _, rfl, ite2 (fun _ => ?_) (fun _ => ?_)⟩
          · refine ⟨_, _, rfl, rfl, _, rfl, ite2 (fun _ => q0) (fun hb => absurd (by rw [tx_len, decide_eq_false (by omega)]; rfl) hb)⟩
          · exact ⟨_, rfl, q0⟩
      · have ea : areB x = false := by
          unfold areB
          rw [decide_eq_false (fun z => h2 z.1), Bool.false_and]
        rw [ea] at q0
        refine ⟨_, rfl, _, rfl, tx_le (by omega), _, _, rfl, rfl, _, rfl, ite2 (fun hb => absurd (of_decide_eq_true hb) (by rw [tx_len]; omega)) (fun _ => ?_)⟩
        exact ⟨_, rfl, q0⟩
    · exact ⟨_, rfl, _, _, _, _, false, rfl, .ty _, ty, kk, false, rfl, q⟩
theorem ok_ws {f : Addr} {fd : FuncData} (F : Fun K "wrong_sign" "wrong_sign" s_wrong_sign f fd) (T : Tx mg) : FnOk P w K mg base CX0 1 f fd ["letters", "text"] (spWS K) := by
  refine F.ok sc_wrong_sign (fun vs H Q E h => ?_) (fun cdv A outer s H vs Q E hr h => ?_)
  · obtain ⟨L, _, ⟨T, rfl, _⟩ | ⟨v, rfl, _⟩⟩ := h <;> rfl
  · obtain ⟨L, hL, h⟩ := h
    refine ⟨_, (pss_cons (ps_if (pt_not (pt_val (pe_callB call_isi (by rfl) T.isinstance PyProof.Rows.boot_isinstance (pa_cons (pv 1) (pa_cons (pe_bltn (v := .ty "str") (by rfl) T.str PyProof.Rows.boot_str rfl) pa_nil))))) (pss_one (ps_ret pe_int)) pss_nil)
      (pss_cons (ps_for PassesOwn.never rfl (EN.pi_enumS (by rfl) T.enumerate (pa_cons (pv 1) pa_nil)) (pg_tup (by rfl) (pgs_cons (pg_name (i := 2) sc_wrong_sign.nd rfl (Or.inl rfl)) (pgs_cons (pg_name (i := 3) sc_wrong_sign.nd rfl (Or.inl rfl)) pgs_nil))) (pss_one (ps_if (pt_cmpR op_notIn_sign (pv 3) (pv 0) rfl) (pss_one (ps_ret (pv 2))) pss_nil)))
      (pss_one (ps_ret pe_non)))), ?_⟩
    rcases h with ⟨T, rfl, q1, q2⟩ | ⟨v, rfl, ⟨t, ty, kk⟩, q⟩
    · refine ⟨_, rfl, _, _, _, _, true, rfl, .ty _, .base (.str _), kit_ss, true, rfl, ?_⟩
      refine ⟨_, rfl, _, rfl, ?_⟩
      refine EN.for_enumS (x := tx T) (fun i σ H' => ∃ y2 y3 : Option V, σ = [some (.str (tx L)), some (.str (tx T)), y2, y3] ∧ Ex H H' ∧ ∀ j d, j < i → T[j]? = some d → d ∈ L) ⟨none, none, rfl, Ex.refl _, fun j d hj => absurd hj (Nat.not_lt_zero _)⟩ (fun i c T' σ H' hic hw hT => ?_) (fun σ H' hw => ?_)
      · obtain ⟨y2, y3, rfl, e, ih⟩ := hw
        have hc := tx_at hic
        refine ⟨T', _, rfl, .inl (.inl upd_same), rfl, _, _, rfl, _, _, rfl, rfl, ?_⟩
        refine ⟨_, rfl, _, rfl, c, _, rfl, rfl, _, rfl, ?_⟩
        rw [show (tx L).cps.toList = L from rfl]
        by_cases hm : c ∈ L
        · rw [decide_eq_true hm]
          refine ⟨_, _, rfl, e.trans (Ex.new hT), fun j d hj hd => ?_⟩
          by_cases hji : j = i
          · rw [hji, hc] at hd
            rw [← Option.some.inj hd]
            exact hm
          · exact ih j d (by omega) hd
        · rw [decide_eq_false hm]
          exact ⟨_, rfl, q2 _ i c (e.trans (Ex.new hT)) hc hm ih⟩
      · obtain ⟨y2, y3, rfl, e, ih⟩ := hw
        refine q1 _ e fun c hc => ?_
        obtain ⟨j, hj, rfl⟩ := List.mem_iff_getElem.mp hc
        exact ih j _ (by rw [tx_size]; exact hj) (List.getElem?_eq_getElem hj)
    · refine ⟨_, rfl, _, _, _, _, false, rfl, .ty _, ty, kk, false, rfl, ?_⟩
      exact q
theorem ok_wdG {f : Addr} {fd : FuncData} (F : Fun K "_is_word" "_is_word" s_is_word f fd) (T : Tx mg) (c_wrong_sign : Kn P w K mg base "wrong_sign" ["letters", "text"] 1 (spWS K)) : FnOk P w K mg base CX0 2 f fd ["letters", "value"] (spWdG K) := by
  refine F.ok sc_is_word (fun vs H Q E h => ?_) (fun cdv A outer s H vs Q E hr h => ?_)
  · obtain ⟨L, v, rfl, _⟩ := h
    rfl
  · obtain ⟨L, v, rfl, hL, h⟩ := h
    refine ⟨_, (pss_one (ps_ret (pe_and (pe_callB call_isi (by rfl) T.isinstance PyProof.Rows.boot_isinstance (pa_cons (pv 1) (pa_cons (pe_bltn (v := .ty "str") (by rfl) T.str PyProof.Rows.boot_str rfl) pa_nil))) (pe_and (pe_chain op_le op_le pe_int (pe_callB call_len_str (by rfl) T.len PySem.boot_len (pa_cons (pv 1) pa_nil)) pe_int) (pe_one (pe_cmpR op_isN (pe_call c_wrong_sign.ok (hr.mono (by decide)) (by rfl) c_wrong_sign.g c_wrong_sign.kp c_wrong_sign.b .nil pass0 (pa_cons (pv 0) (pa_cons (pv 1) pa_nil))) pe_non (nomark _))))))), ?_⟩
    rcases h with ⟨x, rfl, hx, q⟩ | ⟨⟨t, ty, kk⟩, q⟩
    · have q0 := q H (Ex.refl _)
      refine ⟨_, rfl, _, _, _, _, true, rfl, .ty _, .base (.str _), kit_ss, true, rfl, ?_⟩
      by_cases h1 : 1 ≤ x.length
      · by_cases h8 : x.length ≤ 8
        · refine ⟨_, rfl, _, rfl, tx_le (by omega), _, _, rfl, rfl, _, rfl, ite2 (fun _ => ?_) (fun hn => absurd (decide_eq_true (by rw [tx_len]; omega)) hn)⟩
          refine ⟨_, _, rfl, rfl, _, rfl, ite2 (fun _ => ?_) (fun hn => absurd (decide_eq_true (by rw [tx_len]; omega)) hn)⟩
          refine ⟨_, rfl, _, rfl, L, hL, .inl ⟨x, rfl, fun H' e hall => ⟨rfl, ?_⟩, fun H' i c e hi hc _ => ⟨rfl, ?_⟩⟩⟩
          · have ew : wdB L x = true := decide_eq_true ⟨h1, h8, hall⟩
            have q1 := q H' e
            rw [ew] at q1
            exact q1
          · have ew : wdB L x = false := decide_eq_false fun z => hc (z.2.2 c (List.mem_of_getElem? hi))
            have q1 := q H' e
            rw [ew] at q1
            exact q1
        · have ew : wdB L x = false := decide_eq_false fun z => h8 z.2.1
          rw [ew] at q0
          refine ⟨_, rfl, _, rfl, tx_le (by omega), _, _, rfl, rfl, _, rfl, ite2 (fun _ => ?_) (fun hn => absurd (decide_eq_true (by rw [tx_len]; omega)) hn)⟩
          exact ⟨_, _, rfl, rfl, _, rfl, ite2 (fun hb => absurd (of_decide_eq_true hb) (by rw [tx_len]; omega)) (fun _ => q0)⟩
      · have ew : wdB L x = false := decide_eq_false fun z => h1 z.1
        rw [ew] at q0
        exact ⟨_, rfl, _, rfl, tx_le (by omega), _, _, rfl, rfl, _, rfl, ite2 (fun hb => absurd (of_decide_eq_true hb) (by rw [tx_len]; omega)) (fun _ => ⟨false, rfl, q0⟩)⟩
    · exact ⟨_, rfl, _, _, _, _, false, rfl, .ty _, ty, kk, false, rfl, q⟩
end
end Law

/-! words.index(text), slices: words a list or a tuple of texts -/
namespace SQ
open PySem PySem.Spec PyProof.Rows L2
section
variable {X : Cx}
def rIxSL (K : PySem.W.Frag) : V → List V → Hp → VK → Prop := fun x xs H Q => ∃ (a : Addr) (zs : List Str) (k : Str), x = V.ref a ∧ xs = [.str k] ∧ SqL K H a (zs.map V.str) ∧ k ∈ zs ∧ Q (.int (zs.idxOf k : Nat)) H
def rIxST (K : PySem.W.Frag) : V → List V → Hp → VK → Prop := fun x xs H Q => ∃ (a : Addr) (zs : List Str) (k : Str), x = V.ref a ∧ xs = [.str k] ∧ SqT K H a (zs.map V.str) ∧ k ∈ zs ∧ Q (.int (zs.idxOf k : Nat)) H
theorem mt_ixL : MtR X "list.index" (rIxSL X.K) := by
  intro pins s σ H x xs v us Q I rx rxs h
  obtain ⟨a, zs, k, rfl, rfl, hs, hk, q⟩ := h
  cases rx
  cases rxs with
  | cons ry rt =>
    cases rt
    obtain ⟨t, rfl⟩ := ry
    obtain ⟨its, rv, pl, hz⟩ := I.list hs
    rw [List.length_map] at hz
    exact SeqAt.list_index_strs pl.isList (Vals.strs rv) hz hk ⟨.int _, H, I.tok _, ⟨_, rfl⟩, q⟩
theorem mt_ixT : MtR X "tuple.index" (rIxST X.K) := by
  intro pins s σ H x xs v us Q I rx rxs h
  obtain ⟨a, zs, k, rfl, rfl, hs, hk, q⟩ := h
  cases rx
  cases rxs with
  | cons ry rt =>
    cases rt
    obtain ⟨t, rfl⟩ := ry
    obtain ⟨its, rv, pl, hz⟩ := I.tuple hs
    exact SeqAt.tuple_index_strs pl (Vals.strs rv) hk ⟨.int _, H, I.tok _, ⟨_, rfl⟩, q⟩
variable {o e : Expr} {es : List Expr} {to : TE} {t : TA} {apos cpos : Pos}
/-- a tuple whose object stands fast -/
def FrT (H : Hp) (x : V) : Prop := ∃ (a : Addr) (ob : Obj) (u : HO), x = .ref a ∧ H a = some (.frz ob u) ∧ ob.cls = .type "tuple" ∧ ob.dict = none
def tIx (K : PySem.W.Frag) (to : TE) (t : TA) : TE := fun σ H Q => tBM K "list" (rIxSL K) to t σ H Q ∨ to σ H fun x H1 => FrT H1 x ∧ t σ H1 fun xs H2 => rIxST K x xs H2 Q
theorem pe_index (ho : PE X o to) (ha : PA X (e :: es) t)
    (hbase : attributeBase o "index" X.env (eval o X.env) = eval o X.env := by rfl)
    (hfew : ((backTo cpos (starEach (e :: es) X.env)).all (fun x => !x.1) && (backToKw cpos (keywordEach [] X.env)).all (fun x => x.1.isSome)
      && decide ((e :: es).length + ([] : List Keyword).length + (if ([] : List Keyword).isEmpty then 0 else 1) < 30)) = true := by rfl)
    (hline : (apos.endLine == cpos.line) = true := by rfl) (hs : starEach (e :: es) X.env = (false, eval e X.env) :: starEach es X.env := by rfl) (hplain : (backTo cpos (starEach es X.env)).any (·.1) = false := by rfl) :
    PE X (.Call (.Attribute o "index" apos) (e :: es) [] cpos) (tIx X.K to t) := by
  refine ⟨fun pins s σ H Q I h => ?_⟩
  rcases h with h | h
  · exact (pe_bm PySem.F.plainAttrs_list PySem.F.slot_list_index PySem.F.type_list_index mt_ixL ho ha hbase hfew hline hs hplain).run pins s σ H Q I h
  · refine wpAny_Call_method_late hbase hfew hline rfl (thn (ho.run pins s σ H _ I h) fun v s1 ⟨x, H1, I1, r1, ty, q1⟩ => ?_)
    obtain ⟨a, ob, u, rfl, hf, hc, hd⟩ := ty
    have rr := r1
    cases r1
    have hg := (I1.hok a _ hf).1
    refine ⟨"tuple", "tuple.index", PySem.F.plainAttrs_tuple, PySem.F.slot_tuple_index, PySem.F.type_tuple_index, ⟨ob, hg, hc⟩, fun b e => ?_, ?_⟩
    · cases e
      exact ⟨ob, hg, hd⟩
    · have hA := ha.run cpos pins s1 σ H1 _ I1 q1
      rw [hs] at hA ⊢
      refine Calls.callWith_builtin (by show (false || (backTo cpos (starEach es X.env)).any (·.1)) = false; rw [hplain] <;> rfl) (Calls.evalArgs_plain ?_)
      exact thn hA fun us s2 ⟨vs, H2, I2, r2, q2⟩ => mt_ixT pins s2 σ H2 _ vs _ us Q I2 rr r2 q2
/-- tuple(list), its object standing fast -/
theorem call_tuple_fr : CallR X (.type "tuple") (fun xs H Q => ∃ p ys, xs = [.ref p] ∧ SqL X.K H p ys ∧ ∀ l ob, H l = none → ob.cls = .type "tuple" → ob.dict = none → Q (.ref l) (upd H l (.frz ob (.tup ys)))) := by
  intro pins s σ H xs us Q I r h
  obtain ⟨p, ys, rfl, hq, q⟩ := h
  obtain ⟨u, rfl, rx⟩ := vals1 r
  cases rx
  obtain ⟨its, r', pl, hz⟩ := I.list hq
  have hlen := r'.length
  refine call_tuple_list pl.isList (fun h' kp => ?_) (by simp only [List.size_toArray] <;> omega)
  have I1 : Inv X pins σ H { s with heap := h' } := I.kept (t' := s.toks) kp
  have hn : (h'.push { cls := .type "tuple", data := .seq its.toArray }).get? h'.objs.size = some { cls := .type "tuple", data := .seq its.toArray } := Heap.get?_push_size _ rfl
  have I2 : Inv X pins σ (upd H h'.objs.size (.frz { cls := .type "tuple", data := .seq its.toArray } (.tup ys))) { s with heap := h'.push { cls := .type "tuple", data := .seq its.toArray } } :=
    I1.laid (t' := s.toks) (fun b o e => Heap.get?_push_of_some _ e) (Nat.le_refl _) (show ObjOk X.prog X.w _ _ _ (.frz _ (.tup ys)) from ⟨hn, hz, its, r', IsTup.new _ _⟩)
  exact ⟨.ref h'.objs.size, _, I2, rfl, q _ _ (I1.hok.fresh (Nat.le_refl _)) rfl rfl⟩
def rSlQ (K : PySem.W.Frag) : V → Option Int → Option Int → Hp → VK → Prop := fun x lo hi H Q => rSlL K x lo hi H Q ∨ rSlA K x lo hi H Q
theorem sl_seq : SlR X (rSlQ X.K) := sl_list.or sl_tupA
/-- words: a list, or a tuple that stands fast -/
def WQ (H : Hp) (a : Addr) (k : Bool) (xs : List V) : Prop := if k = true then ∃ ob : Obj, H a = some (.frz ob (.tup xs)) ∧ ob.cls = .type "tuple" ∧ ob.dict = none else H a = some (.lst xs)
def Sk (K : PySem.W.Frag) (H : Hp) (a : Addr) (k : Bool) (xs : List V) : Prop := if k = true then SqT K H a xs else SqL K H a xs
theorem WQ.ex {H H' : Hp} {a : Addr} {k : Bool} {xs : List V} (h : WQ H a k xs) (e : ∀ b o, H b = some o → H' b = some o) : WQ H' a k xs := by
  cases k
  · exact e _ _ h
  · obtain ⟨ob, h1, h2⟩ := h
    exact ⟨ob, e _ _ h1, h2⟩
theorem WQ.sk {K : PySem.W.Frag} {H : Hp} {a : Addr} {k : Bool} {xs : List V} (h : WQ H a k xs) : Sk K H a k xs := by
  cases k
  · exact Or.inl (Or.inl h)
  · obtain ⟨ob, h1, _⟩ := h
    exact Or.inl (Or.inr ⟨ob, h1⟩)
theorem Sk.seq {K : PySem.W.Frag} {H : Hp} {a : Addr} {k : Bool} {xs : List V} (h : Sk K H a k xs) : SqL K H a xs ∨ SqT K H a xs := by
  cases k
  · exact .inl h
  · exact .inr h
theorem Sk.ex {K : PySem.W.Frag} {H H' : Hp} {a : Addr} {k : Bool} {xs : List V} (h : Sk K H a k xs) (e : ∀ b o, H b = some o → H' b = some o) : Sk K H' a k xs := by
  have rd : ∀ u, Rd H a u → Rd H' a u := fun u r => by
    rcases r with r | ⟨o, r⟩
    · exact .inl (e _ _ r)
    · exact .inr ⟨o, e _ _ r⟩
  cases k
  · rcases h with h | h
    · exact Or.inl (rd _ h)
    · exact Or.inr h
  · rcases h with h | h
    · exact Or.inl (rd _ h)
    · exact Or.inr h
theorem WQ.seq {K : PySem.W.Frag} {H : Hp} {a : Addr} {k : Bool} {xs : List V} (h : WQ H a k xs) : SqL K H a xs ∨ SqT K H a xs := h.sk.seq
theorem WQ.ty {K : PySem.W.Frag} {H : Hp} {a : Addr} {k : Bool} {xs : List V} (h : WQ H a k xs) : TyX K H (.ref a) (if k = true then .type "tuple" else .type "list") := by
  cases k
  · exact .base (.lst h)
  · obtain ⟨ob, h1, _⟩ := h
    exact .fTuple h1
theorem WQ.rd {H : Hp} {a : Addr} {xs : List V} (h : WQ H a true xs) : Rd H a (.tup xs) := by
  obtain ⟨ob, h1, _⟩ := h
  exact .inr ⟨ob, h1⟩
end
end SQ

namespace Law
open PySem PySem.Spec PyProof.Rows L2 Evl EK TR
theorem tx_inj {a b : List Nat} (h : tx a = tx b) : a = b := by
  have h2 : (tx a).cps.toList = (tx b).cps.toList := by rw [h]
  exact h2
theorem flat_wv (ws : List (List Nat)) : (wv ws).all flatV = true := by
  unfold wv
  rw [List.all_map, List.all_eq_true]
  intro x _
  rfl
theorem inV_wv {u : List Nat} {ws : List (List Nat)} : inV (.str (tx u)) (wv ws) = decide (u ∈ ws) := by
  unfold inV wv
  rw [List.any_map, Bool.eq_iff_iff, List.any_eq_true, decide_eq_true_eq]
  constructor
  · rintro ⟨x, hx, he⟩
    have he2 : (tx x == tx u) = true := he
    rw [beq_iff_eq] at he2
    rw [← tx_inj he2]
    exact hx
  · intro h
    refine ⟨u, h, ?_⟩
    show (tx u == tx u) = true
    rw [beq_iff_eq]
/-- an element of the words: a text, or no text -/
inductive El (K : PySem.W.Frag) (H : Hp) : V → Option (List Nat) → Prop
  | txt (x : List Nat) : x.length < 900 → El K H (.str (tx x)) (some x)
  | odd {v : V} : NoS K H v → El K H v none
inductive Els (K : PySem.W.Frag) (H : Hp) : List V → List (Option (List Nat)) → Prop
  | nil : Els K H [] []
  | cons {v : V} {e : Option (List Nat)} {vs : List V} {es : List (Option (List Nat))} : El K H v e → Els K H vs es → Els K H (v :: vs) (e :: es)
theorem Els.len {K : PySem.W.Frag} {H : Hp} {vs : List V} {es : List (Option (List Nat))} (h : Els K H vs es) : vs.length = es.length := by
  induction h with
  | nil => rfl
  | cons _ _ ih => rw [List.length_cons, List.length_cons, ih]
theorem Els.get {K : PySem.W.Frag} {H : Hp} {vs : List V} {es : List (Option (List Nat))} (h : Els K H vs es) : ∀ {i : Nat} {v : V}, vs[i]? = some v → ∃ e, es[i]? = some e ∧ El K H v e := by
  induction h with
  | nil => intro i v h; cases h
  | @cons v e vs es h1 h2 ih =>
    intro i u hu
    cases i with
    | zero => cases hu; exact ⟨e, rfl, h1⟩
    | succ i => exact ih hu
theorem Els.get' {K : PySem.W.Frag} {H : Hp} {vs : List V} {es : List (Option (List Nat))} (h : Els K H vs es) : ∀ {i : Nat} {e : Option (List Nat)}, es[i]? = some e → ∃ v, vs[i]? = some v ∧ El K H v e := by
  induction h with
  | nil => intro i v h; cases h
  | @cons v e vs es h1 h2 ih =>
    intro i u hu
    cases i with
    | zero => cases hu; exact ⟨v, rfl, h1⟩
    | succ i => exact ih hu
theorem TyOf_ex {K : PySem.W.Frag} {H H' : Hp} {v : V} {t : Value} (h : TyOf K H v t) (e : Ex H H') : TyOf K H' v t := by
  cases h with
  | non => exact .non
  | bl x => exact .bl x
  | int i => exact .int i
  | str x => exact .str x
  | flt x => exact .flt x
  | lst h => exact .lst (e _ _ h)
  | frz h => exact .frz (e _ _ h)
  | tup h => exact .tup (e _ _ h)
  | dK h => exact .dK (e _ _ h)
  | dT h => exact .dT (e _ _ h)
  | ins h a b c d f => exact .ins (e _ _ h) a b c d f
theorem TyX_ex {K : PySem.W.Frag} {H H' : Hp} {v : V} {t : Value} (h : TyX K H v t) (e : Ex H H') : TyX K H' v t := by
  cases h with
  | base h => exact .base (TyOf_ex h e)
  | byt b => exact .byt b
  | set h => exact .set (e _ _ h)
  | kList h c => exact .kList h c
  | kTuple h c => exact .kTuple h c
  | kDict h c => exact .kDict h c
  | fTuple h => exact .fTuple (e _ _ h)
  | fDict h => exact .fDict (e _ _ h)
theorem NoS.ex {K : PySem.W.Frag} {H H' : Hp} {v : V} (h : NoS K H v) (e : Ex H H') : NoS K H' v := by
  obtain ⟨t, ty, k⟩ := h
  exact ⟨t, TyX_ex ty e, k⟩
theorem El.ex {K : PySem.W.Frag} {H H' : Hp} {v : V} {x : Option (List Nat)} (h : El K H v x) (e : Ex H H') : El K H' v x := by
  cases h with
  | txt x l => exact .txt x l
  | odd n => exact .odd (n.ex e)
theorem Els.ex {K : PySem.W.Frag} {H H' : Hp} {vs : List V} {es : List (Option (List Nat))} (h : Els K H vs es) (e : Ex H H') : Els K H' vs es := by
  induction h with
  | nil => exact .nil
  | cons h1 _ ih => exact .cons (h1.ex e) ih
def lenB (es : List (Option (List Nat))) (x : List Nat) : Bool := match es[0]? with | some (some y) => decide (x.length = y.length) | _ => false
/-- the word at i is right, those ahead of it being so -/
def goodB (L : List Nat) (es : List (Option (List Nat))) (i : Nat) : Bool :=
  match es[i]? with
  | some (some x) => wdB L x && lenB es x && !decide (some x ∈ es.take i)
  | _ => false
/-- the first wrong place of the words -/
def badW (L : List Nat) (es : List (Option (List Nat))) : Option Nat :=
  if es.length = 0 then some 0 else if !goodB L es 0 then some 0 else if es.length = 1 then none else if !goodB L es 1 then some 1 else if es.length = 2 then none else if !goodB L es 2 then some 2 else if es.length = 3 then none else some 3
theorem bad_nil {L : List Nat} {es : List (Option (List Nat))} (h : es.length = 0) : badW L es = some 0 := if_pos h
theorem bad_at {L : List Nat} {es : List (Option (List Nat))} {i : Nat} (h3 : i < 3) (hl : i < es.length) (hg : ∀ j, j < i → goodB L es j = true) (hb : goodB L es i = false) : badW L es = some i := by
  unfold badW
  rw [if_neg (by omega)]
  by_cases h0 : i = 0
  · subst h0
    rw [hb]
    rfl
  rw [hg 0 (by omega), if_neg (by decide), if_neg (by omega)]
  by_cases h1 : i = 1
  · subst h1
    rw [hb]
    rfl
  have h2 : i = 2 := by omega
  subst h2
  rw [hg 1 (by omega), if_neg (by decide), if_neg (by omega), hb]
  rfl
theorem bad_none {L : List Nat} {es : List (Option (List Nat))} (h0 : es.length ≠ 0) (h3 : es.length ≤ 3) (hg : ∀ j, j < es.length → goodB L es j = true) : badW L es = none := by
  unfold badW
  rw [if_neg h0, hg 0 (by omega), if_neg (by decide)]
  by_cases h1 : es.length = 1
  · rw [if_pos h1]
  rw [if_neg h1, hg 1 (by omega), if_neg (by decide)]
  by_cases h2 : es.length = 2
  · rw [if_pos h2]
  rw [if_neg h2, hg 2 (by omega), if_neg (by decide), if_pos (by omega)]
theorem bad_3 {L : List Nat} {es : List (Option (List Nat))} (h3 : 3 < es.length) (hg : ∀ j, j < 3 → goodB L es j = true) : badW L es = some 3 := by
  unfold badW
  rw [if_neg (by omega), hg 0 (by omega), if_neg (by decide), if_neg (by omega), hg 1 (by omega), if_neg (by decide), if_neg (by omega), hg 2 (by omega), if_neg (by decide), if_neg (by omega)]
theorem forqS {K : PySem.W.Frag} {ta : TA} {g : TG} {tb : TS} {D : Ends} {σ : L2.St} {H : Hp} {k : Bool} {xs : List V} (hv : ∀ R : List V → Hp → Prop, (∀ a H2, Ex H H2 → SQ.Sk K H2 a k xs → R [.ref a] H2) → ta σ H R) (Pv : Hp → Nat → L2.St → Hp → Prop)
    (h0 : ∀ H2, Ex H H2 → Pv H2 0 σ H2) (hk : ∀ H2 i σ H', Pv H2 i σ H' → Ex H2 H')
    (hs : ∀ (H2 : Hp) (i : Nat) (x : V) (T : Addr) (σ : L2.St) (H' : Hp), xs[i]? = some x → Pv H2 i σ H' → H' T = none → g (.ref T) σ (upd H' T (.tup [.int (i : Nat), x])) fun σ2 H3 => tb { D with nx := Pv H2 (i + 1), ct := Pv H2 (i + 1), bk := D.nx } σ2 H3)
    (hd : ∀ H2 σ H', Pv H2 xs.length σ H' → D.nx σ H') : tFor (iEnumQ K ta) g tb D σ H := by
  cases k
  · exact .inl (hv _ fun a H2 e h => ⟨a, xs, rfl, h, EN.for_enumL (Pv H2) (h0 H2 e) (fun i σ H' p => SQ.Sk.ex (k := false) h (hk H2 i σ H' p)) (hs H2) (hd H2)⟩)
  · exact .inr (hv _ fun a H2 e h => ⟨a, xs, rfl, h, EN.for_enumT (Pv H2) (h0 H2 e) (fun i σ H' p => SQ.Sk.ex (k := true) h (hk H2 i σ H' p)) (hs H2) (hd H2)⟩)
theorem sl_ob {K : PySem.W.Frag} {H : Hp} {a : Addr} {k : Bool} {xs : List V} {lo hi : Option Int} {Q : VK} (h : SQ.Sk K H a k xs) (q : ∀ D H2, Ex H H2 → SQ.Sk K H2 D k (cutV xs lo hi) → Q (.ref D) H2) : SQ.rSlQ K (.ref a) lo hi H Q := by
  cases k
  · exact .inl ⟨a, _, rfl, h, fun D hD => q D _ (Ex.new hD) (sq_of upd_same)⟩
  · refine .inr ⟨a, _, rfl, h, fun hw => q a H (Ex.refl _) ?_, fun _ D hD => q D _ (Ex.new hD) (st_of upd_same)⟩
    have e : cutV xs lo hi = xs := by
      unfold cutV
      rw [hw.1, hw.2, List.drop_zero, Nat.sub_zero, List.take_length]
    rw [e]
    exact h
theorem ix_ob {K : PySem.W.Frag} {H : Hp} {a : Addr} {k : Bool} {xs : List V} {i : Nat} {v : V} {Q : VK} (h : SQ.Sk K H a k xs) (hi : xs[i]? = some v) (q : Q v H) : rIx K (.ref a) (.int (i : Nat)) H Q := by
  cases k
  · exact .inl ⟨a, xs, _, v, rfl, rfl, h, atI_nat hi, q⟩
  · exact .inr (.inl ⟨a, xs, _, v, rfl, rfl, h, atI_nat hi, q⟩)
/-- is_list of words -/
def spIsW : Sp := fun vs H Q _ => ∃ (a : Addr) (k : Bool) (xs : List V), vs = [.ref a] ∧ SQ.WQ H a k xs ∧ ∀ H', Ex H H' → Q (.bl true) H'
section
variable {P : Program} {w : World} {K : PySem.W.Frag} {mg : Str → Option Value} {base : Heap}
theorem ok_isW {f : Addr} {fd : FuncData} (F : Fun K "is_list" "is_list" s_is_list f fd) (T : Tx mg) : FnOk P w K mg base CX0 1 f fd ["value"] spIsW := by
  refine F.ok sc_is_list (fun vs H Q E h => ?_) (fun cdv A outer s H vs Q E hr h => ?_)
  · obtain ⟨a, k, xs, rfl, _⟩ := h
    rfl
  · obtain ⟨a, k, xs, rfl, ha, q⟩ := h
    refine ⟨_, (pss_one (ps_ret (pe_callB call_isiT (by rfl) T.isinstance PyProof.Rows.boot_isinstance (pa_cons (pv 0) (pa_cons (pe_tup (pa_cons (pe_bltn (v := .ty "list") (by rfl) T.list PyProof.Rows.boot_list rfl) (pa_cons (pe_bltn (v := .ty "tuple") (by rfl) T.tuple PyProof.Rows.boot_tuple rfl) pa_nil))) pa_nil))))), ?_⟩
    refine ⟨_, rfl, by show 2 ≤ sizeLine; decide, fun t ht => ?_⟩
    have ty := (ha.ex (Ex.new (o := .tup [.ty "list", .ty "tuple"]) ht)).ty (K := K)
    cases k
    · exact ⟨_, t, _, _, _, true, rfl, upd_same, .cons (.ty _) (.cons (.ty _) .nil), ty, kit_lt, q _ (Ex.new ht)⟩
    · exact ⟨_, t, _, _, _, true, rfl, upd_same, .cons (.ty _) (.cons (.ty _) .nil), ty, kit_tt, q _ (Ex.new ht)⟩
end
def spWWG (K : PySem.W.Frag) : Sp := fun vs H Q _ => ∃ (L : List Nat) (a : Addr) (k : Bool) (xs : List V) (es : List (Option (List Nat))), vs = [.str (tx L), .ref a] ∧ L.length ≤ 10 ∧ SQ.WQ H a k xs ∧ Els K H xs es ∧ xs.length < 100 ∧
  ∀ H', Ex H H' → (∀ i : Nat, badW L es = some i → Q (.int i) H') ∧ (badW L es = none → Q .non H')
theorem good_txt {L : List Nat} {es : List (Option (List Nat))} {i : Nat} (h : goodB L es i = true) : ∃ x, es[i]? = some (some x) := by
  unfold goodB at h
  split at h
  · exact ⟨_, by assumption⟩
  · cases h
/-- the words ahead, all of them texts -/
theorem els_texts {K : PySem.W.Frag} {H : Hp} {xs : List V} {es : List (Option (List Nat))} (E : Els K H xs es) : ∀ i, (∀ j, j < i → ∃ x, es[j]? = some (some x)) → i ≤ xs.length → ∃ ws : List (List Nat), xs.take i = wv ws ∧ es.take i = ws.map some
  | 0, _, _ => ⟨[], rfl, rfl⟩
  | i + 1, h, hl => by
    obtain ⟨ws, e1, e2⟩ := els_texts E i (fun j hj => h j (by omega)) (by omega)
    obtain ⟨x, hx⟩ := h i (by omega)
    obtain ⟨v, hv, hE⟩ := E.get' hx
    cases hE with
    | txt x l =>
      refine ⟨ws ++ [x], ?_, ?_⟩
      · rw [List.take_add_one, hv, e1]
        unfold wv
        rw [List.map_append]
        rfl
      · rw [List.take_add_one, hx, e2, List.map_append]
        rfl
section
variable {P : Program} {w : World} {K : PySem.W.Frag} {mg : Str → Option Value} {base : Heap}
theorem ok_wwG {f : Addr} {fd : FuncData} (F : Fun K "wrong_word" "wrong_word" s_wrong_word f fd) (T : Tx mg) (c_is_list : Kn P w K mg base "is_list" ["value"] 1 spIsW)
    (c_is_word : Kn P w K mg base "_is_word" ["letters", "value"] 2 (spWdG K)) : FnOk P w K mg base CX0 3 f fd ["letters", "words"] (spWWG K) := by
  refine F.ok sc_wrong_word (fun vs H Q E h => ?_) (fun cdv A outer s H vs Q E hr h => ?_)
  · obtain ⟨L, a, k, xs, es, rfl, _⟩ := h
    rfl
  · obtain ⟨L, a, k, xs, es, rfl, hL, ha, EE, hx, q⟩ := h
    have le := EE.len
    refine ⟨_, (pss_cons (ps_if (PW.pt (pw_or (pt_not (pt_val (pe_call c_is_list.ok (hr.mono (by decide)) (by rfl) c_is_list.g c_is_list.kp c_is_list.b .nil pass0 (pa_cons (pv 1) pa_nil)))) (pw_or1 (pt_cmpR op_eq (pe_callB call_len_seq (by rfl) T.len PySem.boot_len (pa_cons (pv 1) pa_nil)) pe_int (nomark _))))) (pss_one (ps_ret pe_int)) pss_nil)
      (pss_cons (ps_for PassesOwn.never rfl (TR.pi_enumQ (by rfl) T.enumerate (pa_cons (pe_slice SQ.sl_seq (pv 1) po_none (po_some pe_int)) pa_nil)) (pg_tup (by rfl) (pgs_cons (pg_name (i := 2) sc_wrong_word.nd rfl (Or.inl rfl)) (pgs_cons (pg_name (i := 3) sc_wrong_word.nd rfl (Or.inl rfl)) pgs_nil))) (pss_one (ps_if (PW.pt (pw_or (pt_not (pt_val (pe_call c_is_word.ok (hr.mono (by decide)) (by rfl) c_is_word.g c_is_word.kp c_is_word.b .nil pass0 (pa_cons (pv 0) (pa_cons (pv 3) pa_nil))))) (pw_or (pt_cmpR op_ne (pe_callB call_len_str (by rfl) T.len PySem.boot_len (pa_cons (pv 3) pa_nil)) (pe_callB call_len_str (by rfl) T.len PySem.boot_len (pa_cons (pe_ix ix_seq (pv 1) pe_int (fun _ _ => rfl)) pa_nil)) (nomark _)) (pw_or1 (pt_cmpR op_in_seq (pv 3) (pe_slice SQ.sl_seq (pv 1) po_none (po_some (pv 2))) rfl))))) (pss_one (ps_ret (pv 2))) pss_nil)))
      (pss_one (ps_ret (pe_ifExp (pt_cmpR op_gt (pe_callB call_len_seq (by rfl) T.len PySem.boot_len (pa_cons (pv 1) pa_nil)) pe_int (nomark _)) pe_int pe_non))))), ?_⟩
    refine ⟨_, rfl, a, k, _, rfl, ha, fun H1 e1 => ⟨true, rfl, ?_⟩⟩
    refine ⟨_, rfl, a, _, rfl, (ha.ex e1).seq, rfl, _, rfl, ite2 (fun hb => ?_) (fun hn => ?_)⟩
    · have hb2 := V.int.inj (of_decide_eq_true hb)
      exact (q _ e1).1 0 (bad_nil (by omega))
    have hn0 : es.length ≠ 0 := fun z => hn (decide_eq_true (by rw [le, z]; rfl))
    have hcut : cutV xs none (some (3 : Int)) = xs.take 3 := by
      unfold cutV
      rw [show (3 : Int) = ((3 : Nat) : Int) from rfl, HT.sIx_none, HT.sIx_nat, Nat.sub_zero, List.drop_zero, List.take_eq_take_iff]
      omega
    refine forqS (k := k) (xs := xs.take 3) (fun R hR => ⟨_, rfl, _, rfl, sl_ob (ha.ex e1).sk fun D H2 e2 hD => hR D H2 e2 (by rw [← hcut]; exact hD)⟩)
      (fun H2 i σ H' => ∃ y2 y3 : Option V, σ = [some (.str (tx L)), some (.ref a), y2, y3] ∧ Ex H H' ∧ Ex H2 H' ∧ ∀ j, j < i → goodB L es j = true) (fun H2 e2 => ⟨none, none, rfl, e1.trans e2, Ex.refl _, fun j hj => absurd hj (Nat.not_lt_zero _)⟩) (fun H2 i σ H' hw => ?_) (fun H2 i x T' σ H' hx hw hT => ?_) (fun H2 σ H' hw => ?_)
    · obtain ⟨_, _, _, _, e, _⟩ := hw
      exact e
    · obtain ⟨y2, y3, rfl, e3, e4, hg⟩ := hw
      have hi3 : i < 3 := by
        have := (List.getElem?_eq_some_iff.mp hx).1
        rw [List.length_take] at this
        omega
      have hxi : xs[i]? = some x := by
        rw [List.getElem?_take_of_lt hi3] at hx
        exact hx
      have hil := (List.getElem?_eq_some_iff.mp hxi).1
      obtain ⟨ex, hex, hE⟩ := EE.get hxi
      have e5 := e3.trans (Ex.new (o := .tup [.int (i : Nat), x]) hT)
      have e6 := e4.trans (Ex.new (o := .tup [.int (i : Nat), x]) hT)
      refine ⟨T', _, rfl, .inl (.inl upd_same), rfl, _, _, rfl, _, _, rfl, rfl, ?_⟩
      cases hE with
      | odd hn =>
        refine ⟨_, rfl, _, rfl, L, _, rfl, hL, .inr ⟨hn.ex e5, false, rfl, ?_⟩⟩
        refine ⟨_, rfl, (q _ e5).1 i (bad_at hi3 (by omega) hg ?_)⟩
        unfold goodB
        rw [hex]
      | txt u lu =>
        refine ⟨_, rfl, _, rfl, L, _, rfl, hL, .inl ⟨u, rfl, by omega, fun H3 e7 => ?_⟩⟩
        have e8 := e5.trans e7
        cases hwd : wdB L u with
        | false =>
          refine ⟨false, rfl, _, rfl, (q _ e8).1 i (bad_at hi3 (by omega) hg ?_)⟩
          unfold goodB
          rw [hex]
          show (wdB L u && lenB es u && !decide (some u ∈ es.take i)) = false
          rw [hwd]
          rfl
        | true =>
          obtain ⟨y, hy⟩ : ∃ y, es[0]? = some (some y) := by
            by_cases h0 : i = 0
            · subst h0
              exact ⟨u, hex⟩
            · exact good_txt (hg 0 (by omega))
          obtain ⟨v0, hv0, hE0⟩ := EE.get' hy
          have gd : goodB L es i = (decide (u.length = y.length) && !decide (some u ∈ es.take i)) := by
            unfold goodB lenB
            rw [hex, hy]
            show (wdB L u && decide (u.length = y.length) && !decide (some u ∈ es.take i)) = _
            rw [hwd, Bool.true_and]
          cases hE0 with
          | txt y ly =>
            refine ⟨true, rfl, _, rfl, _, rfl, tx_le (by omega), _, rfl, ix_ob (ha.ex e8).sk hv0 ⟨_, rfl, tx_le (by omega), rfl, _, rfl, ite2 (fun hb => ?_) (fun hb => ?_)⟩⟩
            · refine ⟨_, rfl, (q _ e8).1 i (bad_at hi3 (by omega) hg ?_)⟩
              rw [gd, decide_eq_false, Bool.false_and]
              intro z
              rw [decide_eq_true (show V.int ((tx u).length : Int) = V.int ((tx y).length : Int) by rw [tx_len, tx_len, z])] at hb
              cases hb
            have hlen : u.length = y.length := by
              by_cases z : u.length = y.length
              · exact z
              · refine absurd ?_ hb
                rw [decide_eq_false]
                · rfl
                · intro z2
                  have := V.int.inj z2
                  rw [tx_len, tx_len] at this
                  exact z (by omega)
            obtain ⟨ws, w1, w2⟩ := els_texts EE i (fun j hj => good_txt (hg j hj)) (by omega)
            have hcut2 : cutV xs none (some (i : Int)) = wv ws := by
              unfold cutV
              rw [HT.sIx_none, HT.sIx_nat, Nat.sub_zero, List.drop_zero, ← w1, List.take_eq_take_iff]
              omega
            refine ⟨_, rfl, _, rfl, _, rfl, _, rfl, sl_ob (ha.ex e8).sk fun D2 H9 e9 hD3 => ?_⟩
            rw [hcut2] at hD3
            have mem : decide (some u ∈ es.take i) = decide (u ∈ ws) := by
              rw [w2, decide_eq_decide]
              constructor
              · intro h
                obtain ⟨z, hz, e⟩ := List.mem_map.mp h
                cases e
                exact hz
              · intro h
                exact List.mem_map.mpr ⟨u, h, rfl⟩
            rw [decide_eq_true hlen, Bool.true_and, mem] at gd
            refine ⟨D2, _, rfl, hD3.seq, rfl, flat_wv _, ?_⟩
            refine ⟨_, rfl, ?_⟩
            rw [inV_wv]
            cases hm : decide (u ∈ ws) with
            | true =>
              rw [hm] at gd
              exact ⟨_, rfl, (q _ (e8.trans e9)).1 i (bad_at hi3 (by omega) hg gd)⟩
            | false =>
              rw [hm] at gd
              refine ⟨_, _, rfl, e8.trans e9, (e6.trans e7).trans e9, fun j hj => ?_⟩
              by_cases hji : j = i
              · rw [hji]
                exact gd
              · exact hg j (by omega)
    · obtain ⟨y2, y3, rfl, e3, e4, hg⟩ := hw
      rw [List.length_take] at hg
      refine ⟨_, rfl, a, _, rfl, (ha.ex e3).seq, _, _, rfl, rfl, _, rfl, ite2 (fun hb => ?_) (fun hb => ?_)⟩
      · have hb2 : (3 : Int) < (xs.length : Int) := of_decide_eq_true hb
        exact (q _ e3).1 3 (bad_3 (by omega) fun j hj => hg j (by omega))
      · have hb2 : ¬ (3 : Int) < (xs.length : Int) := fun z => hb (decide_eq_true z)
        exact (q _ e3).2 (bad_none hn0 (by omega) fun j hj => hg j (by omega))
end
end Law

namespace Law
open PySem PySem.Spec PyProof.Rows L2 Evl EK
/-- a value without parts, as data -/
inductive Fl : V → PyData → Prop
  | non : Fl .non .none
  | bl (b : Bool) : Fl (.bl b) (.bool b)
  | int (i : Int) : Fl (.int i) (.int i)
  | str (z : Str) : Fl (.str z) (.str z)
inductive Fls : List V → List PyData → Prop
  | nil : Fls [] []
  | cons {v : V} {d : PyData} {vs : List V} {ds : List PyData} : Fl v d → Fls vs ds → Fls (v :: vs) (d :: ds)
theorem Fls.get {vs : List V} {ds : List PyData} (h : Fls vs ds) : ∀ {i : Nat} {v : V}, vs[i]? = some v → ∃ d, Fl v d := by
  induction h with
  | nil => intro i v h; cases h
  | @cons v d vs ds h1 _ ih =>
    intro i u hu
    cases i with
    | zero => cases hu; exact ⟨d, h1⟩
    | succ i => exact ih hu
/-- the values that errors keep -/
inductive AV (H : Hp) : V → PyData → Prop
  | flat {v : V} {d : PyData} : Fl v d → AV H v d
  | tup {a : Addr} {vs : List V} {ds : List PyData} : H a = some (.tup vs) → Fls vs ds → vs.length ≤ 50 → AV H (.ref a) (.tuple ds)
  | lst {a : Addr} {vs : List V} {ds : List PyData} : H a = some (.lst vs) → Fls vs ds → vs.length ≤ 50 → AV H (.ref a) (.list ds)
  | emp {a : Addr} : H a = some (.dK []) → AV H (.ref a) (.dict [])
  | one {a : Addr} {k : Str} {i : Int} : H a = some (.dK [(.inr k, .int i)]) → AV H (.ref a) (.dict [(.str k, .int i)])
  | dks {a : Addr} {ks : List (Int × Int)} : H a = some (.dK (DY.kvI ks)) → (ks.map (·.1)).Nodup → ks.length ≤ 50 → AV H (.ref a) (.dict (DY.kdI ks))
theorem AV.ex {H H' : Hp} {v : V} {d : PyData} (h : AV H v d) (e : Ex H H') : AV H' v d := by
  cases h with
  | flat f => exact .flat f
  | tup h f l => exact .tup (e _ _ h) f l
  | lst h f l => exact .lst (e _ _ h) f l
  | emp h => exact .emp (e _ _ h)
  | one h => exact .one (e _ _ h)
  | dks h n l => exact .dks (e _ _ h) n l
theorem Fl.de {K : PySem.W.Frag} {H : Hp} {v : V} {d : PyData} (h : Fl v d) : DY.DE K H v d := by
  cases h with
  | non => exact .non
  | bl b => exact .bl b
  | int i => exact .int i
  | str z => exact .str z
theorem Fls.de {K : PySem.W.Frag} {H : Hp} {vs : List V} {ds : List PyData} (h : Fls vs ds) : DY.DEs K H vs ds := by
  induction h with
  | nil => exact .nil
  | cons h1 _ ih => exact .cons h1.de ih
theorem AV.de {K : PySem.W.Frag} {H : Hp} {v : V} {d : PyData} (h : AV H v d) : DY.DE K H v d := by
  cases h with
  | flat f => exact f.de
  | tup h f l => exact .tup (st_of h) f.de
  | lst h f l => exact .lst (sq_of h) f.de
  | emp h => exact .emp h
  | one h => exact .one h
  | dks h _ _ => exact .dks h
theorem Fl.kinds {K : PySem.W.Frag} {v : V} {d : PyData} (h : Fl v d) (H : Hp) : ∃ t, TyX K H v t ∧ PySem.W.kitOne K t (.type "list") = some false ∧ PySem.W.kitOne K t (.type "tuple") = some false ∧ PySem.W.kitOne K t (.type "dict") = some false := by
  cases h with
  | non => exact ⟨_, .base .non, kit_ty (by decide +kernel), kit_ty (by decide +kernel), kit_ty (by decide +kernel)⟩
  | bl b => exact ⟨_, .base (.bl b), kit_ty (by decide +kernel), kit_ty (by decide +kernel), kit_ty (by decide +kernel)⟩
  | int n => exact ⟨_, .base (.int n), kit_ty (by decide +kernel), kit_ty (by decide +kernel), kit_ty (by decide +kernel)⟩
  | str z => exact ⟨_, .base (.str z), kit_ty (by decide +kernel), kit_ty (by decide +kernel), kit_ty (by decide +kernel)⟩
theorem kl_l {K : PySem.W.Frag} : PySem.W.kitOne K (.type "list") (.type "list") = some true := kit_ty (by decide +kernel)
theorem kt_l {K : PySem.W.Frag} : PySem.W.kitOne K (.type "tuple") (.type "list") = some false := kit_ty (by decide +kernel)
theorem kt_t {K : PySem.W.Frag} : PySem.W.kitOne K (.type "tuple") (.type "tuple") = some true := kit_ty (by decide +kernel)
theorem kd_l {K : PySem.W.Frag} : PySem.W.kitOne K (.type "dict") (.type "list") = some false := kit_ty (by decide +kernel)
theorem kd_t {K : PySem.W.Frag} : PySem.W.kitOne K (.type "dict") (.type "tuple") = some false := kit_ty (by decide +kernel)
theorem kd_d {K : PySem.W.Frag} : PySem.W.kitOne K (.type "dict") (.type "dict") = some true := kit_ty (by decide +kernel)
def spKf : Sp := fun vs H Q _ => ∃ v d, vs = [v] ∧ Fl v d ∧ Q v H
def spKept : Sp := fun vs H Q _ => ∃ v d, vs = [v] ∧ AV H v d ∧ ∀ v' H', Ex H H' → AV H' v' d → Q v' H'
theorem kvI_none : ∀ {ks : List (Int × Int)} {k : Int}, k ∉ ks.map (·.1) → valV (DY.kvI ks) (.inl k) = none
  | [], _, _ => rfl
  | p :: r, k, h => by
    have ne : ¬ (Sum.inl p.1 : Key) = .inl k := fun z => h (by rw [← Sum.inl.inj z]; exact List.mem_cons_self)
    show valV ((.inl p.1, .int p.2) :: DY.kvI r) _ = _
    rw [valV_neg ne]
    exact kvI_none fun z => h (List.mem_cons_of_mem _ z)
theorem kvI_at : ∀ {ks : List (Int × Int)} {i : Nat} {p : Int × Int}, (ks.map (·.1)).Nodup → ks[i]? = some p → valV (DY.kvI ks) (.inl p.1) = some (.int p.2)
  | x :: r, 0, p, _, h => by
    cases h
    exact valV_pos rfl
  | x :: r, i + 1, p, n, h => by
    obtain ⟨n1, n2⟩ := List.nodup_cons.mp n
    have h : r[i]? = some p := h
    have ne : ¬ (Sum.inl x.1 : Key) = .inl p.1 := fun z => n1 (by show x.1 ∈ _; rw [Sum.inl.inj z]; exact List.mem_map_of_mem (List.mem_of_getElem? h))
    show valV ((.inl x.1, .int x.2) :: DY.kvI r) _ = _
    rw [valV_neg ne]
    exact kvI_at n2 h
theorem kvI_put {ks : List (Int × Int)} {i : Nat} {p : Int × Int} (n : (ks.map (·.1)).Nodup) (h : ks[i]? = some p) : putK (DY.kvI (ks.take i)) (.inl p.1) (.int p.2) = DY.kvI (ks.take (i + 1)) := by
  have e : ks.take (i + 1) = ks.take i ++ [p] := by rw [List.take_add_one, h]; rfl
  have n2 : ((ks.take (i + 1)).map (·.1)).Nodup := ((List.take_sublist _ _).map _).nodup n
  rw [e] at n2 ⊢
  rw [List.map_append, List.nodup_append] at n2
  have hn : p.1 ∉ (ks.take i).map (·.1) := fun z => n2.2.2 _ z _ List.mem_cons_self rfl
  unfold putK
  rw [if_neg (by rw [valV_any, kvI_none hn]; decide)]
  unfold DY.kvI
  rw [List.map_append]
  rfl
section
variable {P : Program} {w : World} {K : PySem.W.Frag} {mg : Str → Option Value} {base : Heap}
theorem ok_kf {f : Addr} {fd : FuncData} (F : Fun K "_kept" "_kept" s_kept f fd) (T : Tx mg) : FnOk P w K mg base CX0 1 f fd ["value"] spKf := by
  refine F.ok sc_kept (fun vs H Q E h => ?_) (fun cdv A outer s H vs Q E hr h => ?_)
  · obtain ⟨v, d, rfl, _⟩ := h
    rfl
  · obtain ⟨v, d, rfl, hv, q⟩ := h
    refine ⟨_, (pss_cons (ps_if (pt_val (pe_callB call_isi (by rfl) T.isinstance PyProof.Rows.boot_isinstance (pa_cons (pv 0) (pa_cons (pe_bltn (v := .ty "list") (by rfl) T.list PyProof.Rows.boot_list rfl) pa_nil)))) (pss_one ps_never) pss_nil)
      (pss_cons (ps_if (pt_val (pe_callB call_isi (by rfl) T.isinstance PyProof.Rows.boot_isinstance (pa_cons (pv 0) (pa_cons (pe_bltn (v := .ty "tuple") (by rfl) T.tuple PyProof.Rows.boot_tuple rfl) pa_nil)))) (pss_one ps_never) pss_nil)
      (pss_cons (ps_if (pt_val (pe_callB call_isi (by rfl) T.isinstance PyProof.Rows.boot_isinstance (pa_cons (pv 0) (pa_cons (pe_bltn (v := .ty "dict") (by rfl) T.dict PyProof.Rows.boot_dict rfl) pa_nil)))) (pss_one ps_never) pss_nil)
      (pss_one (ps_ret (pv 0)))))), ?_⟩
    obtain ⟨t, ty, k1, k2, k3⟩ := hv.kinds (K := K) H
    refine ⟨_, rfl, _, _, _, _, false, rfl, .ty _, ty, k1, false, rfl, iteF ?_⟩
    refine ⟨_, rfl, _, _, _, _, false, rfl, .ty _, ty, k2, false, rfl, iteF ?_⟩
    refine ⟨_, rfl, _, _, _, _, false, rfl, .ty _, ty, k3, false, rfl, iteF ?_⟩
    exact ⟨_, rfl, q⟩
theorem ok_kept {f : Addr} {fd : FuncData} (F : Fun K "_kept" "_kept" s_kept f fd) (T : Tx mg) (c_kept : Kn P w K mg base "_kept" ["value"] 1 spKf) : FnOk P w K mg base CX0 2 f fd ["value"] spKept := by
  refine F.ok sc_kept (fun vs H Q E h => ?_) (fun cdv A outer s H vs Q E hr h => ?_)
  · obtain ⟨v, d, rfl, _⟩ := h
    rfl
  · obtain ⟨v, d, rfl, hv, q⟩ := h
    refine ⟨_, (pss_cons (ps_if (pt_val (pe_callB call_isi (by rfl) T.isinstance PyProof.Rows.boot_isinstance (pa_cons (pv 0) (pa_cons (pe_bltn (v := .ty "list") (by rfl) T.list PyProof.Rows.boot_list rfl) pa_nil)))) (pss_one (ps_ret (pe_lc (own := [("part", 1)]) (g := gName 1) (tt := tYes) rfl sc_kept.nd (pi_list (pv 0)) (blkOk_by (N := N_kept) (sc := defScope s_kept) (by decide +kernel)) (fun _ _ _ _ _ => (pg_name (i := 1) sc_kept.nd rfl (Or.inl rfl))) (fun _ _ _ _ _ => pts_nil) (fun _ _ _ _ _ => (pe_call c_kept.ok (hr.mono (by decide)) (by rfl) c_kept.g c_kept.kp c_kept.b .nil pass0 (pa_cons (pv 1) pa_nil)))))) pss_nil)
      (pss_cons (ps_if (pt_val (pe_callB call_isi (by rfl) T.isinstance PyProof.Rows.boot_isinstance (pa_cons (pv 0) (pa_cons (pe_bltn (v := .ty "tuple") (by rfl) T.tuple PyProof.Rows.boot_tuple rfl) pa_nil)))) (pss_one (ps_ret (pe_callTy call_tuple_of (by rfl) T.tuple PyProof.Rows.boot_tuple (pa_cons (pe_lc (own := [("part", 1)]) (g := gName 1) (tt := tYes) rfl sc_kept.nd (pi_tup (pv 0)) (blkOk_by (N := N_kept) (sc := defScope s_kept) (by decide +kernel)) (fun _ _ _ _ _ => (pg_name (i := 1) sc_kept.nd rfl (Or.inl rfl))) (fun _ _ _ _ _ => pts_nil) (fun _ _ _ _ _ => (pe_call c_kept.ok (hr.mono (by decide)) (by rfl) c_kept.g c_kept.kp c_kept.b .nil pass0 (pa_cons (pv 1) pa_nil)))) pa_nil)))) pss_nil)
      (pss_cons (ps_if (pt_val (pe_callB call_isi (by rfl) T.isinstance PyProof.Rows.boot_isinstance (pa_cons (pv 0) (pa_cons (pe_bltn (v := .ty "dict") (by rfl) T.dict PyProof.Rows.boot_dict rfl) pa_nil)))) (pss_one (ps_ret (pe_lock (pe_dc (own := [("key", 2)]) (g := gName 2) (tt := tYes) rfl sc_kept.nd (pi_keys (pv 0)) (blkOk_by (N := N_kept) (sc := defScope s_kept) (by decide +kernel)) (fun _ _ _ _ _ => (pg_name (i := 2) sc_kept.nd rfl (Or.inl rfl))) (fun _ _ _ _ _ => pts_nil) (fun _ _ _ _ _ => (pv 2)) (fun _ _ _ _ _ => (pe_call c_kept.ok (hr.mono (by decide)) (by rfl) c_kept.g c_kept.kp c_kept.b .nil pass0 (pa_cons (pe_dget (hu_of hr) (pv 0) (pv 2) (fun _ _ => rfl)) pa_nil))))))) pss_nil)
      (pss_one (ps_ret (pv 0)))))), ?_⟩
    cases hv with
    | flat hv =>
      obtain ⟨t, ty, k1, k2, k3⟩ := hv.kinds (K := K) H
      refine ⟨_, rfl, _, _, _, _, false, rfl, .ty _, ty, k1, false, rfl, iteF ?_⟩
      refine ⟨_, rfl, _, _, _, _, false, rfl, .ty _, ty, k2, false, rfl, iteF ?_⟩
      refine ⟨_, rfl, _, _, _, _, false, rfl, .ty _, ty, k3, false, rfl, iteF ?_⟩
      exact ⟨_, rfl, q _ _ (Ex.refl _) (.flat hv)⟩
    | @lst a xs ds ha fx hl =>
      refine ⟨_, rfl, _, _, _, _, true, rfl, .ty _, .base (.lst ha), kl_l, true, rfl, iteT ?_⟩
      refine ⟨_, rfl, a, rfl, ⟨_, sq_of ha⟩, fun D hD => ?_⟩
      refine lc_list (fun i H' => Ex H H' ∧ H D = none ∧ H' D = some (.lst (xs.take i))) ⟨Ex.new hD, hD, upd_same⟩ (fun i H' _ p => sq_of (p.1 _ _ ha)) (fun i x H' hx p => ?_) (fun H' p => ?_)
      · obtain ⟨e, h0, hz⟩ := p
        obtain ⟨d, fd⟩ := fx.get hx
        refine ⟨rfl, ?_⟩
        refine ⟨_, rfl, _, _, rfl, fd, _, hz, ?_, e.mut h0, h0, ?_⟩
        · rw [List.length_take]
          exact Nat.lt_of_le_of_lt (Nat.min_le_right _ _) (Nat.lt_of_le_of_lt hl (by decide))
        · rw [upd_same, List.take_add_one, hx]
          rfl
      · obtain ⟨e, h0, hz⟩ := p
        rw [List.take_length] at hz
        exact q _ _ e (.lst hz fx hl)
    | @tup a xs ds ha fx hl =>
      refine ⟨_, rfl, _, _, _, _, false, rfl, .ty _, .base (.tup ha), kt_l, false, rfl, iteF ?_⟩
      refine ⟨_, rfl, _, _, _, _, true, rfl, .ty _, .base (.tup ha), kt_t, true, rfl, iteT ?_⟩
      refine ⟨_, rfl, a, rfl, ⟨_, st_of ha⟩, fun D hD => ?_⟩
      refine lc_tup (fun i H' => Ex H H' ∧ H D = none ∧ H' D = some (.lst (xs.take i))) ⟨Ex.new hD, hD, upd_same⟩ (fun i H' _ p => st_of (p.1 _ _ ha)) (fun i x H' hx p => ?_) (fun H' p => ?_)
      · obtain ⟨e, h0, hz⟩ := p
        obtain ⟨d, fd⟩ := fx.get hx
        refine ⟨rfl, ?_⟩
        refine ⟨_, rfl, _, _, rfl, fd, _, hz, ?_, e.mut h0, h0, ?_⟩
        · rw [List.length_take]
          exact Nat.lt_of_le_of_lt (Nat.min_le_right _ _) (Nat.lt_of_le_of_lt hl (by decide))
        · rw [upd_same, List.take_add_one, hx]
          rfl
      · obtain ⟨e, h0, hz⟩ := p
        rw [List.take_length] at hz
        refine ⟨D, _, rfl, .inl ⟨sq_of hz, fun p hp => ?_⟩⟩
        exact q _ _ (e.trans (Ex.new hp)) (.tup upd_same fx hl)
    | @emp a ha =>
      refine ⟨_, rfl, _, _, _, _, false, rfl, .ty _, .base (.dK ha), kd_l, false, rfl, iteF ?_⟩
      refine ⟨_, rfl, _, _, _, _, false, rfl, .ty _, .base (.dK ha), kd_t, false, rfl, iteF ?_⟩
      refine ⟨_, rfl, _, _, _, _, true, rfl, .ty _, .base (.dK ha), kd_d, true, rfl, iteT ?_⟩
      refine ⟨a, _, ha, True.intro, fun od => ?_⟩
      refine ⟨_, rfl, a, od, rfl, .inl ⟨[], upd_same, fun D hD => ⟨fun i m H' => i = 0 ∧ H' = upd (upd H a (.frz od (.dK []))) D (.dK []), ⟨0, rfl, rfl⟩, ?_⟩⟩⟩
      rintro i m H' ⟨rfl, rfl⟩
      have ne : D ≠ a := fun z => by
        rw [z, upd_same] at hD
        cases hD
      have hD2 : H D = none := by
        rw [upd_ne ne] at hD
        exact hD
      have hfz : (upd (upd H a (.frz od (.dK []))) D (.dK [])) a = some (.frz od (.dK [])) := by
        rw [upd_ne ne.symm, upd_same]
      refine .inl ⟨⟨hfz, Nat.le_refl _⟩, hfz, ?_⟩
      refine q _ _ (fun b o e => ?_) (.emp (by rw [upd_ne ne, upd_same]))
      by_cases hb : b = a
      · subst hb
        rw [upd_same, ← ha, e]
      · rw [upd_ne hb, upd_ne (fun z => by rw [z, hD2] at e; cases e), upd_ne hb]
        exact e
    | @one a k n ha =>
      refine ⟨_, rfl, _, _, _, _, false, rfl, .ty _, .base (.dK ha), kd_l, false, rfl, iteF ?_⟩
      refine ⟨_, rfl, _, _, _, _, false, rfl, .ty _, .base (.dK ha), kd_t, false, rfl, iteF ?_⟩
      refine ⟨_, rfl, _, _, _, _, true, rfl, .ty _, .base (.dK ha), kd_d, true, rfl, iteT ?_⟩
      refine ⟨a, _, ha, True.intro, fun od => ?_⟩
      refine ⟨_, rfl, a, od, rfl, .inl ⟨[(.inr k, .int n)], upd_same, fun D hD => ⟨fun i m H' => (i = 0 ∧ m = 1 ∧ H' = upd (upd H a (.frz od (.dK [(.inr k, .int n)]))) D (.dK [])) ∨ (i = 1 ∧ m = 0 ∧ H' = upd (upd H a (.frz od (.dK [(.inr k, .int n)]))) D (.dK [(.inr k, .int n)])), ⟨1, .inl ⟨rfl, rfl, rfl⟩⟩, ?_⟩⟩⟩
      have ne : D ≠ a := fun z => by
        rw [z, upd_same] at hD
        cases hD
      have hD2 : H D = none := by
        rw [upd_ne ne] at hD
        exact hD
      have hfz : ∀ o, (upd (upd H a (.frz od (.dK [(.inr k, .int n)]))) D o) a = some (.frz od (.dK [(.inr k, .int n)])) := fun o => by
        rw [upd_ne ne.symm, upd_same]
      rintro i m H' (⟨rfl, rfl, rfl⟩ | ⟨rfl, rfl, rfl⟩)
      · refine .inr ⟨⟨hfz _, by show 0 < 1; decide⟩, fun H' => H' = upd (upd H a (.frz od (.dK [(.inr k, .int n)]))) D (.dK [(.inr k, .int n)]), fun H' h => ⟨0, by omega, .inr ⟨rfl, rfl, h⟩⟩, ?_⟩
        rintro x H' ⟨rfl, kk, vv, hkv, rfl⟩
        cases hkv
        refine ⟨rfl, ?_⟩
        refine ⟨_, rfl, _, rfl, _, rfl, a, .int n, rfl, .inl ⟨_, .inr k, .inr ⟨od, hfz _⟩, rfl, ?_⟩, _, _, rfl, .int n, [], .inr k, rfl, upd_same, by show 0 < sizeLine; decide, ?_⟩
        · simp [valV]
        · rw [upd_upd]
          rfl
      · refine .inl ⟨⟨hfz _, Nat.le_refl _⟩, hfz _, ?_⟩
        refine q _ _ (fun b o e => ?_) (.one (by rw [upd_ne ne, upd_same]))
        by_cases hb : b = a
        · subst hb
          rw [upd_same, ← ha, e]
        · rw [upd_ne hb, upd_ne (fun z => by rw [z, hD2] at e; cases e), upd_ne hb]
          exact e
    | @dks a ks ha nk lk =>
      refine ⟨_, rfl, _, _, _, _, false, rfl, .ty _, .base (.dK ha), kd_l, false, rfl, iteF ?_⟩
      refine ⟨_, rfl, _, _, _, _, false, rfl, .ty _, .base (.dK ha), kd_t, false, rfl, iteF ?_⟩
      refine ⟨_, rfl, _, _, _, _, true, rfl, .ty _, .base (.dK ha), kd_d, true, rfl, iteT ?_⟩
      refine ⟨a, _, ha, True.intro, fun od => ?_⟩
      refine ⟨_, rfl, a, od, rfl, .inl ⟨DY.kvI ks, upd_same, fun D hD => ⟨fun i m H' => i + m = ks.length ∧ H' = upd (upd H a (.frz od (.dK (DY.kvI ks)))) D (.dK (DY.kvI (ks.take i))), ⟨ks.length, by omega, rfl⟩, ?_⟩⟩⟩
      have ne : D ≠ a := fun z => by
        rw [z, upd_same] at hD
        cases hD
      have hD2 : H D = none := by
        rw [upd_ne ne] at hD
        exact hD
      have hfz : ∀ o, (upd (upd H a (.frz od (.dK (DY.kvI ks)))) D o) a = some (.frz od (.dK (DY.kvI ks))) := fun o => by
        rw [upd_ne ne.symm, upd_same]
      have lv : (DY.kvI ks).length = ks.length := by unfold DY.kvI; rw [List.length_map]
      rintro i m H' ⟨hm, rfl⟩
      by_cases q0 : m = 0
      · have ei : i = ks.length := by omega
        subst ei
        rw [List.take_length]
        refine .inl ⟨⟨hfz _, by rw [lv]; exact Nat.le_refl _⟩, hfz _, ?_⟩
        refine q _ _ (fun b o e => ?_) (.dks (by rw [upd_ne ne, upd_same]) nk lk)
        by_cases hb : b = a
        · subst hb
          rw [upd_same, ← ha, e]
        · rw [upd_ne hb, upd_ne (fun z => by rw [z, hD2] at e; cases e), upd_ne hb]
          exact e
      · refine .inr ⟨⟨hfz _, by rw [lv]; omega⟩, fun H' => H' = upd (upd H a (.frz od (.dK (DY.kvI ks)))) D (.dK (DY.kvI (ks.take (i + 1)))), fun H' h => ⟨m - 1, by omega, by omega, h⟩, ?_⟩
        rintro x H' ⟨rfl, kk, vv, hkv, rfl⟩
        have hi : i < ks.length := by omega
        obtain ⟨p, hp⟩ : ∃ p, ks[i]? = some p := ⟨_, List.getElem?_eq_getElem hi⟩
        have hkv2 : (DY.kvI ks)[i]? = some (.inl p.1, .int p.2) := by unfold DY.kvI; rw [List.getElem?_map, hp]; rfl
        rw [hkv2] at hkv
        cases hkv
        refine ⟨rfl, ?_⟩
        refine ⟨_, rfl, _, rfl, _, rfl, a, .int p.2, rfl, .inl ⟨_, .inl p.1, .inr ⟨od, hfz _⟩, rfl, ?_⟩, _, _, rfl, .int p.2, DY.kvI (ks.take i), .inl p.1, rfl, upd_same, ?_, ?_⟩
        · exact (kvI_at nk hp).symm
        · unfold DY.kvI
          rw [List.length_map, List.length_take]
          exact Nat.lt_of_le_of_lt (Nat.min_le_right _ _) (Nat.lt_of_le_of_lt lk (by decide))
        · rw [upd_upd, kvI_put nk hp]
end
/-- what the __init__ of an error leaves -/
def ErE (H : Hp) (a C : Addr) (fs : List (Str × V)) (H' : Hp) : Prop := ∃ dx, H' a = some (exo a C (some dx)) ∧ H' dx = some (exd dx fs) ∧ H dx = none ∧ dx ≠ a ∧ ∀ b o, H b = some o → b ≠ a → H' b = some o
/-- the error stands -/
structure Ers (H : Hp) (a C dx : Addr) (fs : List (Str × V)) (H' : Hp) : Prop where
  o : H' a = some (exo a C (some dx))
  x : H' dx = some (exd dx fs)
  n : H dx = none
  ne : dx ≠ a
  k : ∀ b o, H b = some o → b ≠ a → H' b = some o
theorem AV.keep {H H' : Hp} {a C : Addr} {d : Option Addr} {v : V} {x : PyData} (h : AV H v x) (ha : H a = some (exo a C d)) (k : ∀ b o, H b = some o → b ≠ a → H' b = some o) : AV H' v x := by
  cases h with
  | flat f => exact .flat f
  | tup h f l => exact .tup (k _ _ h (fun z => by rw [z, ha] at h; cases h)) f l
  | lst h f l => exact .lst (k _ _ h (fun z => by rw [z, ha] at h; cases h)) f l
  | emp h => exact .emp (k _ _ h (fun z => by rw [z, ha] at h; cases h))
  | one h => exact .one (k _ _ h (fun z => by rw [z, ha] at h; cases h))
  | dks h n l => exact .dks (k _ _ h (fun z => by rw [z, ha] at h; cases h)) n l
theorem ers_new {H H1 : Hp} {a C dx : Addr} {f : Str} {v : V} (ha : H a = some (exo a C none)) (e : Ex H H1) (hd : H1 dx = none) (hne : dx ≠ a) : Ers H a C dx [(f, v)] (upd (upd H1 dx (exd dx [(f, v)])) a (exo a C (some dx))) where
  o := upd_same
  x := by rw [upd_ne hne, upd_same]
  n := by
    cases q : H dx with
    | none => rfl
    | some o =>
      have := e _ _ q
      rw [hd] at this
      cases this
  ne := hne
  k := fun b o z nb => by
    have z1 := e _ _ z
    rw [upd_ne nb, upd_ne (fun y => by rw [y, hd] at z1; cases z1)]
    exact z1
theorem ers_put {H H1 H2 : Hp} {a C dx : Addr} {f : Str} {v : V} {fs : List (Str × V)} (E : Ers H a C dx fs H1) (e : Ex H1 H2) : Ers H a C dx ((f, v) :: fs) (upd H2 dx (exd dx ((f, v) :: fs))) where
  o := by rw [upd_ne E.ne.symm]; exact e _ _ E.o
  x := upd_same
  n := E.n
  ne := E.ne
  k := fun b o z nb => by
    rw [upd_ne (fun y => by rw [y, E.n] at z; cases z)]
    exact e _ _ (E.k b o z nb)
/-- a value that stood when the first field was stored -/
theorem AV.over {H : Hp} {dx : Addr} {x : PyData} {fs gs : List (Str × V)} {v : V} (h : AV H v x) (hd : H dx = some (exd dx gs)) : AV (upd H dx (exd dx fs)) v x := by
  have ne : ∀ {b : Addr} {o : HO}, H b = some o → (∀ z : exd dx gs = o, False) → b ≠ dx := fun hb hn z => by
    rw [z, hd] at hb
    exact hn (Option.some.inj hb)
  cases h with
  | flat f => exact .flat f
  | tup h f l => exact .tup (by rw [upd_ne (ne h (fun z => by cases z))]; exact h) f l
  | lst h f l => exact .lst (by rw [upd_ne (ne h (fun z => by cases z))]; exact h) f l
  | emp h => exact .emp (by rw [upd_ne (ne h (fun z => by cases z))]; exact h)
  | one h => exact .one (by rw [upd_ne (ne h (fun z => by cases z))]; exact h)
  | dks h n l => exact .dks (by rw [upd_ne (ne h (fun z => by cases z))]; exact h) n l
theorem AV.newx {H : Hp} {a C dx : Addr} {fs : List (Str × V)} {v : V} {x : PyData} (h : AV H v x) (ha : H a = some (exo a C none)) (hd : H dx = none) : AV (upd (upd H dx (exd dx fs)) a (exo a C (some dx))) v x :=
  h.keep ha fun b o z nb => by
    rw [upd_ne nb, upd_ne (fun y => by rw [y, hd] at z; cases z)]
    exact z
def spE1 (C : Addr) (f : Str) : Sp := fun vs H Q _ => ∃ a v d, vs = [.ref a, v] ∧ H a = some (exo a C none) ∧ AV H v d ∧ ∀ dx v' H', Ers H a C dx [(f, v')] H' → AV H' v' d → Q .non H'
def spE2 (C : Addr) (f g : Str) : Sp := fun vs H Q _ => ∃ a v d u e, vs = [.ref a, v, u] ∧ H a = some (exo a C none) ∧ AV H v d ∧ AV H u e ∧ ∀ dx v' u' H', Ers H a C dx [(g, u'), (f, v')] H' → AV H' v' d → AV H' u' e → Q .non H'
def spE3 (C : Addr) (f g h : Str) : Sp := fun vs H Q _ => ∃ a v d u e w b, vs = [.ref a, v, u, w] ∧ H a = some (exo a C none) ∧ AV H v d ∧ AV H u e ∧ AV H w b ∧ ∀ dx v' u' w' H', Ers H a C dx [(h, w'), (g, u'), (f, v')] H' → AV H' v' d → AV H' u' e → AV H' w' b → Q .non H'
/-- the base -/
structure BaseC (K : PySem.W.Frag) (mg : Str → Option Value) (C0 : Addr) : Prop where
  g : mg "SkipsError" = some (.ref C0)
  r : ClX.CRead K C0 (.type "type")
  v : PySem.W.findCls K (.ref C0) (.type "type") "__init__" = some (.val (.builtin "ValueError.__init__"))
section
variable {P : Program} {w : World} {K : PySem.W.Frag} {mg : Str → Option Value} {base : Heap}
theorem ok_BadLetters {f C C0 : Addr} {fd : FuncData} (F : Fun K "__init__" "BadLetters.__init__" s_BadLetters_init f fd) (T : Tx mg) (B0 : BaseC K mg C0) (O : OexC K C) (N : PySem.W.findIn K (.ref C) "letters" = some none) (c_kept : Kn P w K mg base "_kept" ["value"] 2 spKept) :
    FnOk P w K mg base CX0 3 f fd ["self", "letters"] (spE1 C "letters") := by
  refine F.ok sc_BadLetters_init (fun vs H Q E h => ?_) (fun cdv A outer s H vs Q E hr h => ?_)
  · obtain ⟨a, v, d, rfl, _⟩ := h
    rfl
  · obtain ⟨a, v, d, rfl, ha, hv, q⟩ := h
    obtain ⟨g_SkipsError, R_SkipsError, V_SkipsError⟩ := B0
    refine ⟨_, (pss_cons (ps_expr (EK.pe_skinit (by rfl) g_SkipsError R_SkipsError V_SkipsError (pa_cons (pv 0) (pa_cons pe_str pa_nil))))
      (pss_one (ps_ost (pv 0) (pe_call c_kept.ok (hr.mono (by decide)) (by rfl) c_kept.g c_kept.kp c_kept.b .nil pass0 (pa_cons (pv 1) pa_nil))))), ?_⟩
    refine ⟨_, rfl, a, C, _, rfl, by show 1 ≤ 1000; decide, O, ha, ?_⟩
    refine ⟨_, rfl, v, d, rfl, hv, fun v' H1 e1 hv1 => ⟨_, rfl, a, C, rfl, O, N, .inl ⟨e1 _ _ ha, fun dx hd hne => ?_⟩⟩⟩
    exact q dx v' _ (ers_new ha e1 hd hne) (hv1.newx (e1 _ _ ha) hd)
theorem ok_BadWords {f C C0 : Addr} {fd : FuncData} (F : Fun K "__init__" "BadWords.__init__" s_BadWords_init f fd) (T : Tx mg) (B0 : BaseC K mg C0) (O : OexC K C) (N : PySem.W.findIn K (.ref C) "place" = some none) (c_kept : Kn P w K mg base "_kept" ["value"] 2 spKept) :
    FnOk P w K mg base CX0 3 f fd ["self", "place"] (spE1 C "place") := by
  refine F.ok sc_BadWords_init (fun vs H Q E h => ?_) (fun cdv A outer s H vs Q E hr h => ?_)
  · obtain ⟨a, v, d, rfl, _⟩ := h
    rfl
  · obtain ⟨a, v, d, rfl, ha, hv, q⟩ := h
    obtain ⟨g_SkipsError, R_SkipsError, V_SkipsError⟩ := B0
    refine ⟨_, (pss_cons (ps_expr (EK.pe_skinit (by rfl) g_SkipsError R_SkipsError V_SkipsError (pa_cons (pv 0) (pa_cons pe_str pa_nil))))
      (pss_one (ps_ost (pv 0) (pe_call c_kept.ok (hr.mono (by decide)) (by rfl) c_kept.g c_kept.kp c_kept.b .nil pass0 (pa_cons (pv 1) pa_nil))))), ?_⟩
    refine ⟨_, rfl, a, C, _, rfl, by show 1 ≤ 1000; decide, O, ha, ?_⟩
    refine ⟨_, rfl, v, d, rfl, hv, fun v' H1 e1 hv1 => ⟨_, rfl, a, C, rfl, O, N, .inl ⟨e1 _ _ ha, fun dx hd hne => ?_⟩⟩⟩
    exact q dx v' _ (ers_new ha e1 hd hne) (hv1.newx (e1 _ _ ha) hd)
theorem ok_BadOrder {f C C0 : Addr} {fd : FuncData} (F : Fun K "__init__" "BadOrder.__init__" s_BadOrder_init f fd) (T : Tx mg) (B0 : BaseC K mg C0) (O : OexC K C) (N : PySem.W.findIn K (.ref C) "order" = some none) (c_kept : Kn P w K mg base "_kept" ["value"] 2 spKept) :
    FnOk P w K mg base CX0 3 f fd ["self", "order"] (spE1 C "order") := by
  refine F.ok sc_BadOrder_init (fun vs H Q E h => ?_) (fun cdv A outer s H vs Q E hr h => ?_)
  · obtain ⟨a, v, d, rfl, _⟩ := h
    rfl
  · obtain ⟨a, v, d, rfl, ha, hv, q⟩ := h
    obtain ⟨g_SkipsError, R_SkipsError, V_SkipsError⟩ := B0
    refine ⟨_, (pss_cons (ps_expr (EK.pe_skinit (by rfl) g_SkipsError R_SkipsError V_SkipsError (pa_cons (pv 0) (pa_cons pe_str pa_nil))))
      (pss_one (ps_ost (pv 0) (pe_call c_kept.ok (hr.mono (by decide)) (by rfl) c_kept.g c_kept.kp c_kept.b .nil pass0 (pa_cons (pv 1) pa_nil))))), ?_⟩
    refine ⟨_, rfl, a, C, _, rfl, by show 1 ≤ 1000; decide, O, ha, ?_⟩
    refine ⟨_, rfl, v, d, rfl, hv, fun v' H1 e1 hv1 => ⟨_, rfl, a, C, rfl, O, N, .inl ⟨e1 _ _ ha, fun dx hd hne => ?_⟩⟩⟩
    exact q dx v' _ (ers_new ha e1 hd hne) (hv1.newx (e1 _ _ ha) hd)
theorem ok_TooMany {f C C0 : Addr} {fd : FuncData} (F : Fun K "__init__" "TooMany.__init__" s_TooMany_init f fd) (T : Tx mg) (B0 : BaseC K mg C0) (O : OexC K C) (N1 : PySem.W.findIn K (.ref C) "what" = some none) (N2 : PySem.W.findIn K (.ref C) "many" = some none) (N3 : PySem.W.findIn K (.ref C) "most" = some none)
    (c_kept : Kn P w K mg base "_kept" ["value"] 2 spKept) : FnOk P w K mg base CX0 3 f fd ["self", "what", "many", "most"] (spE3 C "what" "many" "most") := by
  refine F.ok sc_TooMany_init (fun vs H Q E h => ?_) (fun cdv A outer s H vs Q E hr h => ?_)
  · obtain ⟨a, v, d, u, e, z, b, rfl, _⟩ := h
    rfl
  · obtain ⟨a, v, d, u, e, z, b, rfl, ha, hv, hu, hz, q⟩ := h
    obtain ⟨g_SkipsError, R_SkipsError, V_SkipsError⟩ := B0
    refine ⟨_, (pss_cons (ps_expr (EK.pe_skinit (by rfl) g_SkipsError R_SkipsError V_SkipsError (pa_cons (pv 0) (pa_cons pe_str pa_nil))))
      (pss_cons (ps_ost (pv 0) (pe_call c_kept.ok (hr.mono (by decide)) (by rfl) c_kept.g c_kept.kp c_kept.b .nil pass0 (pa_cons (pv 1) pa_nil)))
      (pss_cons (ps_ost (pv 0) (pe_call c_kept.ok (hr.mono (by decide)) (by rfl) c_kept.g c_kept.kp c_kept.b .nil pass0 (pa_cons (pv 2) pa_nil)))
      (pss_one (ps_ost (pv 0) (pe_call c_kept.ok (hr.mono (by decide)) (by rfl) c_kept.g c_kept.kp c_kept.b .nil pass0 (pa_cons (pv 3) pa_nil))))))), ?_⟩
    refine ⟨_, rfl, a, C, _, rfl, by show 1 ≤ 1000; decide, O, ha, ?_⟩
    refine ⟨_, rfl, v, d, rfl, hv, fun v' H1 e1 hv1 => ⟨_, rfl, a, C, rfl, O, N1, .inl ⟨e1 _ _ ha, fun dx hd hne => ?_⟩⟩⟩
    have E1 := ers_new (f := "what") (v := v') ha e1 hd hne
    have hv2 := hv1.newx (fs := [("what", v')]) (e1 _ _ ha) hd
    refine ⟨_, rfl, u, e, rfl, hu.keep ha E1.k, fun u' H3 e3 hu3 => ⟨_, rfl, a, C, rfl, O, N2, .inr ⟨dx, _, e3 _ _ E1.o, e3 _ _ E1.x, by show 1 ≤ 900; decide, ?_⟩⟩⟩
    have E2 := ers_put (f := "many") (v := u') E1 e3
    have hv4 := (hv2.ex e3).over (fs := [("many", u'), ("what", v')]) (e3 _ _ E1.x)
    have hu4 := hu3.over (fs := [("many", u'), ("what", v')]) (e3 _ _ E1.x)
    refine ⟨_, rfl, z, b, rfl, hz.keep ha E2.k, fun z' H5 e5 hz5 => ⟨_, rfl, a, C, rfl, O, N3, .inr ⟨dx, _, e5 _ _ E2.o, e5 _ _ E2.x, by show 2 ≤ 900; decide, ?_⟩⟩⟩
    exact q dx v' u' z' _ (ers_put E2 e5) ((hv4.ex e5).over (e5 _ _ E2.x)) ((hu4.ex e5).over (e5 _ _ E2.x)) (hz5.over (e5 _ _ E2.x))
end
theorem AV.via {H H' : Hp} {v : V} {x : PyData} (h : AV H v x) (k : ∀ b o, H b = some o → (∀ xs, o = .tup xs → H' b = some o) ∧ (∀ xs, o = .lst xs → H' b = some o) ∧ (∀ xs, o = .dK xs → H' b = some o)) : AV H' v x := by
  cases h with
  | flat f => exact .flat f
  | tup h f l => exact .tup ((k _ _ h).1 _ rfl) f l
  | lst h f l => exact .lst ((k _ _ h).2.1 _ rfl) f l
  | emp h => exact .emp ((k _ _ h).2.2 _ rfl)
  | one h => exact .one ((k _ _ h).2.2 _ rfl)
  | dks h n l => exact .dks ((k _ _ h).2.2 _ rfl) n l
theorem raise_endN {H1 H2 : Hp} {a C dx : Addr} {fs : List (Str × V)} {E : XK} (ha : H1 a = none) (e : Ers (upd H1 a (exo a C none)) a C dx fs H2)
    (q : ∀ d H', Ex H1 H' → H1 d = none → H' d = some (.xd fs) → (∀ v x, AV H2 v x → AV H' v x) → E (.ref C) (some d) H') :
    V.non = .non ∧ ∃ (d : Addr) (fs' : List (Str × V)), H2 a = some (exo a C (some d)) ∧ H2 d = some (exd d fs') ∧ H1 d = none ∧ E (.ref C) (some d) (upd (del H2 a) d (.xd fs')) := by
  have hd : H1 dx = none := by
    have := e.n
    rw [upd_ne e.ne] at this
    exact this
  have keep : ∀ b o, H2 b = some o → b ≠ a → b ≠ dx → (upd (del H2 a) dx (.xd fs)) b = some o := fun b o h n1 n2 => by
    rw [upd_ne n2, del_ne n1]
    exact h
  refine ⟨rfl, dx, _, e.o, e.x, hd, q dx _ (fun b o h => ?_) hd upd_same fun v x hv => ?_⟩
  · have nb : b ≠ a := fun z => by rw [z, ha] at h; cases h
    have nx : b ≠ dx := fun z => by rw [z, hd] at h; cases h
    exact keep b o (e.k b o (by rw [upd_ne nb]; exact h) nb) nb nx
  · refine hv.via fun b o h => ?_
    have go : (∀ z : exo a C (some dx) = o, False) → (∀ z : exd dx fs = o, False) → (upd (del H2 a) dx (.xd fs)) b = some o := fun h1 h2 => by
      refine keep b o h (fun z => ?_) (fun z => ?_)
      · rw [z, e.o] at h
        exact h1 (Option.some.inj h)
      · rw [z, e.x] at h
        exact h2 (Option.some.inj h)
    refine ⟨fun xs z => ?_, fun xs z => ?_, fun xs z => ?_⟩ <;> subst z <;> exact go (fun z => by cases z) (fun z => by cases z)
structure ErrC (K : PySem.W.Frag) (C f C0 : Addr) : Prop where
  o : OexC K C
  i : PySem.W.findIn K (.ref C) "__init__" = some (some (.ref f))
  t : PySem.W.typeIn K (.ref f) = some (.type "function")
  x : XfC K C
  e : ExcC K C
  s : PySem.W.kitOne K (.ref C) (.ref C0) = some true
structure Kn' (P : Program) (w : World) (K : PySem.W.Frag) (mg : Str → Option Value) (base : Heap) (CX : CXT) (x : Str) (ps : List Str) (k : Nat) (sp : Sp) where
  f : Addr
  fd : FuncData
  ok : FnOk P w K mg base CX k f fd ps sp
  g : mg x = some (.ref f)
  kp : PySem.W.keepIn K (.ref f) = true
  b : Binds K fd ps []
theorem av_int {H : Hp} {v : V} {i : Int} (h : AV H v (.int i)) : v = .int i := by
  cases h with
  | flat f => cases f; rfl
theorem av_str {H : Hp} {v : V} {z : Str} (h : AV H v (.str z)) : v = .str z := by
  cases h with
  | flat f => cases f; rfl
/-- an error with one field, whose value is the data x -/
def RzD (E : XK) (H : Hp) (C : Addr) (f : Str) (x : PyData) : Prop := ∀ d v' H', Ex H H' → H d = none → H' d = some (.xd [(f, v')]) → AV H' v' x → E (.ref C) (some d) H'
theorem RzD.ex {E : XK} {H H' : Hp} {C : Addr} {f : Str} {x : PyData} (h : RzD E H C f x) (e : Ex H H') : RzD E H' C f x := fun d v' H2 e2 hd hx hv => h d v' H2 (e.trans e2) (fresh_back e hd) hx hv
/-- an error with its fields -/
def RzF (E : XK) (H : Hp) (C : Addr) (fs : List (Str × V)) : Prop := ∀ d H', Ex H H' → H d = none → H' d = some (.xd fs) → E (.ref C) (some d) H'
theorem RzF.ex {E : XK} {H H' : Hp} {C : Addr} {fs : List (Str × V)} (h : RzF E H C fs) (e : Ex H H') : RzF E H' C fs := fun d H2 e2 hd hx => h d H2 (e.trans e2) (fresh_back e hd) hx
end Law

namespace Law
open PySem PySem.Spec PyProof.Rows L2 Evl EK TR
theorem raise_endD {H1 H2 : Hp} {a C dx : Addr} {f : Str} {v' : V} {x : PyData} {E : XK} (ha : H1 a = none) (e : Ers (upd H1 a (exo a C none)) a C dx [(f, v')] H2) (hv : AV H2 v' x) (q : RzD E H1 C f x) :
    V.non = .non ∧ ∃ (d : Addr) (fs' : List (Str × V)), H2 a = some (exo a C (some d)) ∧ H2 d = some (exd d fs') ∧ H1 d = none ∧ E (.ref C) (some d) (upd (del H2 a) d (.xd fs')) := by
  have hd : H1 dx = none := by
    have := e.n
    rw [upd_ne e.ne] at this
    exact this
  have keep : ∀ b o, H2 b = some o → b ≠ a → b ≠ dx → (upd (del H2 a) dx (.xd [(f, v')])) b = some o := fun b o h n1 n2 => by
    rw [upd_ne n2, del_ne n1]
    exact h
  refine ⟨rfl, dx, _, e.o, e.x, hd, q dx v' _ (fun b o h => ?_) hd upd_same ?_⟩
  · have nb : b ≠ a := fun z => by rw [z, ha] at h; cases h
    have nx : b ≠ dx := fun z => by rw [z, hd] at h; cases h
    exact keep b o (e.k b o (by rw [upd_ne nb]; exact h) nb) nb nx
  · refine hv.via fun b o h => ?_
    have go : (∀ z : exo a C (some dx) = o, False) → (∀ z : exd dx [(f, v')] = o, False) → (upd (del H2 a) dx (.xd [(f, v')])) b = some o := fun h1 h2 => by
      refine keep b o h (fun z => ?_) (fun z => ?_)
      · rw [z, e.o] at h
        exact h1 (Option.some.inj h)
      · rw [z, e.x] at h
        exact h2 (Option.some.inj h)
    refine ⟨fun xs z => ?_, fun xs z => ?_, fun xs z => ?_⟩ <;> subst z <;> exact go (fun z => by cases z) (fun z => by cases z)
/-- letters that are none -/
def OddL (K : PySem.W.Frag) (H : Hp) (v : V) : Prop := (∃ x, v = .str (tx x) ∧ x.length < 500 ∧ areB x = false) ∨ NoS K H v
def spCheckG (K : PySem.W.Frag) (CL CW : Addr) : Sp := fun vs H Q E => ∃ (v : V) (a : Addr) (k : Bool) (xs : List V), vs = [v, .ref a] ∧ SQ.WQ H a k xs ∧
  ((∃ L es, v = .str (tx L) ∧ LG L ∧ Els K H xs es ∧ xs.length < 100 ∧ ∀ H', Ex H H' → (∀ i : Nat, badW L es = some i → RzD E H' CW "place" (.int i)) ∧ (badW L es = none → Q .non H')) ∨
   (∃ d, AV H v d ∧ OddL K H v ∧ ∀ H', Ex H H' → RzD E H' CL "letters" d))
section
variable {P : Program} {w : World} {K : PySem.W.Frag} {mg : Str → Option Value} {base : Heap} {C_BadLetters C_BadWords C_BadText C_BadWish fL fW fT fX C0 : Addr} {fdL fdW fdT fdX : FuncData}
theorem ok_checkG {f : Addr} {fd : FuncData} (F : Fun K "check_words" "check_words" s_check_words f fd) (T : Tx mg) (E1 : ErrC K C_BadLetters fL C0) (E2 : ErrC K C_BadWords fW C0) (g_BadLetters : mg "BadLetters" = some (.ref C_BadLetters)) (g_BadWords : mg "BadWords" = some (.ref C_BadWords))
    (I_BadLetters : FnOk P w K mg base CX0 3 fL fdL ["self", "letters"] (spE1 C_BadLetters "letters")) (B_BadLetters : Binds K fdL ["self", "letters"] []) (I_BadWords : FnOk P w K mg base CX0 3 fW fdW ["self", "place"] (spE1 C_BadWords "place")) (B_BadWords : Binds K fdW ["self", "place"] [])
    (c_are_letters : Kn P w K mg base "are_letters" ["value"] 1 (spAreG K)) (c_wrong_word : Kn P w K mg base "wrong_word" ["letters", "words"] 3 (spWWG K)) : FnOk P w K mg base (L2.CX P w) 5 f fd ["letters", "words"] (spCheckG K C_BadLetters C_BadWords) := by
  refine F.okX sc_check_words (fun vs H Q E h => ?_) (fun cdv A outer s H vs Q E hr h => ?_)
  · obtain ⟨v, a, k, xs, rfl, _⟩ := h
    rfl
  · obtain ⟨v, a, k, xs, rfl, ha, h⟩ := h
    obtain ⟨O_BadLetters, i_BadLetters, t_BadLetters, _, _, _⟩ := E1
    obtain ⟨O_BadWords, i_BadWords, t_BadWords, _, _, _⟩ := E2
    refine ⟨_, (pss_cons (ps_if (pt_not (pt_val (pe_call c_are_letters.ok (hr.mono (by decide)) (by rfl) c_are_letters.g c_are_letters.kp c_are_letters.b .nil pass0 (pa_cons (pv 0) pa_nil)))) (pss_one (ps_raise rfl (takes_of rfl rfl rfl rfl) (pmk_oex O_BadLetters i_BadLetters t_BadLetters I_BadLetters (hr.mono (by decide)) B_BadLetters .nil pass0 (by rfl) g_BadLetters (pa_cons (pv 0) pa_nil)))) pss_nil)
      (pss_cons (ps_set (i := 2) sc_check_words.nd rfl (Or.inl rfl) (pe_call c_wrong_word.ok (hr.mono (by decide)) (by rfl) c_wrong_word.g c_wrong_word.kp c_wrong_word.b .nil pass0 (pa_cons (pv 0) (pa_cons (pv 1) pa_nil))))
      (pss_one (ps_if (pt_cmpR op_notN (pv 2) pe_non (nomark _)) (pss_one (ps_raise rfl (takes_of rfl rfl rfl rfl) (pmk_oex O_BadWords i_BadWords t_BadWords I_BadWords (hr.mono (by decide)) B_BadWords .nil pass0 (by rfl) g_BadWords (pa_cons (pv 2) pa_nil)))) pss_nil)))), ?_⟩
    rcases h with ⟨L, es, rfl, hL, EE, hx, q⟩ | ⟨d, hv, ho, q⟩
    · have h4 := hL.hi
      refine ⟨_, rfl, _, rfl, .inl ⟨L, rfl, by omega, fun H1 e1 => ?_⟩⟩
      rw [areB_good hL]
      refine ⟨true, rfl, ?_⟩
      refine ⟨_, rfl, _, rfl, L, a, k, xs, es, rfl, by omega, ha.ex e1, EE.ex e1, hx, fun H2 e2 => ?_⟩
      have q2 := q H2 (e1.trans e2)
      refine ⟨fun i hi => ?_, fun hn => ?_⟩
      · refine ⟨_, rfl, rfl, _, rfl, ite2 (fun _ => ?_) (fun hb => absurd (by simp) hb)⟩
        exact ⟨_, rfl, by show 1 ≤ 1000; decide, fun a ha => ⟨a, _, _, rfl, upd_same, .flat (.int _), fun dx v' H3 er av => raise_endD ha er av (q2.1 i hi)⟩⟩
      · exact ⟨_, rfl, rfl, _, rfl, ite2 (fun hb => absurd hb (by decide)) (fun _ => q2.2 hn)⟩
    · rcases ho with ⟨x, rfl, hx, hb⟩ | hn
      · refine ⟨_, rfl, _, rfl, .inl ⟨x, rfl, hx, fun H1 e1 => ?_⟩⟩
        rw [hb]
        refine ⟨false, rfl, ?_⟩
        exact ⟨_, rfl, by show 1 ≤ 1000; decide, fun a ha => ⟨a, _, d, rfl, upd_same, (hv.ex e1).ex (Ex.new ha), fun dx v' H3 er av => raise_endD ha er av (q H1 e1)⟩⟩
      · refine ⟨_, rfl, _, rfl, .inr ⟨hn, false, rfl, ?_⟩⟩
        exact ⟨_, rfl, by show 1 ≤ 1000; decide, fun a ha => ⟨a, _, d, rfl, upd_same, hv.ex (Ex.new ha), fun dx v' H3 er av => raise_endD ha er av (q H (Ex.refl _))⟩⟩
end
end Law

namespace Law
open PySem PySem.Spec PyProof.Rows L2 Evl EK TR
theorem dot_sg : Str.ofString "." = sg 46 := by decide +kernel
theorem sg_inj {c d : Nat} : V.str (sg c) = V.str (sg d) ↔ c = d := by
  constructor
  · intro h
    have h1 : sg c = sg d := V.str.inj h
    have h2 : (sg c).cps.toList = (sg d).cps.toList := by rw [h1]
    exact List.head_eq_of_cons_eq h2
  · intro h
    rw [h]
/-- does the k-th sign of z stand there -/
def okAt (K z : List Nat) (o k : Nat) : Bool := decide (K.length ≤ o + k) || (K.getD (o + k) 0 == 46 || K.getD (o + k) 0 == z.getD k 0)
def fitsF (K z : List Nat) (o : Nat) : Bool := (List.range z.length).all (okAt K z o)
def slidF (K : List Nat) (b : Nat) : List Nat := K.drop b ++ List.replicate (min b K.length) 46
theorem getD_at {l : List Nat} {i : Nat} (h : i < l.length) : l[i]? = some (l.getD i 0) := by
  rw [List.getD_eq_getElem?_getD, List.getElem?_eq_getElem h]
  rfl
theorem at_of_lt {l : List Nat} {i : Nat} (h : i < l.length) : atI l (i : Int) = some (l.getD i 0) := atI_nat (getD_at h)
def sgn (S z : List Nat) (n : Nat) : List Bool := (List.range n).map fun i => S.getD i 0 == 46 || S.getD i 0 == z.getD i 0
theorem sgn_succ (S z : List Nat) (n : Nat) : sgn S z (n + 1) = sgn S z n ++ [S.getD n 0 == 46 || S.getD n 0 == z.getD n 0] := by
  unfold sgn
  rw [List.range_succ, List.map_append]
  rfl
theorem sgn_len (S z : List Nat) (n : Nat) : (sgn S z n).length = n := by
  unfold sgn
  rw [List.length_map, List.length_range]
theorem bl_snoc (bs : List Bool) (b : Bool) : bs.map V.bl ++ [.bl b] = (bs ++ [b]).map V.bl := by
  rw [List.map_append]
  rfl
theorem fits_eq (K z : List Nat) (o : Nat) : (sgn ((K.drop o).take z.length) z (min ((K.drop o).take z.length).length z.length)).all id = fitsF K z o := by
  have hn : min ((K.drop o).take z.length).length z.length = min (K.length - o) z.length := by
    rw [List.length_take, List.length_drop]
    omega
  rw [hn, Bool.eq_iff_iff]
  unfold sgn fitsF
  rw [List.all_map, List.all_eq_true, List.all_eq_true]
  have get : ∀ k, k < min (K.length - o) z.length → ((K.drop o).take z.length).getD k 0 = K.getD (o + k) 0 := fun k hk => by
    rw [List.getD_eq_getElem?_getD, List.getD_eq_getElem?_getD, List.getElem?_take_of_lt (by omega), List.getElem?_drop]
  constructor
  · intro h k hk
    rw [List.mem_range] at hk
    unfold okAt
    by_cases q : K.length ≤ o + k
    · rw [decide_eq_true q]
      rfl
    · have h1 := h k (List.mem_range.mpr (by omega))
      have h1 : (((K.drop o).take z.length).getD k 0 == 46 || ((K.drop o).take z.length).getD k 0 == z.getD k 0) = true := h1
      rw [get k (by omega)] at h1
      rw [h1, Bool.or_true]
  · intro h k hk
    rw [List.mem_range] at hk
    have h1 := h k (List.mem_range.mpr (by omega))
    unfold okAt at h1
    rw [decide_eq_false (by omega), Bool.false_or] at h1
    show (((K.drop o).take z.length).getD k 0 == 46 || ((K.drop o).take z.length).getD k 0 == z.getD k 0) = true
    rw [get k hk]
    exact h1
theorem mul_dot (m : Nat) : Txt.mul (sg 46) (m : Int) = tx (List.replicate m 46) := by
  by_cases h : m = 0
  · subst h
    rfl
  · rw [sg_tx, mul_tx [46] (by omega), show (m : Int).toNat = m by omega]
    refine congrArg tx ?_
    clear h
    induction m with
    | zero => rfl
    | succ k ih => rw [List.replicate_succ, List.flatten_cons, ih]; rfl
theorem cut1 (k : List Nat) (o i : Nat) : cutS (tx k) (some ((o : Int) + (0 + (i : Int)))) (some ((o : Int) + (0 + (i : Int)) + 1)) = tx ((k.drop (o + i)).take 1) := by
  have := cut_mid k (o + i) 1
  rw [← this, show (o : Int) + (0 + (i : Int)) = ((o + i : Nat) : Int) by omega]
  rfl
theorem in_three {k z : List Nat} {o i : Nat} (hi : i < z.length) : inV (.str (tx ((k.drop (o + i)).take 1))) [.str (Str.ofString ""), .str (Str.ofString "."), .str (sg (z.getD i 0))] = okAt k z o i := by
  have e0 : Str.ofString "" = tx [] := by decide +kernel
  rw [e0, dot_sg]
  show ((tx [] == tx ((k.drop (o + i)).take 1)) || ((sg 46 == tx ((k.drop (o + i)).take 1)) || ((sg (z.getD i 0) == tx ((k.drop (o + i)).take 1)) || false))) = okAt k z o i
  have tt : ∀ a b : List Nat, (tx a == tx b) = decide (a = b) := fun a b => by
    rw [Bool.eq_iff_iff, beq_iff_eq, decide_eq_true_eq]
    exact ⟨fun h => tx_inj h, fun h => by rw [h]⟩
  rw [sg_tx, sg_tx, tt, tt, tt, Bool.or_false]
  unfold okAt
  by_cases q : k.length ≤ o + i
  · rw [List.drop_eq_nil_of_le q, decide_eq_true q]
    rfl
  · have hg : k[o + i]? = some (k.getD (o + i) 0) := getD_at (by omega)
    have e1 : (k.drop (o + i)).take 1 = [k.getD (o + i) 0] := by
      obtain ⟨hlt, he⟩ := List.getElem?_eq_some_iff.mp hg
      rw [List.drop_eq_getElem_cons hlt, he]
      rfl
    rw [e1, decide_eq_false q]
    generalize k.getD (o + i) 0 = c
    generalize z.getD i 0 = d
    rw [Bool.eq_iff_iff]
    simp
    constructor
    · rintro (h | h)
      · exact .inl h.symm
      · exact .inr h.symm
    · rintro (h | h)
      · exact .inl h.symm
      · exact .inr h.symm
def oks (k z : List Nat) (o n : Nat) : List Bool := (List.range n).map (okAt k z o)
theorem oks_succ (k z : List Nat) (o n : Nat) : oks k z o (n + 1) = oks k z o n ++ [okAt k z o n] := by
  unfold oks
  rw [List.range_succ, List.map_append]
  rfl
theorem oks_len (k z : List Nat) (o n : Nat) : (oks k z o n).length = n := by
  unfold oks
  rw [List.length_map, List.length_range]
theorem oks_all (k z : List Nat) (o : Nat) : (oks k z o z.length).all id = fitsF k z o := by
  unfold oks fitsF
  rw [List.all_map]
  rfl
def spFits : Sp := fun vs H Q _ => ∃ (k z : List Nat) (o : Nat), vs = [.str (tx k), .str (tx z), .int (o : Int)] ∧ k.length < 500 ∧ z.length < 500 ∧ o < 1000 ∧ ∀ H', Ex H H' → Q (.bl (fitsF k z o)) H'
def spSlid : Sp := fun vs H Q _ => ∃ (k : List Nat) (b : Nat), vs = [.str (tx k), .int (b : Int)] ∧ k.length < 500 ∧ ∀ H', Ex H H' → Q (.str (tx (slidF k b))) H'
section
variable {P : Program} {w : World} {K : PySem.W.Frag} {mg : Str → Option Value} {base : Heap}
theorem ok_fits {f : Addr} {fd : FuncData} (F : Fun K "fits" "fits" s_fits f fd) (T : Tx mg) : FnOk P w K mg base CX0 1 f fd ["known", "word", "offset"] spFits := by
  refine F.ok sc_fits (fun vs H Q E h => ?_) (fun cdv A outer s H vs Q E hr h => ?_)
  · obtain ⟨k, z, o, rfl, _⟩ := h
    rfl
  · obtain ⟨k, z, o, rfl, hk, hz, ho, q⟩ := h
    refine ⟨_, (pss_cons (ps_set (i := 3) sc_fits.nd rfl (Or.inl rfl) (pe_slice sl_str (pv 0) (po_some (pv 2)) (po_some (pe_op op_add (pv 2) (pe_callB call_len_str (by rfl) T.len PySem.boot_len (pa_cons (pv 1) pa_nil))))))
      (pss_one (ps_ret (pe_callB (cr_all rfl) (by rfl) T.all PyProof.Rows.boot_all (pa_cons (pe_lc (own := [("sign", 4), ("letter", 5)]) (g := gTup K 2 (gCons (gName 4) (gCons (gName 5) gNil))) (tt := tYes) rfl sc_fits.nd (ZS.pi_zipS (by rfl) T.zip (pa_cons (pv 3) (pa_cons (pv 1) pa_nil))) (blkOk_by (N := N_fits) (sc := defScope s_fits) (by decide +kernel)) (fun _ _ _ _ _ => (pg_tup (by rfl) (pgs_cons (pg_name (i := 4) sc_fits.nd rfl (Or.inl rfl)) (pgs_cons (pg_name (i := 5) sc_fits.nd rfl (Or.inl rfl)) pgs_nil)))) (fun _ _ _ _ _ => pts_nil) (fun _ _ _ _ _ => (pe_or (pe_cmpR op_eq (pv 4) pe_str (nomark _)) (pe_one (pe_cmpR op_eq (pv 4) (pv 5) (nomark _)))))) pa_nil))))), ?_⟩
    refine ⟨_, rfl, _, rfl, _, rfl, _, rfl, _, rfl, _, rfl, tx_le (by omega), _, _, rfl, rfl, _, rfl, _, rfl, tx_le (by omega), ?_⟩
    rw [tx_len, cut_mid]
    obtain ⟨S, hS⟩ : ∃ S, (k.drop o).take z.length = S := ⟨_, rfl⟩
    have hSl : S.length ≤ z.length := by
      rw [← hS, List.length_take]
      omega
    rw [hS]
    refine ⟨_, rfl, _, rfl, _, _, rfl, fun D hD => ?_⟩
    refine ZS.lc_zipS (x := tx S) (y := tx z) (fun i H' => Ex H H' ∧ H' D = some (.lst ((sgn S z i).map V.bl))) ⟨Ex.new hD, upd_same⟩ (fun i c d T' H1 hc hd hw hT => ?_) (fun H1 hw => ?_)
    · obtain ⟨e1, hL⟩ := hw
      have hc : S[i]? = some c := by
        rw [← hc]
        simp [tx]
      have hd : z[i]? = some d := by
        rw [← hd]
        simp [tx]
      have hi := (List.getElem?_eq_some_iff.mp hc).1
      have ec : S.getD i 0 = c := by rw [List.getD_eq_getElem?_getD, hc]; rfl
      have ed : z.getD i 0 = d := by rw [List.getD_eq_getElem?_getD, hd]; rfl
      have e2 : Ex H (upd H1 T' (.tup [.str (sg c), .str (sg d)])) := e1.trans (Ex.new hT)
      have hL2 : (upd H1 T' (.tup [.str (sg c), .str (sg d)])) D = some (.lst ((sgn S z i).map V.bl)) := Ex.new hT _ _ hL
      have done : ∀ b : Bool, b = (c == 46 || c == d) → ∃ acc, (upd H1 T' (.tup [.str (sg c), .str (sg d)])) D = some (.lst acc) ∧ acc.length < sizeLine ∧ (Ex H (upd (upd H1 T' (.tup [.str (sg c), .str (sg d)])) D (.lst (acc ++ [.bl b]))) ∧ (upd (upd H1 T' (.tup [.str (sg c), .str (sg d)])) D (.lst (acc ++ [.bl b]))) D = some (.lst ((sgn S z (i + 1)).map V.bl))) := fun b hb => by
        refine ⟨_, hL2, ?_, e2.mut hD, ?_⟩
        · rw [List.length_map, sgn_len]
          exact sz_lt (by omega)
        · rw [upd_same, sgn_succ, ← bl_snoc, ec, ed, hb]
      refine ⟨T', [.str (sg c), .str (sg d)], rfl, .inl (.inl upd_same), rfl, .str (sg c), [.str (sg d)], rfl, .str (sg d), [], rfl, rfl, rfl, _, rfl, rfl, _, rfl, ?_⟩
      by_cases h46 : c = 46
      · have x1 : decide (V.str (sg c) = V.str (Str.ofString ".")) = true := decide_eq_true (by rw [dot_sg, h46])
        rw [x1]
        exact done true (by rw [h46]; rfl)
      · have x1 : decide (V.str (sg c) = V.str (Str.ofString ".")) = false := decide_eq_false (by rw [dot_sg, sg_inj]; exact h46)
        rw [x1]
        refine ⟨_, rfl, _, rfl, rfl, ?_⟩
        have x2 : (c == 46) = false := by simpa using h46
        refine done _ ?_
        rw [x2, Bool.false_or]
        by_cases hcd : c = d
        · rw [hcd]
          simp
        · have x3 : (c == d) = false := by simpa using hcd
          rw [x3]
          exact decide_eq_false (by rw [sg_inj]; exact hcd)
    · obtain ⟨e1, hL⟩ := hw
      refine ⟨D, _, rfl, sq_of hL, ?_⟩
      have x : min (tx S).cps.size (tx z).cps.size = min S.length z.length := by simp [tx]
      rw [x, ← hS, fits_eq]
      exact q _ e1
theorem ok_slid {f : Addr} {fd : FuncData} (F : Fun K "slid" "slid" s_slid f fd) (T : Tx mg) : FnOk P w K mg base CX0 1 f fd ["known", "by"] spSlid := by
  refine F.ok sc_slid (fun vs H Q E h => ?_) (fun cdv A outer s H vs Q E hr h => ?_)
  · obtain ⟨k, b, rfl, _⟩ := h
    rfl
  · obtain ⟨k, b, rfl, hk, q⟩ := h
    refine ⟨_, (pss_one (ps_ret (pe_op op_add_str (pe_slice sl_str (pv 0) (po_some (pv 1)) po_none) (pe_op ZS.op_mulS pe_str (pe_callB (call_min2 rfl) (by rfl) T.min (by decide +kernel) (pa_cons (pv 1) (pa_cons (pe_callB call_len_str (by rfl) T.len PySem.boot_len (pa_cons (pv 0) pa_nil)) pa_nil))))))), ?_⟩
    refine ⟨_, rfl, _, rfl, _, rfl, _, rfl, tx_le (by omega), ?_⟩
    refine ⟨_, rfl, _, rfl, tx k, rfl, tx_le (by omega), _, _, rfl, ?_⟩
    have em : (if ((tx k).length : Int) < (b : Int) then ((tx k).length : Int) else (b : Int)) = ((min b k.length : Nat) : Int) := by
      rw [tx_len]
      by_cases q : (k.length : Int) < (b : Int)
      · rw [if_pos q]
        omega
      · rw [if_neg q]
        omega
    rw [em]
    refine ⟨_, _, rfl, rfl, ?_, ?_⟩
    · rw [dot_sg]
      exact mulOk_of 1 1000 (by rw [sg_len]; omega) (by omega) (by omega) (by decide) (by decide)
    rw [cut_from, dot_sg, mul_dot]
    refine ⟨_, _, rfl, rfl, ?_, ?_⟩
    · rw [tx_len, tx_len, List.length_drop, List.length_replicate]
      exact sz_le (by omega)
    · rw [tx_app]
      exact q _ (Ex.refl _)
theorem ok_lfits {f : Addr} {fd : FuncData} (F : Fun K "_law_fits" "_law_fits" s_lfits f fd) (T : Tx mg) : FnOk P w K mg base CX0 1 f fd ["_law_known", "_law_word", "_law_by"] spFits := by
  refine F.ok sc_lfits (fun vs H Q E h => ?_) (fun cdv A outer s H vs Q E hr h => ?_)
  · obtain ⟨k, z, o, rfl, _⟩ := h
    rfl
  · obtain ⟨k, z, o, rfl, hk, hz, ho, q⟩ := h
    refine ⟨_, (pss_one (ps_ret (pe_callB (cr_all rfl) (by rfl) T.all PyProof.Rows.boot_all (pa_cons (pe_lc (own := [("_law_k", 3)]) (g := gName 3) (tt := tYes) rfl sc_lfits.nd (pi_range1 (by rfl) T.range (pa_cons (pe_callB call_len_str (by rfl) T.len PySem.boot_len (pa_cons (pv 1) pa_nil)) pa_nil)) (blkOk_by (N := N_lfits) (sc := defScope s_lfits) (by decide +kernel)) (fun _ _ _ _ _ => (pg_name (i := 3) sc_lfits.nd rfl (Or.inl rfl))) (fun _ _ _ _ _ => pts_nil) (fun _ _ _ _ _ => (pe_cmpR (show OpR _ _ (rIn K false) from op_in_seq) (pe_slice sl_str (pv 0) (po_some (pe_op op_add (pv 2) (pv 3))) (po_some (pe_op op_add (pe_op op_add (pv 2) (pv 3)) pe_int))) (pe_tup (pa_cons pe_str (pa_cons pe_str (pa_cons (pe_ix ix_str (pv 1) (pv 3) (fun _ _ => rfl)) pa_nil)))) rfl))) pa_nil)))), ?_⟩
    refine ⟨_, rfl, _, rfl, tx_le (by omega), _, rfl, by omega, by rw [tx_len]; omega, fun D hD => ?_⟩
    rw [tx_len, Int.toNat_natCast]
    refine lc_range (lo := 0) (n := z.length) (fun i H' => Ex H H' ∧ H' D = some (.lst ((oks k z o i).map V.bl))) ⟨Ex.new hD, upd_same⟩ (fun i H1 hi hw => ?_) (fun H1 hw => ?_)
    · obtain ⟨e1, hL⟩ := hw
      refine ⟨rfl, _, rfl, _, rfl, _, rfl, _, _, rfl, rfl, _, rfl, _, rfl, _, rfl, _, _, rfl, rfl, _, _, rfl, rfl, _, rfl, _, rfl, tx_le (by omega), ?_⟩
      rw [cut1]
      refine ⟨_, rfl, _, rfl, _, _, z.getD i 0, rfl, rfl, tx_le (by omega), by rw [show (0 : Int) + (i : Int) = (i : Int) by omega]; exact at_of_lt hi, by show 3 ≤ sizeLine; decide, fun t ht => ?_⟩
      refine ⟨t, _, rfl, .inr (st_of upd_same), rfl, rfl, ?_⟩
      refine ⟨_, Ex.new ht _ _ hL, ?_, (e1.trans (Ex.new ht)).mut hD, ?_⟩
      · rw [List.length_map, oks_len]
        exact sz_lt (by omega)
      · rw [upd_same, oks_succ, ← bl_snoc, ← in_three hi]
        rfl
    · obtain ⟨e1, hL⟩ := hw
      refine ⟨D, _, rfl, sq_of hL, ?_⟩
      rw [oks_all]
      exact q _ e1
end
end Law

namespace Fg
def canF (ws : List (List Nat)) (k : List Nat) (o : Nat) : Bool := ws.any fun z => Law.fitsF k z o
def leastN (ws : List (List Nat)) (k : List Nat) : Nat → Nat → Nat
  | 0, o => o
  | n + 1, o => if canF ws k o = true then o else leastN ws k n (o + 1)
def leastF (ws : List (List Nat)) (k : List Nat) : Nat := leastN ws k (k.length + 1) 1
theorem can_far {ws : List (List Nat)} {k : List Nat} {o : Nat} (hw : 1 ≤ ws.length) (h : k.length ≤ o) : canF ws k o = true := by
  cases ws with
  | nil => exact absurd hw (by simp)
  | cons z r =>
    unfold canF
    rw [List.any_cons, Bool.or_eq_true]
    refine .inl ?_
    unfold Law.fitsF
    rw [List.all_eq_true]
    intro i _
    unfold Law.okAt
    rw [decide_eq_true (by omega)]
    rfl
theorem leastN_stop {ws : List (List Nat)} {k : List Nat} {n o : Nat} (h : canF ws k o = true) : leastN ws k n o = o := by
  cases n with
  | zero => rfl
  | succ n =>
    unfold leastN
    rw [if_pos h]
theorem leastN_go {ws : List (List Nat)} {k : List Nat} {n o : Nat} (h : canF ws k o = false) : leastN ws k (n + 1) o = leastN ws k n (o + 1) := by
  show (if canF ws k o = true then o else leastN ws k n (o + 1)) = _
  rw [if_neg (by rw [h]; decide)]
theorem leastN_ok {ws : List (List Nat)} {k : List Nat} (hw : 1 ≤ ws.length) : ∀ (n o : Nat), k.length ≤ o + n → o ≤ leastN ws k n o ∧ leastN ws k n o ≤ max o k.length ∧ canF ws k (leastN ws k n o) = true
  | 0, o, h => ⟨Nat.le_refl _, Nat.le_max_left _ _, can_far hw h⟩
  | n + 1, o, h => by
    by_cases q : canF ws k o = true
    · rw [leastN_stop q]
      exact ⟨Nat.le_refl _, Nat.le_max_left _ _, q⟩
    · have q2 : canF ws k o = false := by simpa using q
      rw [leastN_go q2]
      have ol : o < k.length := Nat.lt_of_not_le fun z => q (can_far hw z)
      obtain ⟨h1, h2, h3⟩ := leastN_ok (k := k) hw n (o + 1) (by omega)
      exact ⟨by omega, by omega, h3⟩
theorem leastF_ok {ws : List (List Nat)} {k : List Nat} (hw : 1 ≤ ws.length) (hk : 1 ≤ k.length) : 1 ≤ leastF ws k ∧ leastF ws k ≤ k.length ∧ canF ws k (leastF ws k) = true := by
  obtain ⟨h1, h2, h3⟩ := leastN_ok (k := k) hw (k.length + 1) 1 (by omega)
  exact ⟨h1, by unfold leastF; omega, h3⟩
end Fg
namespace Law
open PySem PySem.Spec PyProof.Rows L2 Evl EK TR Fg
theorem can_any {ws : List (List Nat)} {k : List Nat} {o : Nat} : ((ws.map fun z => fitsF k z o).any id) = canF ws k o := by
  unfold canF
  rw [List.any_map]
  rfl
def spLLeast : Sp := fun vs H Q _ => ∃ (a : Addr) (ws : List (List Nat)) (k : List Nat), vs = [.ref a, .str (tx k)] ∧ H a = some (.lst (wv ws)) ∧ 1 ≤ ws.length ∧ ws.length ≤ 10 ∧ (∀ z ∈ ws, z.length < 100) ∧ k.length < 100 ∧ ∀ H', Ex H H' → Q (.int (leastF ws k : Nat)) H'
section
variable {P : Program} {w : World} {K : PySem.W.Frag} {mg : Str → Option Value} {base : Heap}
theorem ok_lleast {f : Addr} {fd : FuncData} (F : Fun K "_law_least" "_law_least" s_lleast f fd) (T : Tx mg) (c_lfits : Kn P w K mg base "_law_fits" ["_law_known", "_law_word", "_law_by"] 1 spFits) : FnOk P w K mg base CX0 2 f fd ["_law_words", "_law_known"] spLLeast := by
  refine F.ok sc_lleast (fun vs H Q E h => ?_) (fun cdv A outer s H vs Q E hr h => ?_)
  · obtain ⟨a, ws, k, rfl, _⟩ := h
    rfl
  · obtain ⟨a, ws, k, rfl, ha, w1, w10, wz, hk, q⟩ := h
    refine ⟨_, (pss_cons (ps_set (i := 2) sc_lleast.nd rfl (Or.inr rfl) pe_int)
      (pss_cons (ps_while PassesOwn.never (pt_not (pt_val (pe_callB (cr_any rfl) (by rfl) T.any PyProof.Rows.boot_any (pa_cons (pe_lc (own := [("_law_word", 3)]) (g := gName 3) (tt := tYes) rfl sc_lleast.nd (pi_list (pv 0)) (blkOk_by (N := N_lleast) (sc := defScope s_lleast) (by decide +kernel)) (fun _ _ _ _ _ => (pg_name (i := 3) sc_lleast.nd rfl (Or.inl rfl))) (fun _ _ _ _ _ => pts_nil) (fun _ _ _ _ _ => (pe_call c_lfits.ok (hr.mono (by decide)) (by rfl) c_lfits.g c_lfits.kp c_lfits.b .nil pass0 (pa_cons (pv 1) (pa_cons (pv 3) (pa_cons (pv 2) pa_nil)))))) pa_nil)))) (pss_one (ps_set (i := 2) sc_lleast.nd rfl (Or.inr rfl) (pe_op op_add (pv 2) pe_int))))
      (pss_one (ps_ret (pv 2))))), ?_⟩
    dsimp only [gName]
    refine ⟨fun m σ H' => ∃ (o : Nat), σ = [some (.ref a), some (.str (tx k)), some (.int (o : Nat)), none] ∧ Ex H H' ∧ leastN ws k m o = leastF ws k ∧ o + m = k.length + 2,
      ⟨k.length + 1, 1, rfl, Ex.refl _, rfl, by omega⟩, fun m σ H' hw => ?_⟩
    obtain ⟨o, rfl, e1, hl, hm⟩ := hw
    refine ⟨_, rfl, a, rfl, ⟨_, sq_of (e1 _ _ ha)⟩, fun D hD => ?_⟩
    refine lc_list (xs := wv ws) (fun i H' => Ex H H' ∧ H' D = some (.lst (((ws.take i).map fun z => fitsF k z o).map V.bl))) ⟨e1.trans (Ex.new hD), upd_same⟩ (fun i H' _ p => sq_of (p.1 _ _ ha)) (fun i x H2 hx hw => ?_) (fun H2 hw => ?_)
    · obtain ⟨e2, hL⟩ := hw
      unfold wv at hx
      rw [List.getElem?_map] at hx
      obtain ⟨z, hz, rfl⟩ := Option.map_eq_some_iff.mp hx
      refine ⟨rfl, _, rfl, _, rfl, _, rfl, k, z, o, rfl, by omega, Nat.lt_trans (wz z (List.mem_of_getElem? hz)) (by decide), by omega, fun H3 e3 => ⟨_, e3 _ _ hL, ?_, (e2.trans e3).mut (fresh_back e1 hD), ?_⟩⟩
      · rw [List.length_map, List.length_map, List.length_take]
        exact sz_lt (by omega)
      · rw [upd_same, List.take_add_one, hz, List.map_append, List.map_append]
        rfl
    · obtain ⟨e2, hL⟩ := hw
      rw [show (wv ws).length = ws.length by unfold wv; rw [List.length_map], List.take_length] at hL
      refine ⟨D, _, rfl, sq_of hL, ?_⟩
      rw [can_any]
      cases hc : canF ws k o with
      | true =>
        refine ⟨true, rfl, ?_⟩
        refine ⟨_, rfl, ?_⟩
        rw [leastN_stop hc] at hl
        rw [hl]
        exact q _ e2
      | false =>
        refine ⟨false, rfl, fun σ' H' => ∃ m', m' < m ∧ ∃ (o : Nat), σ' = [some (.ref a), some (.str (tx k)), some (.int (o : Nat)), none] ∧ Ex H H' ∧ leastN ws k m' o = leastF ws k ∧ o + m' = k.length + 2, fun σ' H' h => h, ?_⟩
        cases m with
        | zero =>
          rw [can_far w1 (by omega)] at hc
          cases hc
        | succ m =>
          rw [leastN_go hc] at hl
          exact ⟨_, rfl, _, _, rfl, rfl, m, Nat.lt_succ_self m, o + 1, rfl, e2, hl, by omega⟩
end
end Law

/-! xs == [] and xs != [], whatever stands in xs -/
namespace NL
open PySem PySem.Spec PyProof.Rows L2
def rEqNil (K : PySem.W.Frag) : R2 := fun x y H Q => ∃ a b xs, x = .ref a ∧ y = .ref b ∧ SqL K H a xs ∧ SqL K H b [] ∧ Q (.bl (decide (xs.length = 0))) H
def rNeNil (K : PySem.W.Frag) : R2 := fun x y H Q => ∃ a b xs, x = .ref a ∧ y = .ref b ∧ SqL K H a xs ∧ SqL K H b [] ∧ Q (.bl (!decide (xs.length = 0))) H
section
variable {X : Cx}
theorem op_eqNil (hu : X.A.units + 64 < cLine) : OpR X (compareOp .Eq) (rEqNil X.K) := by
  intro pins s σ H x y v u Q I rx ry h
  obtain ⟨a, b, xs, rfl, rfl, ha, hb, q⟩ := h
  cases (show v = Value.ref a from rx)
  cases (show u = Value.ref b from ry)
  obtain ⟨us, r1, p1, _⟩ := I.list ha
  obtain ⟨ws, r2, p2, _⟩ := I.list hb
  cases r2
  have l1 := r1.length
  have un : X.A.units < cLine := by omega
  show wpAny _ _ (richCompare .Eq _ _) _ _ _
  by_cases hx : xs.length = 0
  · rw [decide_eq_true hx] at q
    have hz : us.toArray.size = ([] : List Value).toArray.size := by rw [List.size_toArray, List.size_toArray, ← l1, hx]; rfl
    refine (SeqAt.RcAt.lists (e := fun _ => true) p1.isList p2.isList hz un fun j h1 h2 => absurd h2 (Nat.not_lt_zero j)) X.prog X.w _ _ ?_
    refine ⟨.bl true, H, I, ?_, q⟩
    show Value.bool _ = Value.bool true
    rw [show ((List.range us.toArray.size).all fun _ => true) = true from List.all_eq_true.mpr fun _ _ => rfl]
  · rw [decide_eq_false hx] at q
    refine (SeqAt.RcAt.lists_lengths p1.isList p2.isList ?_ un) X.prog X.w _ _ ⟨.bl false, H, I, rfl, q⟩
    rw [bne_iff_ne, List.size_toArray, List.size_toArray, ← l1]
    exact hx
theorem op_neNil (hu : X.A.units + 64 < cLine) : OpR X (compareOp .NotEq) (rNeNil X.K) := by
  intro pins s σ H x y v u Q I rx ry h
  obtain ⟨a, b, xs, rfl, rfl, ha, hb, q⟩ := h
  cases (show v = Value.ref a from rx)
  cases (show u = Value.ref b from ry)
  obtain ⟨us, r1, p1, _⟩ := I.list ha
  obtain ⟨ws, r2, p2, _⟩ := I.list hb
  cases r2
  have l1 := r1.length
  have un : X.A.units < cLine := by omega
  show wpAny _ _ (richCompare .NotEq _ _) _ _ _
  by_cases hx : xs.length = 0
  · rw [decide_eq_true hx] at q
    have hz : us.toArray.size = ([] : List Value).toArray.size := by rw [List.size_toArray, List.size_toArray, ← l1, hx]; rfl
    refine (SeqAt.RcNeAt.lists (e := fun _ => true) p1.isList p2.isList hz un fun j h1 h2 => absurd h2 (Nat.not_lt_zero j)) X.prog X.w _ _ ?_
    refine ⟨.bl false, H, I, ?_, q⟩
    show Value.bool _ = Value.bool false
    rw [show ((List.range us.toArray.size).all fun _ => true) = true from List.all_eq_true.mpr fun _ _ => rfl]
    rfl
  · rw [decide_eq_false hx] at q
    refine (SeqAt.RcNeAt.lists_lengths p1.isList p2.isList ?_ un) X.prog X.w _ _ ⟨.bl true, H, I, rfl, q⟩
    rw [bne_iff_ne, List.size_toArray, List.size_toArray, ← l1]
    exact hx
end
end NL

namespace Law
open PySem PySem.Spec PyProof.Rows L2 Evl EK TR Fg
theorem PenAt.both {p : PenI} {H0 H : Hp} {a : Addr} {n : Nat} {o : HO} (P : PenAt p H0 H n) (hd : a ≠ p.d) (hc : a ≠ p.c) : PenAt p (L2.upd H0 a o) (L2.upd H a o) n := by
  obtain ⟨e, h0, hc0, hl, op, lf, ho, hdk⟩ := P
  refine ⟨fun b u h => ?_, (upd_ne hd.symm).trans h0, (upd_ne hc.symm).trans hc0, hl, op, lf, ho, (upd_ne hd.symm).trans hdk⟩
  by_cases q : b = a
  · subst q
    rw [upd_same] at h ⊢
    exact h
  · rw [upd_ne q] at h ⊢
    exact e b u h
theorem fresh_nc {p : PenI} {H0 H : Hp} {n : Nat} {a : Addr} (P : PenAt p H0 H n) (h : H a = none) : a ≠ p.c := fun e => by
  rw [e, P.1 _ _ P.2.2.1] at h
  cases h
theorem iteN {c A B : Prop} [Decidable c] (hc : ¬ c) (h : A) : if (!decide c) = true then A else B := by
  rw [decide_eq_false hc]
  exact (if_pos rfl).mpr h
theorem iteNn {c A B : Prop} [Decidable c] (hc : c) (h : B) : if (!decide c) = true then A else B := by
  rw [decide_eq_true hc]
  exact (if_neg (by decide)).mpr h
/-- signs picked one by one -/
def Picks (p : PenI) (H0 : Hp) (n : Nat) (z : Str) (D : Addr) (i : Nat) (H : Hp) : Prop := PenAt p H0 H (n + i) ∧ ∃ cs : List Nat, cs.length = i ∧ (∀ c ∈ cs, c ∈ z.cps.toList) ∧ H D = some (.lst ((cs.map sg).map V.str))
def spSomeWord : Sp := fun vs H Q _ => ∃ (p : PenI) (H0 : Hp) (n m : Nat) (L : List Nat), vs = [.ref p.d, .str (tx L), .int (m : Nat)] ∧ PenAt p H0 H n ∧ n < 800000 ∧ 0 < L.length ∧ L.length < 900 ∧ m ≤ 20 ∧
  ∀ H' u, PenAt p H0 H' (n + m) → WG L m u → Q (.str (tx u)) H'
def spSomeWords : Sp := fun vs H Q _ => ∃ (p : PenI) (H0 : Hp) (n m k : Nat) (L : List Nat), vs = [.ref p.d, .str (tx L), .int (m : Nat), .int (k : Nat)] ∧ PenAt p H0 H n ∧ n < 700000 ∧ 0 < L.length ∧ L.length < 900 ∧ m ≤ 20 ∧ 1 ≤ k ∧ k ≤ 20 ∧
  ∀ (H1 H' : Hp) (b : Addr) (ws : List (List Nat)), Ex H0 H1 → PenAt p H1 H' (n + 1 + m * k) → H0 b = none → H1 b = some (.lst (wv ws)) → 1 ≤ ws.length → ws.length ≤ k → (∀ z ∈ ws, WG L m z) → ws.Nodup → Q (.ref b) H'
def tv (u : List Nat) : V := .str (tx u)
theorem wv_tv (ws : List (List Nat)) : wv ws = ws.map tv := rfl
theorem wv_snoc (ws : List (List Nat)) (x : List Nat) : wv (ws ++ [x]) = wv ws ++ [.str (tx x)] := by
  unfold wv
  rw [List.map_append]
  rfl
def iv (u : Nat) : V := .int (u : Nat)
def spShuf : Sp := fun vs H Q _ => ∃ (p : PenI) (H0 : Hp) (n : Nat) (a : Addr) (us : List Nat), vs = [.ref p.d, .ref a] ∧ PenAt p H0 H n ∧ n < 800000 ∧ H a = some (.lst (us.map iv)) ∧ us.length ≤ 100 ∧
  ∀ (H1 H' : Hp) (r : Addr) (ws : List Nat), Ex H0 H1 → PenAt p H1 H' (n + us.length) → H0 r = none → H1 r = some (.lst (ws.map iv)) → ws.Perm us → Q (.ref r) H'
theorem erase_iv : ∀ (m : List Nat) (k : Nat), (m.map iv).eraseIdx k = (m.eraseIdx k).map iv
  | [], k => by simp
  | x :: r, 0 => rfl
  | x :: r, k + 1 => by
    show iv x :: (r.map iv).eraseIdx k = iv x :: (r.eraseIdx k).map iv
    rw [erase_iv r k]
theorem perm_erase : ∀ {m : List Nat} {k : Nat} {x : Nat}, m[k]? = some x → (x :: m.eraseIdx k).Perm m
  | y :: r, 0, x, h => by
    cases h
    exact List.Perm.refl _
  | y :: r, k + 1, x, h => by
    have h2 := perm_erase (m := r) (k := k) h
    exact (List.Perm.swap _ _ _).trans (h2.cons y)
  | [], _, _, h => by simp at h
section
variable {P : Program} {w : World} {K : PySem.W.Frag} {mg : Str → Option Value} {base : Heap}
theorem ok_someword {f : Addr} {fd : FuncData} (F : Fun K "_law_some_word" "_law_some_word" s_lsome_word f fd) (T : Tx mg) (c_pickS : Kn P w K mg base "_law_pick" ["_law_pen", "_law_items"] 2 spPickS) :
    FnOk P w K mg base CX0 3 f fd ["_law_pen", "_law_letters", "_law_width"] spSomeWord := by
  refine F.ok sc_lsome_word (fun vs H Q E h => ?_) (fun cdv A outer s H vs Q E hr h => ?_)
  · obtain ⟨p, H0, n, m, L, rfl, _⟩ := h
    rfl
  · obtain ⟨p, H0, n, m, L, rfl, P0, hn, hz0, hz1, m20, q⟩ := h
    refine ⟨_, (pss_one (ps_ret (pe_join pe_str (pe_lc (own := [("_law_k", 3)]) (g := gName 3) (tt := tYes) rfl sc_lsome_word.nd (pi_range1 (by rfl) T.range (pa_cons (pv 2) pa_nil)) (blkOk_by (N := N_lsome_word) (sc := defScope s_lsome_word) (by decide +kernel)) (fun _ _ _ _ _ => (pg_name (i := 3) sc_lsome_word.nd rfl (Or.inl rfl))) (fun _ _ _ _ _ => pts_nil) (fun _ _ _ _ _ => (pe_call c_pickS.ok (hr.mono (by decide)) (by rfl) c_pickS.g c_pickS.kp c_pickS.b .nil pass0 (pa_cons (pv 0) (pa_cons (pv 1) pa_nil)))))))), ?_⟩
    refine ⟨⟨_, rfl⟩, _, rfl, _, rfl, by omega, by omega, fun D hD => ?_⟩
    rw [Int.toNat_natCast]
    have d0 := fresh0 P0 hD
    have d1 := fresh_ne P0 hD
    refine lc_range (lo := 0) (n := m) (Picks p H0 n (tx L) D) ⟨P0.upd d0 d1, [], rfl, (fun c h => nomatch h), upd_same⟩ (fun i H hi hw => ?_) (fun H hw => ?_)
    · obtain ⟨Q1, cs, hcs, hcz, hL⟩ := hw
      refine ⟨rfl, _, rfl, _, rfl, p, upd H0 D (.lst ((cs.map sg).map V.str)), n + i, tx L, rfl, Q1.keep hL d1, by omega, by rw [tx_len]; exact hz0, by rw [tx_len]; omega, fun H5 c P5 hc => ?_⟩
      have hL5 := P5.1 _ _ upd_same
      refine ⟨_, hL5, ?_, (Q1.drop hL P5).upd d0 d1, cs ++ [c], by rw [List.length_append, hcs]; rfl, fun x hx => ?_, ?_⟩
      · rw [List.length_map, List.length_map, hcs]
        exact sz_lt (by omega)
      · rcases List.mem_append.mp hx with h | h
        · exact hcz x h
        · rw [List.mem_singleton.mp h]
          exact hc
      · rw [upd_same, ← sg_snoc]
        rfl
    · obtain ⟨Q1, cs, hcs, hcz, hL⟩ := hw
      refine ⟨_, D, cs.map sg, rfl, rfl, .inl (sq_of hL), join_bound cs (by omega), ?_⟩
      rw [join_sg]
      exact q _ cs Q1 ⟨hcs, hcz⟩
theorem ok_somewords {f : Addr} {fd : FuncData} (F : Fun K "_law_some_words" "_law_some_words" s_lsome_words f fd) (T : Tx mg) (c_ldraw : Kn P w K mg base "_law_draw" ["_law_pen", "_law_many"] 1 spDraw) (c_lsome_word : Kn P w K mg base "_law_some_word" ["_law_pen", "_law_letters", "_law_width"] 3 spSomeWord) :
    FnOk P w K mg base CX0 4 f fd ["_law_pen", "_law_letters", "_law_width", "_law_most"] spSomeWords := by
  refine F.ok sc_lsome_words (fun vs H Q E h => ?_) (fun cdv A outer s H vs Q E hr h => ?_)
  · obtain ⟨p, H0, n, m, k, L, rfl, _⟩ := h
    rfl
  · obtain ⟨p, H0, n, m, k, L, rfl, P0, hn, hz0, hz1, m20, k1, k20, q⟩ := h
    refine ⟨_, (pss_cons (ps_set (i := 4) sc_lsome_words.nd rfl (Or.inl rfl) (pe_lst pa_nil))
      (pss_cons (ps_for PassesOwn.never rfl (pi_range1 (by rfl) T.range (pa_cons (pe_op op_add pe_int (pe_call c_ldraw.ok (hr.mono (by decide)) (by rfl) c_ldraw.g c_ldraw.kp c_ldraw.b .nil pass0 (pa_cons (pv 0) (pa_cons (pv 3) pa_nil)))) pa_nil)) (pg_name (i := 5) sc_lsome_words.nd rfl (Or.inl rfl)) (pss_cons (ps_set (i := 6) sc_lsome_words.nd rfl (Or.inl rfl) (pe_call c_lsome_word.ok (hr.mono (by decide)) (by rfl) c_lsome_word.g c_lsome_word.kp c_lsome_word.b .nil pass0 (pa_cons (pv 0) (pa_cons (pv 1) (pa_cons (pv 2) pa_nil)))))
      (pss_one (ps_if (pt_cmpR op_notIn_seq (pv 6) (pv 4) rfl) (pss_one (ps_expr (pe_bm PySem.F.plainAttrs_list PySem.F.slot_list_append PySem.F.type_list_append mt_append (pv 4) (pa_cons (pv 6) pa_nil)))) pss_nil))))
      (pss_one (ps_ret (pv 4))))), ?_⟩
    refine ⟨by show 0 ≤ sizeLine; decide, fun b hb => ?_⟩
    have b0 := fresh0 P0 hb
    have b1 := fresh_ne P0 hb
    have b2 := fresh_nc P0 hb
    have P1 := P0.both (o := .lst []) b1 b2
    generalize (upd H b (.lst [])) = H1 at P1 ⊢
    refine ⟨_, rfl, _, rfl, p, _, n, k, rfl, P1, by omega, by omega, by omega, fun H2 r2 P2 r20 r21 => ⟨_, _, rfl, rfl, _, rfl, by omega, by omega, ?_⟩⟩
    obtain ⟨c, hc⟩ : ∃ c : Nat, (1 + r2).toNat = c := ⟨_, rfl⟩
    rw [hc]
    have hm20 : m * c ≤ m * k := Nat.mul_le_mul_left _ (by omega)
    have h400 : m * k ≤ 20 * 20 := Nat.mul_le_mul m20 k20
    refine for_range (lo := 0) (n := c) (fun i σ H' => ∃ (ws : List (List Nat)) (y5 y6 : Option V), σ = [some (.ref p.d), some (.str (tx L)), some (.int (m : Nat)), some (.int (k : Nat)), some (.ref b), y5, y6] ∧ PenAt p (upd H0 b (.lst (wv ws))) H' (n + 1 + m * i) ∧ ws.length ≤ i ∧ (1 ≤ i → 1 ≤ ws.length) ∧ (∀ z ∈ ws, WG L m z) ∧ ws.Nodup)
      ⟨[], none, none, rfl, P2, Nat.le_refl _, fun z => absurd z (by decide), (fun z h => nomatch h), List.nodup_nil⟩ (fun i σ H3 hi hw => ?_) (fun σ H3 hw => ?_)
    · obtain ⟨ws, y5, y6, rfl, P3, w1, w2, w3, w4⟩ := hw
      have hmi : m * i ≤ m * c := Nat.mul_le_mul_left _ (by omega)
      refine ⟨_, rfl, _, rfl, _, rfl, p, _, _, m, L, rfl, P3, by omega, hz0, hz1, m20, fun H4 u P4 hu => ?_⟩
      have hb4 := P4.1 _ _ upd_same
      dsimp only [gName]
      refine' st_eq (σ' := [some (.ref p.d), some (.str (tx L)), some (.int (m : Nat)), some (.int (k : Nat)), some (.ref b), some (.int (0 + (i : Int))), some (.str (tx u))]) rfl ?_
      refine ⟨_, rfl, _, rfl, b, _, rfl, .inl (sq_of hb4), rfl, flat_wv _, _, rfl, ?_⟩
      rw [inV_wv]
      have en : n + 1 + m * i + m = n + 1 + m * (i + 1) := by rw [Nat.mul_succ]; omega
      by_cases hin : u ∈ ws
      · rw [decide_eq_true hin]
        refine ⟨ws, _, _, rfl, P4.le (by omega), by omega, fun _ => ?_, w3, w4⟩
        cases ws with
        | nil => cases hin
        | cons x r => exact Nat.succ_pos _
      · rw [decide_eq_false hin]
        refine ⟨_, rfl, .inl ⟨rfl, _, sq_of hb4⟩, _, rfl, b, _, _, rfl, rfl, hb4, sz_lt (by unfold wv; rw [List.length_map]; omega), ?_⟩
        rw [← wv_snoc]
        have P5 := P4.both (o := .lst (wv (ws ++ [u]))) b1 b2
        refine ⟨ws ++ [u], _, _, rfl, ?_, by rw [List.length_append]; simp; omega, fun _ => by simp, fun z hz => ?_, ?_⟩
        · rw [← en]
          rw [show upd (upd H0 b (.lst (wv ws))) b (.lst (wv (ws ++ [u]))) = upd H0 b (.lst (wv (ws ++ [u]))) from upd_upd] at P5
          exact P5
        · rcases List.mem_append.mp hz with h | h
          · exact w3 z h
          · rw [List.mem_singleton.mp h]
            exact hu
        · rw [List.nodup_append]
          exact ⟨w4, by simp, fun x hx y hy e => by rw [List.mem_singleton.mp hy] at e; exact hin (e ▸ hx)⟩
    · obtain ⟨ws, y5, y6, rfl, P3, w1, w2, w3, w4⟩ := hw
      exact ⟨_, rfl, q _ _ b ws (Ex.new b0) (P3.le (by omega)) b0 upd_same (w2 (by omega)) (by omega) w3 w4⟩
theorem ok_shuf {f : Addr} {fd : FuncData} (F : Fun K "_law_shuffled" "_law_shuffled" s_lshuffled f fd) (T : Tx mg) (c_ldraw : Kn P w K mg base "_law_draw" ["_law_pen", "_law_many"] 1 spDraw) : FnOk P w K mg base CX0 2 f fd ["_law_pen", "_law_items"] spShuf := by
  refine F.ok sc_lshuffled (fun vs H Q E h => ?_) (fun cdv A outer s H vs Q E hr h => ?_)
  · obtain ⟨p, H0, n, a, ns, rfl, _⟩ := h
    rfl
  · obtain ⟨p, H0, n, a, ns, rfl, P0, hn, ha, hl, q⟩ := h
    refine ⟨_, (pss_cons (ps_par (i := 2) (j := 3) (by rfl) sc_lshuffled.nd rfl rfl (by decide) rfl rfl (pa_cons (pe_callTy call_list_of (by rfl) T.list PyProof.Rows.boot_list (pa_cons (pv 1) pa_nil)) (pa_cons (pe_lst pa_nil) pa_nil)) (by rfl))
      (pss_cons (ps_while PassesOwn.never (pt_cmpR (NL.op_neNil hr.units) (pv 2) (pe_lst pa_nil) (nomark _)) (pss_one (ps_expr (pe_bm PySem.F.plainAttrs_list PySem.F.slot_list_append PySem.F.type_list_append mt_append (pv 3) (pa_cons (pe_bm PySem.F.plainAttrs_list PySem.F.slot_list_pop PySem.F.type_list_pop mt_popAt (pv 2) (pa_cons (pe_call c_ldraw.ok (hr.mono (by decide)) (by rfl) c_ldraw.g c_ldraw.kp c_ldraw.b .nil pass0 (pa_cons (pv 0) (pa_cons (pe_callB call_len_seq (by rfl) T.len PySem.boot_len (pa_cons (pv 2) pa_nil)) pa_nil))) pa_nil)) pa_nil)))))
      (pss_one (ps_ret (pv 3))))), ?_⟩
    refine ⟨_, rfl, a, _, rfl, .inl (sq_of ha), fun l hl0 => ⟨by show 0 ≤ sizeLine; decide, fun r hr0 => ?_⟩⟩
    have l0 := fresh0 P0 hl0
    have l1 := fresh_ne P0 hl0
    have l2 := fresh_nc P0 hl0
    have P1 := P0.both (o := .lst (ns.map iv)) l1 l2
    have r0' := fresh0 P1 hr0
    have r1 := fresh_ne P1 hr0
    have r2 := fresh_nc P1 hr0
    have P2 := P1.both (o := .lst []) r1 r2
    have nlr : l ≠ r := fun z => by rw [z, upd_same] at r0'; cases r0'
    have r0 : H0 r = none := by rwa [upd_ne nlr.symm] at r0'
    refine ⟨_, _, rfl, ?_⟩
    refine ⟨fun m σ H' => ∃ (Hb : Hp) (left found : List Nat), σ = [some (.ref p.d), some (.ref a), some (.ref l), some (.ref r)] ∧ Ex H0 Hb ∧ PenAt p Hb H' (n + found.length) ∧ Hb l = some (.lst (left.map iv)) ∧ Hb r = some (.lst (found.map iv)) ∧ (left ++ found).Perm ns ∧ m = left.length,
      ⟨ns.length, _, ns, [], rfl, (Ex.new l0).trans (Ex.new r0'), P2, by rw [upd_ne nlr]; exact upd_same, upd_same, by simp, rfl⟩, fun m σ H' hw => ?_⟩
    obtain ⟨Hb, left, found, rfl, e, Pb, hL, hF, perm, hm⟩ := hw
    have plen := perm.length_eq
    rw [List.length_append] at plen
    refine ⟨_, rfl, by show 0 ≤ sizeLine; decide, fun e0 he0 => ?_⟩
    have Pc := Pb.ex (Ex.new (o := .lst []) he0)
    have he1 : (L2.upd H' e0 (.lst [])) e0 = some (.lst []) := upd_same
    generalize (L2.upd H' e0 (.lst [])) = H2 at Pc he1 ⊢
    refine ⟨l, e0, _, rfl, rfl, sq_of (Pc.1 _ _ hL), sq_of he1, _, rfl, ?_⟩
    rw [List.length_map]
    by_cases hz : left.length = 0
    · refine iteNn hz ?_
      have hle : left = [] := List.length_eq_zero_iff.mp hz
      rw [hle] at perm
      exact ⟨_, rfl, q Hb H2 r found e (Pc.le (by omega)) r0 hF perm⟩
    · refine iteN hz ?_
      refine ⟨fun σ2 H3 => ∃ m', m' < m ∧ ∃ (Hb : Hp) (left found : List Nat), σ2 = [some (.ref p.d), some (.ref a), some (.ref l), some (.ref r)] ∧ Ex H0 Hb ∧ PenAt p Hb H3 (n + found.length) ∧ Hb l = some (.lst (left.map iv)) ∧ Hb r = some (.lst (found.map iv)) ∧ (left ++ found).Perm ns ∧ m' = left.length, fun σ2 H2 h => h, ?_⟩
      refine ⟨_, rfl, .inl ⟨rfl, _, sq_of (Pc.1 _ _ hF)⟩, _, rfl, .inl ⟨rfl, _, sq_of (Pc.1 _ _ hL)⟩, _, rfl, _, rfl, l, _, rfl, .inl (sq_of (Pc.1 _ _ hL)), ?_⟩
      refine ⟨p, Hb, n + found.length, _, rfl, Pc, by omega, by rw [List.length_map]; omega, by rw [List.length_map]; omega, fun H4 dr P4 dr0 dr1 => ?_⟩
      rw [List.length_map] at dr1
      obtain ⟨k, rfl⟩ : ∃ k : Nat, dr = (k : Int) := ⟨dr.toNat, (Int.toNat_of_nonneg dr0).symm⟩
      have hk : k < left.length := by omega
      have hx : left[k]? = some left[k] := List.getElem?_eq_getElem hk
      obtain ⟨x, hxx⟩ : ∃ x, left[k] = x := ⟨_, rfl⟩
      rw [hxx] at hx
      have pe := perm_erase hx
      have le := pe.length_eq
      rw [List.length_cons] at le
      refine ⟨l, _, _, k, iv x, rfl, rfl, P4.1 _ _ hL, by omega, by omega, ?_, by rw [List.getElem?_map, hx]; rfl, ?_⟩
      · unfold seqIndex?
        rw [List.length_map]
        simp only []
        split <;> simp_all <;> omega
      rw [erase_iv]
      have P5 := P4.both (o := .lst ((left.eraseIdx k).map iv)) l1 l2
      have e5 : Ex H0 (L2.upd Hb l (.lst ((left.eraseIdx k).map iv))) := e.mut l0
      have hL5 : (L2.upd Hb l (.lst ((left.eraseIdx k).map iv))) l = some (.lst ((left.eraseIdx k).map iv)) := upd_same
      have hF5 : (L2.upd Hb l (.lst ((left.eraseIdx k).map iv))) r = some (.lst (found.map iv)) := by
        rw [upd_ne nlr.symm]
        exact hF
      generalize (L2.upd Hb l (.lst ((left.eraseIdx k).map iv))) = Hc at P5 e5 hL5 hF5
      have P6 := P5.both (o := .lst (found.map iv ++ [iv x])) r1 r2
      refine ⟨r, _, _, rfl, rfl, P5.1 _ _ hF5, sz_lt (by rw [List.length_map]; omega), ?_⟩
      refine ⟨m - 1, by omega, _, left.eraseIdx k, found ++ [x], rfl, e5.mut r0, by rw [List.length_append]; exact P6, by rw [upd_ne nlr]; exact hL5, ?_, ?_, by omega⟩
      · rw [upd_same, List.map_append]
        rfl
      · refine List.Perm.trans ?_ perm
        rw [← List.append_assoc]
        refine List.perm_append_comm.trans ?_
        show (x :: (left.eraseIdx k ++ found)).Perm _
        rw [← List.cons_append]
        exact pe.append_right found
end
end Law

namespace Law
open PySem PySem.Spec PyProof.Rows L2 Evl EK TR Fg
theorem sz_ltM {n : Nat} (h : n < 10000000) : n < sizeLine := Nat.lt_of_lt_of_le h (by decide)
/-- what of the text the class Fitting has -/
structure FC (K : PySem.W.Frag) (C : Addr) : Prop where
  cl : Cls K C
  nw : NoAttr K C "_words"
  nf : NoAttr K C "_found"
def fFs (w f : V) : List (Str × V) := [("_words", w), ("_found", f)]
theorem putF2 (w f : V) : putF "_found" f (putF "_words" w []) = fFs w f := by
  have a1 : ¬ (("_words" : Str) = "_found") := by decide +kernel
  simp [putF, fFs, a1]
theorem fl_words (w f : V) : (fFs w f).lookup ("_words" : Str) = some w := rfl
theorem fl_found (w f : V) : (fFs w f).lookup ("_found" : Str) = some f := rfl
theorem fl_can (w f : V) : (fFs w f).lookup ("can" : Str) = none := rfl
theorem fl_least (w f : V) : (fFs w f).lookup ("least" : Str) = none := rfl
structure FI where
  o : Addr
  dx : Addr
  wt : Addr
  d : Addr
def CacheOk (ws : List (List Nat)) (kvs : List (Key × V)) : Prop := ∀ t v, valV kvs (.inr (tx t)) = some v → v = .bl (canF ws t 0)
theorem Rd.up {B H : Hp} {a : Addr} {u : HO} (h : Rd B a u) (e : Ex B H) : Rd H a u := by
  rcases h with h | ⟨o, h⟩
  · exact .inl (e _ _ h)
  · exact .inr ⟨o, e _ _ h⟩
theorem Rd.at {B H : Hp} {a : Addr} {u : HO} (h : Rd B a u) (e : H a = B a) : Rd H a u := by
  rcases h with h | ⟨o, h⟩
  · exact .inl (e.trans h)
  · exact .inr ⟨o, e.trans h⟩
theorem Rd.ne {H : Hp} {a b : Addr} {xs : List V} (h : Rd H a (.tup xs)) (hb : H b = none ∨ ∃ C dx fs, H b = some (.ins C dx fs)) : a ≠ b := fun z => by
  subst z
  rcases h with h | ⟨o, h⟩ <;> rcases hb with hb | ⟨C, dx, fs, hb⟩ <;> (rw [h] at hb; cases hb)
/-- a fitting whose cache has changed since B -/
def FitAt (C : Addr) (p : FI) (ws : List (List Nat)) (B H : Hp) (n : Nat) : Prop := Ex B H ∧ B p.d = none ∧ B p.o = some (.ins C p.dx (fFs (.ref p.wt) (.ref p.d))) ∧ Rd B p.wt (.tup (wv ws)) ∧ ∃ kvs, kvs.length ≤ n ∧ H p.d = some (.dK kvs) ∧ CacheOk ws kvs
section
variable {C : Addr} {p : FI} {ws : List (List Nat)} {B H H' : Hp} {n m : Nat}
theorem FitAt.ex (F : FitAt C p ws B H n) (e : Ex H H') : FitAt C p ws B H' n := by
  obtain ⟨e0, h0, ho, hw, kvs, hl, hd, hc⟩ := F
  exact ⟨e0.trans e, h0, ho, hw, kvs, hl, e _ _ hd, hc⟩
theorem FitAt.le (F : FitAt C p ws B H n) (h : n ≤ m) : FitAt C p ws B H m := by
  obtain ⟨e0, h0, ho, hw, kvs, hl, r⟩ := F
  exact ⟨e0, h0, ho, hw, kvs, Nat.le_trans hl h, r⟩
theorem FitAt.up (F : FitAt C p ws B H n) : Ex B (del H p.d) := fun b u h => by
  have nb : b ≠ p.d := fun z => by rw [z, F.2.1] at h; cases h
  rw [del_ne nb]
  exact F.1 _ _ h
theorem FitAt.plus (F : FitAt C p ws B H n) : FitAt C p ws (del H p.d) H n := by
  have up := F.up
  obtain ⟨e0, h0, ho, hw, r⟩ := F
  refine ⟨fun b u h => ?_, del_same, up _ _ ho, Rd.up hw up, r⟩
  by_cases q : b = p.d
  · rw [q, del_same] at h
    cases h
  · rw [del_ne q] at h
    exact h
theorem FitAt.back (F : FitAt C p ws B H n) (F' : FitAt C p ws (del H p.d) H' m) : FitAt C p ws B H' m := by
  have up := F.up
  obtain ⟨e0, h0, ho, hw, r⟩ := F
  exact ⟨up.trans F'.1, h0, ho, hw, F'.2.2.2.2⟩
/-- what is no dict stays -/
theorem FitAt.keep (F : FitAt C p ws B H n) (F' : FitAt C p ws (del H p.d) H' m) {b : Addr} {u : HO} (h : H b = some u) (hn : b ≠ p.d) : H' b = some u := F'.1 _ _ (by rw [del_ne hn]; exact h)
theorem FitAt.ne (F : FitAt C p ws B H n) {b : Addr} {u : HO} (h : H b = some u) (hu : ∀ kvs, u ≠ .dK kvs) : b ≠ p.d := fun z => by
  obtain ⟨_, _, _, _, kvs, _, hd, _⟩ := F
  rw [z, hd] at h
  exact hu kvs (Option.some.inj h).symm
end
theorem can_drop {ws : List (List Nat)} {k : List Nat} {o : Nat} : canF ws (k.drop o) 0 = canF ws k o := by
  unfold canF
  congr 1
  funext z
  unfold fitsF
  congr 1
  funext i
  unfold okAt
  rw [List.length_drop, Nat.zero_add, List.getD_eq_getElem?_getD, List.getElem?_drop, ← List.getD_eq_getElem?_getD]
  congr 1
  rw [decide_eq_decide]
  omega
def spInitF (C : Addr) : Sp := fun vs H Q _ => ∃ (o dx a : Addr) (k : Bool) (ws : List (List Nat)) (H0 : Hp), vs = [.ref o, .ref a] ∧ Ex H0 H ∧ H0 o = none ∧ H o = some (.ins C dx []) ∧ SQ.WQ H0 a k (wv ws) ∧
  ∀ H' wt d, Ex H0 H' → H0 d = none → FitAt C ⟨o, dx, wt, d⟩ ws (del H' d) H' 0 → Q .non H'
def spCan (C : Addr) : Sp := fun vs H Q _ => ∃ (p : FI) (ws : List (List Nat)) (B : Hp) (n off : Nat) (k : List Nat), vs = [.ref p.o, .str (tx k), .int (off : Nat)] ∧ FitAt C p ws B H n ∧ n < 900000 ∧ ws.length ≤ 10 ∧ (∀ z ∈ ws, z.length < 100) ∧ k.length < 100 ∧ off < 900 ∧
  ∀ H', FitAt C p ws B H' (n + 1) → Q (.bl (canF ws k off)) H'
def spLeast (C : Addr) : Sp := fun vs H Q _ => ∃ (p : FI) (ws : List (List Nat)) (B : Hp) (n : Nat) (k : List Nat), vs = [.ref p.o, .str (tx k), .int ((1 : Nat) : Int)] ∧ FitAt C p ws B H n ∧ n < 800000 ∧ 1 ≤ ws.length ∧ ws.length ≤ 10 ∧ (∀ z ∈ ws, z.length < 100) ∧ k.length < 100 ∧
  ∀ H', FitAt C p ws B H' (n + k.length + 3) → Q (.int (leastF ws k : Nat)) H'
section
variable {P : Program} {w : World} {K : PySem.W.Frag} {mg : Str → Option Value} {base : Heap} {C : Addr}
theorem ok_initF {f : Addr} {fd : FuncData} (F : Fun K "__init__" "Fitting.__init__" s_Fitting_init f fd) (T : Tx mg) (S : FC K C) : FnOk P w K mg base CX0 1 f fd ["self", "words"] (spInitF C) := by
  refine F.ok sc_Fitting_init (fun vs H Q E h => ?_) (fun cdv A outer s H vs Q E hr h => ?_)
  · obtain ⟨o, dx, a, k, ws, H0, rfl, _⟩ := h
    rfl
  · obtain ⟨o, dx, a, k, ws, H0, rfl, e0, ho0, ho, ha0, q⟩ := h
    refine ⟨_, (pss_cons (ps_fld (pv 0) (pe_callTy call_tuple_of (by rfl) T.tuple PyProof.Rows.boot_tuple (pa_cons (pv 1) pa_nil)) rfl)
      (pss_one (ps_fld (pv 0) pe_dnewK rfl))), ?_⟩
    have ha := ha0.ex e0
    have go : ∀ (H1 : Hp) (wt : Addr), Ex H H1 → Rd H1 wt (.tup (wv ws)) → ∃ a_1 C_1 dx_1 fs, V.ref o = .ref a_1 ∧ H1 a_1 = some (.ins C_1 dx_1 fs) ∧ Cls K C_1 ∧ NoAttr K C_1 "_words" ∧ fs.length < 1000 ∧ ∀ d, upd H1 a_1 (.ins C_1 dx_1 (putF "_words" (.ref wt) fs)) d = none →
        ∃ a_2 C_2 dx_2 fs2, V.ref o = .ref a_2 ∧ (upd (upd H1 a_1 (.ins C_1 dx_1 (putF "_words" (.ref wt) fs))) d (.dK [])) a_2 = some (.ins C_2 dx_2 fs2) ∧ Cls K C_2 ∧ NoAttr K C_2 "_found" ∧ fs2.length < 1000 ∧ Q .non (upd (upd (upd H1 a_1 (.ins C_1 dx_1 (putF "_words" (.ref wt) fs))) d (.dK [])) a_2 (.ins C_2 dx_2 (putF "_found" (.ref d) fs2))) := by
      intro H1 wt e1 hw
      have ho1 := e1 _ _ ho
      have nwo : wt ≠ o := Rd.ne hw (.inr ⟨_, _, _, ho1⟩)
      refine ⟨o, C, dx, [], rfl, ho1, S.cl, S.nw, by show 0 < 1000; decide, fun d hd => ?_⟩
      have ndo : d ≠ o := fun z => by rw [z, upd_same] at hd; cases hd
      have hd1 : H1 d = none := by rwa [upd_ne ndo] at hd
      have nwd : wt ≠ d := Rd.ne hw (.inl hd1)
      refine ⟨o, C, dx, _, rfl, by rw [upd_ne ndo.symm]; exact upd_same, S.cl, S.nf, by show 1 < 1000; decide, ?_⟩
      rw [putF2]
      have hd0 : H0 d = none := fresh_back (e0.trans e1) hd1
      refine q _ wt d (((((e0.trans e1).mut ho0)).trans (Ex.new hd)).mut ho0) hd0 ⟨fun b u h => ?_, del_same, ?_, ?_, [], Nat.le_refl _, ?_, fun t v h => by cases h⟩
      · by_cases z : b = d
        · rw [z, del_same] at h
          cases h
        · rw [del_ne z] at h
          exact h
      · rw [del_ne ndo.symm]
        exact upd_same
      · exact Rd.at hw (by rw [del_ne nwd, upd_ne nwo, upd_ne nwd, upd_ne nwo])
      · rw [upd_ne ndo]
        exact upd_same
    cases k
    · refine ⟨_, rfl, a, _, rfl, .inl ⟨sq_of ha, fun l hl => ⟨_, rfl, ?_⟩⟩⟩
      obtain ⟨a1, C1, dx1, fs1, x1, x2, x3, x4, x5, x6⟩ := go _ l (Ex.new hl) (.inl upd_same)
      exact ⟨a1, C1, dx1, fs1, x1, x2, x3, x4, x5, fun d hd => ⟨_, rfl, x6 d hd⟩⟩
    · refine ⟨_, rfl, a, _, rfl, .inr ⟨.inl ha.rd, ⟨_, rfl, ?_⟩⟩⟩
      obtain ⟨a1, C1, dx1, fs1, x1, x2, x3, x4, x5, x6⟩ := go _ a (Ex.refl _) ha.rd
      exact ⟨a1, C1, dx1, fs1, x1, x2, x3, x4, x5, fun d hd => ⟨_, rfl, x6 d hd⟩⟩
theorem ok_can {f : Addr} {fd : FuncData} (F : Fun K "can" "Fitting.can" s_Fitting_can f fd) (T : Tx mg) (S : FC K C) (c_fits : Kn P w K mg base "fits" ["known", "word", "offset"] 1 spFits) : FnOk P w K mg base CX0 2 f fd ["self", "known", "offset"] (spCan C) := by
  refine F.ok sc_Fitting_can (fun vs H Q E h => ?_) (fun cdv A outer s H vs Q E hr h => ?_)
  · obtain ⟨p, ws, B, n, off, k, rfl, _⟩ := h
    rfl
  · obtain ⟨p, ws, B, n, off, k, rfl, FA, hn, w10, wz, hk, ho9, q⟩ := h
    refine ⟨_, (pss_cons (ps_set (i := 3) sc_Fitting_can.nd rfl (Or.inr rfl) (pe_slice sl_str (pv 1) (po_some (pv 2)) po_none))
      (pss_cons (ps_if (pt_cmp (pc_dnotin (hu_of hr) (pv 3) (pe_fld (pv 0) rfl))) (pss_one (ps_dput (hu_of hr) (pe_fld (pv 0) rfl) (pv 3) (pe_callB (cr_any rfl) (by rfl) T.any PyProof.Rows.boot_any (pa_cons (pe_lc (own := [("word", 4)]) (g := gName 4) (tt := tYes) rfl sc_Fitting_can.nd (pi_tup (pe_fld (pv 0) rfl)) (blkOk_by (N := N_Fitting_can) (sc := defScope s_Fitting_can) (by decide +kernel)) (fun _ _ _ _ _ => (pg_name (i := 4) sc_Fitting_can.nd rfl (Or.inl rfl))) (fun _ _ _ _ _ => pts_nil) (fun _ _ _ _ _ => (pe_call c_fits.ok (hr.mono (by decide)) (by rfl) c_fits.g c_fits.kp c_fits.b .nil pass0 (pa_cons (pv 3) (pa_cons (pv 4) (pa_cons pe_int pa_nil)))))) pa_nil)) rfl)) pss_nil)
      (pss_one (ps_ret (pe_dget (hu_of hr) (pe_fld (pv 0) rfl) (pv 3) (fun _ _ => rfl)))))), ?_⟩
    have FP := FA.plus
    obtain ⟨e0, h0, ho, hw, kvs, hl, hd, hc⟩ := FP
    have hoH := e0 _ _ ho
    have hwH := Rd.up hw e0
    refine ⟨_, rfl, _, rfl, _, rfl, _, rfl, tx_le (by omega), ?_⟩
    rw [cut_from]
    obtain ⟨rs, hrs⟩ : ∃ rs, k.drop off = rs := ⟨_, rfl⟩
    have rl : rs.length < 100 := by
      rw [← hrs, List.length_drop]
      omega
    rw [hrs]
    dsimp only [gName]
    refine ⟨_, rfl, _, rfl, p.o, C, p.dx, _, _, rfl, hoH, S.cl, S.nf, fl_found .., ?_⟩
    refine ⟨p.d, _, rfl, DGet.k (k := .inr (tx rs)) hd, _, rfl, ?_⟩
    cases hv : valV kvs (.inr (tx rs)) with
    | some v =>
      refine iteF ?_
      have := hc rs v hv
      subst this
      refine ⟨_, rfl, p.o, C, p.dx, _, _, rfl, hoH, S.cl, S.nf, fl_found .., _, rfl, p.d, _, rfl, by rw [← hv]; exact DGet.k (k := .inr (tx rs)) hd, ?_⟩
      rw [← hrs, can_drop]
      exact q _ (FA.le (by omega))
    | none =>
      refine iteT ?_
      refine ⟨_, rfl, p.o, C, p.dx, _, _, rfl, hoH, S.cl, S.nw, fl_words .., p.wt, rfl, ⟨_, .inl hwH⟩, fun D hD => ?_⟩
      refine lc_tup (xs := wv ws) (fun i H' => Ex H H' ∧ H' D = some (.lst (((ws.take i).map fun z => fitsF rs z 0).map V.bl))) ⟨Ex.new hD, upd_same⟩ (fun i H' _ p => .inl (Rd.up hwH p.1)) (fun i x H2 hx hw2 => ?_) (fun H2 hw2 => ?_)
      · obtain ⟨e2, hL⟩ := hw2
        unfold wv at hx
        rw [List.getElem?_map] at hx
        obtain ⟨z, hz, rfl⟩ := Option.map_eq_some_iff.mp hx
        refine ⟨rfl, _, rfl, _, rfl, rs, z, 0, rfl, by omega, Nat.lt_trans (wz z (List.mem_of_getElem? hz)) (by decide), by decide, fun H3 e3 => ⟨_, e3 _ _ hL, ?_, (e2.trans e3).mut hD, ?_⟩⟩
        · rw [List.length_map, List.length_map, List.length_take]
          exact sz_ltM (by omega)
        · rw [upd_same, List.take_add_one, hz, List.map_append, List.map_append]
          rfl
      · obtain ⟨e2, hL⟩ := hw2
        rw [show (wv ws).length = ws.length by unfold wv; rw [List.length_map], List.take_length] at hL
        refine ⟨D, _, rfl, sq_of hL, ?_⟩
        rw [can_any]
        refine ⟨_, rfl, p.o, C, p.dx, _, _, rfl, e2 _ _ hoH, S.cl, S.nf, fl_found .., _, rfl, p.d, _, rfl, DPut.k (k := .inr (tx rs)) (e2 _ _ hd) (sz_ltM (by omega)), ?_⟩
        have npo : p.o ≠ p.d := fun z => by rw [z, hd] at hoH; cases hoH
        have hg : DGet (upd H2 p.d (.dK (putK kvs (.inr (tx rs)) (.bl (canF ws rs 0))))) p.d (.str (tx rs)) (some (.bl (canF ws rs 0))) := by
          have := DGet.k (k := .inr (tx rs)) (upd_same (H := H2) (a := p.d) (o := .dK (putK kvs (.inr (tx rs)) (.bl (canF ws rs 0)))))
          rw [valV_put, if_pos rfl] at this
          exact this
        refine ⟨_, rfl, p.o, C, p.dx, _, _, rfl, by rw [upd_ne npo]; exact e2 _ _ hoH, S.cl, S.nf, fl_found .., _, rfl, p.d, _, rfl, hg, ?_⟩
        have hcan : canF ws rs 0 = canF ws k off := by rw [← hrs, can_drop]
        have hx := length_putK kvs (.inr (tx rs)) (V.bl (canF ws rs 0))
        have F2 : FitAt C p ws (del H p.d) (upd H2 p.d (.dK (putK kvs (.inr (tx rs)) (.bl (canF ws rs 0))))) (n + 1) := ⟨(e0.trans e2).mut del_same, del_same, ho, hw, _, by omega, upd_same, fun t v h => by
          rw [valV_put] at h
          by_cases z : (.inr (tx t) : Key) = .inr (tx rs)
          · rw [if_pos z] at h
            cases h
            rw [tx_inj (Sum.inr.inj z)]
          · rw [if_neg z] at h
            exact hc t v h⟩
        rw [hcan] at F2 ⊢
        exact q _ (FA.back F2)
theorem ok_least {f fc : Addr} {fd fdc : FuncData} (F : Fun K "least" "Fitting.least" s_Fitting_least f fd) (T : Tx mg) (S : FC K C) (Me_can : Meth K C "can" fc) (F_can : FnOk P w K mg base CX0 2 fc fdc ["self", "known", "offset"] (spCan C)) (b_can : Binds K fdc ["self", "known", "offset"] []) :
    FnOk P w K mg base CX0 3 f fd ["self", "known", "low"] (spLeast C) := by
  refine F.ok sc_Fitting_least (fun vs H Q E h => ?_) (fun cdv A outer s H vs Q E hr h => ?_)
  · obtain ⟨p, ws, B, n, k, rfl, _⟩ := h
    rfl
  · obtain ⟨p, ws, B, n, k, rfl, FA, hn, w1, w10, wz, hk, q⟩ := h
    refine ⟨_, (pss_cons (ps_set (i := 3) sc_Fitting_least.nd rfl (Or.inl rfl) (pv 2))
      (pss_cons (ps_while PassesOwn.never (pt_not (pt_val (pe_meth (pv 0) S.cl Me_can F_can (hr.mono (by decide)) b_can .nil pass0 (pa_cons (pv 1) (pa_cons (pv 3) pa_nil))))) (pss_one (ps_aug (i := 3) sc_Fitting_least.nd rfl (Or.inl rfl) pe_int ip_add)))
      (pss_one (ps_ret (pv 3))))), ?_⟩
    refine ⟨_, rfl, ?_⟩
    dsimp only [gName]
    refine ⟨fun m σ H' => ∃ (o n' : Nat), σ = [some (.ref p.o), some (.str (tx k)), some (.int ((1 : Nat) : Int)), some (.int (o : Nat))] ∧ FitAt C p ws B H' n' ∧ leastN ws k m o = leastF ws k ∧ o + m = k.length + 2 ∧ n' + m = n + k.length + 1 ∧ 1 ≤ o,
      ⟨k.length + 1, 1, n, rfl, FA, rfl, by omega, by omega, by decide⟩, fun m σ H' hw => ?_⟩
    obtain ⟨o, n', rfl, FB, hl, hm, hm2, o1⟩ := hw
    refine ⟨_, rfl, p.o, p.dx, _, rfl, FB.1 _ _ FB.2.2.1, fl_can .., _, rfl, _, rfl, ?_⟩
    refine ⟨p, ws, B, n', o, k, rfl, FB, by omega, w10, wz, hk, by omega, fun H2 F2 => ⟨_, rfl, ?_⟩⟩
    cases hc : canF ws k o with
    | true =>
      refine ⟨_, rfl, ?_⟩
      rw [leastN_stop hc] at hl
      rw [hl]
      exact q _ (F2.le (by omega))
    | false =>
      refine ⟨fun σ' H' => ∃ m', m' < m ∧ ∃ (o n' : Nat), σ' = [some (.ref p.o), some (.str (tx k)), some (.int ((1 : Nat) : Int)), some (.int (o : Nat))] ∧ FitAt C p ws B H' n' ∧ leastN ws k m' o = leastF ws k ∧ o + m' = k.length + 2 ∧ n' + m' = n + k.length + 1 ∧ 1 ≤ o, fun σ' H' h => h, ?_⟩
      cases m with
      | zero =>
        rw [can_far w1 (by omega)] at hc
        cases hc
      | succ m =>
        rw [leastN_go hc] at hl
        exact ⟨_, rfl, _, _, rfl, rfl, m, Nat.lt_succ_self m, o + 1, n' + 1, rfl, F2, hl, by omega, by omega, by omega⟩
end
end Law

namespace TR
open PySem PySem.Spec L2 Evl
/-! ### a tree as data -/
mutual
def Tr.data : Tr → PyData
  | .go s q => .tuple [.str "go", .int (s : Nat), .int (q : Nat)]
  | .tell n t => .tuple [.str "tell", .int (n : Nat), t.data]
  | .read p ts => .tuple [.str "read", .int (p : Nat), .tuple ts.data]
def Trs.data : Trs → List PyData
  | .nil => []
  | .cons t r => t.data :: r.data
end
mutual
theorem TA.dp {K : PySem.W.Frag} {H : Hp} : ∀ {t : Tr} {v : V}, TA true H v t → Dp K H v t.data
  | _, _, .go h => .tup (st_of h) (.cons (.str _) (.cons (.int _) (.cons (.int _) .nil)))
  | _, _, .tell h r => .tup (st_of h) (.cons (.str _) (.cons (.int _) (.cons (TA.dp r) .nil)))
  | _, _, .read h hb r => .tup (st_of h) (.cons (.str _) (.cons (.int _) (.cons (.tup (st_of hb) (TAs.dp r)) .nil)))
theorem TAs.dp {K : PySem.W.Frag} {H : Hp} : ∀ {ts : Trs} {vs : List V}, TAs true H vs ts → DpAll K H vs ts.data
  | _, _, .nil => .nil
  | _, _, .cons h r => .cons (TA.dp h) (TAs.dp r)
end
theorem Kids.dp {K : PySem.W.Frag} {H : Hp} : ∀ {ts : List Tr} {vs : List V}, Kids true H vs ts → DpAll K H vs (ts.map Tr.data)
  | _, _, .nil => .nil
  | _, _, .cons h r => .cons h.dp (Kids.dp r)
theorem ok_str (x : String) (h : PyData.canLay0 (.str x) = true := by decide +kernel) : PyData.canLay0 (.str x) = true := h
mutual
theorem Tr.lays : ∀ t : Tr, t.data.canLay0 = true
  | .go s q => by
    simp only [Tr.data, PyData.canLay0, PyData.canLayAll0, Bool.and_true]
    decide +kernel
  | .tell n t => by
    simp only [Tr.data, PyData.canLay0, PyData.canLayAll0, Bool.and_true, Bool.true_and, Tr.lays t]
    decide +kernel
  | .read p ts => by
    simp only [Tr.data, PyData.canLay0, PyData.canLayAll0, Bool.and_true, Bool.true_and, Trs.lays ts]
    decide +kernel
theorem Trs.lays : ∀ ts : Trs, PyData.canLayAll0 ts.data = true
  | .nil => by simp only [Trs.data, PyData.canLayAll0]
  | .cons t r => by simp only [Trs.data, PyData.canLayAll0, Tr.lays t, Trs.lays r, Bool.and_true]
end
mutual
theorem Tr.deep : ∀ t : Tr, t.data.depth ≤ 2 * t.depth
  | .go s q => by
    simp only [Tr.data, PyData.depth, PyData.depthAll, Tr.depth]
    decide
  | .tell n t => by
    have := Tr.deep t
    simp only [Tr.data, PyData.depth, PyData.depthAll, Tr.depth]
    omega
  | .read p ts => by
    have := Trs.deep ts
    simp only [Tr.data, PyData.depth, PyData.depthAll, Tr.depth]
    omega
theorem Trs.deep : ∀ ts : Trs, PyData.depthAll ts.data ≤ 2 * ts.depth
  | .nil => Nat.zero_le _
  | .cons t r => by
    have := Tr.deep t
    have := Trs.deep r
    simp only [Trs.data, PyData.depthAll, Trs.depth]
    omega
end
theorem eqv3 (x y : Str) (m n : Nat) (a b : PyData) : PyData.eqv (.tuple [.str x, .int (m : Nat), a]) (.tuple [.str y, .int (n : Nat), b]) = ((x == y) && (((m : Int) == (n : Int)) && (PyData.eqv a b && true))) := by
  simp only [PyData.eqv, PyData.eqvAll]
theorem eqv3_of {x y : Str} {m n : Nat} {a b : PyData} (h : PyData.eqv (.tuple [.str x, .int (m : Nat), a]) (.tuple [.str y, .int (n : Nat), b]) = true) : x = y ∧ m = n ∧ PyData.eqv a b = true := by
  rw [eqv3] at h
  simp only [Bool.and_eq_true, beq_iff_eq] at h
  exact ⟨h.1, by have := h.2.1; omega, h.2.2.1⟩
theorem g_t : ¬ (("go" : Str) = "tell") := by decide +kernel
theorem g_r : ¬ (("go" : Str) = "read") := by decide +kernel
theorem t_r : ¬ (("tell" : Str) = "read") := by decide +kernel
theorem eqvI {m n : Nat} (h : PyData.eqv (.int (m : Nat)) (.int (n : Nat)) = true) : m = n := by
  have h2 : ((m : Int) == (n : Int)) = true := by
    simpa only [PyData.eqv] using h
  have := beq_iff_eq.mp h2
  omega
theorem eqvT {xs ys : List PyData} : PyData.eqv (.tuple xs) (.tuple ys) = PyData.eqvAll xs ys := by
  simp only [PyData.eqv]
mutual
theorem Tr.inj : ∀ t u : Tr, PyData.eqv t.data u.data = true → t = u
  | .go s q, .go s' q', h => by
    obtain ⟨_, h1, h2⟩ := eqv3_of h
    rw [h1, eqvI h2]
  | .tell n t, .tell n' t', h => by
    obtain ⟨_, h1, h2⟩ := eqv3_of h
    rw [h1, Tr.inj t t' h2]
  | .read p ts, .read p' us, h => by
    obtain ⟨_, h1, h2⟩ := eqv3_of h
    rw [eqvT] at h2
    rw [h1, Trs.inj ts us h2]
  | .go _ _, .tell _ _, h => absurd (eqv3_of h).1 g_t
  | .go _ _, .read _ _, h => absurd (eqv3_of h).1 g_r
  | .tell _ _, .go _ _, h => absurd (eqv3_of h).1.symm g_t
  | .tell _ _, .read _ _, h => absurd (eqv3_of h).1 t_r
  | .read _ _, .go _ _, h => absurd (eqv3_of h).1.symm g_r
  | .read _ _, .tell _ _, h => absurd (eqv3_of h).1.symm t_r
theorem Trs.inj : ∀ t u : Trs, PyData.eqvAll t.data u.data = true → t = u
  | .nil, .nil, _ => rfl
  | .cons t r, .cons t' r', h => by
    simp only [Trs.data, PyData.eqvAll, Bool.and_eq_true] at h
    rw [Tr.inj t t' h.1, Trs.inj r r' h.2]
  | .nil, .cons _ _, h => by simp [Trs.data, PyData.eqvAll] at h
  | .cons _ _, .nil, h => by simp [Trs.data, PyData.eqvAll] at h
end
theorem eqv3_mk (x : Str) (m : Nat) {a : PyData} (h : PyData.eqv a a = true) : PyData.eqv (.tuple [.str x, .int (m : Nat), a]) (.tuple [.str x, .int (m : Nat), a]) = true := by
  rw [eqv3, h]
  simp
mutual
theorem Tr.same : ∀ t : Tr, PyData.eqv t.data t.data = true
  | .go s q => eqv3_mk _ _ (by simp only [PyData.eqv, beq_self_eq_true])
  | .tell n t => eqv3_mk _ _ (Tr.same t)
  | .read p ts => eqv3_mk _ _ (by rw [eqvT]; exact Trs.same ts)
theorem Trs.same : ∀ t : Trs, PyData.eqvAll t.data t.data = true
  | .nil => by simp only [Trs.data, PyData.eqvAll]
  | .cons t r => by simp only [Trs.data, PyData.eqvAll, Tr.same t, Trs.same r, Bool.and_true]
end
/-- the states as data -/
def sdata (ts : List Tr) : PyData := .tuple (ts.map Tr.data)
theorem sd_inj : ∀ ts us : List Tr, PyData.eqvAll (ts.map Tr.data) (us.map Tr.data) = true → ts = us
  | [], [], _ => rfl
  | t :: r, u :: s, h => by
    simp only [List.map_cons, PyData.eqvAll, Bool.and_eq_true] at h
    rw [Tr.inj t u h.1, sd_inj r s h.2]
  | [], _ :: _, h => by simp [PyData.eqvAll] at h
  | _ :: _, [], h => by simp [PyData.eqvAll] at h
theorem sd_same : ∀ ts : List Tr, PyData.eqvAll (ts.map Tr.data) (ts.map Tr.data) = true
  | [] => by simp only [List.map_nil, PyData.eqvAll]
  | t :: r => by simp only [List.map_cons, PyData.eqvAll, Tr.same t, sd_same r, Bool.and_true]
theorem sd_lays : ∀ ts : List Tr, PyData.canLayAll0 (ts.map Tr.data) = true
  | [] => by simp only [List.map_nil, PyData.canLayAll0]
  | t :: r => by simp only [List.map_cons, PyData.canLayAll0, Tr.lays t, sd_lays r, Bool.and_true]
theorem sd_deep {d : Nat} : ∀ {ts : List Tr}, (∀ t ∈ ts, t.depth ≤ d) → PyData.depthAll (ts.map Tr.data) ≤ 2 * d
  | [], _ => by simp only [List.map_nil, PyData.depthAll]; exact Nat.zero_le _
  | t :: r, h => by
    have h1 := Tr.deep t
    have h2 := h t List.mem_cons_self
    have h3 := sd_deep (ts := r) fun x hx => h x (List.mem_cons_of_mem _ hx)
    simp only [List.map_cons, PyData.depthAll]
    omega
theorem sd_shaped {ts : List Tr} (h : ∀ t ∈ ts, t.depth ≤ 31) : SeqAt.shaped (sdata ts) = true := by
  have h1 := sd_deep h
  unfold SeqAt.shaped sdata
  rw [Bool.and_eq_true]
  refine ⟨by simp only [PyData.canLay0, sd_lays], decide_eq_true ?_⟩
  simp only [PyData.depth]
  omega
theorem sd_eqv {ts us : List Tr} (d : Bool) (h : d = true ↔ ts = us) : PyData.eqv (sdata ts) (sdata us) = d := by
  unfold sdata
  rw [eqvT]
  cases d
  · cases e : PyData.eqvAll (ts.map Tr.data) (us.map Tr.data)
    · rfl
    · exact absurd (h.mpr (sd_inj _ _ e)) (by decide)
  · rw [h.mp rfl]
    exact sd_same _
end TR
namespace TR
open PySem PySem.Spec L2 Evl
theorem dig (n : Nat) (h : n < 100) : ((toString ((n : Nat) : Int) : String) : Str).length ≤ 2 := by
  have all : ∀ i : Fin 100, ((toString ((i.val : Nat) : Int) : String) : Str).length ≤ 2 := by decide +kernel
  exact all ⟨n, h⟩
theorem q_go : (reprText ("go" : Str)).length ≤ 6 := by decide +kernel
theorem q_tell : (reprText ("tell" : Str)).length ≤ 6 := by decide +kernel
theorem q_read : (reprText ("read" : Str)).length ≤ 6 := by decide +kernel
theorem shown3 (x : Str) (n : Nat) (a : PyData) (hx : (reprText x).length ≤ 6) (hn : n < 100) : (PyData.shown (.tuple [.str x, .int (n : Nat), a])).length ≤ 16 + a.shown.length := by
  have h1 := fmt_text [reprText x, ((toString ((n : Nat) : Int) : String) : Str), a.shown]
  rw [piled_cons, piled_cons, piled_cons] at h1
  have h2 := dig n hn
  have e0 : piled [] = 0 := rfl
  have e : PyData.shown (.tuple [.str x, .int (n : Nat), a]) = tupleText [reprText x, ((toString ((n : Nat) : Int) : String) : Str), a.shown] := by
    simp only [PyData.shown, PyData.shownAll]
  rw [e]
  omega
mutual
theorem Tr.shown_le {l w n : Nat} (hw : w ≤ 8) (hn : n ≤ 64) : ∀ t : Tr, t.ok l w n → t.data.shown.length + 2 ≤ 40 * t.size
  | .go s q, h => by
    have h1 := shown3 "go" s (.int (q : Nat)) q_go (by have := h.2.1; omega)
    have h2 : (PyData.shown (.int (q : Nat))).length ≤ 2 := by
      have e : PyData.shown (.int (q : Nat)) = ((toString ((q : Nat) : Int) : String) : Str) := by simp only [PyData.shown]
      rw [e]
      exact dig q (by have := h.2.2; omega)
    show (PyData.shown (.tuple [.str "go", .int (s : Nat), .int (q : Nat)])).length + 2 ≤ 40 * 1
    omega
  | .tell k t, h => by
    have h1 := shown3 "tell" k t.data q_tell (by have := h.1; omega)
    have h2 := Tr.shown_le hw hn t h.2
    show (PyData.shown (.tuple [.str "tell", .int (k : Nat), t.data])).length + 2 ≤ 40 * (t.size + 1)
    omega
  | .read p ts, h => by
    have h1 := shown3 "read" p (.tuple ts.data) q_read (by have := h.1; omega)
    have h2 := Trs.shown_le hw hn ts h.2.2
    have h3 := fmt_text (PyData.shownAll ts.data)
    have e : PyData.shown (.tuple ts.data) = tupleText (PyData.shownAll ts.data) := by simp only [PyData.shown]
    rw [e] at h1
    show (PyData.shown (.tuple [.str "read", .int (p : Nat), .tuple ts.data])).length + 2 ≤ 40 * (ts.size + 1)
    omega
theorem Trs.shown_le {l w n : Nat} (hw : w ≤ 8) (hn : n ≤ 64) : ∀ ts : Trs, ts.ok l w n → piled (PyData.shownAll ts.data) ≤ 40 * ts.size
  | .nil, _ => by
    have e : PyData.shownAll Trs.nil.data = [] := by simp only [Trs.data, PyData.shownAll]
    rw [e]
    exact Nat.zero_le _
  | .cons t r, h => by
    have h1 := Tr.shown_le hw hn t h.1
    have h2 := Trs.shown_le hw hn r h.2
    have e : PyData.shownAll (Trs.cons t r).data = t.data.shown :: PyData.shownAll r.data := by simp only [Trs.data, PyData.shownAll]
    rw [e, piled_cons]
    show _ ≤ 40 * (t.size + r.size)
    omega
end
theorem sd_piled {l w n : Nat} (hw : w ≤ 8) (hn : n ≤ 64) : ∀ {ts : List Tr}, (∀ t ∈ ts, t.ok l w n) → piled (PyData.shownAll (ts.map Tr.data)) ≤ 40 * TR.total ts
  | [], _ => by
    have e : PyData.shownAll (([] : List Tr).map Tr.data) = [] := by simp only [List.map_nil, PyData.shownAll]
    rw [e]
    exact Nat.zero_le _
  | t :: r, h => by
    have h1 := Tr.shown_le hw hn t (h t List.mem_cons_self)
    have h2 := sd_piled hw hn (ts := r) fun x hx => h x (List.mem_cons_of_mem _ hx)
    have e : PyData.shownAll ((t :: r).map Tr.data) = t.data.shown :: PyData.shownAll (r.map Tr.data) := by simp only [List.map_cons, PyData.shownAll]
    rw [e, piled_cons]
    show _ ≤ 40 * (t.size + TR.total r)
    omega
theorem sd_shown {l w n : Nat} (hw : w ≤ 8) (hn : n ≤ 64) {ts : List Tr} (h : ∀ t ∈ ts, t.ok l w n) : (sdata ts).shown.length ≤ 40 * TR.total ts + 2 := by
  have h1 := fmt_text (PyData.shownAll (ts.map Tr.data))
  have h2 := sd_piled hw hn h
  have e : (sdata ts).shown = tupleText (PyData.shownAll (ts.map Tr.data)) := by
    unfold sdata
    simp only [PyData.shown]
  rw [e]
  omega
/-- repr of data, where no text is being made -/
structure RP (K : PySem.W.Frag) (xs : List V) (H : Hp) (Q : VK) : Prop where
  ex : ∃ a d, xs = [.ref a] ∧ Dp K H (.ref a) d ∧ d.showable = true ∧ d.hasDict = false ∧ d.depth ≤ 64 ∧ d.shown.length ≤ sizeLine ∧ Q (.str d.shown) H
abbrev rRepr (K : PySem.W.Frag) : List V → Hp → VK → Prop := fun xs H Q => RP K xs H Q
theorem call_reprD {X : Cx} (hg : X.A.guards = some []) (hu : X.A.units + 70 < cLine) : CallR X (.builtin "repr") (rRepr X.K) := by
  intro pins s σ H xs us Q I r h
  obtain ⟨a, d, rfl, hd, h1, h2, h3, h4, q⟩ := h.ex
  obtain ⟨u, rfl, ru⟩ := vals1 r
  obtain ⟨as, rd⟩ := Dp.reads I d _ u hd ru
  cases ru
  exact repr_of_reads' rd h1 (fun e => by rw [h2] at e; cases e) hg (by omega) (fun _ _ e => e) (fun h' u tk hk => ⟨.str d.shown, H, I.kept hk, ⟨u, rfl⟩, q⟩) h4
theorem shI {n : Nat} (h : n < 100) : PyData.showable (.int (n : Nat)) = true := by
  have all : ∀ i : Fin 100, PyData.showable (.int (i.val : Nat)) = true := by
    intro i
    simp only [PyData.showable, decide_eq_true_eq]
    revert i
    decide +kernel
  exact all ⟨n, h⟩
theorem sh3 (x : Str) {n : Nat} {a : PyData} (h : n < 100) (ha : a.showable = true) : PyData.showable (.tuple [.str x, .int (n : Nat), a]) = true := by
  have h2 := shI h
  simp only [PyData.showable, PyData.showableAll, Bool.and_true, Bool.true_and] at h2 ⊢
  rw [h2, ha]
  rfl
theorem hd3 (x : Str) {n : Nat} {a : PyData} (ha : a.hasDict = false) : PyData.hasDict (.tuple [.str x, .int (n : Nat), a]) = false := by
  simp only [PyData.hasDict, PyData.hasDictAll, Bool.or_false, Bool.false_or, ha]
mutual
theorem Tr.shows {l w n : Nat} (hw : w ≤ 8) (hn : n ≤ 64) : ∀ t : Tr, t.ok l w n → t.data.showable = true ∧ t.data.hasDict = false
  | .go s q, h => ⟨sh3 _ (by have := h.2.1; omega) (shI (by have := h.2.2; omega)), hd3 _ (by simp only [PyData.hasDict])⟩
  | .tell k t, h => ⟨sh3 _ (by have := h.1; omega) (Tr.shows hw hn t h.2).1, hd3 _ (Tr.shows hw hn t h.2).2⟩
  | .read p ts, h => ⟨sh3 _ (by have := h.1; omega) (by simp only [PyData.showable]; exact (Trs.shows hw hn ts h.2.2).1), hd3 _ (by simp only [PyData.hasDict]; exact (Trs.shows hw hn ts h.2.2).2)⟩
theorem Trs.shows {l w n : Nat} (hw : w ≤ 8) (hn : n ≤ 64) : ∀ ts : Trs, ts.ok l w n → PyData.showableAll ts.data = true ∧ PyData.hasDictAll ts.data = false
  | .nil, _ => ⟨by simp only [Trs.data, PyData.showableAll], by simp only [Trs.data, PyData.hasDictAll]⟩
  | .cons t r, h => ⟨by simp only [Trs.data, PyData.showableAll, (Tr.shows hw hn t h.1).1, (Trs.shows hw hn r h.2).1, Bool.and_true], by simp only [Trs.data, PyData.hasDictAll, (Tr.shows hw hn t h.1).2, (Trs.shows hw hn r h.2).2, Bool.or_false]⟩
end
theorem sd_shows {l w n : Nat} (hw : w ≤ 8) (hn : n ≤ 64) : ∀ {ts : List Tr}, (∀ t ∈ ts, t.ok l w n) → PyData.showableAll (ts.map Tr.data) = true ∧ PyData.hasDictAll (ts.map Tr.data) = false
  | [], _ => ⟨by simp only [List.map_nil, PyData.showableAll], by simp only [List.map_nil, PyData.hasDictAll]⟩
  | t :: r, h => by
    have h1 := Tr.shows hw hn t (h t List.mem_cons_self)
    have h2 := sd_shows hw hn (ts := r) fun x hx => h x (List.mem_cons_of_mem _ hx)
    exact ⟨by simp only [List.map_cons, PyData.showableAll, h1.1, h2.1, Bool.and_true], by simp only [List.map_cons, PyData.hasDictAll, h1.2, h2.2, Bool.or_false]⟩
/-- the text of the states -/
theorem repr_st {K : PySem.W.Frag} {H : Hp} {a : Addr} {us : List V} {ts : List Tr} {l w n : Nat} {Q : VK} (h : H a = some (.tup us)) (KK : Kids true H us ts) (hw : w ≤ 8) (hn : n ≤ 64) (hok : ∀ t ∈ ts, t.ok l w n) (hd : ∀ t ∈ ts, t.depth ≤ 31) (hs : TR.total ts ≤ 10000)
    (q : Q (.str (sdata ts).shown) H) : RP K [.ref a] H Q := by
  have h1 := sd_shown hw hn hok
  have h2 := sd_shows hw hn hok
  have h3 := sd_deep hd
  refine ⟨⟨a, sdata ts, rfl, .tup (st_of h) KK.dp, ?_, ?_, ?_, Nat.le_trans (show (sdata ts).shown.length ≤ 1000000 by omega) (by decide), q⟩⟩
  · unfold sdata
    simp only [PyData.showable]
    exact h2.1
  · unfold sdata
    simp only [PyData.hasDict]
    exact h2.2
  · unfold sdata
    simp only [PyData.depth]
    omega
end TR

namespace Law
open PySem PySem.Spec PyProof.Rows L2 Evl TR
/-! these three rows stand in the head, too, once it is printed anew: leave them out then -/
/-- what == asks of the class -/
structure SE (K : PySem.W.Frag) (C : Addr) : Prop where
  ins : C8.InsC K C
  tn : PySem.W.kitOne K (.type "tuple") (.ref C) = some false
theorem tx_inj' {l m : List Nat} (h : tx l = tx m) : l = m := by
  have h2 := congrArg (fun s : Str => s.cps.toList) h
  simpa [tx] using h2
theorem sFs_l (l w s n : V) : (sFs l w s n).lookup ("letters" : Str) = some l := rfl
theorem sFs_w (l w s n : V) : (sFs l w s n).lookup ("width" : Str) = some w := rfl
theorem sFs_s (l w s n : V) : (sFs l w s n).lookup ("states" : Str) = some s := rfl
theorem sFs_n (l w s n : V) : (sFs l w s n).lookup ("nodes" : Str) = some n := rfl
theorem SObj.up {C o : Addr} {H H' : Hp} {L : List Nat} {w : Nat} {ts : List Tr} (S : SObj C H o L w ts) (e : Ex H H') : SObj C H' o L w ts := by
  obtain ⟨dx, st, us, h1, h2, h3⟩ := S.ex
  exact ⟨dx, st, us, e _ _ h1, e _ _ h2, h3.ex e⟩
def spEqO (C : Addr) : Sp := fun vs H Q _ =>
  (∃ (o o' : Addr) (L L' : List Nat) (w w' : Nat) (ts us : List Tr) (d : Bool), vs = [.ref o, .ref o'] ∧ SObj C H o L w ts ∧ SObj C H o' L' w' us ∧ (∀ t ∈ ts, t.depth ≤ 31) ∧ (∀ t ∈ us, t.depth ≤ 31) ∧ (d = true ↔ L = L' ∧ w = w' ∧ ts = us) ∧ ∀ H', Ex H H' → Q (.bl d) H') ∨
  (∃ (o b : Addr) (L : List Nat) (w : Nat) (ts : List Tr) (xs : List V), vs = [.ref o, .ref b] ∧ SObj C H o L w ts ∧ H b = some (.tup xs) ∧ ∀ H', Ex H H' → Q (.bl false) H')
section
variable {P : Program} {w : World} {K : PySem.W.Frag} {mg : Str → Option Value} {base : Heap}
theorem ok_eq {f C_Searcher : Addr} {fd : FuncData} (F : Fun K "__eq__" "Searcher.__eq__" s_Searcher_eq f fd) (T : Tx mg) (g_Searcher : mg "Searcher" = some (.ref C_Searcher)) (S : SC K C_Searcher) (S2 : SE K C_Searcher) :
    FnOk P w K mg base CX0 1 f fd ["self", "other"] (spEqO C_Searcher) := by
  refine F.ok sc_Searcher_eq (fun vs H Q E h => ?_) (fun cdv A outer s H vs Q E hr h => ?_)
  · rcases h with ⟨_, _, _, _, _, _, _, _, _, rfl, _⟩ | ⟨_, _, _, _, _, _, rfl, _⟩ <;> rfl
  · refine ⟨_, (pss_one (ps_ret (pe_and (pe_callB call_isi (by rfl) T.isinstance PyProof.Rows.boot_isinstance (pa_cons (pv 1) (pa_cons (pe_glob (v := .ref C_Searcher) rfl g_Searcher rfl) pa_nil))) (pe_and (pe_cmpR op_eq (pe_fld (pv 0) rfl) (pe_fld (pv 1) rfl) (nomark _)) (pe_and (pe_cmpR op_eq (pe_fld (pv 0) rfl) (pe_fld (pv 1) rfl) (nomark _)) (pe_one (pe_cmpR (op_eqD hr.units) (pe_fld (pv 0) rfl) (pe_fld (pv 1) rfl) (nomark _)))))))), ?_⟩
    have I := S2.ins
    rcases h with ⟨o, o', L, L', wd, wd', ts, us, d, rfl, ho, ho', dt, du, hd, q⟩ | ⟨o, b, L, wd, ts, xs, rfl, ho, hb, q⟩
    · obtain ⟨dx, st, vs, e1, e2, e3⟩ := ho.ex
      obtain ⟨dx', st', vs', f1, f2, f3⟩ := ho'.ex
      have q2 := q H (Ex.refl _)
      refine ⟨_, rfl, _, _, _, _, true, rfl, .own _, .base (TyOf.ins f1 I.cl I.ha I.hn I.htk I.hm), I.me, true, rfl, ?_⟩
      refine ⟨_, rfl, o, _, dx, _, _, rfl, e1, S.cl, S.nl, sFs_l _ _ _ _, _, rfl, o', _, dx', _, _, rfl, f1, S.cl, S.nl, sFs_l _ _ _ _, rfl, ?_⟩
      by_cases hL : L = L'
      · rw [decide_eq_true (show V.str (tx L) = V.str (tx L') by rw [hL])]
        refine ⟨true, rfl, ?_⟩
        refine ⟨_, rfl, o, _, dx, _, _, rfl, e1, S.cl, S.nw, sFs_w _ _ _ _, _, rfl, o', _, dx', _, _, rfl, f1, S.cl, S.nw, sFs_w _ _ _ _, rfl, ?_⟩
        by_cases hw : wd = wd'
        · rw [decide_eq_true (show V.int (wd : Int) = V.int (wd' : Int) by rw [hw])]
          refine ⟨true, rfl, ?_⟩
          refine ⟨_, rfl, o, _, dx, _, _, rfl, e1, S.cl, S.ns, sFs_s _ _ _ _, _, rfl, o', _, dx', _, _, rfl, f1, S.cl, S.ns, sFs_s _ _ _ _, ?_⟩
          refine ⟨sdata ts, sdata us, .tup (st_of e2) e3.dp, .tup (st_of f2) f3.dp, sd_shaped dt, sd_shaped du, ?_⟩
          rw [sd_eqv d ⟨fun z => (hd.mp z).2.2, fun z => hd.mpr ⟨hL, hw, z⟩⟩]
          exact q2
        · rw [decide_eq_false (fun z => hw (by have := V.int.inj z; omega))]
          refine ⟨false, rfl, ?_⟩
          have hdf : d = false := by
            cases d
            · rfl
            · exact absurd (hd.mp rfl).2.1 hw
          rw [hdf] at q2
          exact q2
      · rw [decide_eq_false (fun z => hL (tx_inj' (V.str.inj z)))]
        refine ⟨false, rfl, ?_⟩
        have hdf : d = false := by
          cases d
          · rfl
          · exact absurd (hd.mp rfl).1 hL
        rw [hdf] at q2
        exact q2
    · obtain ⟨dx, st, vs, e1, e2, e3⟩ := ho.ex
      exact ⟨_, rfl, _, _, _, _, false, rfl, .own _, .base (.tup hb), S2.tn, false, rfl, q H (Ex.refl _)⟩
end
end Law

namespace OE
open PySem PySem.Spec PyProof.Rows L2 Evl
/-! ### == and != by an own __eq__ with both answers -/
section
variable {M : Model} {prog : Program} {w : World} {A : Around} {E : Value → Shared → Prop} {s : Shared} {K : PySem.W.Frag} {x C f : Addr} {ox : Obj} {od : Option Obj} {b tb : Value}
theorem sub_tup : PySem.W.subIn K (.type "tuple") (.ref C) = some false := by
  have e : fastBuiltinMro "tuple" = some [.type "tuple", .type "object"] := by decide +kernel
  show (fastBuiltinMro "tuple").map (·.contains (.ref C)) = some false
  rw [e]
  first
    | rfl
    | simp
theorem entry_ne {Q : Fin → Shared → Prop} (X : K.In s.heap) (I : PySem.W.InstAt s.heap x ox C od) (hu : A.units < cLine) (hs : PySem.W.findIn K (.ref C) "__eq__" = some (some (.ref f))) (hf : PySem.W.isFn K (.ref f) = true)
    (h : wpAny M A (call (.ref f) [.ref x, b]) (fun v s' => ∃ r, v = .bool r ∧ Q (.done (.ret (.bool (!r)))) s') E s) : wpAny M A (Builtin.«object.__ne__» ⟨[.ref x, b], []⟩) Q E s := by
  unfold Builtin.«object.__ne__»
  have done : ∀ v s', (∃ r, v = Value.bool r ∧ Q (.done (.ret (.bool (!r)))) s') → wpAny M A (match (some v : Option Value) with
      | some .notImplemented | none => ret .notImplemented
      | some r => do ret (.bool (!(← truthy r)))) Q E s' := fun v s' z => by
    obtain ⟨r, rfl, hq⟩ := z
    exact wpAny_bind (wpAny_truthy_bool (wpAny_pure hq))
  repeat (first | with_reducible refine wpAny_cRoomFor hu ?_ | exact PySem.W.ifBound_K X I hs hf (wpAny_mono h done fun _ _ e => e) | wp_step)
theorem ne_K {Q : Value → Shared → Prop} {h₀ : Heap} {L : Addr} {m : Str → Option Value} (hu : A.units + 1 < cLine) (Fx : Fr h₀ L s.heap m) (X₀ : K.In h₀) (I : PySem.W.InstAt s.heap x ox C od) (hb : PySem.W.Looks (model prog w) s.heap (typeOf b) tb) (hn : PySem.W.notFirst K C tb = true)
    (hm : PySem.W.mroIn K C (.type "object") = some true) (hne : PySem.W.findIn K (.ref C) "__ne__" = some (some (.builtin "object.__ne__"))) (hs : PySem.W.findIn K (.ref C) "__eq__" = some (some (.ref f))) (hf : PySem.W.isFn K (.ref f) = true)
    (h : wpAny (model prog w) A.in1 (call (.ref f) [.ref x, b]) (fun v s' => ∃ r, v = .bool r ∧ Q (.bool (!r)) s') E s) : wpAny (model prog w) A (richCompare .NotEq (.ref x) b) Q E s := by
  have X := X₀.keeps Fx.keep
  have callne : wpAny (model prog w) A (call (.builtin "object.__ne__") [.ref x, b]) (fun v s' => ∃ r : Bool, v = .bool r ∧ Q v s') E s :=
    wpAny_call (codeAny_call_builtin F.cmp_object.ne.plain F.cmpEntry_ne (PySem.W.check_slot F.cmpKind_ne F.cmpSplit_ne (I.type.andThen (PySem.W.looks_mroIn X hm)) (F.cmpArgs_ne _ _)
      (entry_ne X I (by show A.units + 1 < cLine; exact hu) hs hf (wpAny_mono h (fun v s' z => by
        obtain ⟨r, hv, q⟩ := z
        exact ⟨r, hv, !r, rfl, q⟩) fun _ _ e => e))))
  have bound : wpAny (model prog w) A (callSpecialIfBound? (.ref x) "__ne__" [b]) (fun o s' => ∃ r : Bool, o = some (.bool r) ∧ Q (.bool r) s') E s := by
    simp only [callSpecialIfBound?, bindSpecialIfBound?]
    refine wpAny_holding (wpAny_bind (wpAny_bind (wpAny_bind (I.type.here ((PySem.W.looks_findIn X hne).here ?_)))))
    refine wpAny_bind (wpAny_askSetting (wpAny_ite ?_))
    have fin : wpAny (model prog w) A (call (.builtin "object.__ne__") ([.ref x] ++ [b]) >>= fun v => pure (some v)) (fun o s' => ∃ r : Bool, o = some (.bool r) ∧ Q (.bool r) s') E s :=
      wpAny_bind (wpAny_mono callne (fun v s' z => by
        obtain ⟨r, rfl, q⟩ := z
        exact wpAny_pure ⟨r, rfl, q⟩) fun _ _ e => e)
    split
    · exact wpAny_bind (wpAny_of_eq (F.cmp_object.ne.bind _) (wpAny_pure (by exact fin)))
    · exact wpAny_tryCatch (wpAny_bind (wpAny_of_eq (F.cmp_object.ne.bind _) (wpAny_pure (by exact fin))))
  have one : wpAny (model prog w) A (tryCompare (.ref x) (cmpInfo .NotEq).2.1 b) (fun r s' => ∃ v, r = some v ∧ Q v s') E s := by
    unfold tryCompare
    refine wpAny_bind (wpAny_mono bound (fun o s' z => ?_) fun _ _ e => e)
    obtain ⟨r, rfl, q⟩ := z
    exact wpAny_pure ⟨.bool r, rfl, q⟩
  unfold richCompare
  simp only [oneThing_ref]
  refine wpAny_holding (wpAny_bind (wpAny_cRoomFor (by omega) ?_))
  refine wpAny_bind (I.type.here (wpAny_bind (hb.here ?_)))
  split
  · rename_i q
    have e : PySem.W.subIn K tb (.ref C) = some false := by
      rcases Bool.or_eq_true_iff.mp hn with e | e
      · rw [beq_iff_eq.mp e] at q
        simp at q
      · exact beq_iff_eq.mp e
    refine wpAny_bind ((PySem.W.looks_subIn X e).here ?_)
    simp only [Bool.false_eq_true, if_false]
    refine wpAny_bind (wpAny_mono one (fun r s' z => ?_) fun _ _ e => e)
    obtain ⟨v, rfl, hq⟩ := z
    exact wpAny_pure hq
  · refine wpAny_bind (wpAny_pure ?_)
    simp only [Bool.false_eq_true, if_false]
    refine wpAny_bind (wpAny_mono one (fun r s' z => ?_) fun _ _ e => e)
    obtain ⟨v, rfl, hq⟩ := z
    exact wpAny_pure hq
end
end OE

namespace OE
open PySem PySem.Spec PyProof.Rows L2 Evl
section
variable {X : Cx} {k : Nat} {f C : Addr} {fd : FuncData} {ps : List Str} {sp : Sp}
/-- what is asked of the class for == and != -/
structure Own (K : PySem.W.Frag) (C f : Addr) : Prop where
  eq : PySem.W.findIn K (.ref C) "__eq__" = some (some (.ref f))
  fn : PySem.W.isFn K (.ref f) = true
  ne : PySem.W.findIn K (.ref C) "__ne__" = some (some (.builtin "object.__ne__"))
  mo : PySem.W.mroIn K C (.type "object") = some true
/-- the other one: of the same class, or a tuple -/
def Oth (C : Addr) (H : Hp) (b : Addr) : Prop := (∃ dy gs, H b = some (.ins C dy gs)) ∨ ∃ ys, H b = some (.tup ys)
theorem looks {pins : List (Addr × Obj)} {s : Shared} {σ : L2.St} {H : Hp} {b : Addr} (I : Inv X pins σ H s) (h : Oth C H b) : ∃ tb, PySem.W.Looks (model X.prog X.w) s.heap (typeOf (.ref b)) tb ∧ PySem.W.notFirst X.K C tb = true := by
  rcases h with ⟨dy, gs, hb⟩ | ⟨ys, hb⟩
  · obtain ⟨m, J, _⟩ := ins_get I.hok hb
    obtain ⟨od, J, _⟩ := J.look
    exact ⟨_, J.type, by simp [PySem.W.notFirst]⟩
  · obtain ⟨its, _, ⟨o, ho, hc, _⟩, _⟩ := I.tuple (st_of hb)
    refine ⟨.type "tuple", hc ▸ (PySem.W.Looks.ld ho).andThen .now, ?_⟩
    unfold PySem.W.notFirst
    rw [sub_tup]
    simp
theorem run_own {pins : List (Addr × Obj)} {s : Shared} {σ : L2.St} {H : Hp} {A : Around} {a b : Addr} {R : Bool → Hp → Prop} (F : FnOk X.prog X.w X.K X.mg X.base CX0 k f fd ps sp) (hb : Binds X.K fd ps []) (hr : Room k A) (hfr : A.frames = X.A.frames) (I : Inv X pins σ H s)
    (h : sp [.ref a, .ref b] H (fun v H' => ∃ r, v = .bl r ∧ R r H') E0) :
    wpAny (model X.prog X.w) A (call (.ref f) [.ref a, .ref b]) (fun u s' => ∃ r H', u = .bool r ∧ Inv X pins σ H' s' ∧ R r H') X.xe s := by
  have e0 : Env0 X.prog X.w X.K X.mg X.base A X.stack s H := by
    have e := I.env0
    exact ⟨by rw [hfr]; exact e.frames, e.mod, e.bs, e.bsz, e.funs, e.frf, e.hok, e.bare⟩
  have hl := F.len _ _ _ _ h
  have r2 : Vals [V.ref a, V.ref b] [Value.ref a, Value.ref b] := .cons rfl (.cons rfl .nil)
  refine wpAny_call (codeAny_mono (F.run A X.stack s H ⟨[.ref a, .ref b], []⟩ [.ref a, .ref b] [.ref a, .ref b] _ E0 hr e0 (by
    have := hb s [.ref a, .ref b] I.kIn (by simpa using hl)
    simpa using this) r2 h) fun r s' hq => ?_)
  cases r with
  | error e => exact pass0 pins σ H s e s' I hq
  | ok fl =>
    cases fl with
    | ret w =>
      obtain ⟨z, H', I', rz, y, ez, q⟩ := I.after hq
      subst ez
      cases rz
      exact ⟨y, H', rfl, I', q⟩
    | next => exact False.elim hq
    | brk => exact False.elim hq
    | cont => exact False.elim hq
/-- o == p, o of the own class -/
def rOwn (C : Addr) (sp : Sp) (g : Bool → Bool) : R2 := fun x y H Q => ∃ a b dx fs, x = .ref a ∧ y = .ref b ∧ H a = some (.ins C dx fs) ∧ Oth C H b ∧ sp [.ref a, .ref b] H (fun v H' => ∃ r, v = .bl r ∧ Q (.bl (g r)) H') E0
theorem op_own (O : Own X.K C f) (F : FnOk X.prog X.w X.K X.mg X.base CX0 k f fd ps sp) (hb : Binds X.K fd ps []) (hr : Room k X.A) : OpR X (compareOp .Eq) (rOwn C sp id) := by
  intro pins s σ H x y v u Q I rx ry h
  obtain ⟨a, b, dx, fs, rfl, rfl, ha, ho, q⟩ := h
  cases rx
  cases ry
  obtain ⟨m1, J, _⟩ := ins_get I.hok ha
  obtain ⟨od, J, _⟩ := J.look
  obtain ⟨tb, hl, hn⟩ := looks I ho
  obtain ⟨m, hF⟩ := I.fr
  show wpAny (model X.prog X.w) X.A (richCompare .Eq (.ref a) (.ref b)) (EP X pins σ Q) X.xe s
  refine PySem.W.cmp_K (op := .Eq) hr.units0 hF I.ok.mod.kin J hl hn O.eq O.fn (wpAny_mono (run_own F hb hr rfl I q) (fun v s' z => ?_) fun _ _ e => e)
  obtain ⟨r, H', rfl, I', q'⟩ := z
  exact ⟨.bl r, H', I', rfl, q'⟩
/-- o != p -/
theorem op_ownN (O : Own X.K C f) (F : FnOk X.prog X.w X.K X.mg X.base CX0 k f fd ps sp) (hb : Binds X.K fd ps []) (hr : Room (k + 1) X.A) : OpR X (compareOp .NotEq) (rOwn C sp not) := by
  intro pins s σ H x y v u Q I rx ry h
  obtain ⟨a, b, dx, fs, rfl, rfl, ha, ho, q⟩ := h
  cases rx
  cases ry
  obtain ⟨m1, J, _⟩ := ins_get I.hok ha
  obtain ⟨od, J, _⟩ := J.look
  obtain ⟨tb, hl, hn⟩ := looks I ho
  obtain ⟨m, hF⟩ := I.fr
  show wpAny (model X.prog X.w) X.A (richCompare .NotEq (.ref a) (.ref b)) (EP X pins σ Q) X.xe s
  refine ne_K hr.in1.units0 hF I.ok.mod.kin J hl hn O.mo O.ne O.eq O.fn (wpAny_mono (run_own F hb hr.in1 rfl I q) (fun v s' z => ?_) fun _ _ e => e)
  obtain ⟨r, H', rfl, I', q'⟩ := z
  exact ⟨r, rfl, .bl (!r), H', I', rfl, q'⟩
end
end OE

namespace TR
def Trs.of : List Tr → Trs
  | [] => .nil
  | t :: r => .cons t (Trs.of r)
theorem Trs.of_list : ∀ l : List Tr, (Trs.of l).list = l
  | [] => rfl
  | t :: r => congrArg (t :: ·) (Trs.of_list r)
mutual
theorem Tr.ok_mono {l w n m : Nat} (h : n ≤ m) : ∀ t : Tr, t.ok l w n → t.ok l w m
  | .go s q, o => ⟨o.1, o.2.1, Nat.lt_of_lt_of_le o.2.2 h⟩
  | .tell k t, o => ⟨o.1, Tr.ok_mono h t o.2⟩
  | .read p ts, o => ⟨o.1, o.2.1, Trs.ok_mono h ts o.2.2⟩
theorem Trs.ok_mono {l w n m : Nat} (h : n ≤ m) : ∀ t : Trs, t.ok l w n → t.ok l w m
  | .nil, _ => True.intro
  | .cons t r, o => ⟨Tr.ok_mono h t o.1, Trs.ok_mono h r o.2⟩
end
theorem Trs.ok_of {l w n : Nat} : ∀ {ts : List Tr}, (∀ t ∈ ts, t.ok l w n) → (Trs.of ts).ok l w n
  | [], _ => True.intro
  | t :: r, h => ⟨h t List.mem_cons_self, Trs.ok_of fun x hx => h x (List.mem_cons_of_mem _ hx)⟩
theorem Trs.depth_of {d : Nat} : ∀ {ts : List Tr}, (∀ t ∈ ts, t.depth ≤ d) → (Trs.of ts).depth ≤ d
  | [], _ => Nat.zero_le _
  | t :: r, h => Nat.max_le.mpr ⟨h t List.mem_cons_self, Trs.depth_of fun x hx => h x (List.mem_cons_of_mem _ hx)⟩
end TR
namespace BT
open TR Law Fg
def kF (f : Nat → List (List Nat) → Tr × List (List Nat)) : List Nat → List (List Nat) → List Tr × List (List Nat)
  | [], ks => ([], ks)
  | c :: r, ks => ((f c ks).1 :: (kF f r (f c ks).2).1, (kF f r (f c ks).2).2)
theorem kF_snoc (f : Nat → List (List Nat) → Tr × List (List Nat)) (c : Nat) : ∀ (l : List Nat) (ks : List (List Nat)), kF f (l ++ [c]) ks = ((kF f l ks).1 ++ [(f c (kF f l ks).2).1], (f c (kF f l ks).2).2)
  | [], ks => rfl
  | x :: r, ks => by
    show ((f x ks).1 :: (kF f (r ++ [c]) (f x ks).2).1, (kF f (r ++ [c]) (f x ks).2).2) = _
    rw [kF_snoc f c r]
    rfl
theorem kF_len (f : Nat → List (List Nat) → Tr × List (List Nat)) : ∀ (l : List Nat) (ks : List (List Nat)), (kF f l ks).1.length = l.length
  | [], _ => rfl
  | c :: r, ks => by
    show (kF f r (f c ks).2).1.length + 1 = _
    rw [kF_len f r]
    rfl
def setK (k : List Nat) (p c : Nat) : List Nat := k.take p ++ c :: k.drop (p + 1)
theorem setK_len {k : List Nat} {p c : Nat} (h : p < k.length) : (setK k p c).length = k.length := by
  unfold setK
  rw [List.length_append, List.length_take, List.length_cons, List.length_drop]
  omega
theorem setK_ne {k : List Nat} {p c i : Nat} (h : p < k.length) (n : i ≠ p) : (setK k p c).getD i 0 = k.getD i 0 := by
  rw [List.getD_eq_getElem?_getD, List.getD_eq_getElem?_getD]
  congr 1
  unfold setK
  by_cases q : i < p
  · rw [List.getElem?_append_left (by rw [List.length_take]; omega), List.getElem?_take_of_lt q]
  · rw [List.getElem?_append_right (by rw [List.length_take]; omega), List.length_take, show i - min p k.length = (i - p - 1) + 1 by omega, List.getElem?_cons_succ, List.getElem?_drop, show p + 1 + (i - p - 1) = i by omega]
theorem setK_at {k : List Nat} {p c : Nat} (h : p < k.length) : (setK k p c).getD p 0 = c := by
  rw [List.getD_eq_getElem?_getD]
  unfold setK
  rw [List.getElem?_append_right (by rw [List.length_take]; omega), List.length_take, show p - min p k.length = 0 by omega]
  rfl
theorem setK_mem {k : List Nat} {p c x : Nat} (h : x ∈ setK k p c) : x = c ∨ x ∈ k := by
  unfold setK at h
  rcases List.mem_append.mp h with h | h
  · exact .inr (List.mem_of_mem_take h)
  · rcases List.mem_cons.mp h with h | h
    · exact .inl h
    · exact .inr (List.mem_of_mem_drop h)
def nowK (ks : List (List Nat)) (k : List Nat) : List (List Nat) := if k ∈ ks then ks else ks ++ [k]
theorem nowK_pre (ks : List (List Nat)) (k : List Nat) : ks <+: nowK ks k := by
  unfold nowK
  split
  · exact List.prefix_refl _
  · exact List.prefix_append _ _
theorem nowK_in (ks : List (List Nat)) (k : List Nat) : k ∈ nowK ks k := by
  unfold nowK
  split
  · next h => exact h
  · exact List.mem_append_right _ (List.mem_singleton.mpr rfl)
def mis (O k : List Nat) : List Nat := O.filter fun p => k.getD p 0 == 46
theorem mis_set {O k r : List Nat} {p c : Nat} (hn : O.Nodup) (h : mis O k = p :: r) (hp : p < k.length) (hc : c ≠ 46) : mis O (setK k p c) = r := by
  have e : mis O (setK k p c) = (mis O k).filter (fun q => q != p) := by
    unfold mis
    rw [List.filter_filter]
    refine List.filter_congr fun q _ => ?_
    by_cases z : q = p
    · subst z
      rw [setK_at hp]
      simp [hc]
    · rw [setK_ne hp z]
      simp [z]
  rw [e, h]
  have nd : (p :: r).Nodup := by
    rw [← h]
    exact List.Sublist.nodup List.filter_sublist hn
  have nd2 := List.nodup_cons.mp nd
  rw [List.filter_cons_of_neg (by simp)]
  rw [List.filter_eq_self]
  intro q hq
  simp only [bne_iff_ne, ne_eq]
  exact fun z => nd2.1 (z ▸ hq)
theorem mis_head {O k r : List Nat} {p : Nat} (h : mis O k = p :: r) : p ∈ O := by
  have : p ∈ mis O k := by rw [h]; exact List.mem_cons_self
  exact (List.mem_filter.mp this).1
/-- what is remembered of k -/
def memR (k : List Nat) : List Nat → List Nat → List Nat
  | [], a => a
  | [_], a => a
  | p :: q :: r, a => if k.getD p 0 = 46 then a else memR k (q :: r) (setK a p (k.getD p 0))
def memF (O k : List Nat) : List Nat := memR k O (List.replicate k.length 46)
/-- how many first places are known -/
def sizeR (k : List Nat) : List Nat → Nat
  | [] => 0
  | [_] => 0
  | p :: q :: r => if k.getD p 0 = 46 then 0 else sizeR k (q :: r) + 1
def allK (L : List Nat) : List Nat → List Nat → List (List Nat)
  | [], a => [a]
  | [_], a => [a]
  | p :: q :: r, a => a :: L.flatMap fun c => allK L (q :: r) (setK a p c)
theorem mem_all {L k : List Nat} : ∀ {r a : List Nat}, (∀ p ∈ r, k.getD p 0 = 46 ∨ k.getD p 0 ∈ L) → memR k r a ∈ allK L r a
  | [], a, _ => List.mem_singleton.mpr rfl
  | [_], a, _ => List.mem_singleton.mpr rfl
  | p :: q :: r, a, h => by
    show (if k.getD p 0 = 46 then a else memR k (q :: r) (setK a p (k.getD p 0))) ∈ a :: L.flatMap fun c => allK L (q :: r) (setK a p c)
    split
    · exact List.mem_cons_self
    · next z =>
      refine List.mem_cons_of_mem _ (List.mem_flatMap.mpr ⟨k.getD p 0, ?_, mem_all fun x hx => h x (List.mem_cons_of_mem _ hx)⟩)
      exact (h p List.mem_cons_self).resolve_left z
theorem all_len {L : List Nat} : ∀ {r a x : List Nat}, (∀ p ∈ r, p < a.length) → x ∈ allK L r a → x.length = a.length
  | [], a, x, _, h => by rw [List.mem_singleton.mp h]
  | [_], a, x, _, h => by rw [List.mem_singleton.mp h]
  | p :: q :: r, a, x, hp, h => by
    rcases List.mem_cons.mp h with z | z
    · rw [z]
    · obtain ⟨c, hc, hx⟩ := List.mem_flatMap.mp z
      have sl := setK_len (c := c) (hp p List.mem_cons_self)
      rw [all_len (fun y hy => by rw [sl]; exact hp y (List.mem_cons_of_mem _ hy)) hx, sl]
theorem all_out {L : List Nat} : ∀ {r a x : List Nat} {i : Nat}, (∀ p ∈ r, p < a.length) → x ∈ allK L r a → i ∉ r → x.getD i 0 = a.getD i 0
  | [], a, x, i, _, h, _ => by rw [List.mem_singleton.mp h]
  | [_], a, x, i, _, h, _ => by rw [List.mem_singleton.mp h]
  | p :: q :: r, a, x, i, hp, h, hi => by
    rcases List.mem_cons.mp h with z | z
    · rw [z]
    · obtain ⟨c, hc, hx⟩ := List.mem_flatMap.mp z
      have hl := hp p List.mem_cons_self
      have sl := setK_len (c := c) hl
      rw [all_out (fun y hy => by rw [sl]; exact hp y (List.mem_cons_of_mem _ hy)) hx (fun z => hi (List.mem_cons_of_mem _ z)), setK_ne hl (fun z => hi (z ▸ List.mem_cons_self))]
theorem all_let {L : List Nat} : ∀ {r a x : List Nat}, (∀ c ∈ a, c ∈ L ∨ c = 46) → x ∈ allK L r a → ∀ c ∈ x, c ∈ L ∨ c = 46
  | [], a, x, ha, h => by rw [List.mem_singleton.mp h]; exact ha
  | [_], a, x, ha, h => by rw [List.mem_singleton.mp h]; exact ha
  | p :: q :: r, a, x, ha, h => by
    rcases List.mem_cons.mp h with z | z
    · rw [z]; exact ha
    · obtain ⟨c, hc, hx⟩ := List.mem_flatMap.mp z
      exact all_let (fun y hy => (setK_mem hy).elim (fun e => .inl (e ▸ hc)) (ha y)) hx
/-- what is missing is what stands behind the known first places -/
theorem mis_drop {L : List Nat} (h46 : ∀ c ∈ L, c ≠ 46) : ∀ {r a x : List Nat}, r.Nodup → (∀ p ∈ r, p < a.length) → (∀ p ∈ r, a.getD p 0 = 46) → x ∈ allK L r a → mis r x = r.drop (sizeR x r)
  | [], a, x, _, _, _, _ => rfl
  | [p], a, x, _, _, h46', h => by
    rw [List.mem_singleton.mp h]
    unfold mis
    rw [List.filter_cons_of_pos (by rw [h46' p List.mem_cons_self]; rfl)]
    rfl
  | p :: q :: r, a, x, nd, hp, ha, h => by
    have nd2 := List.nodup_cons.mp nd
    rcases List.mem_cons.mp h with z | z
    · subst z
      have e : sizeR x (p :: q :: r) = 0 := if_pos (ha p List.mem_cons_self)
      rw [e, List.drop_zero]
      exact List.filter_eq_self.mpr fun y hy => by rw [ha y hy]; rfl
    · obtain ⟨c, hc, hx⟩ := List.mem_flatMap.mp z
      have hl := hp p List.mem_cons_self
      have sl := setK_len (c := c) hl
      have hp2 : ∀ y ∈ q :: r, y < (setK a p c).length := fun y hy => by rw [sl]; exact hp y (List.mem_cons_of_mem _ hy)
      have xp : x.getD p 0 = c := by rw [all_out hp2 hx nd2.1, setK_at hl]
      have hn : ¬ x.getD p 0 = 46 := by rw [xp]; exact h46 c hc
      have e : sizeR x (p :: q :: r) = sizeR x (q :: r) + 1 := if_neg hn
      rw [e, List.drop_succ_cons]
      have ih := mis_drop h46 nd2.2 hp2 (fun y hy => by rw [setK_ne hl (fun z => nd2.1 (z ▸ hy))]; exact ha y (List.mem_cons_of_mem _ hy)) hx
      rw [← ih]
      unfold mis
      rw [List.filter_cons_of_neg (by simpa using hn)]
theorem sizeR_lt {k : List Nat} : ∀ {r : List Nat}, r ≠ [] → sizeR k r < r.length
  | [], h => absurd rfl h
  | [_], _ => by show 0 < 1; decide
  | p :: q :: r, _ => by
    have ih := sizeR_lt (k := k) (r := q :: r) (by intro z; cases z)
    show (if k.getD p 0 = 46 then 0 else sizeR k (q :: r) + 1) < _
    split
    · exact Nat.succ_pos _
    · exact Nat.succ_lt_succ ih
/-- the go by what is known -/
def bgo (ws : List (List Nat)) (O k : List Nat) (ks : List (List Nat)) : Tr × List (List Nat) :=
  (.go (leastF ws k) ((nowK ks (memF O (slidF k (leastF ws k)))).idxOf (memF O (slidF k (leastF ws k)))), nowK ks (memF O (slidF k (leastF ws k))))
def bhT (L : List Nat) (ws : List (List Nat)) (O : List Nat) (bh : Bool) (k : List Nat) (ks : List (List Nat)) : Tr × List (List Nat) :=
  if bh = true then (.read O.length (Trs.of (kF (fun c s => bgo ws O (setK k O.length c) s) L ks).1), (kF (fun c s => bgo ws O (setK k O.length c) s) L ks).2) else bgo ws O k ks
def tlT (ws : List (List Nat)) (x : List Nat) (t : Tr) : Tr := if x ∈ ws then .tell (ws.idxOf x) t else t
def leafT (L : List Nat) (ws : List (List Nat)) (O : List Nat) (bh : Bool) (k : List Nat) (ks : List (List Nat)) : Tr × List (List Nat) :=
  (tlT ws (k.take O.length) (bhT L ws O bh k ks).1, (bhT L ws O bh k ks).2)
def pT (L : List Nat) (ws : List (List Nat)) (O : List Nat) (bh : Bool) : List Nat → List Nat → List (List Nat) → Tr × List (List Nat)
  | [], k, ks => leafT L ws O bh k ks
  | p :: r, k, ks => if canF ws k 0 = true then (.read p (Trs.of (kF (fun c s => pT L ws O bh r (setK k p c) s) L ks).1), (kF (fun c s => pT L ws O bh r (setK k p c) s) L ks).2) else leafT L ws O bh k ks
def run (L : List Nat) (ws : List (List Nat)) (O : List Nat) (bh : Bool) : Nat → List Tr → List (List Nat) → List Tr × List (List Nat)
  | 0, ts, ks => (ts, ks)
  | n + 1, ts, ks => if ts.length < ks.length then run L ws O bh n (ts ++ [(pT L ws O bh (mis O (ks.getD ts.length [])) (ks.getD ts.length []) ks).1]) (pT L ws O bh (mis O (ks.getD ts.length [])) (ks.getD ts.length []) ks).2 else (ts, ks)
/-- letters, words, an order -/
structure Wok (L : List Nat) (ws : List (List Nat)) (O : List Nat) : Prop where
  l2 : 2 ≤ L.length
  l3 : L.length ≤ 3
  l46 : ∀ c ∈ L, c ≠ 46
  w1 : 1 ≤ ws.length
  w3 : ws.length ≤ 3
  wl : ∀ z ∈ ws, z.length = O.length
  nd : O.Nodup
  lt : ∀ p ∈ O, p < O.length
  o1 : 1 ≤ O.length
  o4 : O.length ≤ 4
def KL (L O k : List Nat) : Prop := k.length = O.length + 1 ∧ ∀ c ∈ k, c ∈ L ∨ c = 46
theorem KL.set {L O k : List Nat} {p c : Nat} (h : KL L O k) (hp : p < k.length) (hc : c ∈ L) : KL L O (setK k p c) :=
  ⟨by rw [setK_len hp]; exact h.1, fun x hx => (setK_mem hx).elim (fun e => .inl (e ▸ hc)) (h.2 x)⟩
def Sub (L O : List Nat) (ks : List (List Nat)) : Prop := ks.Nodup ∧ ∀ k ∈ ks, k ∈ allK L O (List.replicate (O.length + 1) 46)
def Nb (l : Nat) : Nat → Nat
  | 0 => l + 2
  | n + 1 => 1 + l * Nb l n
theorem Nb_ge (l : Nat) (h : 1 ≤ l) : ∀ n, l + 2 ≤ Nb l n
  | 0 => Nat.le_refl _
  | n + 1 => by
    have h1 := Nb_ge l h n
    have h2 : Nb l n ≤ l * Nb l n := Nat.le_mul_of_pos_left _ h
    show l + 2 ≤ 1 + l * Nb l n
    omega
/-- a tree as it is to be, and the numbers behind it -/
structure Gd (L O : List Nat) (m d : Nat) (ks : List (List Nat)) (r : Tr × List (List Nat)) : Prop where
  sub : Sub L O r.2
  pre : ks <+: r.2
  ok : r.1.ok L.length O.length r.2.length
  sz : r.1.size ≤ m
  dp : r.1.depth ≤ d
theorem Gd.le {L O : List Nat} {m d m' d' : Nat} {ks : List (List Nat)} {r : Tr × List (List Nat)} (G : Gd L O m d ks r) (h : m ≤ m') (h2 : d ≤ d') : Gd L O m' d' ks r :=
  ⟨G.sub, G.pre, G.ok, Nat.le_trans G.sz h, Nat.le_trans G.dp h2⟩
structure GdL (L O : List Nat) (m d : Nat) (ks : List (List Nat)) (r : List Tr × List (List Nat)) : Prop where
  sub : Sub L O r.2
  pre : ks <+: r.2
  ok : ∀ t ∈ r.1, t.ok L.length O.length r.2.length
  sz : total r.1 ≤ m
  dp : ∀ t ∈ r.1, t.depth ≤ d
theorem kF_good {L O : List Nat} {m d : Nat} {f : Nat → List (List Nat) → Tr × List (List Nat)} : ∀ {l : List Nat} (h : ∀ c ∈ l, ∀ s, Sub L O s → Gd L O m d s (f c s)) {ks : List (List Nat)}, Sub L O ks → GdL L O (l.length * m) d ks (kF f l ks)
  | [], _, ks, hs => ⟨hs, List.prefix_refl _, (fun _ h => nomatch h), Nat.zero_le _, (fun _ h => nomatch h)⟩
  | c :: r, h, ks, hs => by
    have g := h c List.mem_cons_self ks hs
    have ih := kF_good (l := r) (fun x hx => h x (List.mem_cons_of_mem _ hx)) g.sub
    refine ⟨ih.sub, g.pre.trans ih.pre, fun t ht => ?_, ?_, fun t ht => ?_⟩
    · rcases List.mem_cons.mp ht with z | z
      · rw [z]
        exact Tr.ok_mono ih.pre.length_le _ g.ok
      · exact ih.ok t z
    · show total ((f c ks).1 :: (kF f r (f c ks).2).1) ≤ _
      have e : total ((f c ks).1 :: (kF f r (f c ks).2).1) = (f c ks).1.size + total (kF f r (f c ks).2).1 := by
        unfold total
        rw [List.map_cons, List.sum_cons]
      have h1 := g.sz
      have h2 := ih.sz
      rw [e, List.length_cons, Nat.add_mul]
      omega
    · rcases List.mem_cons.mp ht with z | z
      · rw [z]
        exact g.dp
      · exact ih.dp t z
theorem GdL.read {L O : List Nat} {m d p : Nat} {ks : List (List Nat)} {f : Nat → List (List Nat) → Tr × List (List Nat)} (G : GdL L O (L.length * m) d ks (kF f L ks)) (hp : p ≤ O.length) : Gd L O (1 + L.length * m) (d + 1) ks (.read p (Trs.of (kF f L ks).1), (kF f L ks).2) := by
  refine ⟨G.sub, G.pre, ⟨hp, by rw [Trs.of_list, kF_len], Trs.ok_of G.ok⟩, ?_, ?_⟩
  · show (Trs.of (kF f L ks).1).size + 1 ≤ _
    rw [← Trs.total, Trs.of_list]
    have := G.sz
    omega
  · show (Trs.of (kF f L ks).1).depth + 1 ≤ _
    exact Nat.succ_le_succ (Trs.depth_of G.dp)
theorem slid_KL {L O k : List Nat} {b : Nat} (h : KL L O k) : KL L O (slidF k b) := by
  refine ⟨?_, fun c hc => ?_⟩
  · unfold slidF
    rw [List.length_append, List.length_drop, List.length_replicate, h.1]
    omega
  · unfold slidF at hc
    rcases List.mem_append.mp hc with z | z
    · exact h.2 c (List.mem_of_mem_drop z)
    · exact .inr (List.eq_of_mem_replicate z)
theorem getD_mem {k : List Nat} {p : Nat} (h : p < k.length) : k.getD p 0 ∈ k := by
  rw [List.getD_eq_getElem?_getD, List.getElem?_eq_getElem h]
  exact List.getElem_mem h
theorem mem_in {L O k : List Nat} (hl : ∀ p ∈ O, p < O.length) (h : KL L O k) : memF O k ∈ allK L O (List.replicate (O.length + 1) 46) := by
  unfold memF
  rw [h.1]
  exact mem_all fun p hp => (h.2 _ (getD_mem (by rw [h.1]; have := hl p hp; omega))).symm
section
variable {L : List Nat} {ws : List (List Nat)} {O : List Nat} (W : Wok L ws O)
include W
theorem bgo_good {k : List Nat} {ks : List (List Nat)} (hk : KL L O k) (hs : Sub L O ks) : Gd L O 1 1 ks (bgo ws O k ks) := by
  obtain ⟨h1, h2, _⟩ := leastF_ok (ws := ws) (k := k) W.w1 (by rw [hk.1]; omega)
  have hin := mem_in W.lt (slid_KL (b := leastF ws k) hk)
  refine ⟨?_, nowK_pre _ _, ⟨h1, by rw [hk.1] at h2; exact h2, List.idxOf_lt_length_of_mem (nowK_in _ _)⟩, Nat.le_refl _, Nat.le_refl _⟩
  show Sub L O (nowK ks _)
  unfold nowK
  split
  · exact hs
  · next z =>
    refine ⟨List.nodup_append.mpr ⟨hs.1, List.nodup_cons.mpr ⟨by simp, List.nodup_nil⟩, fun a ha b hb => ?_⟩, fun x hx => ?_⟩
    · rw [List.mem_singleton.mp hb]
      exact fun e => z (e ▸ ha)
    · rcases List.mem_append.mp hx with y | y
      · exact hs.2 x y
      · rw [List.mem_singleton.mp y]
        exact hin
theorem bhT_good {bh : Bool} {k : List Nat} {ks : List (List Nat)} (hk : KL L O k) (hs : Sub L O ks) : Gd L O (L.length + 1) 2 ks (bhT L ws O bh k ks) := by
  unfold bhT
  split
  · have g := (kF_good (fun c hc s hs => bgo_good W (hk.set (p := O.length) (by rw [hk.1]; omega) hc) hs) hs (l := L) (f := fun c s => bgo ws O (setK k O.length c) s)).read (Nat.le_refl _)
    exact g.le (by omega) (Nat.le_refl _)
  · exact (bgo_good W hk hs).le (by omega) (by decide)
theorem leafT_good {bh : Bool} {k : List Nat} {ks : List (List Nat)} (hk : KL L O k) (hs : Sub L O ks) : Gd L O (L.length + 2) 3 ks (leafT L ws O bh k ks) := by
  have g := bhT_good W (bh := bh) hk hs
  have e : (leafT L ws O bh k ks).1 = tlT ws (k.take O.length) (bhT L ws O bh k ks).1 := rfl
  refine ⟨g.sub, g.pre, ?_, ?_, ?_⟩
  · rw [e]
    unfold tlT
    split
    · next h =>
      have := List.idxOf_lt_length_of_mem h
      have := W.w3
      exact ⟨by omega, g.ok⟩
    · exact g.ok
  · have := g.sz
    rw [e]
    unfold tlT
    split
    · show (bhT L ws O bh k ks).1.size + 1 ≤ _
      omega
    · omega
  · have := g.dp
    rw [e]
    unfold tlT
    split
    · show (bhT L ws O bh k ks).1.depth + 1 ≤ _
      omega
    · omega
theorem pT_good {bh : Bool} : ∀ {rs k : List Nat} {ks : List (List Nat)}, KL L O k → Sub L O ks → (∀ p ∈ rs, p < O.length) → Gd L O (Nb L.length rs.length) (rs.length + 3) ks (pT L ws O bh rs k ks)
  | [], k, ks, hk, hs, _ => leafT_good W hk hs
  | p :: r, k, ks, hk, hs, hp => by
    have l2 := W.l2
    show Gd L O _ _ ks (if canF ws k 0 = true then _ else _)
    split
    · have hlt := hp p List.mem_cons_self
      have g := (kF_good (fun c hc s hs => pT_good (rs := r) (bh := bh) (hk.set (p := p) (by rw [hk.1]; omega) hc) hs fun x hx => hp x (List.mem_cons_of_mem _ hx)) hs (l := L) (f := fun c s => pT L ws O bh r (setK k p c) s)).read (p := p) (by omega)
      exact g.le (Nat.le_refl _) (by rw [List.length_cons]; omega)
    · exact (leafT_good W hk hs).le (Nb_ge _ (by omega) _) (by omega)
end
theorem sum_erase {f : List Nat → Nat} {x : List Nat} : ∀ {m : List (List Nat)}, x ∈ m → (m.map f).sum = f x + ((m.erase x).map f).sum
  | y :: r, h => by
    by_cases e : y = x
    · subst e
      rw [List.erase_cons_head, List.map_cons, List.sum_cons]
    · have hr : x ∈ r := (List.mem_cons.mp h).resolve_left fun z => e z.symm
      rw [List.erase_cons_tail (by simpa using e), List.map_cons, List.sum_cons, List.map_cons, List.sum_cons, sum_erase hr]
      omega
theorem sum_sub {f : List Nat → Nat} : ∀ {l m : List (List Nat)}, l.Nodup → (∀ x ∈ l, x ∈ m) → (l.map f).sum ≤ (m.map f).sum
  | [], _, _, _ => Nat.zero_le _
  | x :: l, m, nd, h => by
    have nd2 := List.nodup_cons.mp nd
    have hx := h x List.mem_cons_self
    rw [sum_erase hx, List.map_cons, List.sum_cons]
    refine Nat.add_le_add_left (sum_sub nd2.2 fun y hy => ?_) _
    have := h y (List.mem_cons_of_mem _ hy)
    exact (List.mem_erase_of_ne (fun z : y = x => nd2.1 (z ▸ hy))).mpr this
def Sb (g : Nat → Nat) (l : Nat) : Nat → Nat
  | 0 => g 0
  | 1 => g 1
  | n + 2 => g (n + 2) + l * Sb g l (n + 1)
theorem sum_flat {f : List Nat → Nat} {b : Nat} {F : Nat → List (List Nat)} : ∀ {L : List Nat}, (∀ c ∈ L, ((F c).map f).sum ≤ b) → ((L.flatMap F).map f).sum ≤ L.length * b
  | [], _ => Nat.zero_le _
  | c :: r, h => by
    have h1 := h c List.mem_cons_self
    have h2 := sum_flat (f := f) (F := F) (L := r) fun x hx => h x (List.mem_cons_of_mem _ hx)
    rw [List.flatMap_cons, List.map_append, List.sum_append, List.length_cons, Nat.add_mul]
    omega
theorem sum_all {L O : List Nat} (g : Nat → Nat) (hn : O.Nodup) (h46 : ∀ c ∈ L, c ≠ 46) : ∀ {r a : List Nat}, (∀ p ∈ r, p < a.length) → mis O a = r → ((allK L r a).map fun x => g (mis O x).length).sum ≤ Sb g L.length r.length
  | [], a, _, h => by
    show g (mis O a).length + 0 ≤ g 0
    rw [h]
    exact Nat.le_refl _
  | [p], a, _, h => by
    show g (mis O a).length + 0 ≤ g 1
    rw [h]
    exact Nat.le_refl _
  | p :: q :: r, a, hp, h => by
    show g (mis O a).length + ((L.flatMap fun c => allK L (q :: r) (setK a p c)).map fun x => g (mis O x).length).sum ≤ g (r.length + 2) + L.length * Sb g L.length (r.length + 1)
    rw [h]
    refine Nat.add_le_add_left (sum_flat fun c hc => ?_) _
    have hl := hp p List.mem_cons_self
    have sl := setK_len (c := c) hl
    exact sum_all g hn h46 (fun y hy => by rw [sl]; exact hp y (List.mem_cons_of_mem _ hy)) (mis_set hn h hl (h46 c hc))
def f3 : List Nat := [445, 148, 49, 16]
/-- the made states are right and few -/
structure RunI (L ws2 O : List Nat) (ts : List Tr) (ks : List (List Nat)) : Prop where
  sub : Sub L O ks
  le : ts.length ≤ ks.length
  ok : ∀ t ∈ ts, t.ok L.length O.length ks.length ∧ t.depth ≤ 10
  sz : total ts ≤ ((ks.take ts.length).map fun x => Nb L.length (mis O x).length).sum
section
variable {L : List Nat} {ws : List (List Nat)} {O : List Nat} (W : Wok L ws O)
include W
theorem root_lt : ∀ p ∈ O, p < (List.replicate (O.length + 1) 46).length := fun p hp => by
  rw [List.length_replicate]
  have := W.lt p hp
  omega
theorem root_mis : mis O (List.replicate (O.length + 1) 46) = O := by
  refine List.filter_eq_self.mpr fun p hp => ?_
  rw [List.getD_eq_getElem?_getD, List.getElem?_replicate, if_pos (by have := W.lt p hp; omega)]
  rfl
theorem root_KL : KL L O (List.replicate (O.length + 1) 46) := ⟨List.length_replicate, fun c hc => .inr (List.eq_of_mem_replicate hc)⟩
theorem sub_KL {ks : List (List Nat)} (hs : Sub L O ks) {k : List Nat} (h : k ∈ ks) : KL L O k :=
  ⟨by rw [all_len (root_lt W) (hs.2 k h), List.length_replicate], all_let (root_KL W).2 (hs.2 k h)⟩
theorem sub_mis {ks : List (List Nat)} (hs : Sub L O ks) {k : List Nat} (h : k ∈ ks) : mis O k = O.drop (sizeR k O) :=
  mis_drop W.l46 W.nd (root_lt W) (fun p hp => by rw [List.getD_eq_getElem?_getD, List.getElem?_replicate, if_pos (by have := W.lt p hp; omega)]; rfl) (hs.2 k h)
theorem sub_len {ks : List (List Nat)} (hs : Sub L O ks) : ks.length ≤ 40 := by
  have h1 := sum_sub (f := fun x => (fun _ => 1) (mis O x).length) hs.1 hs.2
  have h2 := sum_all (L := L) (O := O) (fun _ => 1) W.nd W.l46 (root_lt W) (root_mis W)
  have h3 : (ks.map fun _ => 1).sum = ks.length := by
    clear hs h1 h2
    induction ks with
    | nil => rfl
    | cons x r ih =>
      rw [List.map_cons, List.sum_cons, ih, List.length_cons, Nat.add_comm]
  have h4 : Sb (fun _ => 1) L.length O.length ≤ 40 := by
    have a1 := W.l2
    have a2 := W.l3
    have a3 := W.o1
    have a4 := W.o4
    have key : ∀ l ∈ [2, 3], ∀ o ∈ [1, 2, 3, 4], Sb (fun _ => 1) l o ≤ 40 := by decide
    exact key _ (by simp; omega) _ (by simp; omega)
  rw [← h3]
  exact Nat.le_trans (Nat.le_trans h1 h2) h4
theorem sub_size {ks : List (List Nat)} (hs : Sub L O ks) : (ks.map fun x => Nb L.length (mis O x).length).sum ≤ 3000 := by
  have h1 := sum_sub (f := fun x => Nb L.length (mis O x).length) hs.1 hs.2
  have h2 := sum_all (L := L) (O := O) (Nb L.length) W.nd W.l46 (root_lt W) (root_mis W)
  have h4 : Sb (Nb L.length) L.length O.length ≤ 3000 := by
    have a1 := W.l2
    have a2 := W.l3
    have a3 := W.o1
    have a4 := W.o4
    have key : ∀ l ∈ [2, 3], ∀ o ∈ [1, 2, 3, 4], Sb (Nb l) l o ≤ 3000 := by decide
    exact key _ (by simp; omega) _ (by simp; omega)
  exact Nat.le_trans (Nat.le_trans h1 h2) h4
theorem run_init : RunI L [] O [] [List.replicate (O.length + 1) 46] := by
  refine ⟨⟨List.nodup_cons.mpr ⟨by simp, List.nodup_nil⟩, fun k hk => ?_⟩, Nat.zero_le _, (fun _ h => nomatch h), Nat.zero_le _⟩
  rw [List.mem_singleton.mp hk]
  have : ∀ r a : List Nat, a ∈ allK L r a := fun r a => by
    match r with
    | [] => exact List.mem_singleton.mpr rfl
    | [_] => exact List.mem_singleton.mpr rfl
    | _ :: _ :: _ => exact List.mem_cons_self
  exact this _ _
theorem getD_in {ks : List (List Nat)} {i : Nat} (h : i < ks.length) : ks.getD i [] ∈ ks := by
  rw [List.getD_eq_getElem?_getD, List.getElem?_eq_getElem h]
  exact List.getElem_mem h
theorem step_good {bh : Bool} {ts : List Tr} {ks : List (List Nat)} (R : RunI L [] O ts ks) (h : ts.length < ks.length) :
    Gd L O (Nb L.length (mis O (ks.getD ts.length [])).length) 10 ks (pT L ws O bh (mis O (ks.getD ts.length [])) (ks.getD ts.length []) ks) := by
  have hk := sub_KL W R.sub (getD_in W h)
  refine (pT_good W hk R.sub fun p hp => W.lt p (List.mem_filter.mp hp).1).le (Nat.le_refl _) ?_
  have h1 : (mis O (ks.getD ts.length [])).length ≤ O.length := by unfold mis; exact List.length_filter_le _ _
  have := W.o4
  show (mis O (ks.getD ts.length [])).length + 3 ≤ 10
  omega
theorem step_run {bh : Bool} {ts : List Tr} {ks : List (List Nat)} (R : RunI L [] O ts ks) (h : ts.length < ks.length) :
    RunI L [] O (ts ++ [(pT L ws O bh (mis O (ks.getD ts.length [])) (ks.getD ts.length []) ks).1]) (pT L ws O bh (mis O (ks.getD ts.length [])) (ks.getD ts.length []) ks).2 := by
  have g := step_good W (bh := bh) R h
  generalize hr : pT L ws O bh (mis O (ks.getD ts.length [])) (ks.getD ts.length []) ks = r at g ⊢
  have gl := g.pre.length_le
  refine ⟨g.sub, by rw [List.length_append]; show ts.length + 1 ≤ _; omega, fun t ht => ?_, ?_⟩
  · rcases List.mem_append.mp ht with z | z
    · exact ⟨Tr.ok_mono gl t (R.ok t z).1, (R.ok t z).2⟩
    · rw [List.mem_singleton.mp z]
      exact ⟨g.ok, g.dp⟩
  · have e1 : total (ts ++ [r.1]) = total ts + r.1.size := by
      unfold total
      rw [List.map_append, List.sum_append]
      rfl
    have e2 : r.2.take (ts ++ [r.1]).length = ks.take ts.length ++ [ks.getD ts.length []] := by
      obtain ⟨x, hx⟩ := g.pre
      rw [← hx, List.length_append, List.length_singleton, List.take_append_of_le_length (by omega), List.take_add_one, List.getD_eq_getElem?_getD, List.getElem?_eq_getElem h]
      rfl
    have h1 := R.sz
    have h2 := g.sz
    rw [e1, e2, List.map_append, List.sum_append]
    show _ ≤ _ + (Nb L.length (mis O (ks.getD ts.length [])).length + 0)
    omega
/-- the end of the run -/
theorem run_good {bh : Bool} : ∀ {n : Nat} {ts : List Tr} {ks : List (List Nat)}, RunI L [] O ts ks → 40 ≤ ts.length + n → RunI L [] O (run L ws O bh n ts ks).1 (run L ws O bh n ts ks).2 ∧ (run L ws O bh n ts ks).1.length = (run L ws O bh n ts ks).2.length ∧ ts.length ≤ (run L ws O bh n ts ks).1.length
  | 0, ts, ks, R, h => by
    have h1 := sub_len W R.sub
    have h2 := R.le
    exact ⟨R, by show ts.length = ks.length; omega, Nat.le_refl _⟩
  | n + 1, ts, ks, R, h => by
    unfold run
    split
    · next z =>
      have ih := run_good (bh := bh) (n := n) (step_run W (bh := bh) R z) (by rw [List.length_append]; show 40 ≤ ts.length + 1 + n; omega)
      refine ⟨ih.1, ih.2.1, Nat.le_trans ?_ ih.2.2⟩
      rw [List.length_append]
      omega
    · next z =>
      have h2 := R.le
      exact ⟨R, by show ts.length = ks.length; omega, Nat.le_refl _⟩
theorem run_stop {bh : Bool} {n : Nat} {ts : List Tr} {ks : List (List Nat)} (h : ¬ ts.length < ks.length) : run L ws O bh n ts ks = (ts, ks) := by
  cases n with
  | zero => rfl
  | succ n => exact if_neg h
theorem run_go {bh : Bool} {n : Nat} {ts : List Tr} {ks : List (List Nat)} (h : ts.length < ks.length) : run L ws O bh (n + 1) ts ks = run L ws O bh n (ts ++ [(pT L ws O bh (mis O (ks.getD ts.length [])) (ks.getD ts.length []) ks).1]) (pT L ws O bh (mis O (ks.getD ts.length [])) (ks.getD ts.length []) ks).2 := if_pos h
/-- the states of the best searcher -/
theorem best_good {bh : Bool} : ∀ {R : List Tr × List (List Nat)}, run L ws O bh 40 [] [List.replicate (O.length + 1) 46] = R → 1 ≤ R.1.length ∧ R.1.length ≤ 40 ∧ (∀ t ∈ R.1, t.ok L.length O.length R.1.length ∧ t.depth ≤ 10) ∧ total R.1 ≤ 3000 := by
  rintro R rfl
  obtain ⟨g, e, _⟩ := run_good W (bh := bh) (n := 40) (run_init W) (by simp)
  have h1 := sub_len W g.sub
  have h3 := sub_size W g.sub
  have h4 := g.sz
  have h5 := g.ok
  rw [e, List.take_length] at h4
  refine ⟨?_, by omega, by rw [e]; exact h5, by omega⟩
  have hg := run_go W (bh := bh) (n := 39) (ts := []) (ks := [List.replicate (O.length + 1) 46]) (Nat.succ_pos 0)
  rw [hg]
  exact Nat.le_trans (by simp) (run_good W (bh := bh) (n := 39) (step_run W (bh := bh) (run_init W) (Nat.succ_pos 0)) (by simp)).2.2
end
end BT

namespace Law
open PySem PySem.Spec PyProof.Rows L2 Evl TR EK Fg BT
/-- the dict that numbers texts in order -/
def kvO : Nat → List (List Nat) → List (Key × V)
  | _, [] => []
  | n, k :: r => (.inr (tx k), .int (n : Nat)) :: kvO (n + 1) r
theorem kvO_len : ∀ (ks : List (List Nat)) (n : Nat), (kvO n ks).length = ks.length
  | [], _ => rfl
  | k :: r, n => by
    show (kvO (n + 1) r).length + 1 = _
    rw [kvO_len r]
    rfl
theorem kvO_snoc : ∀ (ks : List (List Nat)) (n : Nat) (k : List Nat), kvO n (ks ++ [k]) = kvO n ks ++ [(.inr (tx k), .int ((n + ks.length : Nat) : Int))]
  | [], n, k => rfl
  | x :: r, n, k => by
    show (_, _) :: kvO (n + 1) (r ++ [k]) = (_, _) :: (kvO (n + 1) r ++ _)
    rw [kvO_snoc r, show n + 1 + r.length = n + (x :: r).length by rw [List.length_cons]; omega]
theorem kvO_in : ∀ {ks : List (List Nat)} {n : Nat} {k : List Nat}, k ∈ ks → valV (kvO n ks) (.inr (tx k)) = some (.int ((n + ks.idxOf k : Nat) : Int))
  | x :: r, n, k, h => by
    by_cases e : x = k
    · subst e
      rw [List.idxOf_cons_self]
      exact valV_pos rfl
    · have hr : k ∈ r := by
        rcases List.mem_cons.mp h with z | z
        · exact absurd z.symm e
        · exact z
      have ne : ¬ (Sum.inr (tx x) : Key) = .inr (tx k) := fun z => e (tx_inj (Sum.inr.inj z))
      show valV ((.inr (tx x), .int (n : Nat)) :: kvO (n + 1) r) _ = _
      rw [valV_neg ne, kvO_in hr, show (x :: r).idxOf k = r.idxOf k + 1 by show List.findIdx (· == k) (x :: r) = _; rw [List.findIdx_cons, show (x == k) = false from beq_false_of_ne e]; rfl, show n + 1 + r.idxOf k = n + (r.idxOf k + 1) by omega]
theorem kvO_out : ∀ {ks : List (List Nat)} {n : Nat} {k : List Nat}, k ∉ ks → valV (kvO n ks) (.inr (tx k)) = none
  | [], _, _, _ => rfl
  | x :: r, n, k, h => by
    have ne : ¬ (Sum.inr (tx x) : Key) = .inr (tx k) := fun z => h (by rw [tx_inj (Sum.inr.inj z)]; exact List.mem_cons_self)
    show valV ((.inr (tx x), .int (n : Nat)) :: kvO (n + 1) r) _ = _
    rw [valV_neg ne]
    exact kvO_out fun z => h (List.mem_cons_of_mem _ z)
theorem kvO_put {ks : List (List Nat)} {k : List Nat} (h : k ∉ ks) : putK (kvO 0 ks) (.inr (tx k)) (.int (ks.length : Nat)) = kvO 0 (ks ++ [k]) := by
  unfold putK
  rw [if_neg (by rw [valV_any, kvO_out h]; decide), kvO_snoc, Nat.zero_add]
theorem kvO_keys : ∀ (ks : List (List Nat)) (n : Nat), (kvO n ks).map (fun kv => kV kv.1) = ks.map fun k => V.str (tx k)
  | [], _ => rfl
  | k :: r, n => by
    show V.str (tx k) :: _ = V.str (tx k) :: _
    rw [kvO_keys r]
/-- what of the text the class Maker has -/
structure MC (K : PySem.W.Frag) (C : Addr) : Prop where
  cl : Cls K C
  n1 : NoAttr K C "_letters"
  n2 : NoAttr K C "_width"
  n3 : NoAttr K C "_numbers"
  n4 : NoAttr K C "_order"
  n5 : NoAttr K C "_behind"
  n6 : NoAttr K C "_fitting"
  n7 : NoAttr K C "_met"
def nV (ns : List Nat) : List V := ns.map fun q => .int (q : Nat)
theorem nV_len (ns : List Nat) : (nV ns).length = ns.length := List.length_map ..
def mFs (l w nm o b f m : V) : List (Str × V) := [("_letters", l), ("_width", w), ("_numbers", nm), ("_order", o), ("_behind", b), ("_fitting", f), ("_met", m)]
section
variable (l w nm o b f m : V)
theorem m1 : (mFs l w nm o b f m).lookup ("_letters" : Str) = some l := rfl
theorem m2 : (mFs l w nm o b f m).lookup ("_width" : Str) = some w := rfl
theorem m3 : (mFs l w nm o b f m).lookup ("_numbers" : Str) = some nm := rfl
theorem m4 : (mFs l w nm o b f m).lookup ("_order" : Str) = some o := rfl
theorem m5 : (mFs l w nm o b f m).lookup ("_behind" : Str) = some b := rfl
theorem m6 : (mFs l w nm o b f m).lookup ("_fitting" : Str) = some f := rfl
theorem m7 : (mFs l w nm o b f m).lookup ("_met" : Str) = some m := rfl
theorem q1 : (mFs l w nm o b f m).lookup ("all_trees" : Str) = none := rfl
theorem q2 : (mFs l w nm o b f m).lookup ("_tree" : Str) = none := rfl
theorem q3 : (mFs l w nm o b f m).lookup ("_read" : Str) = none := rfl
theorem q4 : (mFs l w nm o b f m).lookup ("_go" : Str) = none := rfl
theorem q5 : (mFs l w nm o b f m).lookup ("_remembered" : Str) = none := rfl
end
structure MI where
  mo : Addr
  dx : Addr
  nm : Addr
  ot : Addr
  dm : Addr
  p : FI
/-- a maker at work: what changes are its dict and that of its fitting -/
structure MkAt (C CF : Addr) (m : MI) (L : List Nat) (ws : List (List Nat)) (O : List Nat) (bh : Bool) (B H : Hp) (n : Nat) (ks : List (List Nat)) : Prop where
  fit : FitAt CF m.p ws B H n
  dn : B m.dm = none
  ne : m.dm ≠ m.p.d
  met : H m.dm = some (.dK (kvO 0 ks))
  o : B m.mo = some (.ins C m.dx (mFs (.str (tx L)) (.int (O.length : Nat)) (.ref m.nm) (.ref m.ot) (.bl bh) (.ref m.p.o) (.ref m.dm)))
  nm : B m.nm = some (.dK (kvO 0 ws))
  ot : Rd B m.ot (.tup (nV O))
section
variable {C CF : Addr} {m : MI} {L : List Nat} {ws : List (List Nat)} {O : List Nat} {bh : Bool} {B H H' : Hp} {n n' : Nat} {ks ks' : List (List Nat)}
theorem FitAt.both {p : FI} {a : Addr} {u : HO} (F : FitAt CF p ws B H n) (ha : H a = none) : FitAt CF p ws (upd B a u) (upd H a u) n := by
  obtain ⟨e0, h0, ho, hw, kvs, hl, hd, hc⟩ := F
  have hB : B a = none := fresh_back e0 ha
  have nd : p.d ≠ a := fun z => by rw [z, ha] at hd; cases hd
  refine ⟨fun b v h => ?_, by rw [upd_ne nd]; exact h0, (Ex.new hB) _ _ ho, Rd.up hw (Ex.new hB), kvs, hl, (Ex.new ha) _ _ hd, hc⟩
  by_cases q : b = a
  · subst q
    rw [upd_same] at h ⊢
    exact h
  · rw [upd_ne q] at h ⊢
    exact e0 _ _ h
/-- a list that is known from now on -/
theorem FitAt.knows {p : FI} {a : Addr} {u : HO} (F : FitAt CF p ws B H n) (ha : H a = some u) (hB : B a = none) (hd : a ≠ p.d) : FitAt CF p ws (upd B a u) H n := by
  obtain ⟨e0, h0, ho, hw, r⟩ := F
  refine ⟨fun b v h => ?_, by rw [upd_ne hd.symm]; exact h0, (Ex.new hB) _ _ ho, Rd.up hw (Ex.new hB), r⟩
  by_cases q : b = a
  · subst q
    rw [upd_same] at h
    rw [ha, ← h]
  · rw [upd_ne q] at h
    exact e0 _ _ h
theorem MkAt.e (M : MkAt C CF m L ws O bh B H n ks) : Ex B H := M.fit.1
theorem MkAt.ex (M : MkAt C CF m L ws O bh B H n ks) (e : Ex H H') : MkAt C CF m L ws O bh B H' n ks := { M with fit := M.fit.ex e, met := e _ _ M.met }
theorem MkAt.le (M : MkAt C CF m L ws O bh B H n ks) (h : n ≤ n') : MkAt C CF m L ws O bh B H n' ks := { M with fit := M.fit.le h }
theorem MkAt.both {a : Addr} {u : HO} (M : MkAt C CF m L ws O bh B H n ks) (ha : H a = none) : MkAt C CF m L ws O bh (upd B a u) (upd H a u) n ks := by
  have hB : B a = none := fresh_back M.e ha
  have nd : m.dm ≠ a := fun z => by have := M.met; rw [z, ha] at this; cases this
  exact ⟨M.fit.both ha, by rw [upd_ne nd]; exact M.dn, M.ne, (Ex.new ha) _ _ M.met, (Ex.new hB) _ _ M.o, (Ex.new hB) _ _ M.nm, Rd.up M.ot (Ex.new hB)⟩
theorem MkAt.knows {a : Addr} {u : HO} (M : MkAt C CF m L ws O bh B H n ks) (ha : H a = some u) (hB : B a = none) (hd : a ≠ m.p.d) (hm : a ≠ m.dm) : MkAt C CF m L ws O bh (upd B a u) H n ks :=
  ⟨M.fit.knows ha hB hd, by rw [upd_ne hm.symm]; exact M.dn, M.ne, M.met, (Ex.new hB) _ _ M.o, (Ex.new hB) _ _ M.nm, Rd.up M.ot (Ex.new hB)⟩
/-- the fitting was asked -/
theorem MkAt.asked (M : MkAt C CF m L ws O bh B H n ks) (F : FitAt CF m.p ws (del H m.p.d) H' n') : MkAt C CF m L ws O bh B H' n' ks :=
  { M with fit := M.fit.back F, met := F.1 _ _ (by rw [del_ne M.ne]; exact M.met) }
theorem MkAt.nd (M : MkAt C CF m L ws O bh B H n ks) : H m.p.d ≠ none := by
  obtain ⟨_, _, _, _, kvs, _, hd, _⟩ := M.fit
  rw [hd]
  exact fun z => nomatch z
theorem MkAt.mut {D : Addr} {u : HO} (M : MkAt C CF m L ws O bh B H n ks) (hB : B D = none) (hd : D ≠ m.p.d) (hm : D ≠ m.dm) : MkAt C CF m L ws O bh B (upd H D u) n ks := by
  refine { M with fit := ?_, met := by rw [upd_ne hm.symm]; exact M.met }
  obtain ⟨e0, h0, ho, hw, kvs, hl, hd', hc⟩ := M.fit
  exact ⟨e0.mut hB, h0, ho, hw, kvs, hl, by rw [upd_ne hd.symm]; exact hd', hc⟩
/-- the dict grows -/
theorem MkAt.grow (M : MkAt C CF m L ws O bh B H n ks) : MkAt C CF m L ws O bh B (upd H m.dm (.dK (kvO 0 ks'))) n ks' := by
  obtain ⟨e0, h0, ho, hw, kvs, hl, hd', hc⟩ := M.fit
  exact { M with fit := ⟨e0.mut M.dn, h0, ho, hw, kvs, hl, by rw [upd_ne M.ne.symm]; exact hd', hc⟩, met := upd_same }
/-- what is made: B grows to B', what is under work stays as it is -/
structure Gw (m : MI) (B H B' H' : Hp) : Prop where
  b : Ex B B'
  k : ∀ b o, b ≠ m.p.d → b ≠ m.dm → H b = some o → H' b = some o
  n : ∀ b, B b = none → H b ≠ none → B' b = none
  s : ∀ b, H b ≠ none → H' b ≠ none
theorem Gw.refl : Gw m B H B H := ⟨Ex.refl _, fun _ _ _ _ h => h, fun _ h _ => h, fun _ h => h⟩
theorem Gw.trans {B' B2 H2 : Hp} (g : Gw m B H B' H') (k : Gw m B' H' B2 H2) : Gw m B H B2 H2 :=
  ⟨g.b.trans k.b, fun b o x y h => k.k b o x y (g.k b o x y h), fun b h1 h2 => k.n b (g.n b h1 h2) (g.s b h2), fun b h => k.s b (g.s b h)⟩
theorem ne_none_ex (e : Ex H H') : ∀ b, H b ≠ none → H' b ≠ none := fun b h z => by
  cases q : H b with
  | none => exact h q
  | some o => rw [e _ _ q] at z; cases z
theorem Gw.ofEx (e : Ex H H') : Gw m B H B H' := ⟨Ex.refl _, fun b o _ _ h => e _ _ h, fun _ h _ => h, ne_none_ex e⟩
theorem Gw.new {a : Addr} {u : HO} (e : Ex B H) (ha : H a = none) : Gw m B H (upd B a u) (upd H a u) :=
  ⟨Ex.new (fresh_back e ha), fun b o _ _ h => (Ex.new ha) _ _ h, fun b h1 h2 => by rw [upd_ne (fun z => h2 (by rw [z]; exact ha))]; exact h1, ne_none_ex (Ex.new ha)⟩
theorem Gw.asked (M : MkAt C CF m L ws O bh B H n ks) (F : FitAt CF m.p ws (del H m.p.d) H' n') : Gw m B H B H' :=
  ⟨Ex.refl _, fun b o x _ h => F.1 _ _ (by rw [del_ne x]; exact h), fun _ h _ => h, fun b h => by
    by_cases q : b = m.p.d
    · subst q
      exact (M.asked F).nd
    · exact ne_none_ex F.1 b (by rw [del_ne q]; exact h)⟩
theorem Gw.grow (M : MkAt C CF m L ws O bh B H n ks) : Gw m B H B (upd H m.dm (.dK (kvO 0 ks'))) :=
  ⟨Ex.refl _, fun b o _ y h => by rw [upd_ne y]; exact h, fun _ h _ => h, fun b h => by
    by_cases q : b = m.dm
    · rw [q, upd_same]
      exact fun z => nomatch z
    · rw [upd_ne q]
      exact h⟩
end
theorem cut_initV (xs : List V) (x : V) : cutV (xs ++ [x]) none (some (-1)) = xs ∧ ¬ (HT.sIx (xs ++ [x]).length 0 none = 0 ∧ HT.sIx (xs ++ [x]).length (xs ++ [x]).length (some (-1)) = (xs ++ [x]).length) := by
  have e : HT.sIx (xs ++ [x]).length (xs ++ [x]).length (some (-1)) = xs.length := by
    show (if (-1 : Int) < 0 then (-1 + ((xs ++ [x]).length : Int)).toNat else min (-1 : Int).toNat (xs ++ [x]).length) = xs.length
    refine (if_pos (by decide)).trans ?_
    rw [List.length_append]
    show (-1 + ((xs.length + 1 : Nat) : Int)).toNat = _
    omega
  refine ⟨?_, fun z => ?_⟩
  · unfold cutV
    rw [HT.sIx_none, e, Nat.sub_zero, List.drop_zero, List.take_left]
  · rw [e, List.length_append, List.length_singleton] at z
    omega
theorem last_of {O : List Nat} (h : 1 ≤ O.length) : ∃ r x, O = r ++ [x] :=
  ⟨O.dropLast, O.getLast (by intro z; rw [z] at h; exact absurd h (by decide)), (List.dropLast_concat_getLast _).symm⟩
theorem setK_cut {k : List Nat} {p c : Nat} : cutS (tx k) none (some ((p : Nat) : Int)) ++ sg c ++ cutS (tx k) (some (((p : Nat) : Int) + 1)) none = tx (setK k p c) := by
  rw [cut_to, show (((p : Nat) : Int) + 1) = ((p + 1 : Nat) : Int) by simp, cut_from, sg_tx, tx_app, tx_app]
  unfold setK
  rw [List.append_assoc]
  rfl
def spRd (C CF : Addr) : Sp := fun vs H Q _ => ∃ (m : MI) (L : List Nat) (ws : List (List Nat)) (O : List Nat) (bh : Bool) (B : Hp) (n : Nat) (ks : List (List Nat)) (k : List Nat) (p : Nat), vs = [.ref m.mo, .str (tx k), .int (p : Nat)] ∧ MkAt C CF m L ws O bh B H n ks ∧ L.length ≤ 10 ∧ k.length < 100 ∧ p < k.length ∧
  ∀ H' r, Ex H H' → H r = none → H' r = some (.lst (L.map fun c => V.str (tx (setK k p c)))) → Q (.ref r) H'
section
variable {P : Program} {w : World} {K : PySem.W.Frag} {mg : Str → Option Value} {base : Heap} {C CF : Addr}
theorem ok_rd {f : Addr} {fd : FuncData} (F : Fun K "_read" "Maker._read" s_Maker__read f fd) (T : Tx mg) (S : MC K C) : FnOk P w K mg base CX0 1 f fd ["self", "known", "place"] (spRd C CF) := by
  refine F.ok sc_Maker__read (fun vs H Q E h => ?_) (fun cdv A outer s H vs Q E hr h => ?_)
  · obtain ⟨m, L, ws, O, bh, B, n, ks, k, p, rfl, _⟩ := h
    rfl
  · obtain ⟨m, L, ws, O, bh, B, n, ks, k, p, rfl, M, hL, hk, hp, q⟩ := h
    refine ⟨_, (pss_one (ps_ret (pe_lc (own := [("letter", 3)]) (g := gName 3) (tt := tYes) rfl sc_Maker__read.nd (pi_str (pe_fld (pv 0) rfl)) (blkOk_by (N := N_Maker__read) (sc := defScope s_Maker__read) (by decide +kernel)) (fun _ _ _ _ _ => (pg_name (i := 3) sc_Maker__read.nd rfl (Or.inl rfl))) (fun _ _ _ _ _ => pts_nil) (fun _ _ _ _ _ => (pe_op op_add_str (pe_op op_add_str (pe_slice sl_str (pv 1) po_none (po_some (pv 2))) (pv 3)) (pe_slice sl_str (pv 1) (po_some (pe_op op_add (pv 2) pe_int)) po_none)))))), ?_⟩
    have ho := M.e _ _ M.o
    refine ⟨_, rfl, m.mo, C, m.dx, _, _, rfl, ho, S.cl, S.n1, m1 .., _, rfl, fun D hD => ?_⟩
    refine lc_str (x := tx L) (fun i H' => Ex H H' ∧ H' D = some (.lst ((L.take i).map fun c => V.str (tx (setK k p c))))) ⟨Ex.new hD, upd_same⟩ (fun i c H' hic hw => ?_) (fun H' hw => ?_)
    · obtain ⟨e, hz⟩ := hw
      have pl : (tx k).length ≤ sizeLine := tx_le (by omega)
      have hk3 := setK_len (c := c) hp
      refine ⟨rfl, _, rfl, _, rfl, _, rfl, _, rfl, pl, _, rfl, _, _, rfl, rfl, ?_, _, rfl, _, rfl, _, _, rfl, rfl, _, rfl, _, rfl, pl, _, _, rfl, rfl, ?_, _, hz, ?_, e.mut hD, ?_⟩
      · rw [cut_to, tx_len, List.length_take]
        show min p k.length + 1 ≤ sizeLine
        exact sz_le (by omega)
      · show (cutS (tx k) none (some ((p : Nat) : Int)) ++ sg c).length + (cutS (tx k) (some (((p : Nat) : Int) + 1)) none).length ≤ sizeLine
        rw [cut_to, show (p : Int) + 1 = ((p + 1 : Nat) : Int) by omega, cut_from, sg_tx, tx_app, tx_len, tx_len, List.length_append, List.length_take, List.length_drop]
        exact sz_le (by simp; omega)
      · rw [List.length_map, List.length_take]
        exact sz_lt (by omega)
      · have hc : L[i]? = some c := tx_at hic
        rw [upd_same, List.take_add_one, hc, List.map_append]
        show some (HO.lst (_ ++ [V.str (cutS (tx k) none (some ((p : Nat) : Int)) ++ sg c ++ cutS (tx k) (some (((p : Nat) : Int) + 1)) none)])) = _
        rw [setK_cut]
        rfl
    · obtain ⟨e, hz⟩ := hw
      rw [tx_size, List.take_length] at hz
      exact q _ _ e hD hz
def spRem (C CF : Addr) : Sp := fun vs H Q _ => ∃ (m : MI) (L : List Nat) (ws : List (List Nat)) (O : List Nat) (bh : Bool) (B : Hp) (n : Nat) (ks : List (List Nat)) (k : List Nat), vs = [.ref m.mo, .str (tx k)] ∧ MkAt C CF m L ws O bh B H n ks ∧ k.length < 100 ∧ 1 ≤ O.length ∧ O.length ≤ 10 ∧ (∀ p ∈ O, p < k.length) ∧
  ∀ H', Ex H H' → Q (.str (tx (memF O k))) H'
theorem ok_rem {f : Addr} {fd : FuncData} (F : Fun K "_remembered" "Maker._remembered" s_Maker__remembered f fd) (T : Tx mg) (S : MC K C) : FnOk P w K mg base CX0 1 f fd ["self", "known"] (spRem C CF) := by
  refine F.ok sc_Maker__remembered (fun vs H Q E h => ?_) (fun cdv A outer s H vs Q E hr h => ?_)
  · obtain ⟨m, L, ws, O, bh, B, n, ks, k, rfl, _⟩ := h
    rfl
  · obtain ⟨m, L, ws, O, bh, B, n, ks, k, rfl, M, hk, o1, o10, hp, q⟩ := h
    refine ⟨_, (pss_cons (ps_setLc (i := 2) (own := [("_", 3)]) (g := gName 3) (tt := tYes) rfl sc_Maker__remembered.nd rfl rfl (sw_true rfl rfl rfl (by decide +kernel)) (pi_str (pv 1)) (blkOk_by (N := N_Maker__remembered) (sc := defScope s_Maker__remembered) (by decide +kernel)) (fun _ _ _ _ _ => (pg_name (i := 3) sc_Maker__remembered.nd rfl (Or.inl rfl))) (fun _ _ _ _ _ => pts_nil) (fun _ _ _ _ _ => pe_str))
      (pss_cons (ps_for PassesOwn.never rfl (pi_tup (pe_slice sl_tupA (pe_fld (pv 0) rfl) po_none (po_some (pe_un un_neg pe_int)))) (pg_name (i := 4) sc_Maker__remembered.nd rfl (Or.inl rfl)) (pss_cons (ps_if (pt_cmpR op_eq (pe_ix ix_str (pv 1) (pv 4) (fun _ _ => rfl)) pe_str (nomark _)) (pss_one ps_break) pss_nil)
      (pss_one (ps_asg (pe_ix ix_str (pv 1) (pv 4) (fun _ _ => rfl)) (pg_sub (pv 2) (pv 4) set_list)))))
      (pss_one (ps_ret (pe_join pe_str (pv 2)))))), ?_⟩
    refine ⟨_, rfl, _, rfl, fun D hD => ?_⟩
    refine lc_str (x := tx k) (fun i H' => Ex H H' ∧ H' D = some (.lst ((List.replicate i 46).map fun c => V.str (sg c)))) ⟨Ex.new hD, upd_same⟩ (fun i c H' hic hw => ?_) (fun H' hw => ?_)
    · obtain ⟨e, hz⟩ := hw
      refine ⟨rfl, _, hz, ?_, e.mut hD, ?_⟩
      · rw [List.length_map, List.length_replicate]
        have : i < k.length := (List.getElem?_eq_some_iff.mp (tx_at hic)).1
        exact sz_lt (by omega)
      · rw [upd_same, List.replicate_succ', List.map_append]
        rfl
    · obtain ⟨e, hz⟩ := hw
      rw [tx_size] at hz
      obtain ⟨r, x, rO⟩ := last_of o1
      subst rO
      have ce := cut_initV (nV r) (.int (x : Nat))
      have en : nV (r ++ [x]) = nV r ++ [.int (x : Nat)] := by unfold nV; rw [List.map_append]; rfl
      have M1 := M.ex e
      have hot := Rd.up M1.ot M1.e
      rw [en] at hot
      refine ⟨_, rfl, m.mo, C, m.dx, _, _, rfl, M1.e _ _ M1.o, S.cl, S.n4, m4 .., _, rfl, _, rfl, m.ot, _, rfl, .inl hot, fun z => absurd z ce.2, fun _ t ht => ?_⟩
      rw [ce.1]
      have nDt : t ≠ D := fun z => by rw [z, hz] at ht; cases ht
      refine ⟨t, rfl, ⟨_, st_of upd_same⟩, ?_⟩
      have e1 : Ex H' (upd H' t (.tup (nV r))) := Ex.new ht
      have hT1 : (upd H' t (.tup (nV r))) t = some (.tup (nV r)) := upd_same
      have hz1 := e1 _ _ hz
      have e2 := e.trans e1
      generalize (upd H' t (.tup (nV r))) = H1 at e1 hT1 hz1 e2 ⊢
      refine for_tup (xs := nV r) (fun i σ H2 => ∃ (y4 : Option V) (acc : List Nat), σ = [some (.ref m.mo), some (.str (tx k)), some (.ref D), none, y4] ∧ Ex H H2 ∧ H2 t = some (.tup (nV r)) ∧ H2 D = some (.lst (acc.map fun c => V.str (sg c))) ∧ acc.length = k.length ∧ memR k ((r ++ [x]).drop i) acc = memF (r ++ [x]) k)
        ⟨_, _, rfl, e2, hT1, hz1, List.length_replicate, rfl⟩ (fun i σ H2 _ p => st_of (by obtain ⟨_, _, _, _, h, _⟩ := p; exact h)) (fun i v σ H2 hv hw => ?_) (fun σ H2 hw => ?_)
      · obtain ⟨y4, acc, rfl, e3, hT, hL, la, hm⟩ := hw
        unfold nV at hv
        rw [List.getElem?_map] at hv
        obtain ⟨p, hpi, rfl⟩ := Option.map_eq_some_iff.mp hv
        have hil : i < r.length := (List.getElem?_eq_some_iff.mp hpi).1
        have pO : p ∈ r ++ [x] := List.mem_append_left _ (List.mem_of_getElem? hpi)
        have hpk := hp p pO
        obtain ⟨y, rs, hd⟩ : ∃ y rs, (r ++ [x]).drop i = p :: y :: rs := by
          have hpi2 : (r ++ [x])[i]? = some p := by rw [List.getElem?_append_left hil]; exact hpi
          have h1 : i < (r ++ [x]).length := by rw [List.length_append]; omega
          have h2 : (r ++ [x]).drop i = p :: (r ++ [x]).drop (i + 1) := by
            rw [List.drop_eq_getElem_cons h1]
            rw [List.getElem?_eq_getElem h1] at hpi2
            rw [Option.some.inj hpi2]
          have h3 : (r ++ [x]).drop (i + 1) ≠ [] := by
            intro z
            have := congrArg List.length z
            rw [List.length_drop, List.length_append] at this
            simp at this
            omega
          cases h4 : (r ++ [x]).drop (i + 1) with
          | nil => exact absurd h4 h3
          | cons y rs => exact ⟨y, rs, by rw [h2, h4]⟩
        have hd1 : (r ++ [x]).drop (i + 1) = y :: rs := by
          have := congrArg List.tail hd
          rw [List.tail_drop] at this
          exact this
        dsimp only [gName]
        refine ⟨_, rfl, _, rfl, _, _, k.getD p 0, rfl, rfl, tx_le (by omega), at_of_lt hpk, rfl, _, rfl, ?_⟩
        rw [hd] at hm
        by_cases h46 : k.getD p 0 = 46
        · have x1 : decide (V.str (sg (k.getD p 0)) = V.str (Str.ofString ".")) = true := decide_eq_true (by rw [dot_sg, h46])
          rw [show decide (V.str { cps := #[k.getD p 0] } = V.str (Str.ofString ".")) = true from x1]
          refine iteT ?_
          have hm2 : acc = memF (r ++ [x]) k := (if_pos h46).symm.trans hm
          refine ⟨⟨_, rfl⟩, _, rfl, join_done (cs := acc) (by rw [hL, List.map_map]; rfl) (by omega) ?_⟩
          rw [hm2]
          exact q _ e3
        · have x1 : decide (V.str (sg (k.getD p 0)) = V.str (Str.ofString ".")) = false := decide_eq_false (by rw [dot_sg, sg_inj]; exact h46)
          rw [show decide (V.str { cps := #[k.getD p 0] } = V.str (Str.ofString ".")) = false from x1]
          refine iteF ?_
          have hm2 : memR k (y :: rs) (setK acc p (k.getD p 0)) = memF (r ++ [x]) k := (if_neg h46).symm.trans hm
          have hs : (acc.map fun c => V.str (sg c)).set p (V.str (sg (k.getD p 0))) = (setK acc p (k.getD p 0)).map fun c => V.str (sg c) := by
            unfold setK
            rw [List.set_eq_take_append_cons_drop, if_pos (by rw [List.length_map]; omega), List.map_append, List.map_cons, List.map_take, List.map_drop]
          refine ⟨_, rfl, _, rfl, _, _, k.getD p 0, rfl, rfl, tx_le (by omega), at_of_lt hpk, _, rfl, _, rfl, D, _, _, p, rfl, rfl, hL, ?_, _, setK acc p (k.getD p 0), rfl, e3.mut hD, ?_, ?_, ?_, ?_⟩
          · rw [List.length_map]
            unfold ixN
            rw [if_pos (by omega), if_pos (by omega)]
            rfl
          · rw [upd_ne nDt]
            exact hT
          · rw [upd_same]
            exact congrArg (fun l => some (HO.lst l)) hs
          · rw [setK_len (by omega)]
            exact la
          · rw [hd1]
            exact hm2
      · obtain ⟨y4, acc, rfl, e3, hT, hL, la, hm⟩ := hw
        rw [nV_len, List.drop_left] at hm
        have hm2 : acc = memF (r ++ [x]) k := hm
        refine ⟨⟨_, rfl⟩, _, rfl, join_done (cs := acc) (by rw [hL, List.map_map]; rfl) (by omega) ?_⟩
        rw [hm2]
        exact q _ e3
def spGo (C CF : Addr) : Sp := fun vs H Q _ => ∃ (m : MI) (L : List Nat) (ws : List (List Nat)) (O : List Nat) (bh : Bool) (B : Hp) (n : Nat) (ks : List (List Nat)) (k : List Nat), vs = [.ref m.mo, .str (tx k)] ∧ MkAt C CF m L ws O bh B H n ks ∧ Wok L ws O ∧ KL L O k ∧ n < 700000 ∧ ks.length < 1000 ∧
  ∀ B' H' v, Gw m B H B' H' → MkAt C CF m L ws O bh B' H' (n + 8) (bgo ws O k ks).2 → TX true B' v (bgo ws O k ks).1 → Q v H'
theorem ok_go {f fl fr : Addr} {fd fdl fdr : FuncData} (F : Fun K "_go" "Maker._go" s_Maker__go f fd) (T : Tx mg) (S : MC K C) (SF : FC K CF) (c_slid : Kn P w K mg base "slid" ["known", "by"] 1 spSlid)
    (Me_least : Meth K CF "least" fl) (F_least : FnOk P w K mg base CX0 3 fl fdl ["self", "known", "low"] (spLeast CF)) (b_least : Binds K fdl ["self", "known", "low"] [])
    (Me__remembered : Meth K C "_remembered" fr) (F__remembered : FnOk P w K mg base CX0 1 fr fdr ["self", "known"] (spRem C CF)) (b__remembered : Binds K fdr ["self", "known"] []) : FnOk P w K mg base CX0 4 f fd ["self", "known"] (spGo C CF) := by
  refine F.ok sc_Maker__go (fun vs H Q E h => ?_) (fun cdv A outer s H vs Q E hr h => ?_)
  · obtain ⟨m, L, ws, O, bh, B, n, ks, k, rfl, _⟩ := h
    rfl
  · obtain ⟨m, L, ws, O, bh, B, n, ks, k, rfl, M, W, hk, hn, hks, q⟩ := h
    refine ⟨_, (pss_cons (ps_set (i := 2) sc_Maker__go.nd rfl (Or.inl rfl) (pe_meth (pe_fld (pv 0) rfl) SF.cl Me_least F_least (hr.mono (by decide)) b_least .nil pass0 (pa_cons (pv 1) (pa_cons pe_int pa_nil))))
      (pss_cons (ps_set (i := 3) sc_Maker__go.nd rfl (Or.inl rfl) (pe_meth (pv 0) S.cl Me__remembered F__remembered (hr.mono (by decide)) b__remembered .nil pass0 (pa_cons (pe_call c_slid.ok (hr.mono (by decide)) (by rfl) c_slid.g c_slid.kp c_slid.b .nil pass0 (pa_cons (pv 1) (pa_cons (pv 2) pa_nil))) pa_nil)))
      (pss_cons (ps_if (pt_cmp (pc_dnotin (hu_of hr) (pv 3) (pe_fld (pv 0) rfl))) (pss_one (ps_dput (hu_of hr) (pe_fld (pv 0) rfl) (pv 3) (pe_callB call_lenD (by rfl) T.len PySem.boot_len (pa_cons (pe_fld (pv 0) rfl) pa_nil)) rfl)) pss_nil)
      (pss_one (ps_ret (pe_tup (pa_cons pe_str (pa_cons (pv 2) (pa_cons (pe_dget (hu_of hr) (pe_fld (pv 0) rfl) (pv 3) (fun _ _ => rfl)) pa_nil))))))))), ?_⟩
    have o4 := W.o4
    have o1 := W.o1
    have wl : ∀ z ∈ ws, z.length < 100 := fun z hz => by rw [W.wl z hz]; omega
    obtain ⟨lf1, lf2, _⟩ := leastF_ok (ws := ws) (k := k) W.w1 (by rw [hk.1]; omega)
    refine ⟨_, rfl, m.mo, C, m.dx, _, _, rfl, M.e _ _ M.o, S.cl, S.n6, m6 .., m.p.o, m.p.dx, _, rfl, M.e _ _ M.fit.2.2.1, fl_least .., _, rfl, ?_⟩
    refine ⟨m.p, ws, _, n, k, rfl, M.fit.plus, by omega, W.w1, by have := W.w3; omega, wl, by rw [hk.1]; omega, fun H1 F1 => ?_⟩
    have M1 := M.asked F1
    have g1 := Gw.asked M F1
    dsimp only [gName]
    refine ⟨_, rfl, m.mo, m.dx, _, rfl, M1.e _ _ M1.o, q5 .., _, rfl, _, rfl, ?_⟩
    refine ⟨k, leastF ws k, rfl, by rw [hk.1]; omega, fun H2 e2 => ?_⟩
    have M2 := M1.ex e2
    have g2 := g1.trans (Gw.ofEx (m := m) (B := B) e2)
    have hk2 := slid_KL (b := leastF ws k) hk
    refine ⟨m, L, ws, O, bh, B, _, ks, slidF k (leastF ws k), rfl, M2, by rw [hk2.1]; omega, o1, by omega, fun p hp => by rw [hk2.1]; have := W.lt p hp; omega, fun H3 e3 => ?_⟩
    have M3 := M2.ex e3
    have g3 := g2.trans (Gw.ofEx (m := m) (B := B) e3)
    obtain ⟨a, ha⟩ : ∃ a, memF O (slidF k (leastF ws k)) = a := ⟨_, rfl⟩
    rw [ha]
    have eb : bgo ws O k ks = (.go (leastF ws k) ((nowK ks a).idxOf a), nowK ks a) := by
      unfold bgo
      rw [ha]
    rw [eb] at q
    have n8 : n + k.length + 3 ≤ n + 8 := by rw [hk.1]; omega
    have M3 := M3.le n8
    clear M M1 M2 g1 g2 F1
    dsimp only [gName]
    have ho3 := M3.e _ _ M3.o
    refine ⟨_, rfl, _, rfl, m.mo, C, m.dx, _, _, rfl, ho3, S.cl, S.n7, m7 .., m.dm, _, rfl, DGet.k (k := .inr (tx a)) M3.met, _, rfl, ?_⟩
    have tail : ∀ (H4 : Hp) (t : Addr), Gw m B H B H4 → MkAt C CF m L ws O bh B H4 (n + 8) (nowK ks a) → H4 t = none → Q (.ref t) (upd H4 t (.tup [.str "go", .int (leastF ws k : Nat), .int ((nowK ks a).idxOf a : Nat)])) := fun H4 t g4 M4 ht =>
      q _ _ _ (g4.trans (Gw.new M4.e ht)) (M4.both ht) (.go (j := true) upd_same)
    by_cases hin : a ∈ ks
    · have en : nowK ks a = ks := if_pos hin
      rw [kvO_in hin]
      refine iteF ?_
      refine ⟨_, rfl, _, rfl, m.mo, C, m.dx, _, _, rfl, ho3, S.cl, S.n7, m7 .., _, rfl, m.dm, _, rfl, by rw [← kvO_in hin]; exact DGet.k (k := .inr (tx a)) M3.met, by show 3 ≤ sizeLine; decide, fun t ht => ?_⟩
      have := tail H3 t g3 (by rw [en]; exact M3) ht
      rw [Nat.zero_add]
      rw [en] at this
      exact this
    · have en : nowK ks a = ks ++ [a] := if_neg hin
      rw [kvO_out hin]
      refine iteT ?_
      refine ⟨_, rfl, m.mo, C, m.dx, _, _, rfl, ho3, S.cl, S.n7, m7 .., m.dm, _, rfl, M3.met, ?_⟩
      refine ⟨_, rfl, m.mo, C, m.dx, _, _, rfl, ho3, S.cl, S.n7, m7 .., _, rfl, m.dm, _, rfl, DPut.k (k := .inr (tx a)) M3.met (by rw [kvO_len]; exact sz_lt (by omega)), ?_⟩
      rw [kvO_len, kvO_put hin, ← en]
      have M4 : MkAt C CF m L ws O bh B (upd H3 m.dm (.dK (kvO 0 (nowK ks a)))) (n + 8) (nowK ks a) := M3.grow
      have g4 := g3.trans (Gw.grow (ks' := nowK ks a) M3)
      generalize upd H3 m.dm (.dK (kvO 0 (nowK ks a))) = H4 at M4 g4 ⊢
      refine ⟨_, rfl, _, rfl, m.mo, C, m.dx, _, _, rfl, M4.e _ _ M4.o, S.cl, S.n7, m7 .., _, rfl, m.dm, _, rfl, by rw [← kvO_in (nowK_in ks a)]; exact DGet.k (k := .inr (tx a)) M4.met, by show 3 ≤ sizeLine; decide, fun t ht => ?_⟩
      have := tail H4 t g4 M4 ht
      rw [Nat.zero_add]
      exact this
end
def cst : Nat → Nat
  | 0 => 40
  | n + 1 => 1 + 4 * cst n
theorem Gw.mut {m : MI} {B H B' H' : Hp} {D : Addr} {u : HO} (g : Gw m B H B' H') (hD : H D = none) : Gw m B H B' (upd H' D u) :=
  ⟨g.b, fun b o x y h => by rw [upd_ne (fun z => by rw [z, hD] at h; cases h)]; exact g.k b o x y h, g.n, fun b h => by
    by_cases q : b = D
    · exact absurd (q ▸ hD) h
    · rw [upd_ne q]
      exact g.s b h⟩
theorem Gw.knows {m : MI} {B H B' H' : Hp} {D : Addr} {u : HO} (g : Gw m B H B' H') (hD : H D = none) (hB : B' D = none) : Gw m B H (upd B' D u) H' :=
  ⟨g.b.trans (Ex.new hB), g.k, fun b h1 h2 => by rw [upd_ne (fun z => h2 (by rw [z]; exact hD))]; exact g.n b h1 h2, g.s⟩
def spTree (C CF : Addr) (j : Nat) : Sp := fun vs H Q _ => ∃ (m : MI) (L : List Nat) (ws : List (List Nat)) (O : List Nat) (bh : Bool) (B : Hp) (n : Nat) (ks : List (List Nat)) (k : List Nat), vs = [.ref m.mo, .str (tx k)] ∧ MkAt C CF m L ws O bh B H n ks ∧ Wok L ws O ∧ KL L O k ∧ Sub L O ks ∧ (mis O k).length < j ∧ n + cst (mis O k).length < 700000 ∧
  ∀ B' H' v, Gw m B H B' H' → MkAt C CF m L ws O bh B' H' (n + cst (mis O k).length) (pT L ws O bh (mis O k) k ks).2 → TX true B' v (pT L ws O bh (mis O k) k ks).1 → Q v H'
section
variable {P : Program} {w : World} {K : PySem.W.Frag} {mg : Str → Option Value} {base : Heap} {C CF : Addr}
theorem ok_tree0 {f fc fr fg : Addr} {fd fdc fdr fdg : FuncData} (F : Fun K "_tree" "Maker._tree" s_Maker__tree f fd) (T : Tx mg) (S : MC K C) (SF : FC K CF)
    (Me_can : Meth K CF "can" fc) (F_can : FnOk P w K mg base CX0 2 fc fdc ["self", "known", "offset"] (spCan CF)) (b_can : Binds K fdc ["self", "known", "offset"] [])
    (Me__read : Meth K C "_read" fr) (F__read : FnOk P w K mg base CX0 1 fr fdr ["self", "known", "place"] (spRd C CF)) (b__read : Binds K fdr ["self", "known", "place"] [])
    (Me__go : Meth K C "_go" fg) (F__go : FnOk P w K mg base CX0 4 fg fdg ["self", "known"] (spGo C CF)) (b__go : Binds K fdg ["self", "known"] [])
    (Me__tree : Meth K C "_tree" f) (b__tree : Binds K fd ["self", "known"] []) : ∀ j : Nat, FnOk P w K mg base CX0 (j + 4) f fd ["self", "known"] (spTree C CF j)
  | 0 => by
    refine F.ok sc_Maker__tree (fun vs H Q E h => ?_) (fun cdv A outer s H vs Q E hr h => ?_)
    · obtain ⟨m, L, ws, O, bh, B, n, ks, k, rfl, _⟩ := h
      rfl
    · obtain ⟨m, L, ws, O, bh, B, n, ks, k, rfl, _, _, _, _, hj, _⟩ := h
      exact absurd hj (Nat.not_lt_zero _)
  | j + 1 => by
    have F__tree := ok_tree0 F T S SF Me_can F_can b_can Me__read F__read b__read Me__go F__go b__go Me__tree b__tree j
    refine F.ok sc_Maker__tree (fun vs H Q E h => ?_) (fun cdv A outer s H vs Q E hr h => ?_)
    · obtain ⟨m, L, ws, O, bh, B, n, ks, k, rfl, _⟩ := h
      rfl
    · obtain ⟨m, L, ws, O, bh, B, n, ks, k, rfl, M, W, hk, hs, hj, hn, q⟩ := h
      refine ⟨_, (pss_cons (ps_setLc (i := 2) (own := [("place", 3)]) (g := gName 3) rfl sc_Maker__tree.nd rfl rfl (sw_true rfl rfl rfl (by decide +kernel)) (pi_tup (pe_fld (pv 0) rfl)) (blkOk_by (N := N_Maker__tree) (sc := defScope s_Maker__tree) (by decide +kernel)) (fun _ _ _ _ _ => (pg_name (i := 3) sc_Maker__tree.nd rfl (Or.inl rfl))) (fun _ _ _ _ _ => (pts_one (pt_cmpR op_eq (pe_ix ix_str (pv 1) (pv 3) (fun _ _ => rfl)) pe_str (nomark _)))) (fun _ _ _ _ _ => (pv 3)))
      (pss_cons (ps_if (PW.pt (pw_and (pt_truth (pv 2) (by intro _; rfl)) (pw_and1 (pt_val (pe_meth (pe_fld (pv 0) rfl) SF.cl Me_can F_can (hr.mono (by omega)) b_can .nil pass0 (pa_cons (pv 1) (pa_cons pe_int pa_nil))))))) (pss_one (ps_ret (pe_tup (pa_cons pe_str (pa_cons (pe_ix ix_list (pv 2) pe_int (fun _ _ => rfl)) (pa_cons (pe_lc (own := [("more", 4)]) (g := gName 4) (tt := tYes) rfl sc_Maker__tree.nd (pi_list (pe_meth (pv 0) S.cl Me__read F__read (hr.mono (by omega)) b__read .nil pass0 (pa_cons (pv 1) (pa_cons (pe_ix ix_list (pv 2) pe_int (fun _ _ => rfl)) pa_nil)))) (blkOk_by (N := N_Maker__tree) (sc := defScope s_Maker__tree) (by decide +kernel)) (fun _ _ _ _ _ => (pg_name (i := 4) sc_Maker__tree.nd rfl (Or.inl rfl))) (fun _ _ _ _ _ => pts_nil) (fun _ _ _ _ _ => (pe_meth (pv 0) S.cl Me__tree F__tree (hr.mono (by omega)) b__tree .nil pass0 (pa_cons (pv 4) pa_nil)))) pa_nil)))))) pss_nil)
      (pss_cons (ps_if (pt_val (pe_fld (pv 0) rfl)) (pss_one (ps_set (i := 5) sc_Maker__tree.nd rfl (Or.inl rfl) (pe_tup (pa_cons pe_str (pa_cons (pe_fld (pv 0) rfl) (pa_cons (pe_lc (own := [("more", 4)]) (g := gName 4) (tt := tYes) rfl sc_Maker__tree.nd (pi_list (pe_meth (pv 0) S.cl Me__read F__read (hr.mono (by omega)) b__read .nil pass0 (pa_cons (pv 1) (pa_cons (pe_fld (pv 0) rfl) pa_nil)))) (blkOk_by (N := N_Maker__tree) (sc := defScope s_Maker__tree) (by decide +kernel)) (fun _ _ _ _ _ => (pg_name (i := 4) sc_Maker__tree.nd rfl (Or.inl rfl))) (fun _ _ _ _ _ => pts_nil) (fun _ _ _ _ _ => (pe_meth (pv 0) S.cl Me__go F__go (hr.mono (by omega)) b__go .nil pass0 (pa_cons (pv 4) pa_nil)))) pa_nil)))))) (pss_one (ps_set (i := 5) sc_Maker__tree.nd rfl (Or.inl rfl) (pe_meth (pv 0) S.cl Me__go F__go (hr.mono (by omega)) b__go .nil pass0 (pa_cons (pv 1) pa_nil)))))
      (pss_cons (ps_set (i := 6) sc_Maker__tree.nd rfl (Or.inl rfl) (pe_slice sl_str (pv 1) po_none (po_some (pe_fld (pv 0) rfl))))
      (pss_one (ps_ret (pe_ifExp (pt_cmp (pc_din (hu_of hr) (pv 6) (pe_fld (pv 0) rfl))) (pe_tup (pa_cons pe_str (pa_cons (pe_dget (hu_of hr) (pe_fld (pv 0) rfl) (pv 6) (fun _ _ => rfl)) (pa_cons (pv 5) pa_nil)))) (pv 5)))))))), ?_⟩
      have o4 := W.o4
      have hot := Rd.up M.ot M.e
      refine ⟨_, rfl, m.mo, C, m.dx, _, _, rfl, M.e _ _ M.o, S.cl, S.n4, m4 .., m.ot, rfl, ⟨_, .inl hot⟩, fun Dm hDm => ?_⟩
      refine lc_tup (xs := nV O) (fun i H' => Ex H H' ∧ H' Dm = some (.lst (nV (mis (O.take i) k)))) ⟨Ex.new hDm, upd_same⟩ (fun i H' _ p => .inl (Rd.up hot p.1)) (fun i x H' hx hw => ?_) (fun H0 hw => ?_)
      · obtain ⟨e, hz⟩ := hw
        unfold nV at hx
        rw [List.getElem?_map] at hx
        obtain ⟨p, hpi, rfl⟩ := Option.map_eq_some_iff.mp hx
        have pO : p ∈ O := List.mem_of_getElem? hpi
        have hpk : p < k.length := by rw [hk.1]; have := W.lt p pO; omega
        have em : mis (O.take (i + 1)) k = mis (O.take i) k ++ mis [p] k := by
          unfold mis
          rw [List.take_add_one, hpi, List.filter_append]
          rfl
        refine ⟨rfl, _, rfl, _, rfl, _, _, k.getD p 0, rfl, rfl, tx_le (by rw [hk.1]; omega), at_of_lt hpk, rfl, _, rfl, ?_⟩
        by_cases h46 : k.getD p 0 = 46
        · have x1 : decide (V.str (sg (k.getD p 0)) = V.str (Str.ofString ".")) = true := decide_eq_true (by rw [dot_sg, h46])
          rw [show decide (V.str { cps := #[k.getD p 0] } = V.str (Str.ofString ".")) = true from x1]
          refine iteT ?_
          have e1 : mis [p] k = [p] := List.filter_cons_of_pos (by rw [h46]; rfl)
          refine ⟨_, rfl, _, hz, ?_, e.mut hDm, ?_⟩
          · rw [nV_len]
            exact sz_lt (Nat.lt_of_le_of_lt (List.length_filter_le _ _) (by rw [List.length_take]; omega))
          · rw [upd_same, em, e1]
            unfold nV
            rw [List.map_append]
            rfl
        · have x1 : decide (V.str (sg (k.getD p 0)) = V.str (Str.ofString ".")) = false := decide_eq_false (by rw [dot_sg, sg_inj]; exact h46)
          rw [show decide (V.str { cps := #[k.getD p 0] } = V.str (Str.ofString ".")) = false from x1]
          refine iteF ?_
          have e1 : mis [p] k = [] := List.filter_cons_of_neg (by simpa using h46)
          refine ⟨e, ?_⟩
          rw [em, e1, List.append_nil]
          exact hz
      · obtain ⟨e, hz⟩ := hw
        rw [nV_len, List.take_length] at hz
        have M0 := M.ex e
        have g0 : Gw m B H B H0 := Gw.ofEx e
        have nDd : Dm ≠ m.p.d := fun z => M.nd (z ▸ hDm)
        have nDm : Dm ≠ m.dm := fun z => by have := M.met; rw [← z, hDm] at this; cases this
        dsimp only [gName]
        refine' cut2 (fun σ' H' => σ' = [some (.ref m.mo), some (.str (tx k)), some (.ref Dm), none, none, none, none] ∧ ∃ n1, Gw m B H B H' ∧ MkAt C CF m L ws O bh B H' n1 ks ∧ n1 ≤ n + 1 ∧ pT L ws O bh (mis O k) k ks = leafT L ws O bh k ks) (fun kk => ?_) ?_
        rotate_left
        · refine ⟨_, rfl, !(nV (mis O k)).isEmpty, .inl ⟨_, sq_of hz, rfl⟩, ?_⟩
          cases hm : mis O k with
          | nil =>
            refine (if_neg (by decide)).mpr ?_
            refine iteF ?_
            exact kk _ _ ⟨rfl, n, g0, M0, by omega, by rw [hm]; rfl⟩
          | cons p r =>
            rw [hm] at hz hj hn
            refine (if_pos rfl).mpr ?_
            refine ⟨_, rfl, m.mo, C, m.dx, _, _, rfl, M0.e _ _ M0.o, S.cl, S.n6, m6 .., m.p.o, m.p.dx, _, rfl, M0.e _ _ M0.fit.2.2.1, fl_can .., _, rfl, ?_⟩
            refine ⟨m.p, ws, _, n, 0, k, rfl, M0.fit.plus, by omega, by have := W.w3; omega, fun z hz => by rw [W.wl z hz]; omega, by rw [hk.1]; omega, by decide, fun H1 F1 => ⟨_, rfl, ?_⟩⟩
            have M1 := M0.asked F1
            have g1 := g0.trans (Gw.asked M0 F1)
            have hz1 : H1 Dm = some (.lst (nV (p :: r))) := (Gw.asked M0 F1).k _ _ nDd nDm hz
            cases hc : canF ws k 0 with
            | false =>
              refine iteF ?_
              exact kk _ _ ⟨rfl, n + 1, g1, M1, Nat.le_refl _, by rw [hm]; exact if_neg (by rw [hc]; decide)⟩
            | true =>
              refine iteT ?_
              refine ⟨_, rfl, Dm, _, _, _, rfl, rfl, sq_of hz1, atI_nat (j := 0) rfl, ?_⟩
              have rO : ∀ y ∈ p :: r, y ∈ O := fun y hy => (List.mem_filter.mp (by rw [← hm] at hy; exact hy : y ∈ O.filter _)).1
              have hpk : p < k.length := by rw [hk.1]; have := W.lt p (rO p List.mem_cons_self); omega
              refine ⟨_, rfl, m.mo, m.dx, _, rfl, M1.e _ _ M1.o, q3 .., _, rfl, _, rfl, Dm, _, _, _, rfl, rfl, sq_of hz1, atI_nat (j := 0) rfl, ?_⟩
              refine ⟨m, L, ws, O, bh, B, _, ks, k, p, rfl, M1, by have := W.l3; omega, by rw [hk.1]; omega, hpk, fun H2 r0 e2 hr0 hl => ?_⟩
              have M2 := M1.ex e2
              have g2 := g1.trans (Gw.ofEx (m := m) (B := B) e2)
              have nr1 : r0 ≠ m.p.d := fun z => M1.nd (z ▸ hr0)
              have nr2 : r0 ≠ m.dm := fun z => by have := M1.met; rw [← z, hr0] at this; cases this
              refine ⟨r0, rfl, ⟨_, sq_of hl⟩, fun D hD => ?_⟩
              have nDp : D ≠ m.p.d := fun z => M2.nd (z ▸ hD)
              have nDq : D ≠ m.dm := fun z => by have := M2.met; rw [← z, hD] at this; cases this
              refine lc_list (xs := L.map fun c => V.str (tx (setK k p c))) (fun i H' => ∃ B' vs, Gw m B H2 B' H' ∧ MkAt C CF m L ws O bh B' H' (n + 1 + i * cst r.length) (kF (fun c s => pT L ws O bh r (setK k p c) s) (L.take i) ks).2 ∧ Sub L O (kF (fun c s => pT L ws O bh r (setK k p c) s) (L.take i) ks).2 ∧ B' D = none ∧ H' D = some (.lst vs) ∧ KidX true B' vs (kF (fun c s => pT L ws O bh r (setK k p c) s) (L.take i) ks).1)
                ⟨B, [], Gw.refl.mut hD, by rw [Nat.zero_mul]; exact M2.mut (fresh_back M2.e hD) nDp nDq, hs, fresh_back M2.e hD, upd_same, .nil⟩ (fun i H' _ p => sq_of (by obtain ⟨_, _, g, _⟩ := p; exact g.k _ _ nr1 nr2 hl)) (fun i x H' hx hw => ?_) (fun H' hw => ?_)
              · obtain ⟨B', vs, g', M', hs', hBD, hz, KX⟩ := hw
                rw [List.getElem?_map] at hx
                obtain ⟨c, hc, rfl⟩ := Option.map_eq_some_iff.mp hx
                have cL : c ∈ L := List.mem_of_getElem? hc
                have hi : i < L.length := (List.getElem?_eq_some_iff.mp hc).1
                have l3 := W.l3
                have et : L.take (i + 1) = L.take i ++ [c] := by rw [List.take_add_one, hc]; rfl
                have ekf := kF_snoc (fun c s => pT L ws O bh r (setK k p c) s) c (L.take i) ks
                have hk2 := hk.set (p := p) hpk cL
                have im : i * cst r.length ≤ 2 * cst r.length := Nat.mul_le_mul_right _ (by omega)
                refine ⟨rfl, ?_⟩
                refine ⟨_, rfl, m.mo, m.dx, _, rfl, M'.e _ _ M'.o, q2 .., _, rfl, ?_⟩
                have hm2 : mis O (setK k p c) = r := mis_set W.nd hm hpk (W.l46 c cL)
                refine ⟨m, L, ws, O, bh, B', _, _, setK k p c, rfl, M', W, hk2, hs', by rw [hm2]; rw [List.length_cons] at hj; omega, by rw [hm2]; have : cst (p :: r).length = 1 + 4 * cst r.length := rfl; omega, fun B2 H3 v g3 M3 T3 => ?_⟩
                rw [hm2] at M3 T3
                have hs3 := (pT_good W (bh := bh) hk2 hs' (rs := r) (fun y hy => W.lt y (rO y (List.mem_cons_of_mem _ hy)))).sub
                have kl := KX.len
                rw [kF_len, List.length_take] at kl
                refine ⟨vs, g3.k _ _ nDp nDq hz, sz_lt (by omega), B2, vs ++ [v], (g'.trans g3).mut hD, ?_, ?_, g3.n _ hBD (by rw [hz]; exact fun z => nomatch z), upd_same, ?_⟩
                · rw [et, ekf, Nat.add_mul, Nat.one_mul, ← Nat.add_assoc]
                  exact M3.mut (g3.n _ hBD (by rw [hz]; exact fun z => nomatch z)) nDp nDq
                · rw [et, ekf]
                  exact hs3
                · rw [et, ekf]
                  exact (KX.ex g3.b).snoc T3
              · obtain ⟨B', vs, g', M', hs', hBD, hz, KX⟩ := hw
                rw [List.length_map, List.take_length] at M' KX
                have M4 := M'.knows hz hBD nDp nDq
                refine ⟨by show 3 ≤ sizeLine; decide, fun t ht => ?_⟩
                have nDt : D ≠ t := fun z => by rw [← z, hz] at ht; cases ht
                have M5 := M4.both (u := .tup [.str "read", .int (p : Nat), .ref D]) ht
                have g5 := (g'.knows (u := .lst vs) hD hBD).trans (Gw.new (m := m) (u := .tup [.str "read", .int (p : Nat), .ref D]) M4.e ht)
                have hB4 : (upd B' D (.lst vs)) t = none := fresh_back M4.e ht
                have T5 : TX true (upd (upd B' D (.lst vs)) t (.tup [.str "read", .int (p : Nat), .ref D])) (.ref t) (.read p (Trs.of (kF (fun c s => pT L ws O bh r (setK k p c) s) L ks).1)) :=
                  .read (j := true) (j2 := false) upd_same (by rw [upd_ne nDt]; exact upd_same) (KidX.txs (by rw [Trs.of_list]; exact (KX.ex (Ex.new hBD)).ex (Ex.new hB4)))
                have ep : pT L ws O bh (p :: r) k ks = (.read p (Trs.of (kF (fun c s => pT L ws O bh r (setK k p c) s) L ks).1), (kF (fun c s => pT L ws O bh r (setK k p c) s) L ks).2) := if_pos hc
                rw [hm, ep] at q
                refine q _ _ _ (g2.trans g5) (M5.le ?_) T5
                have h1 : cst (p :: r).length = 1 + 4 * cst r.length := rfl
                have h2 : L.length * cst r.length ≤ 4 * cst r.length := Nat.mul_le_mul_right _ (by have := W.l3; omega)
                omega
        · intro σ' H1 h
          obtain ⟨rfl, n1, g1, M1, hn1, hpT⟩ := h
          have c40 : 40 ≤ cst (mis O k).length := by
            have : ∀ j, 40 ≤ cst j := fun j => by
              induction j with
              | zero => exact Nat.le_refl _
              | succ j ih => show 40 ≤ 1 + 4 * cst j; omega
            exact this _
          have hpk : O.length < k.length := by rw [hk.1]; omega
          refine' cut2 (fun σ' H' => ∃ B1 v, σ' = [some (.ref m.mo), some (.str (tx k)), some (.ref Dm), none, none, some v, none] ∧ Gw m B H B1 H' ∧ MkAt C CF m L ws O bh B1 H' (n1 + 32) (bhT L ws O bh k ks).2 ∧ TX true B1 v (bhT L ws O bh k ks).1) (fun kk => ?_) ?_
          rotate_left
          · refine ⟨_, rfl, m.mo, C, m.dx, _, _, rfl, M1.e _ _ M1.o, S.cl, S.n5, m5 .., _, rfl, ?_⟩
            have eb : bhT L ws O bh k ks = if bh = true then (.read O.length (Trs.of (kF (fun c s => bgo ws O (setK k O.length c) s) L ks).1), (kF (fun c s => bgo ws O (setK k O.length c) s) L ks).2) else bgo ws O k ks := rfl
            cases bh with
            | false =>
              rw [if_neg Bool.false_ne_true] at eb
              rw [eb] at kk
              refine iteF ?_
              refine ⟨_, rfl, m.mo, m.dx, _, rfl, M1.e _ _ M1.o, q4 .., _, rfl, ?_⟩
              exact ⟨m, L, ws, O, false, B, _, ks, k, rfl, M1, W, hk, by omega, by have := sub_len W hs; omega, fun B2 H2 v g2 M2 T2 => kk _ _ ⟨_, _, rfl, g1.trans g2, M2.le (by omega), T2⟩⟩
            | true =>
              rw [if_pos rfl] at eb
              rw [eb] at kk
              refine iteT ?_
              refine ⟨_, rfl, m.mo, C, m.dx, _, _, rfl, M1.e _ _ M1.o, S.cl, S.n2, m2 .., _, rfl, m.mo, m.dx, _, rfl, M1.e _ _ M1.o, q3 .., _, rfl, _, rfl, m.mo, C, m.dx, _, _, rfl, M1.e _ _ M1.o, S.cl, S.n2, m2 .., ?_⟩
              refine ⟨m, L, ws, O, true, B, _, ks, k, O.length, rfl, M1, by have := W.l3; omega, by rw [hk.1]; omega, hpk, fun H2 r0 e2 hr0 hl => ?_⟩
              have M2 := M1.ex e2
              have g2 := g1.trans (Gw.ofEx (m := m) (B := B) e2)
              have nr1 : r0 ≠ m.p.d := fun z => M1.nd (z ▸ hr0)
              have nr2 : r0 ≠ m.dm := fun z => by have := M1.met; rw [← z, hr0] at this; cases this
              refine ⟨r0, rfl, ⟨_, sq_of hl⟩, fun D hD => ?_⟩
              have nDp : D ≠ m.p.d := fun z => M2.nd (z ▸ hD)
              have nDq : D ≠ m.dm := fun z => by have := M2.met; rw [← z, hD] at this; cases this
              refine lc_list (xs := L.map fun c => V.str (tx (setK k O.length c))) (fun i H' => ∃ B' vs, Gw m B H2 B' H' ∧ MkAt C CF m L ws O true B' H' (n1 + i * 8) (kF (fun c s => bgo ws O (setK k O.length c) s) (L.take i) ks).2 ∧ Sub L O (kF (fun c s => bgo ws O (setK k O.length c) s) (L.take i) ks).2 ∧ B' D = none ∧ H' D = some (.lst vs) ∧ KidX true B' vs (kF (fun c s => bgo ws O (setK k O.length c) s) (L.take i) ks).1)
                ⟨B, [], Gw.refl.mut hD, by rw [Nat.zero_mul]; exact M2.mut (fresh_back M2.e hD) nDp nDq, hs, fresh_back M2.e hD, upd_same, .nil⟩ (fun i H' _ p => sq_of (by obtain ⟨_, _, g, _⟩ := p; exact g.k _ _ nr1 nr2 hl)) (fun i x H' hx hw => ?_) (fun H' hw => ?_)
              · obtain ⟨B', vs, g', M', hs', hBD, hz, KX⟩ := hw
                rw [List.getElem?_map] at hx
                obtain ⟨c, hc, rfl⟩ := Option.map_eq_some_iff.mp hx
                have cL : c ∈ L := List.mem_of_getElem? hc
                have hi : i < L.length := (List.getElem?_eq_some_iff.mp hc).1
                have l3 := W.l3
                have et : L.take (i + 1) = L.take i ++ [c] := by rw [List.take_add_one, hc]; rfl
                have ekf := kF_snoc (fun c s => bgo ws O (setK k O.length c) s) c (L.take i) ks
                have hk2 := hk.set (p := O.length) hpk cL
                have im : i * 8 ≤ 2 * 8 := Nat.mul_le_mul_right _ (by omega)
                refine ⟨rfl, ?_⟩
                refine ⟨_, rfl, m.mo, m.dx, _, rfl, M'.e _ _ M'.o, q4 .., _, rfl, ?_⟩
                refine ⟨m, L, ws, O, true, B', _, _, setK k O.length c, rfl, M', W, hk2, by omega, Nat.lt_of_le_of_lt (sub_len W hs') (by decide), fun B2 H3 v g3 M3 T3 => ?_⟩
                have hs3 := (bgo_good W hk2 hs').sub
                have kl := KX.len
                rw [kF_len, List.length_take] at kl
                refine ⟨vs, g3.k _ _ nDp nDq hz, sz_lt (by omega), B2, vs ++ [v], (g'.trans g3).mut hD, ?_, ?_, g3.n _ hBD (by rw [hz]; exact fun z => nomatch z), upd_same, ?_⟩
                · rw [et, ekf, Nat.add_mul, Nat.one_mul, ← Nat.add_assoc]
                  exact M3.mut (g3.n _ hBD (by rw [hz]; exact fun z => nomatch z)) nDp nDq
                · rw [et, ekf]
                  exact hs3
                · rw [et, ekf]
                  exact (KX.ex g3.b).snoc T3
              · obtain ⟨B', vs, g', M', hs', hBD, hz, KX⟩ := hw
                rw [List.length_map, List.take_length] at M' KX
                have M4 := M'.knows hz hBD nDp nDq
                refine ⟨by show 3 ≤ sizeLine; decide, fun t ht => ?_⟩
                have nDt : D ≠ t := fun z => by rw [← z, hz] at ht; cases ht
                have M5 := M4.both (u := .tup [.str "read", .int (O.length : Nat), .ref D]) ht
                have g5 := (g'.knows (u := .lst vs) hD hBD).trans (Gw.new (m := m) (u := .tup [.str "read", .int (O.length : Nat), .ref D]) M4.e ht)
                have hB4 : (upd B' D (.lst vs)) t = none := fresh_back M4.e ht
                have T5 : TX true (upd (upd B' D (.lst vs)) t (.tup [.str "read", .int (O.length : Nat), .ref D])) (.ref t) (.read O.length (Trs.of (kF (fun c s => bgo ws O (setK k O.length c) s) L ks).1)) :=
                  .read (j := true) (j2 := false) upd_same (by rw [upd_ne nDt]; exact upd_same) (KidX.txs (by rw [Trs.of_list]; exact (KX.ex (Ex.new hBD)).ex (Ex.new hB4)))
                refine kk _ _ ⟨_, _, rfl, g2.trans g5, M5.le ?_, ?_⟩
                · have := W.l3
                  omega
                · exact T5
          · intro σ' H2 h
            obtain ⟨B1, v, rfl, g2, M2, T2⟩ := h
            refine ⟨_, rfl, _, rfl, m.mo, C, m.dx, _, _, rfl, M2.e _ _ M2.o, S.cl, S.n2, m2 .., _, rfl, _, rfl, tx_le (by rw [hk.1]; omega), ?_⟩
            rw [cut_to]
            dsimp only [gName]
            refine ⟨_, rfl, _, rfl, m.mo, C, m.dx, _, _, rfl, M2.e _ _ M2.o, S.cl, S.n3, m3 .., m.nm, _, rfl, DGet.k (k := .inr (tx (k.take O.length))) (M2.e _ _ M2.nm), _, rfl, ?_⟩
            have el : pT L ws O bh (mis O k) k ks = (tlT ws (k.take O.length) (bhT L ws O bh k ks).1, (bhT L ws O bh k ks).2) := hpT
            rw [el] at q
            by_cases hin : k.take O.length ∈ ws
            · have et : tlT ws (k.take O.length) (bhT L ws O bh k ks).1 = .tell (ws.idxOf (k.take O.length)) (bhT L ws O bh k ks).1 := if_pos hin
              rw [et] at q
              rw [kvO_in hin]
              refine iteT ?_
              refine ⟨_, rfl, m.mo, C, m.dx, _, _, rfl, M2.e _ _ M2.o, S.cl, S.n3, m3 .., _, rfl, m.nm, _, rfl, by rw [← kvO_in hin]; exact DGet.k (k := .inr (tx (k.take O.length))) (M2.e _ _ M2.nm), _, rfl, by show 3 ≤ sizeLine; decide, fun t ht => ?_⟩
              rw [Nat.zero_add]
              exact q _ _ _ (g2.trans (Gw.new M2.e ht)) ((M2.both ht).le (by omega)) (.tell (j := true) upd_same (T2.ex (Ex.new (fresh_back M2.e ht))))
            · have et : tlT ws (k.take O.length) (bhT L ws O bh k ks).1 = (bhT L ws O bh k ks).1 := if_neg hin
              rw [et] at q
              rw [kvO_out hin]
              refine iteF ?_
              exact ⟨_, rfl, q _ _ _ g2 (M2.le (by omega)) T2⟩
end
end Law

namespace Law
open PySem PySem.Spec PyProof.Rows L2 Evl TR EK Fg BT
/-- dict comprehensions over enumerate -/
theorem dc_enumL {K : PySem.W.Frag} {a : Addr} {xs : List V} {g : TG} {tt : TT} {tk tv : TE} {vs : List Nat} {σ : L2.St} {H1 : Hp} {D : Addr} {Qd : Hp → Prop} (Pv : Nat → Hp → Prop) (h0 : Pv 0 (L2.upd H1 D (.dK []))) (hl : ∀ i H, Pv i H → SqL K H a xs)
    (hs : ∀ i x T H, xs[i]? = some x → Pv i H → H T = none → g (.ref T) (wipe σ vs) (L2.upd H T (.tup [.int (i : Nat), x])) fun σ2 H2 => wipe σ2 vs = wipe σ vs ∧ tt σ2 H2 fun b H3 =>
      if b = true then tk σ2 H3 fun y H4 => tv σ2 H4 fun z H5 => ∃ kvs k, y = kV k ∧ H5 D = some (.dK kvs) ∧ kvs.length < sizeLine ∧ Pv (i + 1) (L2.upd H5 D (.dK (putK kvs k z))) else Pv (i + 1) H3) (hd : ∀ H, Pv xs.length H → Qd H) :
    ∃ W : Nat → Nat → Hp → Prop, (∃ m, W 0 m (L2.upd H1 D (.dK []))) ∧ ∀ i m H, W i m H →
      ((Ite K a).stop i H ∧ Qd H) ∨ ((Ite K a).go i H ∧ ∃ Nx : Hp → Prop, (∀ H', Nx H' → ∃ m', m' < m ∧ W (i + 1) m' H') ∧ ∀ x H', (Ite K a).yld i H x H' → g x (wipe σ vs) H' fun σ2 H2 => wipe σ2 vs = wipe σ vs ∧ tt σ2 H2 fun b H3 =>
        if b = true then tk σ2 H3 fun y H4 => tv σ2 H4 fun z H5 => ∃ kvs k, y = kV k ∧ H5 D = some (.dK kvs) ∧ kvs.length < sizeLine ∧ Nx (L2.upd H5 D (.dK (putK kvs k z))) else Nx H3) := by
  refine ⟨fun i m H => i + m = xs.length ∧ Pv i H, ⟨_, Nat.zero_add _, h0⟩, ?_⟩
  rintro i m H ⟨e, p⟩
  by_cases hm : m = 0
  · have e2 : i = xs.length := by omega
    refine .inl ⟨⟨xs, hl i H p, by omega⟩, hd H ?_⟩
    rw [← e2]
    exact p
  · have hi : i < xs.length := by omega
    refine .inr ⟨⟨xs, xs[i], hl i H p, List.getElem?_eq_getElem hi⟩, Pv (i + 1), fun H' p' => ⟨m - 1, by omega, by omega, p'⟩, ?_⟩
    rintro v H' ⟨T, x, rfl, hT, rfl, hx⟩
    exact hs i x T H (hx xs (hl i H p)) p hT
theorem dc_enumT {K : PySem.W.Frag} {a : Addr} {xs : List V} {g : TG} {tt : TT} {tk tv : TE} {vs : List Nat} {σ : L2.St} {H1 : Hp} {D : Addr} {Qd : Hp → Prop} (Pv : Nat → Hp → Prop) (h0 : Pv 0 (L2.upd H1 D (.dK []))) (hl : ∀ i H, Pv i H → SqT K H a xs)
    (hs : ∀ i x T H, xs[i]? = some x → Pv i H → H T = none → g (.ref T) (wipe σ vs) (L2.upd H T (.tup [.int (i : Nat), x])) fun σ2 H2 => wipe σ2 vs = wipe σ vs ∧ tt σ2 H2 fun b H3 =>
      if b = true then tk σ2 H3 fun y H4 => tv σ2 H4 fun z H5 => ∃ kvs k, y = kV k ∧ H5 D = some (.dK kvs) ∧ kvs.length < sizeLine ∧ Pv (i + 1) (L2.upd H5 D (.dK (putK kvs k z))) else Pv (i + 1) H3) (hd : ∀ H, Pv xs.length H → Qd H) :
    ∃ W : Nat → Nat → Hp → Prop, (∃ m, W 0 m (L2.upd H1 D (.dK []))) ∧ ∀ i m H, W i m H →
      ((EN.ItT K a).stop i H ∧ Qd H) ∨ ((EN.ItT K a).go i H ∧ ∃ Nx : Hp → Prop, (∀ H', Nx H' → ∃ m', m' < m ∧ W (i + 1) m' H') ∧ ∀ x H', (EN.ItT K a).yld i H x H' → g x (wipe σ vs) H' fun σ2 H2 => wipe σ2 vs = wipe σ vs ∧ tt σ2 H2 fun b H3 =>
        if b = true then tk σ2 H3 fun y H4 => tv σ2 H4 fun z H5 => ∃ kvs k, y = kV k ∧ H5 D = some (.dK kvs) ∧ kvs.length < sizeLine ∧ Nx (L2.upd H5 D (.dK (putK kvs k z))) else Nx H3) := by
  refine ⟨fun i m H => i + m = xs.length ∧ Pv i H, ⟨_, Nat.zero_add _, h0⟩, ?_⟩
  rintro i m H ⟨e, p⟩
  by_cases hm : m = 0
  · have e2 : i = xs.length := by omega
    refine .inl ⟨⟨xs, hl i H p, e2⟩, hd H ?_⟩
    rw [← e2]
    exact p
  · have hi : i < xs.length := by omega
    refine .inr ⟨⟨xs, xs[i], hl i H p, List.getElem?_eq_getElem hi⟩, Pv (i + 1), fun H' p' => ⟨m - 1, by omega, by omega, p'⟩, ?_⟩
    rintro v H' ⟨T, x, rfl, hT, rfl, hx⟩
    exact hs i x T H (hx xs (hl i H p)) p hT
def dotsK (O : List Nat) : List (List Nat) := [List.replicate (O.length + 1) 46]
theorem cst_le : ∀ {j : Nat}, j ≤ 4 → cst j ≤ 10400
  | 0, _ => by decide
  | 1, _ => by decide
  | 2, _ => by decide
  | 3, _ => by decide
  | 4, _ => by decide
  | n + 5, h => by omega
def spAllT (C CF : Addr) : Sp := fun vs H Q _ => ∃ (m : MI) (L : List Nat) (ws : List (List Nat)) (O : List Nat) (bh : Bool) (B : Hp), vs = [.ref m.mo] ∧ MkAt C CF m L ws O bh B H 0 (dotsK O) ∧ Wok L ws O ∧
  ∀ B' H' r us, Ex B B' → (∀ b o, b ≠ m.p.d → b ≠ m.dm → H b = some o → H' b = some o) → Ex B' H' → (∀ b, B b = none → H b ≠ none → B' b = none) → B' r = some (.lst us) → KidX true B' us (run L ws O bh 40 [] (dotsK O)).1 → Q (.ref r) H'
section
variable {P : Program} {w : World} {K : PySem.W.Frag} {mg : Str → Option Value} {base : Heap} {C CF : Addr}
theorem ok_all_trees {f ft : Addr} {fd fdt : FuncData} (F : Fun K "all_trees" "Maker.all_trees" s_Maker_all_trees f fd) (T : Tx mg) (S : MC K C)
    (Me__tree : Meth K C "_tree" ft) (F__tree : FnOk P w K mg base CX0 9 ft fdt ["self", "known"] (spTree C CF 5)) (b__tree : Binds K fdt ["self", "known"] []) : FnOk P w K mg base CX0 10 f fd ["self"] (spAllT C CF) := by
  refine F.ok sc_Maker_all_trees (fun vs H Q E h => ?_) (fun cdv A outer s H vs Q E hr h => ?_)
  · obtain ⟨m, L, ws, O, bh, B, rfl, _⟩ := h
    rfl
  · obtain ⟨m, L, ws, O, bh, B, rfl, M, W, q⟩ := h
    refine ⟨_, (pss_cons (ps_set (i := 1) sc_Maker_all_trees.nd rfl (Or.inl rfl) (pe_lst pa_nil))
      (pss_cons (ps_while PassesOwn.never (pt_cmpR op_lt (pe_callB call_len_seq (by rfl) T.len PySem.boot_len (pa_cons (pv 1) pa_nil)) (pe_callB call_lenD (by rfl) T.len PySem.boot_len (pa_cons (pe_fld (pv 0) rfl) pa_nil)) (nomark _)) (pss_one (ps_expr (pe_bm PySem.F.plainAttrs_list PySem.F.slot_list_append PySem.F.type_list_append mt_append (pv 1) (pa_cons (pe_meth (pv 0) S.cl Me__tree F__tree (hr.mono (by decide)) b__tree .nil pass0 (pa_cons (pe_ix ix_list (pe_callTy (call_listD rfl) (by rfl) T.list PyProof.Rows.boot_list (pa_cons (pe_fld (pv 0) rfl) pa_nil)) (pe_callB call_len_seq (by rfl) T.len PySem.boot_len (pa_cons (pv 1) pa_nil)) (fun _ _ => rfl)) pa_nil)) pa_nil)))))
      (pss_one (ps_ret (pv 1))))), ?_⟩
    refine ⟨by show 0 ≤ sizeLine; decide, fun r hr0 => ?_⟩
    have nrp : r ≠ m.p.d := fun z => M.nd (z ▸ hr0)
    have nrq : r ≠ m.dm := fun z => by have := M.met; rw [← z, hr0] at this; cases this
    have hB0 := fresh_back M.e hr0
    dsimp only [gName]
    refine ⟨fun k σ H' => ∃ (B' : Hp) (ts : List Tr) (ks : List (List Nat)) (us : List V) (n : Nat), σ = [some (.ref m.mo), some (.ref r)] ∧ Gw m B H B' H' ∧ MkAt C CF m L ws O bh B' H' n ks ∧ B' r = none ∧ H' r = some (.lst us) ∧ KidX true B' us ts ∧ RunI L [] O ts ks ∧ run L ws O bh k ts ks = run L ws O bh 40 [] (dotsK O) ∧ n ≤ ts.length * 10400 ∧ ts.length + k = 40,
      ⟨40, B, [], dotsK O, [], 0, rfl, Gw.refl.mut hr0, M.mut hB0 nrp nrq, hB0, upd_same, .nil, run_init W, rfl, Nat.zero_le _, rfl⟩, fun k σ H' hw => ?_⟩
    obtain ⟨B', ts, ks, us, n, rfl, g, M', hBr, hz, KX, R, er, hn, hk⟩ := hw
    have kl := KX.len
    have rle := R.le
    have sl := sub_len W R.sub
    refine ⟨_, rfl, r, _, rfl, .inl (sq_of hz), _, rfl, m.mo, C, m.dx, _, _, rfl, M'.e _ _ M'.o, S.cl, S.n7, m7 .., m.dm, _, rfl, M'.met, _, _, rfl, rfl, ?_⟩
    refine ⟨_, rfl, ?_⟩
    by_cases hlt : ts.length < ks.length
    · rw [show decide (((us.length : Nat) : Int) < (((kvO 0 ks).length : Nat) : Int)) = true from decide_eq_true (by rw [kvO_len]; omega)]
      refine iteT ?_
      obtain ⟨k', rfl⟩ : ∃ k', k = k' + 1 := ⟨k - 1, by omega⟩
      refine ⟨fun σ' H' => ∃ k2, k2 < k' + 1 ∧ ∃ (B' : Hp) (ts : List Tr) (ks : List (List Nat)) (us : List V) (n : Nat), σ' = [some (.ref m.mo), some (.ref r)] ∧ Gw m B H B' H' ∧ MkAt C CF m L ws O bh B' H' n ks ∧ B' r = none ∧ H' r = some (.lst us) ∧ KidX true B' us ts ∧ RunI L [] O ts ks ∧ run L ws O bh k2 ts ks = run L ws O bh 40 [] (dotsK O) ∧ n ≤ ts.length * 10400 ∧ ts.length + k2 = 40, fun σ' H' h => h, ?_⟩
      refine ⟨_, rfl, .inl ⟨rfl, _, sq_of hz⟩, _, rfl, m.mo, m.dx, _, rfl, M'.e _ _ M'.o, q2 .., ?_⟩
      refine ⟨_, rfl, m.mo, C, m.dx, _, _, rfl, M'.e _ _ M'.o, S.cl, S.n7, m7 .., m.dm, _, rfl, .inl M'.met, fun l hl => ?_⟩
      rw [kvO_keys]
      have M2 := M'.ex (Ex.new (o := .lst (ks.map fun k => V.str (tx k))) hl)
      have g2 := g.trans (Gw.ofEx (m := m) (B := B') (Ex.new (o := .lst (ks.map fun k => V.str (tx k))) hl))
      have hz2 := (Ex.new (o := .lst (ks.map fun k => V.str (tx k))) hl) _ _ hz
      have hL2 : (upd H' l (.lst (ks.map fun k => V.str (tx k)))) l = some (.lst (ks.map fun k => V.str (tx k))) := upd_same
      generalize (upd H' l (.lst (ks.map fun k => V.str (tx k)))) = H2 at M2 g2 hz2 hL2 ⊢
      obtain ⟨x, hx⟩ : ∃ x, ks.getD ts.length [] = x := ⟨_, rfl⟩
      have xin : x ∈ ks := hx ▸ getD_in W hlt
      have hxk := sub_KL W R.sub xin
      have hget : (ks.map fun k => V.str (tx k))[us.length]? = some (V.str (tx x)) := by
        rw [kl, List.getElem?_map, List.getElem?_eq_getElem hlt, ← hx, List.getD_eq_getElem?_getD, List.getElem?_eq_getElem hlt]
        rfl
      have ml : (mis O x).length ≤ 4 := Nat.le_trans (by unfold mis; exact List.length_filter_le _ _) W.o4
      have cl := cst_le ml
      have n39 : ts.length * 10400 ≤ 39 * 10400 := Nat.mul_le_mul_right _ (by omega)
      refine ⟨_, rfl, r, _, rfl, .inl (sq_of hz2), l, _, _, _, rfl, rfl, sq_of hL2, atI_nat hget, ?_⟩
      refine ⟨m, L, ws, O, bh, B', n, ks, x, rfl, M2, W, hxk, R.sub, by omega, by omega, fun B3 H3 v g3 M3 T3 => ?_⟩
      have hB3 := g3.n _ hBr (by rw [hz2]; exact fun z => nomatch z)
      refine ⟨r, _, _, rfl, rfl, g3.k _ _ nrp nrq hz2, sz_lt (by omega), ?_⟩
      have go := run_go W (bh := bh) (n := k') hlt
      have R2 := step_run W (bh := bh) R hlt
      rw [hx] at go R2
      refine ⟨k', Nat.lt_succ_self _, B3, _, _, us ++ [v], _, rfl, (g2.trans g3).mut hr0, M3.mut hB3 nrp nrq, hB3, upd_same, (KX.ex g3.b).snoc T3, R2, by rw [← go]; exact er, ?_, ?_⟩
      · rw [List.length_append, List.length_singleton, Nat.add_mul]
        omega
      · rw [List.length_append, List.length_singleton]
        omega
    · rw [show decide (((us.length : Nat) : Int) < (((kvO 0 ks).length : Nat) : Int)) = false from decide_eq_false (by rw [kvO_len]; omega)]
      refine iteF ?_
      have hst := run_stop W (bh := bh) (n := k) hlt
      rw [hst] at er
      have hB' : B' r = none := hBr
      refine ⟨_, rfl, q (upd B' r (.lst us)) H' r us (g.b.trans (Ex.new hBr)) g.k (M'.knows hz hBr nrp nrq).e (fun b h1 h2 => ?_) upd_same (by rw [← er]; exact KX.ex (Ex.new hBr))⟩
      rw [upd_ne (fun z => h2 (by rw [z]; exact hr0))]
      exact g.n b h1 h2
end
theorem cutE {te : TE} {σ : L2.St} {H : Hp} {Q : VK} (Pv : V → Hp → Prop) (h : ∀ R : VK, (∀ v H', Pv v H' → R v H') → te σ H R) (r : ∀ v H', Pv v H' → Q v H') : te σ H Q := h Q r
theorem dots_mul (n : Nat) : Txt.mul (Str.ofString ".") ((n : Int) + 1) = tx (List.replicate (n + 1) 46) := by
  have e : Str.ofString "." = tx [46] := by decide +kernel
  rw [e, mul_tx [46] (by omega), show ((n : Int) + 1).toNat = n + 1 by omega]
  congr 1
  generalize n + 1 = j
  induction j with
  | zero => rfl
  | succ j ih => rw [List.replicate_succ, List.flatten_cons, ih, List.replicate_succ]; rfl
def mf6 (l w nm o b f : V) : List (Str × V) := [("_letters", l), ("_width", w), ("_numbers", nm), ("_order", o), ("_behind", b), ("_fitting", f)]
theorem putF6 (l w nm o b f : V) : putF "_fitting" f (putF "_behind" b (putF "_order" o (putF "_numbers" nm (putF "_width" w (putF "_letters" l []))))) = mf6 l w nm o b f := rfl
theorem putF7 (l w nm o b f m : V) : putF "_met" m (mf6 l w nm o b f) = mFs l w nm o b f m := rfl
def spMk (C CF : Addr) : Sp := fun vs H Q _ => ∃ (o dx wa oa : Addr) (kw ko bh : Bool) (L : List Nat) (ws : List (List Nat)) (O : List Nat) (H0 : Hp), vs = [.ref o, .str (tx L), .ref wa, .ref oa, .bl bh] ∧ Ex H0 H ∧ H0 o = none ∧ H o = some (.ins C dx []) ∧ SQ.WQ H0 wa kw (wv ws) ∧ H0 oa = some (ob ko (nV O)) ∧ Wok L ws O ∧ ws.Nodup ∧
  ∀ m B' H', m.mo = o → Ex H0 B' → MkAt C CF m L ws O bh B' H' 0 (dotsK O) → Q .non H'
section
variable {P : Program} {w : World} {K : PySem.W.Frag} {mg : Str → Option Value} {base : Heap} {C CF : Addr}
theorem ok_mk {f fi : Addr} {fd fdi : FuncData} (F : Fun K "__init__" "Maker.__init__" s_Maker_init f fd) (T : Tx mg) (S : MC K C) (g_Fitting : mg "Fitting" = some (.ref CF))
    (M_Fitting : Mk K CF fi) (F_Fitting : FnOk P w K mg base CX0 1 fi fdi ["self", "words"] (spInitF CF)) (b_Fitting : Binds K fdi ["self", "words"] []) : FnOk P w K mg base CX0 3 f fd ["self", "letters", "words", "order", "behind"] (spMk C CF) := by
  refine F.ok sc_Maker_init (fun vs H Q E h => ?_) (fun cdv A outer s H vs Q E hr h => ?_)
  · obtain ⟨o, dx, wa, oa, kw, ko, bh, L, ws, O, H0, rfl, _⟩ := h
    rfl
  · obtain ⟨o, dx, wa, oa, kw, ko, bh, L, ws, O, H0, rfl, e0, ho0, ho, hw0, hoa0, W, nw, q⟩ := h
    refine ⟨_, (pss_cons (ps_fld (pv 0) (pv 1) rfl)
      (pss_cons (ps_fld (pv 0) (pe_callB call_len_str (by rfl) T.len PySem.boot_len (pa_cons (pe_ix ix_seq (pv 2) pe_int (fun _ _ => rfl)) pa_nil)) rfl)
      (pss_cons (ps_fld (pv 0) (pe_dc (own := [("number", 5), ("word", 6)]) (g := gTup K 2 (gCons (gName 5) (gCons (gName 6) gNil))) (tt := tYes) rfl sc_Maker_init.nd (TR.pi_enumQ (by rfl) T.enumerate (pa_cons (pv 2) pa_nil)) (blkOk_by (N := N_Maker_init) (sc := defScope s_Maker_init) (by decide +kernel)) (fun _ _ _ _ _ => (pg_tup (by rfl) (pgs_cons (pg_name (i := 5) sc_Maker_init.nd rfl (Or.inl rfl)) (pgs_cons (pg_name (i := 6) sc_Maker_init.nd rfl (Or.inl rfl)) pgs_nil)))) (fun _ _ _ _ _ => pts_nil) (fun _ _ _ _ _ => (pv 6)) (fun _ _ _ _ _ => (pv 5))) rfl)
      (pss_cons (ps_fld (pv 0) (pe_callTy call_tuple_of (by rfl) T.tuple PyProof.Rows.boot_tuple (pa_cons (pv 3) pa_nil)) rfl)
      (pss_cons (ps_fld (pv 0) (pe_cmpR op_is_bl (pv 4) pe_bl (nomark _)) rfl)
      (pss_cons (ps_fld (pv 0) (pe_make M_Fitting F_Fitting (hr.mono (by decide)) (by rfl) g_Fitting b_Fitting .nil pass0 (pa_cons (pv 2) pa_nil)) rfl)
      (pss_one (ps_fld (pv 0) (pe_disp (pps_cons (pe_op ZS.op_mulS pe_str (pe_op op_add (pe_fld (pv 0) rfl) pe_int)) pe_int pps_nil) (by rfl) (by rfl) (fun z => by cases z) (by decide)) rfl)))))))), ?_⟩
    refine ⟨_, rfl, _, rfl, o, C, dx, [], rfl, ho, S.cl, S.n1, by show 0 < 1000; decide, ?_⟩
    have e1 : Ex H0 (upd H o (.ins C dx (putF "_letters" (.str (tx L)) []))) := e0.mut ho0
    have ho1 : (upd H o (.ins C dx (putF "_letters" (.str (tx L)) []))) o = _ := upd_same
    generalize (upd H o (.ins C dx (putF "_letters" (.str (tx L)) []))) = H1 at e1 ho1 ⊢
    obtain ⟨u0, hu0⟩ : ∃ u0, ws[0]? = some u0 := ⟨_, List.getElem?_eq_getElem W.w1⟩
    have lu0 : u0.length = O.length := W.wl _ (List.mem_of_getElem? hu0)
    have hu1 : (wv ws)[0]? = some (.str (tx u0)) := by unfold wv; rw [List.getElem?_map, hu0]; rfl
    have seq0 : ∀ {H' : Hp}, Ex H0 H' → ∀ {R : VK}, R (.str (tx u0)) H' → rIx K (.ref wa) (.int 0) H' R := fun {H'} e {R} r => by
      rcases (hw0.ex e).seq with h | h
      · exact .inl ⟨wa, _, 0, _, rfl, rfl, h, atI_nat (j := 0) hu1, r⟩
      · exact .inr (.inl ⟨wa, _, 0, _, rfl, rfl, h, atI_nat (j := 0) hu1, r⟩)
    refine ⟨_, rfl, seq0 e1 ⟨_, rfl, tx_le (by have := W.o4; omega), _, rfl, o, C, dx, _, rfl, ho1, S.cl, S.n2, by show 1 < 1000; decide, ?_⟩⟩
    rw [tx_len, lu0]
    have e2 := e1.mut (o := .ins C dx (putF "_width" (.int (O.length : Nat)) (putF "_letters" (.str (tx L)) []))) ho0
    have ho2 : (upd H1 o (.ins C dx (putF "_width" (.int (O.length : Nat)) (putF "_letters" (.str (tx L)) [])))) o = _ := upd_same
    generalize (upd H1 o (.ins C dx (putF "_width" (.int (O.length : Nat)) (putF "_letters" (.str (tx L)) [])))) = H2 at e2 ho2 ⊢
    have hdc : ∀ R : VK, (∀ D H', Ex H2 H' → H2 D = none → H' D = some (.dK (kvO 0 ws)) → R (.ref D) H') → tDc (iEnumQ K (tCons (tVar 2) tNil)) (gTup K 2 (gCons (gName 5) (gCons (gName 6) gNil))) tYes (tVar 6) (tVar 5) [5, 6] (L2.start N_Maker_init [.ref o, .str (tx L), .ref wa, .ref oa, .bl bh]) H2 R := by
      intro R hR
      have hs2 := (hw0.ex e2).seq (K := K)
      have step : ∀ (D : Addr), H2 D = none → ∀ (i : Nat) (x : V) (T : Addr) (H' : Hp), (wv ws)[i]? = some x → (Ex H2 H' ∧ H' D = some (.dK (kvO 0 (ws.take i)))) → H' T = none → ∃ kvs k, x = kV k ∧ (upd H' T (.tup [.int (i : Nat), x])) D = some (.dK kvs) ∧ kvs.length < sizeLine ∧ (Ex H2 (upd (upd H' T (.tup [.int (i : Nat), x])) D (.dK (putK kvs k (.int (i : Nat))))) ∧ (upd (upd H' T (.tup [.int (i : Nat), x])) D (.dK (putK kvs k (.int (i : Nat))))) D = some (.dK (kvO 0 (ws.take (i + 1))))) := by
        intro D hD i x T' H' hx hw hT
        obtain ⟨e3, hz⟩ := hw
        unfold wv at hx
        rw [List.getElem?_map] at hx
        obtain ⟨u, hu, rfl⟩ := Option.map_eq_some_iff.mp hx
        have hi := (List.getElem?_eq_some_iff.mp hu).1
        have w3 := W.w3
        refine ⟨_, .inr (tx u), rfl, (Ex.new hT) _ _ hz, by rw [kvO_len, List.length_take]; exact sz_lt (by omega), (e3.trans (Ex.new hT)).mut hD, ?_⟩
        have hn : u ∉ ws.take i := fun z => by
          obtain ⟨j, hj⟩ := List.mem_iff_getElem?.mp z
          rw [List.getElem?_take] at hj
          by_cases hji : j < i
          · rw [if_pos hji] at hj
            have hjl := (List.getElem?_eq_some_iff.mp hj).1
            have h1 : ws[j] = u := (List.getElem?_eq_some_iff.mp hj).2
            have h2 : ws[i] = u := (List.getElem?_eq_some_iff.mp hu).2
            exact absurd (h1.trans h2.symm) (List.pairwise_iff_getElem.mp nw j i hjl hi hji)
          · rw [if_neg hji] at hj
            cases hj
        have et : ws.take (i + 1) = ws.take i ++ [u] := by rw [List.take_add_one, hu]; rfl
        have li : (ws.take i).length = i := by rw [List.length_take]; omega
        have kp := kvO_put hn
        rw [li] at kp
        rw [upd_same, kp, et]
      have fin : ∀ (D : Addr), H2 D = none → ∀ H', (Ex H2 H' ∧ H' D = some (.dK (kvO 0 (ws.take (wv ws).length)))) → R (.ref D) H' := fun D hD H' hw => by
        obtain ⟨e3, hz⟩ := hw
        rw [show (wv ws).length = ws.length by unfold wv; rw [List.length_map], List.take_length] at hz
        exact hR D H' e3 hD hz
      rcases hs2 with h | h
      · refine .inl ⟨_, rfl, wa, _, rfl, h, fun D hD => ?_⟩
        refine dc_enumL (K := K) (a := wa) (xs := wv ws) (fun i H' => Ex H2 H' ∧ H' D = some (.dK (kvO 0 (ws.take i)))) ⟨Ex.new hD, upd_same⟩ (fun i H' hw => ex_l hw.1 h) (fun i x T' H' hx hw hT => ?_) (fin D hD)
        refine ⟨T', _, rfl, .inl (.inl upd_same), rfl, _, _, rfl, _, _, rfl, rfl, rfl, _, rfl, _, rfl, step D hD i x T' H' hx hw hT⟩
      · refine .inr ⟨_, rfl, wa, _, rfl, h, fun D hD => ?_⟩
        refine dc_enumT (K := K) (a := wa) (xs := wv ws) (fun i H' => Ex H2 H' ∧ H' D = some (.dK (kvO 0 (ws.take i)))) ⟨Ex.new hD, upd_same⟩ (fun i H' hw => ex_t hw.1 h) (fun i x T' H' hx hw hT => ?_) (fin D hD)
        refine ⟨T', _, rfl, .inl (.inl upd_same), rfl, _, _, rfl, _, _, rfl, rfl, rfl, _, rfl, _, rfl, step D hD i x T' H' hx hw hT⟩
    dsimp only [tSeq, sFld]
    refine hdc _ (fun nm H3 e3 hD hn3 => ?_)
    have ho3 := e3 _ _ ho2
    have nno : nm ≠ o := fun z => by rw [z, ho2] at hD; cases hD
    refine ⟨_, rfl, o, C, dx, _, rfl, ho3, S.cl, S.n3, by show 2 < 1000; decide, ?_⟩
    have e4 := (e2.trans e3).mut (o := .ins C dx (putF "_numbers" (.ref nm) (putF "_width" (.int (O.length : Nat)) (putF "_letters" (.str (tx L)) [])))) ho0
    have ho4 : (upd H3 o (.ins C dx (putF "_numbers" (.ref nm) (putF "_width" (.int (O.length : Nat)) (putF "_letters" (.str (tx L)) []))))) o = _ := upd_same
    have hn4 : (upd H3 o (.ins C dx (putF "_numbers" (.ref nm) (putF "_width" (.int (O.length : Nat)) (putF "_letters" (.str (tx L)) []))))) nm = some (.dK (kvO 0 ws)) := by rw [upd_ne nno]; exact hn3
    generalize (upd H3 o (.ins C dx (putF "_numbers" (.ref nm) (putF "_width" (.int (O.length : Nat)) (putF "_letters" (.str (tx L)) []))))) = H4 at e4 ho4 hn4 ⊢
    have htp : ∀ R : VK, (∀ ot H', Ex H4 H' → H' ot = some (.tup (nV O)) → R (.ref ot) H') → tCB (fun xs H Q => ∃ p ys, xs = [.ref p] ∧ ((SqL K H p ys ∧ ∀ l, H l = none → Q (.ref l) (upd H l (.tup ys))) ∨ (SqT K H p ys ∧ Q (.ref p) H))) (tCons (tVar 3) tNil) (L2.start N_Maker_init [.ref o, .str (tx L), .ref wa, .ref oa, .bl bh]) H4 R := fun R r => by
      have h := e4 _ _ hoa0
      refine ⟨_, rfl, oa, nV O, rfl, ?_⟩
      cases ko
      · exact .inl ⟨sq_of h, fun l hl => r l _ (Ex.new hl) upd_same⟩
      · exact .inr ⟨st_of h, r oa _ (Ex.refl _) h⟩
    refine htp _ (fun ot H5 e5 hot => ?_)
    have ho5 := e5 _ _ ho4
    have noto : ot ≠ o := fun z => by rw [z, ho5] at hot; cases hot
    have hn5 := e5 _ _ hn4
    refine ⟨_, rfl, o, C, dx, _, rfl, ho5, S.cl, S.n4, by show 3 < 1000; decide, ?_⟩
    refine ⟨_, rfl, _, _, rfl, rfl, ?_⟩
    rw [show decide (bh = true) = bh by cases bh <;> rfl]
    refine ⟨_, rfl, o, C, dx, _, rfl, upd_same, S.cl, S.n5, by show 4 < 1000; decide, ?_⟩
    rw [upd_upd]
    have e6 := (e4.trans e5).mut (o := .ins C dx (putF "_behind" (.bl bh) (putF "_order" (.ref ot) (putF "_numbers" (.ref nm) (putF "_width" (.int (O.length : Nat)) (putF "_letters" (.str (tx L)) [])))))) ho0
    have ho6 : (upd H5 o (.ins C dx (putF "_behind" (.bl bh) (putF "_order" (.ref ot) (putF "_numbers" (.ref nm) (putF "_width" (.int (O.length : Nat)) (putF "_letters" (.str (tx L)) []))))))) o = _ := upd_same
    have hn6 : (upd H5 o (.ins C dx (putF "_behind" (.bl bh) (putF "_order" (.ref ot) (putF "_numbers" (.ref nm) (putF "_width" (.int (O.length : Nat)) (putF "_letters" (.str (tx L)) []))))))) nm = some (.dK (kvO 0 ws)) := by rw [upd_ne nno]; exact hn5
    have hot6 : (upd H5 o (.ins C dx (putF "_behind" (.bl bh) (putF "_order" (.ref ot) (putF "_numbers" (.ref nm) (putF "_width" (.int (O.length : Nat)) (putF "_letters" (.str (tx L)) []))))))) ot = some (.tup (nV O)) := by rw [upd_ne noto]; exact hot
    generalize (upd H5 o (.ins C dx (putF "_behind" (.bl bh) (putF "_order" (.ref ot) (putF "_numbers" (.ref nm) (putF "_width" (.int (O.length : Nat)) (putF "_letters" (.str (tx L)) []))))))) = H6 at e6 ho6 hn6 hot6 ⊢
    refine ⟨_, rfl, fun x dx2 hx hdx hne => ?_⟩
    have hx1 : (upd H6 dx2 (.own x)) x = none := by rw [upd_ne hne.symm]; exact hx
    have e61 : Ex H6 (upd H6 dx2 (.own x)) := Ex.new hdx
    refine ⟨x, dx2, wa, kw, ws, _, rfl, Ex.new hx1, hx1, upd_same, (hw0.ex e6).ex e61, fun H7 wt d e7 hd7 F7 => ⟨rfl, ?_⟩⟩
    have e67 := e61.trans e7
    have hd6 : H6 d = none := fresh_back e61 hd7
    have ho7 := e67 _ _ ho6
    have hn7 := e67 _ _ hn6
    have hot7 := e67 _ _ hot6
    have ndo : d ≠ o := fun z => by rw [z, ho6] at hd6; cases hd6
    have nxo : x ≠ o := fun z => by rw [z, ho6] at hx; cases hx
    refine ⟨_, rfl, o, C, dx, _, rfl, ho7, S.cl, S.n6, by show 5 < 1000; decide, ?_⟩
    rw [putF6]
    have ho8 : (upd H7 o (.ins C dx (mf6 (.str (tx L)) (.int (O.length : Nat)) (.ref nm) (.ref ot) (.bl bh) (.ref x)))) o = _ := upd_same
    have k8 : ∀ b, b ≠ o → (upd H7 o (.ins C dx (mf6 (.str (tx L)) (.int (O.length : Nat)) (.ref nm) (.ref ot) (.bl bh) (.ref x)))) b = H7 b := fun b h => upd_ne h
    have e8 := (e6.trans e67).mut (o := .ins C dx (mf6 (.str (tx L)) (.int (O.length : Nat)) (.ref nm) (.ref ot) (.bl bh) (.ref x))) ho0
    generalize (upd H7 o (.ins C dx (mf6 (.str (tx L)) (.int (O.length : Nat)) (.ref nm) (.ref ot) (.bl bh) (.ref x)))) = H8 at ho8 k8 e8 ⊢
    refine fun dm hdm => ?_
    have ndmo : dm ≠ o := fun z => by rw [z, ho8] at hdm; cases hdm
    have h7dm : H7 dm = none := by rw [← k8 _ ndmo]; exact hdm
    refine ⟨_, rfl, o, C, dx, _, _, rfl, (Ex.new hdm) _ _ ho8, S.cl, S.n2, rfl, _, _, rfl, rfl, _, _, rfl, rfl, ?_, ?_⟩
    · rw [dot_sg]
      have := W.o4
      exact mulOk_of 1 1000 (by rw [sg_len]; omega) (by omega) (by omega) (by decide) (by decide)
    rw [dots_mul]
    refine ⟨upd_same, [(.inr (tx (List.replicate (O.length + 1) 46)), .int 0)], rfl, by show 1 ≤ 15; decide, ?_⟩
    rw [upd_upd]
    have hd9 : (upd H8 dm (.dK (mergeK [] [(Sum.inr (tx (List.replicate (O.length + 1) 46)), V.int 0)]))) dm = some (.dK (kvO 0 (dotsK O))) := upd_same
    have ho9 : (upd H8 dm (.dK (mergeK [] [(Sum.inr (tx (List.replicate (O.length + 1) 46)), V.int 0)]))) o = _ := (Ex.new hdm) _ _ ho8
    have k9 : ∀ b, b ≠ dm → (upd H8 dm (.dK (mergeK [] [(Sum.inr (tx (List.replicate (O.length + 1) 46)), V.int 0)]))) b = H8 b := fun b h => upd_ne h
    have e9 := e8.trans (Ex.new (o := .dK (mergeK [] [(Sum.inr (tx (List.replicate (O.length + 1) 46)), V.int 0)])) hdm)
    generalize (upd H8 dm (.dK (mergeK [] [(Sum.inr (tx (List.replicate (O.length + 1) 46)), V.int 0)]))) = H9 at hd9 ho9 k9 e9 ⊢
    refine ⟨_, rfl, o, C, dx, _, rfl, ho9, S.cl, S.n7, by show 6 < 1000; decide, ?_⟩
    rw [putF7]
    have ho10 : (upd H9 o (.ins C dx (mFs (.str (tx L)) (.int (O.length : Nat)) (.ref nm) (.ref ot) (.bl bh) (.ref x) (.ref dm)))) o = _ := upd_same
    have k10 : ∀ b, b ≠ o → (upd H9 o (.ins C dx (mFs (.str (tx L)) (.int (O.length : Nat)) (.ref nm) (.ref ot) (.bl bh) (.ref x) (.ref dm)))) b = H9 b := fun b h => upd_ne h
    have e10 := e9.mut (o := .ins C dx (mFs (.str (tx L)) (.int (O.length : Nat)) (.ref nm) (.ref ot) (.bl bh) (.ref x) (.ref dm))) ho0
    generalize (upd H9 o (.ins C dx (mFs (.str (tx L)) (.int (O.length : Nat)) (.ref nm) (.ref ot) (.bl bh) (.ref x) (.ref dm)))) = HE at ho10 k10 e10 ⊢
    have kk : ∀ b u, b ≠ o → H7 b = some u → HE b = some u := fun b u h z => by
      have nb : b ≠ dm := fun y => by rw [y, h7dm] at z; cases z
      rw [k10 b h, k9 b nb, k8 b h]
      exact z
    obtain ⟨f0, f1, f2, f3, kvs, f4, f5, f6⟩ := F7
    have hd7' : H7 d ≠ none := by rw [f5]; exact fun z => nomatch z
    have ndd : d ≠ dm := fun z => hd7' (by rw [z]; exact h7dm)
    have f2' : H7 x = some (.ins CF dx2 (fFs (.ref wt) (.ref d))) := by
      by_cases z : x = d
      · have f2 : del H7 d x = _ := f2
        rw [z, del_same] at f2
        cases f2
      · have f2 : del H7 d x = _ := f2
        rw [del_ne z] at f2
        exact f2
    have nxd : x ≠ d := fun z => by rw [z, f5] at f2'; cases f2'
    have nxm : x ≠ dm := fun z => by rw [z, h7dm] at f2'; cases f2'
    have hmE : HE dm = some (.dK (kvO 0 (dotsK O))) := by rw [k10 _ ndmo]; exact hd9
    have hdE : HE d = some (.dK kvs) := kk _ _ ndo f5
    have sub : Ex (del (del HE d) dm) HE := fun b u z => by
      by_cases z1 : b = dm
      · rw [z1, del_same] at z; cases z
      · rw [del_ne z1] at z
        by_cases z2 : b = d
        · rw [z2, del_same] at z; cases z
        · rw [del_ne z2] at z
          exact z
    have up : ∀ b u, b ≠ d → b ≠ dm → HE b = some u → (del (del HE d) dm) b = some u := fun b u z1 z2 z => by rw [del_ne z2, del_ne z1]; exact z
    have wtne : wt ≠ o ∧ wt ≠ d ∧ wt ≠ dm ∧ Rd H7 wt (.tup (wv ws)) := by
      have f3 : Rd (del H7 d) wt (.tup (wv ws)) := f3
      have y : wt ≠ d := fun z => by rcases f3 with f3 | ⟨_, f3⟩ <;> (rw [z, del_same] at f3; cases f3)
      have r7 : Rd H7 wt (.tup (wv ws)) := by rcases f3 with f3 | ⟨v, f3⟩ <;> rw [del_ne y] at f3; exact .inl f3; exact .inr ⟨v, f3⟩
      refine ⟨fun z => ?_, y, fun z => ?_, r7⟩
      · rcases r7 with r7 | ⟨_, r7⟩ <;> (rw [z, ho7] at r7; cases r7)
      · rcases r7 with r7 | ⟨_, r7⟩ <;> (rw [z, h7dm] at r7; cases r7)
    obtain ⟨w1, w2, w3, w4⟩ := wtne
    have nnd : nm ≠ d := fun z => by rw [z, hd6] at hn6; cases hn6
    have nnm : nm ≠ dm := fun z => by rw [z, h7dm] at hn7; cases hn7
    have nod : ot ≠ d := fun z => by rw [z, hd6] at hot6; cases hot6
    have nom : ot ≠ dm := fun z => by rw [z, h7dm] at hot7; cases hot7
    refine q ⟨o, dx, nm, ot, dm, ⟨x, dx2, wt, d⟩⟩ (del (del HE d) dm) HE rfl (fun b u z => up b u (fun y => ?_) (fun y => ?_) (e10 _ _ z)) ⟨⟨sub, ?_, ?_, ?_, kvs, f4, hdE, f6⟩, del_same, ndd.symm, hmE, up _ _ ndo.symm ndmo.symm ho10, up _ _ nnd nnm (kk _ _ nno hn7), .inl (up _ _ nod nom (kk _ _ noto hot7))⟩
    · have := e6 _ _ z; rw [y, hd6] at this; cases this
    · have := (e6.trans e67) _ _ z; rw [y, h7dm] at this; cases this
    · show del (del HE d) dm d = none
      rw [del_ne ndd, del_same]
    · exact up _ _ nxd nxm (kk _ _ nxo f2')
    · rcases w4 with w4 | ⟨v, w4⟩
      · exact .inl (up _ _ w2 w3 (kk _ _ w1 w4))
      · exact .inr ⟨v, up _ _ w2 w3 (kk _ _ w1 w4)⟩
end
end Law

/-! len(set(xs)), xs a list or a tuple of different ints -/
namespace LQ
open PySem PySem.Spec PyProof.Rows L2
theorem len_same : ∀ {a b : List Int}, a.Nodup → b.Nodup → (∀ k, k ∈ a ↔ k ∈ b) → a.length = b.length
  | [], [], _, _, _ => rfl
  | [], y :: r, _, _, h => absurd ((h y).mpr List.mem_cons_self) (by simp)
  | x :: l, b, ha, hb, h => by
    have ha' := List.nodup_cons.mp ha
    have hx : x ∈ b := (h x).mp List.mem_cons_self
    have e := len_same (a := l) (b := b.erase x) ha'.2 (hb.erase x) (fun k => by
      rw [hb.mem_erase_iff]
      constructor
      · intro hk
        exact ⟨fun z => ha'.1 (z ▸ hk), (h k).mp (List.mem_cons_of_mem _ hk)⟩
      · rintro ⟨n, hk⟩
        rcases List.mem_cons.mp ((h k).mpr hk) with z | z
        · exact absurd z n
        · exact z)
    have hl := List.length_erase_of_mem hx
    have hp : 0 < b.length := List.length_pos_of_mem hx
    rw [List.length_cons]
    omega
theorem setR_len {w : World} {h : Heap} {a : Addr} {ns : List Int} {c : Nat} (hn : ns.Nodup) (R : SetR w h a (fun j => decide (j ∈ ns)) c) : c = ns.length := by
  obtain ⟨o, es, ep, t, ho, hx, hd, g, nd, hm, hb, hf, e, _⟩ := R
  have h1 := len_same hn nd fun k => by
    have := hm k
    rw [decide_eq_true_eq] at this
    exact this
  rw [List.length_map, Array.length_toList] at h1
  exact e.symm.trans h1.symm
def tLenSetQ (K : PySem.W.Frag) (ta : TE) : TE := fun σ H Q => ta σ H fun x H1 => ∃ (l : Addr) (ns : List Int), x = .ref l ∧ (SqL K H1 l (ns.map V.int) ∨ SqT K H1 l (ns.map V.int)) ∧ ns.Nodup ∧ ns.length ≤ 4000 ∧ Q (.int (ns.length : Nat)) H1
theorem pe_lenSetQ {X : Cx} {a : Expr} {ta : TE} {p p2 q pos : Pos} (hg : Gl X "len") (hm : X.mg "len" = none) (hg2 : Gl X "set") (hm2 : X.mg "set" = none) (ha : PE X a ta) (hc : X.calm = true := by rfl)
    (na : starEach [a] X.env = (false, eval a X.env) :: starEach [] X.env := by rfl) : PE X (.Call (.Name "len" p) [.Call (.Name "set" p2) [a] [] q] [] pos) (tLenSetQ X.K ta) := by
  refine ⟨fun pins s σ H Q I h => ?_⟩
  refine Call_ (ld_blt I hg hm boot_len ?_)
  refine PyProof.Rows.callWith_builtin1 (PyProof.Rows.args_cons ?_ rfl) rfl rfl
  refine Call_ (ld_blt I hg2 hm2 boot_set ?_)
  refine PyProof.Rows.callWith_type1 (PyProof.Rows.args_cons (thn (ha.run pins s σ H _ I h) fun v s1 ⟨x, H1, I1, r1, q1⟩ => PyProof.Rows.args_nil ?_) na) na rfl
  obtain ⟨l, ns, rfl, hq, hnd, hl, q1⟩ := q1
  cases r1
  rcases hq with hq | hq
  · obtain ⟨its, r, pl, hz⟩ := I1.list hq
    have hlen : its.toArray.size = ns.length := by rw [List.size_toArray, ← r.length, List.length_map]
    refine call_set_list (I1.ok.hd hc) pl.isList (by simpa using RZ.intsAre_vals r) (by rw [hlen]; unfold scanBound; omega) fun h' tk hS hk => ?_
    refine PyProof.Rows.args_nil ?_
    rw [hlen, RZ.firstMet_nodup hnd ns.length (Nat.le_refl _), List.take_length] at hS
    obtain ⟨o, es, ep, t, ho, hex, hd, _, _, _, hf, hn⟩ := hS
    have I2 : Inv X pins σ H1 { s1 with heap := h', toks := tk } := I1.kept fun b o e => hk b o (Heap.lt_size e) e
    exact call_len_set ho hex hd hf (by rw [hn] <;> omega) ⟨.int ns.length, H1, I2.tok _, ⟨_, by rw [hn]⟩, q1⟩
  · obtain ⟨its, r, pl, hz⟩ := I1.tuple hq
    refine call_set_tupI ns (I1.ok.hd hc) pl (by simpa using RZ.intsAre_vals r) (by unfold scanBound; omega) fun h' tk c hS hc2 hk => ?_
    refine PyProof.Rows.args_nil ?_
    have ec := setR_len hnd hS
    obtain ⟨o, es, ep, t, ho, hex, hd, _, _, _, _, hf, hn, _⟩ := hS
    have I2 : Inv X pins σ H1 { s1 with heap := h', toks := tk } := I1.kept fun b o e => hk b o e
    exact call_len_set ho hex hd hf (by rw [hn, ec] <;> omega) ⟨.int ns.length, H1, I2.tok _, ⟨_, by rw [hn, ec]⟩, q1⟩
end LQ

namespace Law
open PySem PySem.Spec PyProof.Rows L2 Evl TR EK GX Fg BT
def ordG (w : Nat) : Gt → Bool
  | .seq _ gs => gs.length == w && gs.all (whole 0 ((w : Int) - 1))
  | _ => false
def spOrd : Sp := fun vs H Q _ => ∃ (v : V) (g : Gt) (w : Nat), vs = [v, .int (w : Nat)] ∧ GA H v g ∧ (∀ k gs, g = .seq k gs → gs.length ≤ 50) ∧ (ordG w g = true → ∃ (k : Bool) (ns : List Int), g = .seq k (ns.map Gt.int) ∧ ns.Nodup) ∧ ∀ H', Ex H H' → Q (.bl (ordG w g)) H'
theorem gas_int {H : Hp} : ∀ {vs : List V} {ns : List Int}, GAs H vs (ns.map Gt.int) → vs = ns.map V.int
  | [], [], _ => rfl
  | [], n :: r, h => by cases h
  | v :: vs, [], h => by cases h
  | v :: vs, n :: r, h => by
    cases h with
    | cons h1 h2 =>
      cases h1
      rw [List.map_cons, gas_int h2]
section
variable {P : Program} {w : World} {K : PySem.W.Frag} {mg : Str → Option Value} {base : Heap}
theorem ok_order {f : Addr} {fd : FuncData} (F : Fun K "_is_order" "_is_order" s_is_order f fd) (T : Tx mg) (c_is_list : Kn P w K mg base "is_list" ["value"] 1 spIsLG) (c_is_whole : Kn P w K mg base "is_whole" ["value", "low", "high"] 2 spWhG) : FnOk P w K mg base CX0 3 f fd ["value", "width"] spOrd := by
  refine F.ok sc_is_order (fun vs H Q E h => ?_) (fun cdv A outer s H vs Q E hr h => ?_)
  · obtain ⟨v, g, wd, rfl, _⟩ := h
    rfl
  · obtain ⟨v, g, wd, rfl, hg, hl, hi, q⟩ := h
    refine ⟨_, (pss_cons (ps_if (PW.pt (pw_or (pt_not (pt_val (pe_call c_is_list.ok (hr.mono (by decide)) (by rfl) c_is_list.g c_is_list.kp c_is_list.b .nil pass0 (pa_cons (pv 0) pa_nil)))) (pw_or1 (pt_cmpR op_ne (pe_callB call_len_seq (by rfl) T.len PySem.boot_len (pa_cons (pv 0) pa_nil)) (pv 1) (nomark _))))) (pss_one (ps_ret pe_bl)) pss_nil)
      (pss_one (ps_ret (pe_and (pe_callB (cr_all rfl) (by rfl) T.all PyProof.Rows.boot_all (pa_cons (pe_lc (own := [("place", 2)]) (g := gName 2) (tt := tYes) rfl sc_is_order.nd (TR.pi_seq (pv 0)) (blkOk_by (N := N_is_order) (sc := defScope s_is_order) (by decide +kernel)) (fun _ _ _ _ _ => (pg_name (i := 2) sc_is_order.nd rfl (Or.inl rfl))) (fun _ _ _ _ _ => pts_nil) (fun _ _ _ _ _ => (pe_call c_is_whole.ok (hr.mono (by decide)) (by rfl) c_is_whole.g c_is_whole.kp c_is_whole.b .nil pass0 (pa_cons (pv 2) (pa_cons pe_int (pa_cons (pe_op op_sub (pv 1) pe_int) pa_nil)))))) pa_nil)) (pe_one (pe_cmpR op_eq (LQ.pe_lenSetQ (by rfl) T.len (by rfl) T.set (pv 0)) (pv 1) (nomark _))))))), ?_⟩
    refine ⟨_, rfl, v, g, rfl, hg, fun H1 e1 => ⟨_, rfl, ?_⟩⟩
    have q1 := q H1 e1
    cases hg with
    | int i => exact q1
    | str z => exact q1
    | bl b => exact q1
    | non => exact q1
    | dct h => exact q1
    | @seq a k vs gs ha hs =>
      have ha1 := e1 _ _ ha
      have hl2 := hl _ _ rfl
      have hs1 := GAs.ex e1 hs
      have ln := hs.len
      have eo : ordG wd (.seq k gs) = (gs.length == wd && gs.all (whole 0 ((wd : Int) - 1))) := rfl
      refine iteF ?_
      refine ⟨_, rfl, a, _, rfl, ob_seq ha1, _, rfl, rfl, _, rfl, ?_⟩
      by_cases hw : gs.length = wd
      · rw [show decide (V.int ((vs.length : Nat) : Int) = V.int ((wd : Nat) : Int)) = true from decide_eq_true (by rw [ln, hw])]
        refine iteF ?_
        have e2 : ordG wd (.seq k gs) = gs.all (whole 0 ((wd : Int) - 1)) := by
          rw [eo, show (gs.length == wd) = true from by rw [hw]; exact beq_self_eq_true wd, Bool.true_and]
        have hall : ∀ R : VK, (∀ D H', Ex H1 H' → H1 D = none → H' D = some (.lst ((gs.map (whole 0 ((wd : Int) - 1))).map V.bl)) → R (.ref D) H') → tLc (iSeq K (tVar 0)) (gName 2) tYes (tCall spWhG [] E0 (tCons (tVar 2) (tCons (tC (.int 0)) (tCons (tOp (rI0 fun i j => .int (i - j)) (tVar 1) (tC (.int 1))) tNil)))) [2] (L2.start N_is_order [.ref a, .int (wd : Nat)]) H1 R := by
          intro R r
          have step : ∀ (D : Addr), H1 D = none → ∀ (i : Nat) (x : V) (H' : Hp), vs[i]? = some x → (Ex H1 H' ∧ H' D = some (.lst (((gs.take i).map (whole 0 ((wd : Int) - 1))).map V.bl))) →
              ∃ g, GA H' x g ∧ ∀ H2, Ex H' H2 → ∃ acc, H2 D = some (.lst acc) ∧ acc.length < sizeLine ∧ (Ex H1 (upd H2 D (.lst (acc ++ [.bl (whole 0 ((wd : Int) - 1) g)]))) ∧ (upd H2 D (.lst (acc ++ [.bl (whole 0 ((wd : Int) - 1) g)]))) D = some (.lst (((gs.take (i + 1)).map (whole 0 ((wd : Int) - 1))).map V.bl))) := by
            intro D hD i x H' hx hw'
            obtain ⟨e, hz⟩ := hw'
            obtain ⟨g, hgi, hgx⟩ := hs1.get hx
            refine ⟨g, GA.ex e hgx, fun H2 e2 => ⟨_, e2 _ _ hz, ?_, (e.trans e2).mut hD, ?_⟩⟩
            · rw [List.length_map, List.length_map, List.length_take]
              exact sz_lt (by omega)
            · rw [upd_same, List.take_add_one, hgi, List.map_append, List.map_append]
              rfl
          have fin : ∀ (D : Addr), H1 D = none → ∀ H', (Ex H1 H' ∧ H' D = some (.lst (((gs.take vs.length).map (whole 0 ((wd : Int) - 1))).map V.bl))) → R (.ref D) H' := fun D hD H' hw' => by
            obtain ⟨e, hz⟩ := hw'
            rw [ln, List.take_length] at hz
            exact r D H' e hD hz
          cases k
          · refine .inl ⟨_, rfl, a, rfl, ⟨_, sq_of ha1⟩, fun D hD => ?_⟩
            refine lc_list (xs := vs) (fun i H' => Ex H1 H' ∧ H' D = some (.lst (((gs.take i).map (whole 0 ((wd : Int) - 1))).map V.bl))) ⟨Ex.new hD, upd_same⟩ (fun i H' _ p => sq_of (p.1 _ _ ha1)) (fun i x H' hx hw' => ?_) (fin D hD)
            obtain ⟨g, gx, st⟩ := step D hD i x H' hx hw'
            exact ⟨rfl, _, rfl, _, rfl, _, _, rfl, rfl, x, g, 0, _, rfl, gx, st⟩
          · refine .inr ⟨_, rfl, a, rfl, ⟨_, st_of ha1⟩, fun D hD => ?_⟩
            refine lc_tup (xs := vs) (fun i H' => Ex H1 H' ∧ H' D = some (.lst (((gs.take i).map (whole 0 ((wd : Int) - 1))).map V.bl))) ⟨Ex.new hD, upd_same⟩ (fun i H' _ p => st_of (p.1 _ _ ha1)) (fun i x H' hx hw' => ?_) (fin D hD)
            obtain ⟨g, gx, st⟩ := step D hD i x H' hx hw'
            exact ⟨rfl, _, rfl, _, rfl, _, _, rfl, rfl, x, g, 0, _, rfl, gx, st⟩
        dsimp only [tNext, tRet, tAndV, tCB]
        show tLc _ _ _ _ _ _ _ _
        refine hall _ (fun D H2 e2' hD hz => ?_)
        refine ⟨D, _, rfl, sq_of hz, ?_⟩
        have ea : (gs.map (whole 0 ((wd : Int) - 1))).all id = gs.all (whole 0 ((wd : Int) - 1)) := by rw [List.all_map]; rfl
        rw [ea]
        have q2 := q H2 (e1.trans e2')
        cases hb : gs.all (whole 0 ((wd : Int) - 1)) with
        | false =>
          rw [e2, hb] at q2
          exact ⟨_, rfl, q2⟩
        | true =>
          rw [e2, hb] at q2
          obtain ⟨k', ns, eg, nd⟩ := hi (by rw [e2, hb])
          cases eg
          have ev := gas_int hs
          rw [ev] at ha1
          have ha2 := e2' _ _ ha1
          rw [List.length_map] at hl2 hw
          refine ⟨_, rfl, _, rfl, a, ns, rfl, ob_seq ha2, nd, by omega, _, rfl, rfl, ?_⟩
          rw [show decide (V.int ((ns.length : Nat) : Int) = V.int ((wd : Nat) : Int)) = true from decide_eq_true (by rw [hw])]
          exact q2
      · rw [show decide (V.int ((vs.length : Nat) : Int) = V.int ((wd : Nat) : Int)) = false from decide_eq_false (fun z => hw (by have := V.int.inj z; omega))]
        refine iteT ?_
        have e2 : ordG wd (.seq k gs) = false := by
          rw [eo, show (gs.length == wd) = false from by simpa using hw, Bool.false_and]
        rw [e2] at q1
        exact q1
end
structure Wds (L : List Nat) (m : Nat) (ws : List (List Nat)) : Prop where
  lo : 1 ≤ ws.length
  hi : ws.length ≤ 3
  of : ∀ z ∈ ws, WG L m z
  nd : ws.Nodup
  m1 : 1 ≤ m
  m6 : m ≤ 6
  no : 46 ∉ L
theorem wds_good {L : List Nat} {m : Nat} {ws : List (List Nat)} (W : Wds L m ws) : badW L (ws.map some) = none := by
  have lo := W.lo
  have hi := W.hi
  refine bad_none (by rw [List.length_map]; omega) (by rw [List.length_map]; omega) fun j hj => ?_
  rw [List.length_map] at hj
  have h0 : ws[0]? = some ws[0] := List.getElem?_eq_getElem (by omega)
  have hjj : ws[j]? = some ws[j] := List.getElem?_eq_getElem hj
  have w0 := W.of _ (List.getElem_mem (show 0 < ws.length by omega))
  have wj := W.of _ (List.getElem_mem hj)
  have m1 := W.m1
  have m6 := W.m6
  unfold goodB
  rw [List.getElem?_map, hjj]
  show (wdB L ws[j] && lenB (ws.map some) ws[j] && !decide (some ws[j] ∈ (ws.map some).take j)) = true
  have e1 : wdB L ws[j] = true := decide_eq_true ⟨by rw [wj.len]; omega, by rw [wj.len]; omega, wj.of⟩
  have e2 : lenB (ws.map some) ws[j] = true := by
    unfold lenB
    rw [List.getElem?_map, h0]
    exact decide_eq_true (by rw [wj.len, w0.len])
  have e3 : decide (some ws[j] ∈ (ws.map some).take j) = false := by
    refine decide_eq_false fun z => ?_
    rw [← List.map_take] at z
    obtain ⟨y, hy, e⟩ := List.mem_map.mp z
    cases e
    obtain ⟨i, hi2, ei⟩ := List.mem_iff_getElem.mp hy
    rw [List.length_take] at hi2
    rw [List.getElem_take] at ei
    exact List.pairwise_iff_getElem.mp W.nd i j (by omega) hj (by omega) ei
  rw [e1, e2, e3]
  rfl
theorem els_wv {K : PySem.W.Frag} {H : Hp} : ∀ {ws : List (List Nat)}, (∀ w ∈ ws, w.length < 900) → Els K H (wv ws) (ws.map some)
  | [], _ => .nil
  | w :: ws, h => .cons (.txt w (h w (List.mem_cons_self ..))) (els_wv fun u hu => h u (List.mem_cons_of_mem _ hu))
def TrB (L : List Nat) (ws : List (List Nat)) (O : List Nat) (bh : Bool) : List Tr := (run L ws O bh 40 [] (dotsK O)).1
def spBest (K : PySem.W.Frag) (CL CW CO CS : Addr) : Sp := fun vs H Q E => ∃ (v ov : V) (wa : Addr) (kw bh : Bool) (xs : List V), vs = [v, .ref wa, ov, .bl bh] ∧ SQ.WQ H wa kw xs ∧
  ((∃ d, AV H v d ∧ OddL K H v ∧ ∀ H', Ex H H' → RzD E H' CL "letters" d) ∨
   (∃ L es i, v = .str (tx L) ∧ LG L ∧ Els K H xs es ∧ xs.length < 100 ∧ badW L es = some i ∧ ∀ H', Ex H H' → RzD E H' CW "place" (.int (i : Nat))) ∨
   (∃ L m ws d g, v = .str (tx L) ∧ LG L ∧ xs = wv ws ∧ Wds L m ws ∧ AV H ov d ∧ GA H ov g ∧ (∀ k gs, g = .seq k gs → gs.length ≤ 50) ∧ ordG m g = false ∧ ∀ H', Ex H H' → RzD E H' CO "order" d) ∨
   (∃ L ws O oa ko, v = .str (tx L) ∧ LG L ∧ xs = wv ws ∧ Wds L O.length ws ∧ Wok L ws O ∧ ov = .ref oa ∧ H oa = some (ob ko (nV O)) ∧ ∀ o H', Ex H H' → H o = none → SObj CS H' o L O.length (TrB L ws O bh) → Q (.ref o) H'))
theorem gas_nV {H : Hp} : ∀ O : List Nat, GAs H (nV O) ((O.map fun p : Nat => (p : Int)).map Gt.int)
  | [] => .nil
  | p :: r => .cons (.int _) (gas_nV r)
theorem ord_good {O : List Nat} {k : Bool} (h : ∀ p ∈ O, p < O.length) : ordG O.length (.seq k ((O.map fun p : Nat => (p : Int)).map Gt.int)) = true := by
  show (((O.map fun p : Nat => (p : Int)).map Gt.int).length == O.length && ((O.map fun p : Nat => (p : Int)).map Gt.int).all (whole 0 ((O.length : Int) - 1))) = true
  rw [Bool.and_eq_true]
  refine ⟨by rw [List.length_map, List.length_map]; exact beq_self_eq_true _, ?_⟩
  rw [List.all_eq_true]
  intro x hx
  obtain ⟨y, hy, rfl⟩ := List.mem_map.mp hx
  obtain ⟨p, hp, rfl⟩ := List.mem_map.mp hy
  have := h p hp
  show (decide ((0 : Int) ≤ (p : Int)) && decide ((p : Int) ≤ (O.length : Int) - 1)) = true
  rw [decide_eq_true (by omega), decide_eq_true (by omega)]
  rfl
theorem nd_int {O : List Nat} (h : O.Nodup) : (O.map fun p : Nat => (p : Int)).Nodup := by
  unfold List.Nodup at h ⊢
  rw [List.pairwise_map]
  exact h.imp fun hab e => hab (by omega)
section
variable {P : Program} {w : World} {K : PySem.W.Frag} {mg : Str → Option Value} {base : Heap} {C_BadLetters C_BadWords C_BadOrder CM CF C_Searcher fO fm fa fs C0 : Addr} {fdO fdm fda fds : FuncData}
theorem ok_best {f : Addr} {fd : FuncData} (F : FunD K "best" "best" (defArgs s_best) (defBody s_best) (defScope s_best) [.bl false] [] f fd) (T : Tx mg) (S : MC K CM) (E3 : ErrC K C_BadOrder fO C0) (g_BadOrder : mg "BadOrder" = some (.ref C_BadOrder)) (I_BadOrder : FnOk P w K mg base CX0 3 fO fdO ["self", "order"] (spE1 C_BadOrder "order")) (B_BadOrder : Binds K fdO ["self", "order"] [])
    (c_check_words : Kn' P w K mg base (L2.CX P w) "check_words" ["letters", "words"] 5 (spCheckG K C_BadLetters C_BadWords)) (c_is_order : Kn P w K mg base "_is_order" ["value", "width"] 3 spOrd)
    (g_Maker : mg "Maker" = some (.ref CM)) (M_Maker : Mk K CM fm) (F_Maker : FnOk P w K mg base CX0 3 fm fdm ["self", "letters", "words", "order", "behind"] (spMk CM CF)) (b_Maker : Binds K fdm ["self", "letters", "words", "order", "behind"] [])
    (Me_all_trees : Meth K CM "all_trees" fa) (F_all_trees : FnOk P w K mg base CX0 10 fa fda ["self"] (spAllT CM CF)) (b_all_trees : Binds K fda ["self"] [])
    (g_Searcher : mg "Searcher" = some (.ref C_Searcher)) (M_Searcher : Mk K C_Searcher fs) (F_Searcher : FnOk P w K mg base CX0 42 fs fds ["self", "letters", "width", "states"] (spInit C_Searcher)) (b_Searcher : Binds K fds ["self", "letters", "width", "states"] []) :
    FnOk P w K mg base (L2.CX P w) 44 f fd ["letters", "words", "order", "behind"] (spBest K C_BadLetters C_BadWords C_BadOrder C_Searcher) := by
  refine F.ok (CX := L2.CX P w) sc_best (fun vs H Q E h => ?_) (fun cdv A outer s H vs Q E hr h => ?_)
  · obtain ⟨v, ov, wa, kw, bh, xs, rfl, _⟩ := h
    rfl
  · obtain ⟨v, ov, wa, kw, bh, xs, rfl, ha, h⟩ := h
    obtain ⟨O_BadOrder, i_BadOrder, t_BadOrder, _, _, _⟩ := E3
    refine ⟨_, (pss_cons (ps_expr (pe_callS c_check_words.ok (hr.mono (by decide)) (by rfl) c_check_words.g c_check_words.kp c_check_words.b (fun σ => passAt (takes_of rfl rfl rfl rfl) σ) (pa_cons (pv 0) (pa_cons (pv 1) pa_nil))))
      (pss_cons (ps_if (pt_not (pt_val (pe_call c_is_order.ok (hr.mono (by decide)) (by rfl) c_is_order.g c_is_order.kp c_is_order.b .nil pass0 (pa_cons (pv 2) (pa_cons (pe_callB call_len_str (by rfl) T.len PySem.boot_len (pa_cons (pe_ix ix_seq (pv 1) pe_int (fun _ _ => rfl)) pa_nil)) pa_nil))))) (pss_one (ps_raise rfl (takes_of rfl rfl rfl rfl) (pmk_oex O_BadOrder i_BadOrder t_BadOrder I_BadOrder (hr.mono (by decide)) B_BadOrder .nil pass0 (by rfl) g_BadOrder (pa_cons (pv 2) pa_nil)))) pss_nil)
      (pss_one (ps_ret (pe_make M_Searcher F_Searcher (hr.mono (by decide)) (by rfl) g_Searcher b_Searcher .nil pass0 (pa_cons (pv 0) (pa_cons (pe_callB call_len_str (by rfl) T.len PySem.boot_len (pa_cons (pe_ix ix_seq (pv 1) pe_int (fun _ _ => rfl)) pa_nil)) (pa_cons (pe_meth0 (pe_make M_Maker F_Maker (hr.mono (by decide)) (by rfl) g_Maker b_Maker .nil pass0 (pa_cons (pv 0) (pa_cons (pv 1) (pa_cons (pv 2) (pa_cons (pv 3) pa_nil))))) S.cl Me_all_trees F_all_trees (hr.mono (by decide)) b_all_trees .nil pass0) pa_nil)))))))), ?_⟩
    rcases h with ⟨d, hv, ho, q⟩ | ⟨L, es, i, rfl, hL, EE, hx, hb, q⟩ | ⟨L, m, ws, d, g, rfl, hL, rfl, W, hv, hg, h50, hf, q⟩ | ⟨L, ws, O, oa, ko, rfl, hL, rfl, W, Wo, rfl, hoa, q⟩
    · refine ⟨_, rfl, _, rfl, _, wa, kw, _, rfl, ha, .inr ⟨d, hv, ho, fun H1 e1 => q H1 e1⟩⟩
    · refine ⟨_, rfl, _, rfl, _, wa, kw, _, rfl, ha, .inl ⟨L, es, rfl, hL, EE, hx, fun H1 e1 => ⟨fun j hj => ?_, fun hn => ?_⟩⟩⟩
      · rw [hb] at hj
        cases hj
        exact q H1 e1
      · rw [hb] at hn
        cases hn
    · have wm : ∀ z ∈ ws, z.length = m := fun z hz => (W.of z hz).len
      have m6 := W.m6
      have whi := W.hi
      obtain ⟨z0, hz0⟩ : ∃ z0, ws[0]? = some z0 := ⟨_, List.getElem?_eq_getElem W.lo⟩
      have zl := wm z0 (List.mem_of_getElem? hz0)
      have hz1 : (wv ws)[0]? = some (.str (tx z0)) := by unfold wv; rw [List.getElem?_map, hz0]; rfl
      refine ⟨_, rfl, _, rfl, _, wa, kw, _, rfl, ha, .inl ⟨L, ws.map some, rfl, hL, els_wv fun z hz => by rw [wm z hz]; omega, by unfold wv; rw [List.length_map]; omega, fun H1 e1 => ⟨fun i hi => ?_, fun _ => ?_⟩⟩⟩
      · rw [wds_good W] at hi
        cases hi
      have seq0 : ∀ {H' : Hp}, Ex H H' → ∀ {R : VK}, R (.str (tx z0)) H' → rIx K (.ref wa) (.int 0) H' R := fun {H'} e {R} r => by
        rcases (ha.ex e).seq with h | h
        · exact .inl ⟨wa, _, 0, _, rfl, rfl, h, atI_nat (j := 0) hz1, r⟩
        · exact .inr (.inl ⟨wa, _, 0, _, rfl, rfl, h, atI_nat (j := 0) hz1, r⟩)
      refine ⟨_, rfl, _, rfl, seq0 e1 ⟨_, rfl, tx_le (by omega), ?_⟩⟩
      rw [tx_len, zl]
      refine ⟨ov, g, m, rfl, GA.ex e1 hg, h50, (fun h => by rw [hf] at h; cases h), fun H2 e2 => ?_⟩
      rw [hf]
      refine ⟨false, rfl, ?_⟩
      exact ⟨_, rfl, by show 1 ≤ 1000; decide, fun a ha' => ⟨a, _, d, rfl, upd_same, (hv.ex (e1.trans e2)).ex (Ex.new ha'), fun dx v' H3 er av => raise_endD ha' er av (q H2 (e1.trans e2))⟩⟩
    · have wm : ∀ z ∈ ws, z.length = O.length := fun z hz => (W.of z hz).len
      have m6 := W.m6
      have o1 := Wo.o1
      have o4 := Wo.o4
      have whi := W.hi
      obtain ⟨z0, hz0⟩ : ∃ z0, ws[0]? = some z0 := ⟨_, List.getElem?_eq_getElem W.lo⟩
      have zl := wm z0 (List.mem_of_getElem? hz0)
      have hz1 : (wv ws)[0]? = some (.str (tx z0)) := by unfold wv; rw [List.getElem?_map, hz0]; rfl
      refine ⟨_, rfl, _, rfl, _, wa, kw, _, rfl, ha, .inl ⟨L, ws.map some, rfl, hL, els_wv fun z hz => by rw [wm z hz]; omega, by unfold wv; rw [List.length_map]; omega, fun H1 e1 => ⟨fun i hi => ?_, fun _ => ?_⟩⟩⟩
      · rw [wds_good W] at hi
        cases hi
      have seq0 : ∀ {H' : Hp}, Ex H H' → ∀ {R : VK}, R (.str (tx z0)) H' → rIx K (.ref wa) (.int 0) H' R := fun {H'} e {R} r => by
        rcases (ha.ex e).seq with h | h
        · exact .inl ⟨wa, _, 0, _, rfl, rfl, h, atI_nat (j := 0) hz1, r⟩
        · exact .inr (.inl ⟨wa, _, 0, _, rfl, rfl, h, atI_nat (j := 0) hz1, r⟩)
      refine ⟨_, rfl, _, rfl, seq0 e1 ⟨_, rfl, tx_le (by omega), ?_⟩⟩
      rw [tx_len, zl]
      have og := ord_good (k := ko) Wo.lt
      refine ⟨.ref oa, .seq ko ((O.map fun p : Nat => (p : Int)).map Gt.int), O.length, rfl, .seq (e1 _ _ hoa) (gas_nV O), (fun k gs h => by cases h; rw [List.length_map, List.length_map]; omega), fun _ => ⟨_, _, rfl, nd_int Wo.nd⟩, fun H2 e2 => ?_⟩
      have e12 := e1.trans e2
      rw [og]
      refine ⟨true, rfl, ?_⟩
      refine ⟨_, rfl, _, rfl, seq0 e12 ⟨_, rfl, tx_le (by omega), ?_⟩⟩
      rw [tx_len, zl]
      refine ⟨_, rfl, _, rfl, _, rfl, _, rfl, fun o dx ho hdx hne => ?_⟩
      have ho1 : (upd H2 dx (.own o)) o = none := by rw [upd_ne hne.symm]; exact ho
      have e3 : Ex H2 (upd H2 dx (.own o)) := Ex.new hdx
      refine ⟨o, dx, wa, oa, kw, ko, bh, L, ws, O, _, rfl, Ex.new ho1, ho1, upd_same, (ha.ex e12).ex e3, e3 _ _ (e12 _ _ hoa), Wo, W.nd, ?_⟩
      rintro m B' H3 hmo e4 M
      refine ⟨rfl, m.mo, m.dx, _, by rw [hmo], M.e _ _ M.o, q1 .., ?_⟩
      refine ⟨m, L, ws, O, bh, B', by rw [hmo]; rfl, M, Wo, fun B2 H4 r us e5 k e6 n hr KX => ?_⟩
      refine fun o2 dx2 ho2 hdx2 hne2 => ?_
      have ho3 : (upd H4 dx2 (.own o2)) o2 = none := by rw [upd_ne hne2.symm]; exact ho2
      have e7 : Ex B2 (upd (upd H4 dx2 (.own o2)) o2 (.ins C_Searcher dx2 [])) := (e6.trans (Ex.new hdx2)).trans (Ex.new ho3)
      obtain ⟨b1, b2, b3, b4⟩ := best_good Wo (bh := bh) (R := run L ws O bh 40 [] (dotsK O)) rfl
      have eH : Ex H B2 := (e12.trans (e3.trans (e4.trans e5)))
      refine ⟨o2, dx2, r, L, O.length, false, true, us, TrB L ws O bh, B2, rfl, e7, fresh_back e6 ho2, upd_same, hr, KX, hL, o1, by omega, b1, by have : (TrB L ws O bh).length ≤ 40 := b2; omega, fun t ht => ⟨(b3 t ht).1, Nat.le_trans (b3 t ht).2 (by decide)⟩, b4, fun H5 e8 SO => ⟨rfl, q o2 H5 (eH.trans e8) (fresh_back (eH.trans e6) ho2) SO⟩⟩
end
end Law

namespace Law
open PySem PySem.Spec PyProof.Rows L2 Evl TR EK GX Fg BT
/-- the law's world -/
def wrK (L : List Nat) (wa oa : Addr) (bh : Bool) : List (Key × V) := [(.inr "letters", .str (tx L)), (.inr "words", .ref wa), (.inr "order", .ref oa), (.inr "behind", .bl bh)]
theorem wr1 (L : List Nat) (wa oa : Addr) (bh : Bool) : valV (wrK L wa oa bh) (.inr "letters") = some (.str (tx L)) := rfl
theorem wr2 (L : List Nat) (wa oa : Addr) (bh : Bool) : valV (wrK L wa oa bh) (.inr "words") = some (.ref wa) := rfl
theorem wr3 (L : List Nat) (wa oa : Addr) (bh : Bool) : valV (wrK L wa oa bh) (.inr "order") = some (.ref oa) := rfl
theorem wr4 (L : List Nat) (wa oa : Addr) (bh : Bool) : valV (wrK L wa oa bh) (.inr "behind") = some (.bl bh) := rfl
structure WdA (d wa oa : Addr) (L : List Nat) (ws : List (List Nat)) (O : List Nat) (bh : Bool) (H : Hp) : Prop where
  dk : H d = some (.dK (wrK L wa oa bh))
  w : H wa = some (.lst (wv ws))
  o : H oa = some (.lst (nV O))
section
variable {d wa oa ml : Addr} {L : List Nat} {ws : List (List Nat)} {O : List Nat} {bh : Bool} {B H H' : Hp} {ks : List (List Nat)}
theorem WdA.ex (W : WdA d wa oa L ws O bh H) (e : Ex H H') : WdA d wa oa L ws O bh H' := ⟨e _ _ W.dk, e _ _ W.w, e _ _ W.o⟩
theorem WdA.g1 (W : WdA d wa oa L ws O bh H) : DGet H d (.str "letters") (some (.str (tx L))) := DGet.k (k := .inr "letters") W.dk
theorem WdA.g2 (W : WdA d wa oa L ws O bh H) : DGet H d (.str "words") (some (.ref wa)) := DGet.k (k := .inr "words") W.dk
theorem WdA.g3 (W : WdA d wa oa L ws O bh H) : DGet H d (.str "order") (some (.ref oa)) := DGet.k (k := .inr "order") W.dk
theorem WdA.g4 (W : WdA d wa oa L ws O bh H) : DGet H d (.str "behind") (some (.bl bh)) := DGet.k (k := .inr "behind") W.dk
/-- the law's list of what is met, over a base that stays -/
structure LwAt (d wa oa ml : Addr) (L : List Nat) (ws : List (List Nat)) (O : List Nat) (bh : Bool) (B H : Hp) (ks : List (List Nat)) : Prop where
  e : Ex B H
  wd : WdA d wa oa L ws O bh B
  mn : B ml = none
  mt : H ml = some (.lst (wv ks))
def mi (ml : Addr) : MI := ⟨ml, ml, ml, ml, ml, ⟨ml, ml, ml, ml⟩⟩
theorem LwAt.wh (M : LwAt d wa oa ml L ws O bh B H ks) : WdA d wa oa L ws O bh H := M.wd.ex M.e
theorem LwAt.ex (M : LwAt d wa oa ml L ws O bh B H ks) (e : Ex H H') : LwAt d wa oa ml L ws O bh B H' ks := ⟨M.e.trans e, M.wd, M.mn, e _ _ M.mt⟩
theorem LwAt.both {a : Addr} {u : HO} (M : LwAt d wa oa ml L ws O bh B H ks) (ha : H a = none) : LwAt d wa oa ml L ws O bh (upd B a u) (upd H a u) ks := by
  have hB : B a = none := fresh_back M.e ha
  have nd : ml ≠ a := fun z => by have := M.mt; rw [z, ha] at this; cases this
  refine ⟨fun b v h => ?_, M.wd.ex (Ex.new hB), by rw [upd_ne nd]; exact M.mn, (Ex.new ha) _ _ M.mt⟩
  by_cases q : b = a
  · subst q
    rw [upd_same] at h ⊢
    exact h
  · rw [upd_ne q] at h ⊢
    exact M.e _ _ h
theorem LwAt.knows {a : Addr} {u : HO} (M : LwAt d wa oa ml L ws O bh B H ks) (ha : H a = some u) (hB : B a = none) (hm : a ≠ ml) : LwAt d wa oa ml L ws O bh (upd B a u) H ks := by
  refine ⟨fun b v h => ?_, M.wd.ex (Ex.new hB), by rw [upd_ne hm.symm]; exact M.mn, M.mt⟩
  by_cases q : b = a
  · subst q
    rw [upd_same] at h
    rw [ha, ← h]
  · rw [upd_ne q] at h
    exact M.e _ _ h
theorem LwAt.mut {D : Addr} {u : HO} (M : LwAt d wa oa ml L ws O bh B H ks) (hB : B D = none) (hm : D ≠ ml) : LwAt d wa oa ml L ws O bh B (upd H D u) ks :=
  ⟨M.e.mut hB, M.wd, M.mn, by rw [upd_ne hm.symm]; exact M.mt⟩
theorem LwAt.grow {ks' : List (List Nat)} (M : LwAt d wa oa ml L ws O bh B H ks) : LwAt d wa oa ml L ws O bh B (upd H ml (.lst (wv ks'))) ks' :=
  ⟨M.e.mut M.mn, M.wd, M.mn, upd_same⟩
theorem LwAt.gw {ks' : List (List Nat)} (M : LwAt d wa oa ml L ws O bh B H ks) : Gw (mi ml) B H B (upd H ml (.lst (wv ks'))) :=
  ⟨Ex.refl _, fun b o x _ h => by rw [upd_ne (show b ≠ ml from x)]; exact h, fun _ h _ => h, fun b h => by
    by_cases q : b = ml
    · rw [q, upd_same]
      exact fun z => nomatch z
    · rw [upd_ne q]
      exact h⟩
end
theorem drop_two {r : List Nat} {x p i : Nat} (hpi : r[i]? = some p) : ∃ y rs, (r ++ [x]).drop i = p :: y :: rs ∧ (r ++ [x]).drop (i + 1) = y :: rs := by
  have hil : i < r.length := (List.getElem?_eq_some_iff.mp hpi).1
  have hpi2 : (r ++ [x])[i]? = some p := by rw [List.getElem?_append_left hil]; exact hpi
  have h1 : i < (r ++ [x]).length := by rw [List.length_append]; omega
  have h2 : (r ++ [x]).drop i = p :: (r ++ [x]).drop (i + 1) := by
    rw [List.drop_eq_getElem_cons h1]
    rw [List.getElem?_eq_getElem h1] at hpi2
    rw [Option.some.inj hpi2]
  cases h4 : (r ++ [x]).drop (i + 1) with
  | nil =>
    have := congrArg List.length h4
    rw [List.length_drop, List.length_append] at this
    simp at this
    omega
  | cons y rs => exact ⟨y, rs, by rw [h2, h4], rfl⟩
def spPut : Sp := fun vs H Q _ => ∃ (k : List Nat) (p c : Nat), vs = [.str (tx k), .int (p : Nat), .str (sg c)] ∧ k.length < 100 ∧ p < k.length ∧ Q (.str (tx (setK k p c))) H
def spSize : Sp := fun vs H Q _ => ∃ (d wa oa : Addr) (L : List Nat) (ws : List (List Nat)) (O : List Nat) (bh : Bool) (k : List Nat), vs = [.ref d, .str (tx k)] ∧ WdA d wa oa L ws O bh H ∧ k.length < 100 ∧ 1 ≤ O.length ∧ O.length ≤ 10 ∧ (∀ p ∈ O, p < k.length) ∧ ∀ H', Ex H H' → Q (.int (sizeR k O : Nat)) H'
def spLLeaf : Sp := fun vs H Q _ => ∃ (d wa oa ml : Addr) (L : List Nat) (ws : List (List Nat)) (O : List Nat) (bh : Bool) (B : Hp) (ks : List (List Nat)) (k : List Nat), vs = [.ref d, .ref ml, .str (tx k)] ∧ LwAt d wa oa ml L ws O bh B H ks ∧ Wok L ws O ∧ KL L O k ∧ ks.length < 1000 ∧
  ∀ B' H' v, Gw (mi ml) B H B' H' → LwAt d wa oa ml L ws O bh B' H' (bgo ws O k ks).2 → TX true B' v (bgo ws O k ks).1 → Q v H'
section
variable {P : Program} {w : World} {K : PySem.W.Frag} {mg : Str → Option Value} {base : Heap}
theorem ok_put {f : Addr} {fd : FuncData} (F : Fun K "_law_put" "_law_put" s_lput f fd) (T : Tx mg) : FnOk P w K mg base CX0 1 f fd ["_law_known", "_law_place", "_law_letter"] spPut := by
  refine F.ok sc_lput (fun vs H Q E h => ?_) (fun cdv A outer s H vs Q E hr h => ?_)
  · obtain ⟨k, p, c, rfl, _⟩ := h
    rfl
  · obtain ⟨k, p, c, rfl, hk, hp, q⟩ := h
    refine ⟨_, (pss_one (ps_ret (pe_op op_add_str (pe_op op_add_str (pe_slice sl_str (pv 0) po_none (po_some (pv 1))) (pv 2)) (pe_slice sl_str (pv 0) (po_some (pe_op op_add (pv 1) pe_int)) po_none)))), ?_⟩
    have pl : (tx k).length ≤ sizeLine := tx_le (by omega)
    refine ⟨_, rfl, _, rfl, _, rfl, _, rfl, pl, _, rfl, _, _, rfl, rfl, ?_, _, rfl, _, rfl, _, _, rfl, rfl, _, rfl, _, rfl, pl, _, _, rfl, rfl, ?_, ?_⟩
    · rw [cut_to, tx_len, List.length_take, sg_len]
      exact sz_le (by omega)
    · rw [cut_to, show (p : Int) + 1 = ((p + 1 : Nat) : Int) by omega, cut_from, sg_tx, tx_app, tx_len, tx_len, List.length_append, List.length_take, List.length_drop]
      exact sz_le (by simp; omega)
    · rw [setK_cut]
      exact q
theorem ok_lsize {f : Addr} {fd : FuncData} (F : Fun K "_law_size" "_law_size" s_lsize f fd) (T : Tx mg) : FnOk P w K mg base CX0 1 f fd ["_law_world", "_law_known"] spSize := by
  refine F.ok sc_lsize (fun vs H Q E h => ?_) (fun cdv A outer s H vs Q E hr h => ?_)
  · obtain ⟨d, wa, oa, L, ws, O, bh, k, rfl, _⟩ := h
    rfl
  · obtain ⟨d, wa, oa, L, ws, O, bh, k, rfl, Wd, hk, o1, o10, hp, q⟩ := h
    refine ⟨_, (pss_cons (ps_set (i := 2) sc_lsize.nd rfl (Or.inl rfl) pe_int)
      (pss_cons (ps_for PassesOwn.never rfl (pi_list (pe_slice sl_list (pe_dget (hu_of hr) (pv 0) pe_str (fun _ _ => rfl)) po_none (po_some (pe_un un_neg pe_int)))) (pg_name (i := 3) sc_lsize.nd rfl (Or.inl rfl)) (pss_cons (ps_if (pt_cmpR op_eq (pe_ix ix_str (pv 1) (pv 3) (fun _ _ => rfl)) pe_str (nomark _)) (pss_one ps_break) pss_nil)
      (pss_one (ps_set (i := 2) sc_lsize.nd rfl (Or.inl rfl) (pe_op op_add (pv 2) pe_int)))))
      (pss_one (ps_ret (pv 2))))), ?_⟩
    obtain ⟨r, x, rO⟩ := last_of o1
    subst rO
    have ce := cut_initV (nV r) (.int (x : Nat))
    have en : nV (r ++ [x]) = nV r ++ [.int (x : Nat)] := by unfold nV; rw [List.map_append]; rfl
    have ho := Wd.o
    rw [en] at ho
    dsimp only [gName]
    refine ⟨_, rfl, d, _, rfl, Wd.g3, _, rfl, _, rfl, oa, _, rfl, sq_of ho, fun t ht => ?_⟩
    rw [ce.1]
    have e1 : Ex H (upd H t (.lst (nV r))) := Ex.new ht
    have hT1 : (upd H t (.lst (nV r))) t = some (.lst (nV r)) := upd_same
    generalize (upd H t (.lst (nV r))) = H1 at e1 hT1 ⊢
    refine ⟨t, rfl, ⟨_, sq_of hT1⟩, ?_⟩
    refine for_list (xs := nV r) (fun i σ H2 => ∃ (y3 : Option V) (j : Nat), σ = [some (.ref d), some (.str (tx k)), some (.int (j : Nat)), y3] ∧ Ex H H2 ∧ H2 t = some (.lst (nV r)) ∧ j + sizeR k ((r ++ [x]).drop i) = sizeR k (r ++ [x]))
      ⟨_, 0, rfl, e1, hT1, by rw [List.drop_zero, Nat.zero_add]⟩ (fun i σ H2 _ p => sq_of (by obtain ⟨_, _, _, _, h, _⟩ := p; exact h)) (fun i v σ H2 hv hw => ?_) (fun σ H2 hw => ?_)
    · obtain ⟨y3, j, rfl, e3, hT, hm⟩ := hw
      unfold nV at hv
      rw [List.getElem?_map] at hv
      obtain ⟨p, hpi, rfl⟩ := Option.map_eq_some_iff.mp hv
      have hil : i < r.length := (List.getElem?_eq_some_iff.mp hpi).1
      have pO : p ∈ r ++ [x] := List.mem_append_left _ (List.mem_of_getElem? hpi)
      have hpk := hp p pO
      obtain ⟨y, rs, hd, hd1⟩ := drop_two (x := x) hpi
      dsimp only [gName]
      refine ⟨_, rfl, _, rfl, _, _, k.getD p 0, rfl, rfl, tx_le (by omega), at_of_lt hpk, rfl, _, rfl, ?_⟩
      rw [hd] at hm
      by_cases h46 : k.getD p 0 = 46
      · have x1 : decide (V.str (sg (k.getD p 0)) = V.str (Str.ofString ".")) = true := decide_eq_true (by rw [dot_sg, h46])
        rw [show decide (V.str { cps := #[k.getD p 0] } = V.str (Str.ofString ".")) = true from x1]
        refine iteT ?_
        have hs : sizeR k (p :: y :: rs) = 0 := if_pos h46
        rw [hs, Nat.add_zero] at hm
        refine ⟨_, rfl, ?_⟩
        rw [hm]
        exact q _ e3
      · have x1 : decide (V.str (sg (k.getD p 0)) = V.str (Str.ofString ".")) = false := decide_eq_false (by rw [dot_sg, sg_inj]; exact h46)
        rw [show decide (V.str { cps := #[k.getD p 0] } = V.str (Str.ofString ".")) = false from x1]
        refine iteF ?_
        have hs : sizeR k (p :: y :: rs) = sizeR k (y :: rs) + 1 := if_neg h46
        refine ⟨_, rfl, _, _, rfl, rfl, _, j + 1, rfl, e3, hT, ?_⟩
        rw [hd1, ← hm, hs]
        omega
    · obtain ⟨y3, j, rfl, e3, hT, hm⟩ := hw
      rw [nV_len, List.drop_left] at hm
      have hm2 : j + 0 = sizeR k (r ++ [x]) := hm
      rw [Nat.add_zero] at hm2
      refine ⟨_, rfl, ?_⟩
      rw [hm2]
      exact q _ e3
end
theorem idx_tx {x : List Nat} : ∀ {ws : List (List Nat)}, (ws.map tx).idxOf (tx x) = ws.idxOf x
  | [] => rfl
  | y :: r => by
    rw [List.map_cons, List.idxOf_cons, List.idxOf_cons, idx_tx]
    have : (tx y == tx x) = (y == x) := by
      rw [Bool.eq_iff_iff, beq_iff_eq, beq_iff_eq]
      exact ⟨fun h => tx_inj h, fun h => by rw [h]⟩
    rw [this]
theorem cut_takeV (xs : List V) (s : Nat) (h : s ≤ xs.length) : cutV xs none (some (s : Int)) = xs.take s := by
  have e : HT.sIx xs.length xs.length (some (s : Int)) = s := by
    show (if (s : Int) < 0 then ((s : Int) + (xs.length : Int)).toNat else min (s : Int).toNat xs.length) = s
    rw [if_neg (by omega)]
    omega
  unfold cutV
  rw [HT.sIx_none, e, Nat.sub_zero, List.drop_zero]
theorem memR_fold {k : List Nat} : ∀ {r a : List Nat}, memR k r a = (r.take (sizeR k r)).foldl (fun x p => setK x p (k.getD p 0)) a
  | [], a => rfl
  | [_], a => rfl
  | p :: q :: r, a => by
    show (if k.getD p 0 = 46 then a else memR k (q :: r) (setK a p (k.getD p 0))) = ((p :: q :: r).take (if k.getD p 0 = 46 then 0 else sizeR k (q :: r) + 1)).foldl _ a
    split
    · rfl
    · rw [List.take_succ_cons, List.foldl_cons, memR_fold]
theorem fold_len {k : List Nat} : ∀ {r a : List Nat}, (∀ p ∈ r, p < a.length) → (r.foldl (fun x p => setK x p (k.getD p 0)) a).length = a.length
  | [], a, _ => rfl
  | p :: r, a, h => by
    have sl := setK_len (c := k.getD p 0) (h p List.mem_cons_self)
    rw [List.foldl_cons, fold_len (fun y hy => by rw [sl]; exact h y (List.mem_cons_of_mem _ hy)), sl]
section
variable {P : Program} {w : World} {K : PySem.W.Frag} {mg : Str → Option Value} {base : Heap}
theorem ok_lleaf {f : Addr} {fd : FuncData} (F : Fun K "_law_leaf" "_law_leaf" s_lleaf f fd) (T : Tx mg) (c_lleast : Kn P w K mg base "_law_least" ["_law_words", "_law_known"] 2 spLLeast) (c_lsize : Kn P w K mg base "_law_size" ["_law_world", "_law_known"] 1 spSize)
    (c_lput : Kn P w K mg base "_law_put" ["_law_known", "_law_place", "_law_letter"] 1 spPut) : FnOk P w K mg base CX0 3 f fd ["_law_world", "_law_met_here", "_law_known"] spLLeaf := by
  refine F.ok sc_lleaf (fun vs H Q E h => ?_) (fun cdv A outer s H vs Q E hr h => ?_)
  · obtain ⟨d, wa, oa, ml, L, ws, O, bh, B, ks, k, rfl, _⟩ := h
    rfl
  · obtain ⟨d, wa, oa, ml, L, ws, O, bh, B, ks, k, rfl, M, W, hk, hks, q⟩ := h
    refine ⟨_, (pss_cons (ps_set (i := 3) sc_lleaf.nd rfl (Or.inl rfl) (pe_call c_lleast.ok (hr.mono (by decide)) (by rfl) c_lleast.g c_lleast.kp c_lleast.b .nil pass0 (pa_cons (pe_dget (hu_of hr) (pv 0) pe_str (fun _ _ => rfl)) (pa_cons (pv 2) pa_nil))))
      (pss_cons (ps_set (i := 4) sc_lleaf.nd rfl (Or.inl rfl) (pe_op op_add_str (pe_slice sl_str (pv 2) (po_some (pv 3)) po_none) (pe_op ZS.op_mulS pe_str (pv 3))))
      (pss_cons (ps_set (i := 5) sc_lleaf.nd rfl (Or.inl rfl) (pe_op ZS.op_mulS pe_str (pe_callB call_len_str (by rfl) T.len PySem.boot_len (pa_cons (pv 2) pa_nil))))
      (pss_cons (ps_for PassesOwn.never rfl (pi_list (pe_slice sl_list (pe_dget (hu_of hr) (pv 0) pe_str (fun _ _ => rfl)) po_none (po_some (pe_call c_lsize.ok (hr.mono (by decide)) (by rfl) c_lsize.g c_lsize.kp c_lsize.b .nil pass0 (pa_cons (pv 0) (pa_cons (pe_slice sl_str (pv 4) po_none (po_some (pe_callB call_len_str (by rfl) T.len PySem.boot_len (pa_cons (pv 2) pa_nil)))) pa_nil)))))) (pg_name (i := 6) sc_lleaf.nd rfl (Or.inl rfl)) (pss_one (ps_set (i := 5) sc_lleaf.nd rfl (Or.inl rfl) (pe_call c_lput.ok (hr.mono (by decide)) (by rfl) c_lput.g c_lput.kp c_lput.b .nil pass0 (pa_cons (pv 5) (pa_cons (pv 6) (pa_cons (pe_ix ix_str (pv 4) (pv 6) (fun _ _ => rfl)) pa_nil)))))))
      (pss_cons (ps_if (pt_cmpR op_notIn_seq (pv 5) (pv 1) rfl) (pss_one (ps_expr (pe_bm PySem.F.plainAttrs_list PySem.F.slot_list_append PySem.F.type_list_append mt_append (pv 1) (pa_cons (pv 5) pa_nil)))) pss_nil)
      (pss_one (ps_ret (pe_tup (pa_cons pe_str (pa_cons (pv 3) (pa_cons (pe_bm PySem.F.plainAttrs_list PySem.F.slot_list_index PySem.F.type_list_index SQ.mt_ixL (pv 1) (pa_cons (pv 5) pa_nil)) pa_nil))))))))))), ?_⟩
    have o4 := W.o4
    have o1 := W.o1
    have w3 := W.w3
    have wl : ∀ z ∈ ws, z.length < 100 := fun z hz => by rw [W.wl z hz]; omega
    obtain ⟨lf1, lf2, _⟩ := leastF_ok (ws := ws) (k := k) W.w1 (by rw [hk.1]; omega)
    have kl := hk.1
    have hlt : ∀ p ∈ O, p < k.length := fun p hp => by rw [kl]; have := W.lt p hp; omega
    refine ⟨_, rfl, d, _, rfl, M.wh.g2, _, rfl, wa, ws, k, rfl, M.wh.w, W.w1, by omega, wl, by omega, fun H1 e1 => ?_⟩
    have M1 := M.ex e1
    obtain ⟨b, hb⟩ : ∃ b, leastF ws k = b := ⟨_, rfl⟩
    rw [hb] at lf1 lf2
    rw [hb]
    dsimp only [gName]
    refine ⟨_, rfl, _, rfl, _, rfl, _, rfl, tx_le (by omega), _, rfl, _, _, rfl, rfl, ?_, ?_⟩
    · rw [dot_sg]
      exact mulOk_of 1 1000 (by rw [sg_len]; omega) (by omega) (by omega) (by decide) (by decide)
    rw [cut_from, dot_sg, mul_dot]
    refine ⟨_, _, rfl, rfl, ?_, ?_⟩
    · rw [tx_len, tx_len, List.length_drop, List.length_replicate]
      exact sz_le (by omega)
    rw [tx_app]
    have ev : k.drop b ++ List.replicate b 46 = slidF k b := by
      unfold slidF
      rw [Nat.min_eq_left lf2]
    rw [ev]
    have hv := slid_KL (b := b) hk
    obtain ⟨v, hve⟩ : ∃ v, slidF k b = v := ⟨_, rfl⟩
    have emf : memF O (slidF k b) = memF O v := by rw [hve]
    rw [hve] at hv ⊢
    have vl := hv.1
    refine ⟨_, rfl, _, rfl, tx_le (by omega), _, _, rfl, rfl, ?_, ?_⟩
    · rw [tx_len]
      exact mulOk_of 1 1000 (by rw [sg_len]; omega) (by omega) (by omega) (by decide) (by decide)
    rw [tx_len, mul_dot, kl]
    dsimp only [gName]
    refine ⟨_, rfl, d, _, rfl, M1.wh.g3, _, rfl, _, rfl, _, rfl, _, rfl, tx_le (by omega), _, rfl, _, rfl, tx_le (by omega), ?_⟩
    rw [tx_len, cut_to, List.take_of_length_le (by omega)]
    refine ⟨d, wa, oa, L, ws, O, bh, v, rfl, M1.wh, by omega, o1, by omega, fun p hp => by have := W.lt p hp; omega, fun H2 e2 => ?_⟩
    have M2 := M1.ex e2
    have sl : sizeR v O ≤ O.length := Nat.le_of_lt (sizeR_lt (by intro z; rw [z] at o1; exact absurd o1 (by decide)))
    refine ⟨_, rfl, oa, _, rfl, sq_of M2.wh.o, fun t ht => ?_⟩
    rw [cut_takeV _ _ (by rw [nV_len]; exact sl)]
    have et : (nV O).take (sizeR v O) = nV (O.take (sizeR v O)) := by unfold nV; rw [List.map_take]
    rw [et]
    have e3 : Ex H2 (upd H2 t (.lst (nV (O.take (sizeR v O))))) := Ex.new ht
    have hT1 : (upd H2 t (.lst (nV (O.take (sizeR v O))))) t = some (.lst (nV (O.take (sizeR v O)))) := upd_same
    have M3 := M2.ex e3
    have e13 := e1.trans (e2.trans e3)
    generalize (upd H2 t (.lst (nV (O.take (sizeR v O))))) = H3 at e3 hT1 M3 e13 ⊢
    obtain ⟨dt, hdt⟩ : ∃ dt, List.replicate (O.length + 1) 46 = dt := ⟨_, rfl⟩
    have ldt : dt.length = O.length + 1 := by rw [← hdt, List.length_replicate]
    have emr : memF O v = (O.take (sizeR v O)).foldl (fun x p => setK x p (v.getD p 0)) dt := by
      unfold memF
      rw [vl, hdt, memR_fold]
    rw [hdt]
    have htl : ∀ p ∈ O.take (sizeR v O), p < O.length := fun p hp => W.lt p (List.mem_of_mem_take hp)
    generalize hOt : O.take (sizeR v O) = Ot at *
    refine ⟨t, rfl, ⟨_, sq_of hT1⟩, ?_⟩
    refine for_list (xs := nV Ot) (fun i σ H4 => ∃ y6 : Option V, σ = [some (.ref d), some (.ref ml), some (.str (tx k)), some (.int (b : Nat)), some (.str (tx v)), some (.str (tx ((Ot.take i).foldl (fun x p => setK x p (v.getD p 0)) dt))), y6] ∧ H4 = H3)
      ⟨_, rfl, rfl⟩ (fun i σ H4 _ p => by obtain ⟨_, _, rfl⟩ := p; exact sq_of hT1) (fun i x σ H4 hx hw => ?_) (fun σ H4 hw => ?_)
    · obtain ⟨y6, rfl, rfl⟩ := hw
      unfold nV at hx
      rw [List.getElem?_map] at hx
      obtain ⟨p, hpi, rfl⟩ := Option.map_eq_some_iff.mp hx
      have pl := htl p (List.mem_of_getElem? hpi)
      have fl := fold_len (k := v) (r := Ot.take i) (a := dt) (fun y hy => by rw [ldt]; have := htl y (List.mem_of_mem_take hy); omega)
      have et2 : Ot.take (i + 1) = Ot.take i ++ [p] := by rw [List.take_add_one, hpi]; rfl
      dsimp only [gName]
      refine ⟨_, rfl, _, rfl, _, rfl, _, rfl, _, _, v.getD p 0, rfl, rfl, tx_le (by omega), at_of_lt (show p < v.length by omega), ?_⟩
      refine ⟨(Ot.take i).foldl (fun x p => setK x p (v.getD p 0)) dt, p, v.getD p 0, rfl, by rw [fl]; omega, by rw [fl]; omega, some (.int (p : Nat)), ?_, rfl⟩
      rw [et2, List.foldl_append]
      rfl
    · obtain ⟨y6, rfl, rfl⟩ := hw
      rw [nV_len, List.take_length, ← emr]
      obtain ⟨a, ha⟩ : ∃ a, memF O v = a := ⟨_, rfl⟩
      rw [ha]
      have eb : bgo ws O k ks = (.go b ((nowK ks a).idxOf a), nowK ks a) := by
        unfold bgo
        rw [hb, emf, ha]
      rw [eb] at q
      have g3 : Gw (mi ml) B H B H4 := Gw.ofEx e13
      have tail : ∀ (H5 : Hp) (t : Addr), Gw (mi ml) B H B H5 → LwAt d wa oa ml L ws O bh B H5 (nowK ks a) → H5 t = none → Q (.ref t) (upd H5 t (.tup [.str "go", .int (b : Nat), .int ((nowK ks a).idxOf a : Nat)])) := fun H5 t g5 M5 ht =>
        q _ _ _ (g5.trans (Gw.new M5.e ht)) (M5.both ht) (.go (j := true) upd_same)
      have wlen : ∀ us : List (List Nat), (wv us).length = us.length := fun us => by unfold wv; rw [List.length_map]
      refine ⟨_, rfl, _, rfl, ml, _, rfl, .inl (sq_of M3.mt), rfl, flat_wv _, _, rfl, ?_⟩
      rw [inV_wv]
      by_cases hin : a ∈ ks
      · have en : nowK ks a = ks := if_pos hin
        rw [decide_eq_true hin]
        refine iteF ?_
        rw [en] at tail
        refine ⟨_, rfl, _, rfl, .inl ⟨rfl, _, sq_of M3.mt⟩, _, rfl, ml, ks.map tx, tx a, rfl, rfl, by rw [List.map_map]; exact sq_of M3.mt, List.mem_map.mpr ⟨a, hin, rfl⟩, ?_⟩
        rw [idx_tx]
        exact ⟨by show 3 ≤ sizeLine; decide, fun t ht => tail H4 t g3 M3 ht⟩
      · have en : nowK ks a = ks ++ [a] := if_neg hin
        rw [decide_eq_false hin]
        refine iteT ?_
        refine ⟨_, rfl, .inl ⟨rfl, _, sq_of M3.mt⟩, _, rfl, ml, _, _, rfl, rfl, M3.mt, sz_lt (by rw [wlen]; omega), ?_⟩
        rw [← wv_snoc, ← en]
        have M4 : LwAt d wa oa ml L ws O bh B (upd H4 ml (.lst (wv (nowK ks a)))) (nowK ks a) := M3.grow
        have g4 := g3.trans (M3.gw (ks' := nowK ks a))
        generalize (upd H4 ml (.lst (wv (nowK ks a)))) = H5 at M4 g4 ⊢
        refine ⟨_, rfl, _, rfl, .inl ⟨rfl, _, sq_of M4.mt⟩, _, rfl, ml, (nowK ks a).map tx, tx a, rfl, rfl, by rw [List.map_map]; exact sq_of M4.mt, List.mem_map.mpr ⟨a, nowK_in ks a, rfl⟩, ?_⟩
        rw [idx_tx]
        exact ⟨by show 3 ≤ sizeLine; decide, fun t ht => tail H5 t g4 M4 ht⟩
end
end Law

namespace Law
open PySem PySem.Spec PyProof.Rows L2 Evl TR EK GX Fg BT
theorem for_strK {x : Str} {g : TG} {tb : TS} {D : Ends} {σ : L2.St} {H : Hp} (Pv : Nat → L2.St → Hp → Prop) (h0 : Pv 0 σ H)
    (hs : ∀ i c σ H, x.cps[i]? = some c → Pv i σ H → g (.str ⟨#[c]⟩) σ H fun σ2 H2 => tb { D with nx := Pv (i + 1), ct := Pv (i + 1), bk := D.nx } σ2 H2) (hd : ∀ σ H, Pv x.cps.size σ H → D.nx σ H) :
    ∃ W : Nat → Nat → L2.St → Hp → Prop, (∃ m, W 0 m σ H) ∧ ∀ i m σ H, W i m σ H →
      ((Its x).stop i H ∧ D.nx σ H) ∨ ((Its x).go i H ∧ ∃ N : L2.St → Hp → Prop, (∀ σ' H', N σ' H' → ∃ m', m' < m ∧ W (i + 1) m' σ' H') ∧ ∀ v H', (Its x).yld i H v H' → g v σ H' fun σ2 H2 => tb { D with nx := N, ct := N, bk := D.nx } σ2 H2) := by
  refine ⟨fun i m σ H => i + m = x.cps.size ∧ Pv i σ H, ⟨_, Nat.zero_add _, h0⟩, ?_⟩
  rintro i m σ H ⟨e, p⟩
  by_cases hm : m = 0
  · have e2 : i = x.cps.size := by omega
    refine .inl ⟨by show x.cps.size ≤ i; omega, hd σ H ?_⟩
    rw [← e2]
    exact p
  · refine .inr ⟨by show i < x.cps.size; omega, Pv (i + 1), fun σ' H' p' => ⟨m - 1, by omega, by omega, p'⟩, ?_⟩
    rintro v H' ⟨rfl, c, hc, rfl⟩
    exact hs i c σ _ hc p

theorem cutV2 {A : Prop} {N : L2.St → Hp → Prop} (Pv : L2.St → Hp → Prop) (hA : (∀ σ' H', Pv σ' H' → N σ' H') → A) (rest : ∀ σ' H', Pv σ' H' → N σ' H') : A := hA rest
theorem filt_idx {ws : List (List Nat)} {x : List Nat} (nd : ws.Nodup) : (List.range ws.length).filter (fun i => ws.getD i [] == x) = if x ∈ ws then [ws.idxOf x] else [] := by
  induction ws with
  | nil => rfl
  | cons y r ih =>
    have nd2 := List.nodup_cons.mp nd
    rw [List.length_cons, List.range_succ_eq_map, List.filter_cons, List.filter_map]
    have e : (List.range r.length).filter ((fun i => (y :: r).getD i [] == x) ∘ Nat.succ) = (List.range r.length).filter (fun i => r.getD i [] == x) := rfl
    rw [e, ih nd2.2]
    have e0 : ((y :: r).getD 0 [] == x) = (y == x) := rfl
    rw [e0]
    by_cases q : y = x
    · subst q
      rw [show (y == y) = true from beq_self_eq_true y, if_pos rfl, if_neg nd2.1, if_pos List.mem_cons_self, List.idxOf_cons_self]
      rfl
    · rw [show (y == x) = false from beq_false_of_ne q, if_neg Bool.false_ne_true]
      by_cases h : x ∈ r
      · rw [if_pos h, if_pos (List.mem_cons_of_mem _ h), List.map_cons, List.map_nil]
        rw [show (y :: r).idxOf x = r.idxOf x + 1 by show List.findIdx (· == x) (y :: r) = _; rw [List.findIdx_cons, show (y == x) = false from beq_false_of_ne q]; rfl]
      · rw [if_neg h, if_neg (fun z => (List.mem_cons.mp z).elim (fun e => q e.symm) h)]
        rfl
def spLTree (j : Nat) : Sp := fun vs H Q _ => ∃ (d wa oa ml : Addr) (L : List Nat) (ws : List (List Nat)) (O : List Nat) (bh : Bool) (B : Hp) (ks : List (List Nat)) (k : List Nat) (i : Nat), vs = [.ref d, .ref ml, .str (tx k), .int (i : Nat)] ∧ LwAt d wa oa ml L ws O bh B H ks ∧ Wok L ws O ∧ ws.Nodup ∧ KL L O k ∧ Sub L O ks ∧ i ≤ O.length ∧ O.length < j + i ∧
  ∀ B' H' v, Gw (mi ml) B H B' H' → LwAt d wa oa ml L ws O bh B' H' (pT L ws O bh (O.drop i) k ks).2 → TX true B' v (pT L ws O bh (O.drop i) k ks).1 → Q v H'
section
variable {P : Program} {w : World} {K : PySem.W.Frag} {mg : Str → Option Value} {base : Heap}
theorem ok_ltree0 {f : Addr} {fd : FuncData} (F : Fun K "_law_tree" "_law_tree" s_ltree f fd) (T : Tx mg) (g : mg "_law_tree" = some (.ref f)) (b : Binds K fd ["_law_world", "_law_met_here", "_law_known", "_law_at"] []) (c_lfits : Kn P w K mg base "_law_fits" ["_law_known", "_law_word", "_law_by"] 1 spFits)
    (c_lleaf : Kn P w K mg base "_law_leaf" ["_law_world", "_law_met_here", "_law_known"] 3 spLLeaf) (c_lput : Kn P w K mg base "_law_put" ["_law_known", "_law_place", "_law_letter"] 1 spPut) : ∀ j : Nat, FnOk P w K mg base CX0 (j + 4) f fd ["_law_world", "_law_met_here", "_law_known", "_law_at"] (spLTree j)
  | 0 => by
    refine F.ok sc_ltree (fun vs H Q E h => ?_) (fun cdv A outer s H vs Q E hr h => ?_)
    · obtain ⟨d, wa, oa, ml, L, ws, O, bh, B, ks, k, i, rfl, _⟩ := h
      rfl
    · obtain ⟨d, wa, oa, ml, L, ws, O, bh, B, ks, k, i, rfl, _, _, _, _, _, h1, h2, _⟩ := h
      omega
  | j + 1 => by
    have c_ltree : Kn P w K mg base "_law_tree" ["_law_world", "_law_met_here", "_law_known", "_law_at"] (j + 4) (spLTree j) := ⟨f, fd, ok_ltree0 F T g b c_lfits c_lleaf c_lput j, g, F.kp, b⟩
    refine F.ok sc_ltree (fun vs H Q E h => ?_) (fun cdv A outer s H vs Q E hr h => ?_)
    · obtain ⟨d, wa, oa, ml, L, ws, O, bh, B, ks, k, i, rfl, _⟩ := h
      rfl
    · obtain ⟨d, wa, oa, ml, L, ws, O, bh, B, ks, k, i, rfl, M, W, wnd, hk, hs, hi, hij, q⟩ := h
      refine ⟨_, (pss_cons (ps_set (i := 4) sc_ltree.nd rfl (Or.inr rfl) (pe_callB call_len_str (by rfl) T.len PySem.boot_len (pa_cons (pe_ix ix_list (pe_dget (hu_of hr) (pv 0) pe_str (fun _ _ => rfl)) pe_int (fun _ _ => rfl)) pa_nil)))
      (pss_cons (ps_if (PW.pt (pw_and (pt_cmpR op_lt (pv 3) (pv 4) (nomark _)) (pw_and1 (pt_val (pe_callB (cr_any rfl) (by rfl) T.any PyProof.Rows.boot_any (pa_cons (pe_lc (own := [("_law_word", 5)]) (g := gName 5) (tt := tYes) rfl sc_ltree.nd (pi_list (pe_dget (hu_of hr) (pv 0) pe_str (fun _ _ => rfl))) (blkOk_by (N := N_ltree) (sc := defScope s_ltree) (by decide +kernel)) (fun _ _ _ _ _ => (pg_name (i := 5) sc_ltree.nd rfl (Or.inl rfl))) (fun _ _ _ _ _ => pts_nil) (fun _ _ _ _ _ => (pe_call c_lfits.ok (hr.mono (by omega)) (by rfl) c_lfits.g c_lfits.kp c_lfits.b .nil pass0 (pa_cons (pv 2) (pa_cons (pv 5) (pa_cons pe_int pa_nil)))))) pa_nil)))))) (pss_cons (ps_par (i := 6) (j := 7) (by rfl) sc_ltree.nd rfl rfl (by decide) rfl rfl (pa_cons (pe_ix ix_list (pe_dget (hu_of hr) (pv 0) pe_str (fun _ _ => rfl)) (pv 3) (fun _ _ => rfl)) (pa_cons (pe_lst pa_nil) pa_nil)) (by rfl))
      (pss_cons (ps_for PassesOwn.never rfl (pi_str (pe_dget (hu_of hr) (pv 0) pe_str (fun _ _ => rfl))) (pg_name (i := 8) sc_ltree.nd rfl (Or.inl rfl)) (pss_one (ps_expr (pe_bm PySem.F.plainAttrs_list PySem.F.slot_list_append PySem.F.type_list_append mt_append (pv 7) (pa_cons (pe_call c_ltree.ok (hr.mono (by omega)) (by rfl) c_ltree.g c_ltree.kp c_ltree.b .nil pass0 (pa_cons (pv 0) (pa_cons (pv 1) (pa_cons (pe_call c_lput.ok (hr.mono (by omega)) (by rfl) c_lput.g c_lput.kp c_lput.b .nil pass0 (pa_cons (pv 2) (pa_cons (pv 6) (pa_cons (pv 8) pa_nil)))) (pa_cons (pe_op op_add (pv 3) pe_int) pa_nil))))) pa_nil)))))
      (pss_one (ps_ret (pe_tup (pa_cons pe_str (pa_cons (pv 6) (pa_cons (pe_callTy call_tuple_of (by rfl) T.tuple PyProof.Rows.boot_tuple (pa_cons (pv 7) pa_nil)) pa_nil)))))))) pss_nil)
      (pss_cons (ps_setLc (i := 9) (own := [("_law_k", 10)]) (g := gName 10) rfl sc_ltree.nd rfl rfl (sw_true rfl rfl rfl (by decide +kernel)) (pi_range1 (by rfl) T.range (pa_cons (pe_callB call_len_seq (by rfl) T.len PySem.boot_len (pa_cons (pe_dget (hu_of hr) (pv 0) pe_str (fun _ _ => rfl)) pa_nil)) pa_nil)) (blkOk_by (N := N_ltree) (sc := defScope s_ltree) (by decide +kernel)) (fun _ _ _ _ _ => (pg_name (i := 10) sc_ltree.nd rfl (Or.inl rfl))) (fun _ _ _ _ _ => (pts_one (pt_cmpR op_eq (pe_ix (show IxR _ (rIxL K) from ix_list) (pe_dget (hu_of hr) (pv 0) pe_str (fun _ _ => rfl)) (pv 10) (fun _ _ => rfl)) (pe_slice sl_str (pv 2) po_none (po_some (pv 4))) (nomark _)))) (fun _ _ _ _ _ => (pv 10)))
      (pss_cons (ps_if (pt_val (pe_dget (hu_of hr) (pv 0) pe_str (fun _ _ => rfl))) (pss_cons (ps_setLc (i := 7) (own := [("_law_letter", 8)]) (g := gName 8) (tt := tYes) rfl sc_ltree.nd rfl rfl (sw_true rfl rfl rfl (by decide +kernel)) (pi_str (pe_dget (hu_of hr) (pv 0) pe_str (fun _ _ => rfl))) (blkOk_by (N := N_ltree) (sc := defScope s_ltree) (by decide +kernel)) (fun _ _ _ _ _ => (pg_name (i := 8) sc_ltree.nd rfl (Or.inl rfl))) (fun _ _ _ _ _ => pts_nil) (fun _ _ _ _ _ => (pe_call c_lleaf.ok (hr.mono (by omega)) (by rfl) c_lleaf.g c_lleaf.kp c_lleaf.b .nil pass0 (pa_cons (pv 0) (pa_cons (pv 1) (pa_cons (pe_call c_lput.ok (hr.mono (by omega)) (by rfl) c_lput.g c_lput.kp c_lput.b .nil pass0 (pa_cons (pv 2) (pa_cons (pv 4) (pa_cons (pv 8) pa_nil)))) pa_nil))))))
      (pss_one (ps_set (i := 11) sc_ltree.nd rfl (Or.inl rfl) (pe_tup (pa_cons pe_str (pa_cons (pv 4) (pa_cons (pe_callTy call_tuple_of (by rfl) T.tuple PyProof.Rows.boot_tuple (pa_cons (pv 7) pa_nil)) pa_nil))))))) (pss_one (ps_set (i := 11) sc_ltree.nd rfl (Or.inl rfl) (pe_call c_lleaf.ok (hr.mono (by omega)) (by rfl) c_lleaf.g c_lleaf.kp c_lleaf.b .nil pass0 (pa_cons (pv 0) (pa_cons (pv 1) (pa_cons (pv 2) pa_nil)))))))
      (pss_one (ps_ret (pe_ifExp (pt_cmpR (NL.op_neNil hr.units) (pv 9) (pe_lst pa_nil) (nomark _)) (pe_tup (pa_cons pe_str (pa_cons (pe_ix ix_list (pv 9) pe_int (fun _ _ => rfl)) (pa_cons (pv 11) pa_nil)))) (pv 11)))))))), ?_⟩
      have o4 := W.o4
      have o1 := W.o1
      have w3 := W.w3
      have kl := hk.1
      obtain ⟨z0, hz0⟩ : ∃ z0, ws[0]? = some z0 := ⟨_, List.getElem?_eq_getElem W.w1⟩
      have zl := W.wl z0 (List.mem_of_getElem? hz0)
      have hz1 : (wv ws)[0]? = some (.str (tx z0)) := by unfold wv; rw [List.getElem?_map, hz0]; rfl
      have wlen : (wv ws).length = ws.length := by unfold wv; rw [List.length_map]
      refine ⟨_, rfl, d, _, rfl, M.wh.g2, wa, _, _, _, rfl, rfl, sq_of M.wh.w, atI_nat (j := 0) hz1, _, rfl, tx_le (by omega), ?_⟩
      rw [tx_len, zl]
      dsimp only [gName]
      refine' cutV2 (fun σ' H' => σ' = [some (.ref d), some (.ref ml), some (.str (tx k)), some (.int (i : Nat)), some (.int (O.length : Nat)), none, none, none, none, none, none, none] ∧ Ex H H' ∧ pT L ws O bh (O.drop i) k ks = leafT L ws O bh k ks) (fun kk => ?_) ?_
      rotate_left
      · refine ⟨_, rfl, _, rfl, _, _, rfl, rfl, _, rfl, ?_⟩
        by_cases hlt : i < O.length
        · rw [show decide ((i : Int) < ((O.length : Nat) : Int)) = true from decide_eq_true (by omega)]
          refine (if_pos rfl).mpr ?_
          refine ⟨_, rfl, d, _, rfl, M.wh.g2, wa, rfl, ⟨_, sq_of M.wh.w⟩, fun D hD => ?_⟩
          refine lc_list (xs := wv ws) (fun i H' => Ex H H' ∧ H' D = some (.lst (((ws.take i).map fun z => fitsF k z 0).map V.bl))) ⟨Ex.new hD, upd_same⟩ (fun i H' _ p => sq_of (p.1 _ _ M.wh.w)) (fun i x H2 hx hw2 => ?_) (fun H2 hw2 => ?_)
          · obtain ⟨e2, hL⟩ := hw2
            unfold wv at hx
            rw [List.getElem?_map] at hx
            obtain ⟨z, hz, rfl⟩ := Option.map_eq_some_iff.mp hx
            have zl2 := W.wl z (List.mem_of_getElem? hz)
            refine ⟨rfl, _, rfl, _, rfl, k, z, 0, rfl, by omega, by omega, by decide, fun H3 e3 => ⟨_, e3 _ _ hL, ?_, (e2.trans e3).mut hD, ?_⟩⟩
            · rw [List.length_map, List.length_map, List.length_take]
              exact sz_lt (by omega)
            · rw [upd_same, List.take_add_one, hz, List.map_append, List.map_append]
              rfl
          · obtain ⟨e2, hL⟩ := hw2
            rw [wlen, List.take_length] at hL
            refine ⟨D, _, rfl, sq_of hL, ?_⟩
            rw [can_any]
            refine ⟨_, rfl, ?_⟩
            obtain ⟨p, hp⟩ : ∃ p, O[i]? = some p := ⟨_, List.getElem?_eq_getElem hlt⟩
            have hdr : O.drop i = p :: O.drop (i + 1) := by
              rw [List.drop_eq_getElem_cons hlt]
              rw [List.getElem?_eq_getElem hlt] at hp
              rw [Option.some.inj hp]
            have pO : p ∈ O := List.mem_of_getElem? hp
            have hpk : p < k.length := by have := W.lt p pO; omega
            cases hc : canF ws k 0 with
            | false =>
              refine iteF ?_
              exact kk _ _ ⟨rfl, e2, by rw [hdr]; exact if_neg (by rw [hc]; decide)⟩
            | true =>
              refine iteT ?_
              have M2 := M.ex e2
              have hp1 : (nV O)[i]? = some (.int (p : Nat)) := by unfold nV; rw [List.getElem?_map, hp]; rfl
              refine ⟨_, rfl, d, _, rfl, M2.wh.g3, _, rfl, oa, _, _, _, rfl, rfl, sq_of M2.wh.o, atI_nat hp1, by show 0 ≤ sizeLine; decide, fun D2 hD2 => ?_⟩
              refine ⟨_, _, rfl, ?_⟩
              have hDm : D2 ≠ ml := fun z => by have := M2.mt; rw [← z, hD2] at this; cases this
              have r46 : ∀ c ∈ L, c ≠ 46 := W.l46
              refine ⟨_, rfl, d, _, rfl, (M2.wh.ex (Ex.new hD2)).g1, _, rfl, ?_⟩
              refine for_strK (x := tx L) (fun n σ H' => ∃ (y8 : Option V) (B' : Hp) (us : List V), σ = [some (.ref d), some (.ref ml), some (.str (tx k)), some (.int (i : Nat)), some (.int (O.length : Nat)), none, some (.int (p : Nat)), some (.ref D2), y8, none, none, none] ∧ Gw (mi ml) B H2 B' H' ∧ LwAt d wa oa ml L ws O bh B' H' (kF (fun c s => pT L ws O bh (O.drop (i + 1)) (setK k p c) s) (L.take n) ks).2 ∧ Sub L O (kF (fun c s => pT L ws O bh (O.drop (i + 1)) (setK k p c) s) (L.take n) ks).2 ∧ B' D2 = none ∧ H' D2 = some (.lst us) ∧ KidX true B' us (kF (fun c s => pT L ws O bh (O.drop (i + 1)) (setK k p c) s) (L.take n) ks).1)
                ⟨_, B, [], rfl, Gw.refl.mut hD2, M2.mut (fresh_back M2.e hD2) hDm, hs, fresh_back M2.e hD2, upd_same, .nil⟩ (fun n c σ H3 hx hw => ?_) (fun σ H3 hw => ?_)
              · obtain ⟨y8, B', us, rfl, g', M', hs', hBD, hz, KX⟩ := hw
                have hcL := tx_at hx
                have cL : c ∈ L := List.mem_of_getElem? hcL
                have hn : n < L.length := (List.getElem?_eq_some_iff.mp hcL).1
                have l3 := W.l3
                have et : L.take (n + 1) = L.take n ++ [c] := by rw [List.take_add_one, hcL]; rfl
                have ekf := kF_snoc (fun c s => pT L ws O bh (O.drop (i + 1)) (setK k p c) s) c (L.take n) ks
                have hk2 := hk.set (p := p) hpk cL
                dsimp only [gName]
                refine ⟨_, rfl, .inl ⟨rfl, _, sq_of hz⟩, _, rfl, _, rfl, _, rfl, _, rfl, _, rfl, ?_⟩
                refine ⟨k, p, c, rfl, by omega, hpk, _, rfl, _, _, rfl, rfl, ?_⟩
                refine ⟨d, wa, oa, ml, L, ws, O, bh, B', _, setK k p c, i + 1, rfl, M', W, wnd, hk2, hs', by omega, by omega, fun B2 H4 v g3 M3 T3 => ?_⟩
                have hs3 := (pT_good W (bh := bh) hk2 hs' (rs := O.drop (i + 1)) (fun y hy => W.lt y (List.mem_of_mem_drop hy))).sub
                have kl2 := KX.len
                rw [kF_len, List.length_take] at kl2
                have hB2 := g3.n _ hBD (by rw [hz]; exact fun z => nomatch z)
                refine ⟨D2, us, v, rfl, rfl, g3.k _ _ hDm hDm hz, sz_lt (by omega), _, B2, us ++ [v], rfl, (g'.trans g3).mut hD2, ?_, ?_, hB2, upd_same, ?_⟩
                · rw [et, ekf]
                  exact M3.mut hB2 hDm
                · rw [et, ekf]
                  exact hs3
                · rw [et, ekf]
                  exact (KX.ex g3.b).snoc T3
              · obtain ⟨y8, B', us, rfl, g', M', hs', hBD, hz, KX⟩ := hw
                rw [tx_size, List.take_length] at M' KX
                have g0 : Gw (mi ml) B H B H2 := Gw.ofEx e2
                refine ⟨_, rfl, _, rfl, D2, us, rfl, .inl ⟨sq_of hz, fun l hl => ⟨by show 3 ≤ sizeLine; decide, fun t ht => ?_⟩⟩⟩
                have M4 := M'.both (u := .tup us) hl
                have M5 := M4.both (u := .tup [.str "read", .int (p : Nat), .ref l]) ht
                have g4 := g'.trans (Gw.new (m := mi ml) (u := .tup us) M'.e hl)
                have g5 := g4.trans (Gw.new (m := mi ml) (u := .tup [.str "read", .int (p : Nat), .ref l]) M4.e ht)
                have hBl : B' l = none := fresh_back M'.e hl
                have hBt : (upd B' l (.tup us)) t = none := fresh_back M4.e ht
                have nlt : l ≠ t := fun z => by rw [← z, upd_same] at ht; cases ht
                have ep : pT L ws O bh (O.drop i) k ks = (.read p (Trs.of (kF (fun c s => pT L ws O bh (O.drop (i + 1)) (setK k p c) s) L ks).1), (kF (fun c s => pT L ws O bh (O.drop (i + 1)) (setK k p c) s) L ks).2) := by
                  rw [hdr]
                  exact if_pos hc
                rw [ep] at q
                refine q _ _ _ (g0.trans g5) M5 (.read (j := true) (j2 := true) upd_same (by rw [upd_ne nlt]; exact upd_same) (KidX.txs (by rw [Trs.of_list]; exact (KX.ex (Ex.new hBl)).ex (Ex.new hBt))))
        · rw [show decide ((i : Int) < ((O.length : Nat) : Int)) = false from decide_eq_false (by omega)]
          refine (if_neg (by decide)).mpr ?_
          refine iteF ?_
          exact kk _ _ ⟨rfl, Ex.refl _, by rw [List.drop_eq_nil_of_le (by omega)]; rfl⟩
      · intro σ' H1 h
        obtain ⟨rfl, e1, hpT⟩ := h
        have M1 := M.ex e1
        have hx0 : ∃ x, k.take O.length = x := ⟨_, rfl⟩
        obtain ⟨x, hx0⟩ := hx0
        have fs := fun n => (show (List.range (n + 1)).filter (fun i => ws.getD i [] == x) = (List.range n).filter (fun i => ws.getD i [] == x) ++ (if (ws.getD n [] == x) = true then [n] else []) from by
          rw [List.range_succ, List.filter_append]
          congr 1
          by_cases h : (ws.getD n [] == x) = true
          · rw [if_pos h]
            exact List.filter_cons_of_pos (p := fun i => ws.getD i [] == x) h
          · rw [if_neg h]
            exact List.filter_cons_of_neg (p := fun i => ws.getD i [] == x) h)
        refine ⟨_, rfl, d, _, rfl, M1.wh.g2, wa, _, rfl, .inl (sq_of M1.wh.w), _, rfl, by rw [wlen]; omega, by rw [wlen]; omega, fun Df hDf => ?_⟩
        rw [wlen, Int.toNat_natCast]
        refine lc_range (lo := 0) (n := ws.length) (fun n H' => Ex H1 H' ∧ H' Df = some (.lst (nV ((List.range n).filter (fun i => ws.getD i [] == x))))) ⟨Ex.new hDf, upd_same⟩ (fun n H' hn hw => ?_) (fun H2 hw => ?_)
        · obtain ⟨e2, hz⟩ := hw
          have hwn : (wv ws)[n]? = some (.str (tx (ws.getD n []))) := by
            unfold wv
            rw [List.getElem?_map, List.getElem?_eq_getElem hn, List.getD_eq_getElem?_getD, List.getElem?_eq_getElem hn]
            rfl
          have M2 := M1.ex e2
          rw [Int.zero_add]
          refine ⟨rfl, _, rfl, d, _, rfl, M2.wh.g2, _, rfl, wa, _, _, _, rfl, rfl, sq_of M2.wh.w, atI_nat hwn, _, rfl, _, rfl, _, rfl, _, rfl, tx_le (by omega), rfl, _, rfl, ?_⟩
          rw [cut_to, hx0]
          have ln : (nV ((List.range n).filter (fun i => ws.getD i [] == x))).length < sizeLine := by
            rw [nV_len]
            exact sz_lt (Nat.lt_of_le_of_lt (List.length_filter_le _ _) (by rw [List.length_range]; omega))
          by_cases h : ws.getD n [] = x
          · rw [show decide (V.str (tx (ws.getD n [])) = V.str (tx x)) = true from decide_eq_true (by rw [h])]
            refine iteT ?_
            refine ⟨_, rfl, _, hz, ln, e2.mut hDf, ?_⟩
            rw [upd_same, fs, if_pos (by simpa using h)]
            unfold nV
            rw [List.map_append]
            rfl
          · rw [show decide (V.str (tx (ws.getD n [])) = V.str (tx x)) = false from decide_eq_false (fun z => h (tx_inj (V.str.inj z)))]
            refine iteF ?_
            refine ⟨e2, ?_⟩
            rw [fs, if_neg (by simpa using h), List.append_nil]
            exact hz
        · obtain ⟨e2, hz⟩ := hw
          rw [filt_idx wnd] at hz
          have M2 := M1.ex e2
          have g2 : Gw (mi ml) B H B H2 := Gw.ofEx (e1.trans e2)
          have hDm : Df ≠ ml := fun z => by have := M1.mt; rw [← z, hDf] at this; cases this
          dsimp only [gName]
          refine' cutV2 (fun σ' H' => ∃ (y7 : Option V) (B1 : Hp) (v : V), σ' = [some (.ref d), some (.ref ml), some (.str (tx k)), some (.int (i : Nat)), some (.int (O.length : Nat)), none, none, y7, none, some (.ref Df), none, some v] ∧ Gw (mi ml) B H B1 H' ∧ LwAt d wa oa ml L ws O bh B1 H' (bhT L ws O bh k ks).2 ∧ TX true B1 v (bhT L ws O bh k ks).1 ∧ H' Df = some (.lst (nV (if x ∈ ws then [ws.idxOf x] else [])))) (fun kk => ?_) ?_
          rotate_left
          · refine ⟨_, rfl, d, _, rfl, M2.wh.g4, _, rfl, ?_⟩
            have eb : bhT L ws O bh k ks = if bh = true then (.read O.length (Trs.of (kF (fun c s => bgo ws O (setK k O.length c) s) L ks).1), (kF (fun c s => bgo ws O (setK k O.length c) s) L ks).2) else bgo ws O k ks := rfl
            have hpk : O.length < k.length := by omega
            have ksl := sub_len W hs
            cases bh with
            | false =>
              rw [if_neg Bool.false_ne_true] at eb
              rw [eb] at kk
              refine iteF ?_
              refine ⟨_, rfl, _, rfl, _, rfl, ?_⟩
              exact ⟨d, wa, oa, ml, L, ws, O, false, B, ks, k, rfl, M2, W, hk, by omega, fun B3 H3 v g3 M3 T3 => kk _ _ ⟨_, _, _, rfl, g2.trans g3, M3, T3, g3.k _ _ hDm hDm hz⟩⟩
            | true =>
              rw [if_pos rfl] at eb
              rw [eb] at kk
              refine iteT ?_
              refine ⟨_, rfl, d, _, rfl, M2.wh.g1, _, rfl, fun D hD => ?_⟩
              have nDm : D ≠ ml := fun z => by have := M2.mt; rw [← z, hD] at this; cases this
              have nDf : Df ≠ D := fun z => by rw [z, hD] at hz; cases hz
              refine lc_str (x := tx L) (fun n H' => ∃ (B' : Hp) (us : List V), Gw (mi ml) B H2 B' H' ∧ LwAt d wa oa ml L ws O true B' H' (kF (fun c s => bgo ws O (setK k O.length c) s) (L.take n) ks).2 ∧ Sub L O (kF (fun c s => bgo ws O (setK k O.length c) s) (L.take n) ks).2 ∧ B' D = none ∧ H' D = some (.lst us) ∧ KidX true B' us (kF (fun c s => bgo ws O (setK k O.length c) s) (L.take n) ks).1)
                ⟨B, [], Gw.refl.mut hD, M2.mut (fresh_back M2.e hD) nDm, hs, fresh_back M2.e hD, upd_same, .nil⟩ (fun n c H3 hx hw => ?_) (fun H3 hw => ?_)
              · obtain ⟨B', us, g', M', hs', hBD, hz3, KX⟩ := hw
                have hcL := tx_at hx
                have cL : c ∈ L := List.mem_of_getElem? hcL
                have hn : n < L.length := (List.getElem?_eq_some_iff.mp hcL).1
                have l3 := W.l3
                have et : L.take (n + 1) = L.take n ++ [c] := by rw [List.take_add_one, hcL]; rfl
                have ekf := kF_snoc (fun c s => bgo ws O (setK k O.length c) s) c (L.take n) ks
                have hk2 := hk.set (p := O.length) hpk cL
                refine ⟨rfl, _, rfl, _, rfl, _, rfl, _, rfl, _, rfl, ?_⟩
                refine ⟨k, O.length, c, rfl, by omega, hpk, ?_⟩
                refine ⟨d, wa, oa, ml, L, ws, O, true, B', _, setK k O.length c, rfl, M', W, hk2, Nat.lt_of_le_of_lt (sub_len W hs') (by decide), fun B3 H4 v g3 M3 T3 => ?_⟩
                have hs3 := (bgo_good W hk2 hs').sub
                have kl2 := KX.len
                rw [kF_len, List.length_take] at kl2
                have hB3 := g3.n _ hBD (by rw [hz3]; exact fun z => nomatch z)
                refine ⟨us, g3.k _ _ nDm nDm hz3, sz_lt (by omega), B3, us ++ [v], (g'.trans g3).mut hD, ?_, ?_, hB3, upd_same, ?_⟩
                · rw [et, ekf]
                  exact M3.mut hB3 nDm
                · rw [et, ekf]
                  exact hs3
                · rw [et, ekf]
                  exact (KX.ex g3.b).snoc T3
              · obtain ⟨B', us, g', M', hs', hBD, hz3, KX⟩ := hw
                rw [tx_size, List.take_length] at M' KX
                dsimp only [gName]
                refine ⟨_, rfl, _, rfl, D, us, rfl, .inl ⟨sq_of hz3, fun l hl => ⟨by show 3 ≤ sizeLine; decide, fun t ht => ?_⟩⟩⟩
                have M4 := M'.both (u := .tup us) hl
                have M5 := M4.both (u := .tup [.str "read", .int (O.length : Nat), .ref l]) ht
                have g4 := g'.trans (Gw.new (m := mi ml) (u := .tup us) M'.e hl)
                have g5 := g4.trans (Gw.new (m := mi ml) (u := .tup [.str "read", .int (O.length : Nat), .ref l]) M4.e ht)
                have hBl : B' l = none := fresh_back M'.e hl
                have hBt : (upd B' l (.tup us)) t = none := fresh_back M4.e ht
                have nlt : l ≠ t := fun z => by rw [← z, upd_same] at ht; cases ht
                exact kk _ _ ⟨_, _, _, rfl, g2.trans g5, M5, .read (j := true) (j2 := true) upd_same (by rw [upd_ne nlt]; exact upd_same) (KidX.txs (by rw [Trs.of_list]; exact (KX.ex (Ex.new hBl)).ex (Ex.new hBt))), g5.k _ _ hDm hDm hz⟩
          · intro σ' H3 h
            obtain ⟨y7, B1, v, rfl, g3, M3, T3, hz3⟩ := h
            refine ⟨_, rfl, by show 0 ≤ sizeLine; decide, fun e0 he0 => ?_⟩
            have e3 : Ex H3 (upd H3 e0 (.lst [])) := Ex.new he0
            have he1 : (upd H3 e0 (.lst [])) e0 = some (.lst []) := upd_same
            have M4 := M3.ex e3
            have g4 := g3.trans (Gw.ofEx (m := mi ml) (B := B1) e3)
            have hz4 := e3 _ _ hz3
            generalize (upd H3 e0 (.lst [])) = H4 at M4 g4 hz4 he1 ⊢
            refine ⟨Df, e0, _, rfl, rfl, sq_of hz4, sq_of he1, _, rfl, ?_⟩
            have el : pT L ws O bh (O.drop i) k ks = (tlT ws x (bhT L ws O bh k ks).1, (bhT L ws O bh k ks).2) := by rw [← hx0]; exact hpT
            rw [el] at q
            by_cases hin : x ∈ ws
            · have et : tlT ws x (bhT L ws O bh k ks).1 = .tell (ws.idxOf x) (bhT L ws O bh k ks).1 := if_pos hin
              rw [et] at q
              rw [if_pos hin] at hz4 ⊢
              refine iteN (by show ¬ 1 = 0; decide) ?_
              refine ⟨_, rfl, Df, _, _, _, rfl, rfl, sq_of hz4, atI_nat (j := 0) rfl, _, rfl, by show 3 ≤ sizeLine; decide, fun t ht => ?_⟩
              exact q _ _ _ (g4.trans (Gw.new M4.e ht)) (M4.both ht) (.tell (j := true) upd_same (T3.ex (Ex.new (fresh_back M4.e ht))))
            · have et : tlT ws x (bhT L ws O bh k ks).1 = (bhT L ws O bh k ks).1 := if_neg hin
              rw [et] at q
              rw [if_neg hin]
              refine iteNn (by show 0 = 0; rfl) ?_
              exact ⟨_, rfl, q _ _ _ g4 M4 T3⟩
end
end Law

namespace Law
open PySem PySem.Spec PyProof.Rows L2 Evl TR EK GX Fg BT
def spStates : Sp := fun vs H Q _ => ∃ (d wa oa : Addr) (L : List Nat) (ws : List (List Nat)) (O : List Nat) (bh : Bool), vs = [.ref d] ∧ WdA d wa oa L ws O bh H ∧ Wok L ws O ∧ ws.Nodup ∧
  ∀ B' H' r us, Ex H B' → Ex B' H' → H r = none → B' r = some (.lst us) → KidX true B' us (TrB L ws O bh) → us.length = (TrB L ws O bh).length → Q (.ref r) H'
section
variable {P : Program} {w : World} {K : PySem.W.Frag} {mg : Str → Option Value} {base : Heap}
theorem ok_lstates {f : Addr} {fd : FuncData} (F : Fun K "_law_states" "_law_states" s_lstates f fd) (T : Tx mg) (c_lsize : Kn P w K mg base "_law_size" ["_law_world", "_law_known"] 1 spSize)
    (c_ltree : Kn P w K mg base "_law_tree" ["_law_world", "_law_met_here", "_law_known", "_law_at"] 9 (spLTree 5)) : FnOk P w K mg base CX0 10 f fd ["_law_world"] spStates := by
  refine F.ok sc_lstates (fun vs H Q E h => ?_) (fun cdv A outer s H vs Q E hr h => ?_)
  · obtain ⟨d, wa, oa, L, ws, O, bh, rfl, _⟩ := h
    rfl
  · obtain ⟨d, wa, oa, L, ws, O, bh, rfl, Wd, W, wnd, q⟩ := h
    refine ⟨_, (pss_cons (ps_par (i := 1) (j := 2) (by rfl) sc_lstates.nd rfl rfl (by decide) rfl rfl (pa_cons (pe_lst (pa_cons (pe_op ZS.op_mulS pe_str (pe_op op_add (pe_callB call_len_str (by rfl) T.len PySem.boot_len (pa_cons (pe_ix ix_list (pe_dget (hu_of hr) (pv 0) pe_str (fun _ _ => rfl)) pe_int (fun _ _ => rfl)) pa_nil)) pe_int)) pa_nil)) (pa_cons (pe_lst pa_nil) pa_nil)) (by rfl))
      (pss_cons (ps_while PassesOwn.never (pt_cmpR op_lt (pe_callB call_len_seq (by rfl) T.len PySem.boot_len (pa_cons (pv 2) pa_nil)) (pe_callB call_len_seq (by rfl) T.len PySem.boot_len (pa_cons (pv 1) pa_nil)) (nomark _)) (pss_cons (ps_set (i := 3) sc_lstates.nd rfl (Or.inl rfl) (pe_ix ix_list (pv 1) (pe_callB call_len_seq (by rfl) T.len PySem.boot_len (pa_cons (pv 2) pa_nil)) (fun _ _ => rfl)))
      (pss_one (ps_expr (pe_bm PySem.F.plainAttrs_list PySem.F.slot_list_append PySem.F.type_list_append mt_append (pv 2) (pa_cons (pe_call c_ltree.ok (hr.mono (by decide)) (by rfl) c_ltree.g c_ltree.kp c_ltree.b .nil pass0 (pa_cons (pv 0) (pa_cons (pv 1) (pa_cons (pv 3) (pa_cons (pe_call c_lsize.ok (hr.mono (by decide)) (by rfl) c_lsize.g c_lsize.kp c_lsize.b .nil pass0 (pa_cons (pv 0) (pa_cons (pv 3) pa_nil))) pa_nil))))) pa_nil))))))
      (pss_one (ps_ret (pv 2))))), ?_⟩
    have o4 := W.o4
    have o1 := W.o1
    obtain ⟨z0, hz0⟩ : ∃ z0, ws[0]? = some z0 := ⟨_, List.getElem?_eq_getElem W.w1⟩
    have zl := W.wl z0 (List.mem_of_getElem? hz0)
    have hz1 : (wv ws)[0]? = some (.str (tx z0)) := by unfold wv; rw [List.getElem?_map, hz0]; rfl
    have wlen : ∀ us : List (List Nat), (wv us).length = us.length := fun us => by unfold wv; rw [List.length_map]
    refine ⟨_, rfl, d, _, rfl, Wd.g2, wa, _, _, _, rfl, rfl, sq_of Wd.w, atI_nat (j := 0) hz1, _, rfl, tx_le (by omega), _, _, rfl, rfl, _, _, rfl, rfl, ?_, ?_⟩
    · rw [dot_sg, tx_len]
      exact mulOk_of 1 1000 (by rw [sg_len]; omega) (by omega) (by omega) (by decide) (by decide)
    rw [tx_len, zl, dots_mul]
    refine ⟨by show 1 ≤ sizeLine; decide, fun ml hml => ⟨by show 0 ≤ sizeLine; decide, fun r hr0 => ?_⟩⟩
    have e1 : Ex H (upd H ml (.lst (wv (dotsK O)))) := Ex.new hml
    have M1 : LwAt d wa oa ml L ws O bh H (upd H ml (.lst (wv (dotsK O)))) (dotsK O) := ⟨e1, Wd, hml, upd_same⟩
    have hr1 : (upd H ml (.lst (wv (dotsK O)))) r = none := hr0
    have hlst : (upd H ml (.lst [V.str (tx (List.replicate (O.length + 1) 46))])) = upd H ml (.lst (wv (dotsK O))) := rfl
    rw [hlst]
    generalize (upd H ml (.lst (wv (dotsK O)))) = H1 at e1 M1 hr1 ⊢
    have hrm : r ≠ ml := fun z => by have := M1.mt; rw [← z, hr1] at this; cases this
    have hB0 := fresh_back M1.e hr1
    refine ⟨_, _, rfl, ?_⟩
    refine ⟨fun k σ H' => ∃ (y3 : Option V) (B' : Hp) (ts : List Tr) (ks : List (List Nat)) (us : List V), σ = [some (.ref d), some (.ref ml), some (.ref r), y3] ∧ Gw (mi ml) H H1 B' H' ∧ LwAt d wa oa ml L ws O bh B' H' ks ∧ B' r = none ∧ H' r = some (.lst us) ∧ KidX true B' us ts ∧ RunI L [] O ts ks ∧ run L ws O bh k ts ks = run L ws O bh 40 [] (dotsK O) ∧ ts.length + k = 40,
      ⟨40, _, H, [], dotsK O, [], rfl, Gw.refl.mut hr1, M1.mut hB0 hrm, hB0, upd_same, .nil, run_init W, rfl, rfl⟩, fun k σ H' hw => ?_⟩
    obtain ⟨y3, B', ts, ks, us, rfl, g, M', hBr, hz, KX, R, er, hk⟩ := hw
    have kl := KX.len
    have rle := R.le
    have sl := sub_len W R.sub
    refine ⟨_, rfl, r, _, rfl, .inl (sq_of hz), _, rfl, ml, _, rfl, .inl (sq_of M'.mt), _, _, rfl, rfl, _, rfl, ?_⟩
    rw [wlen]
    by_cases hlt : ts.length < ks.length
    · rw [show decide (((us.length : Nat) : Int) < ((ks.length : Nat) : Int)) = true from decide_eq_true (by omega)]
      refine iteT ?_
      obtain ⟨k', rfl⟩ : ∃ k', k = k' + 1 := ⟨k - 1, by omega⟩
      refine ⟨fun σ' H' => ∃ k2, k2 < k' + 1 ∧ ∃ (y3 : Option V) (B' : Hp) (ts : List Tr) (ks : List (List Nat)) (us : List V), σ' = [some (.ref d), some (.ref ml), some (.ref r), y3] ∧ Gw (mi ml) H H1 B' H' ∧ LwAt d wa oa ml L ws O bh B' H' ks ∧ B' r = none ∧ H' r = some (.lst us) ∧ KidX true B' us ts ∧ RunI L [] O ts ks ∧ run L ws O bh k2 ts ks = run L ws O bh 40 [] (dotsK O) ∧ ts.length + k2 = 40, fun σ' H' h => h, ?_⟩
      obtain ⟨x, hx⟩ : ∃ x, ks.getD ts.length [] = x := ⟨_, rfl⟩
      have xin : x ∈ ks := hx ▸ getD_in W hlt
      have hxk := sub_KL W R.sub xin
      have hxl := hxk.1
      have hmis := sub_mis W R.sub xin
      have hget : (wv ks)[us.length]? = some (V.str (tx x)) := by
        unfold wv
        rw [kl, List.getElem?_map, List.getElem?_eq_getElem hlt, ← hx, List.getD_eq_getElem?_getD, List.getElem?_eq_getElem hlt]
        rfl
      have szl : sizeR x O < O.length := sizeR_lt (by intro z; rw [z] at o1; exact absurd o1 (by decide))
      refine ⟨_, rfl, _, rfl, r, _, rfl, .inl (sq_of hz), ml, _, _, _, rfl, rfl, sq_of M'.mt, atI_nat hget, ?_⟩
      dsimp only [gName]
      refine ⟨_, rfl, .inl ⟨rfl, _, sq_of hz⟩, _, rfl, _, rfl, _, rfl, _, rfl, _, rfl, ?_⟩
      refine ⟨d, wa, oa, L, ws, O, bh, x, rfl, M'.wh, by omega, o1, by omega, fun p hp => by have := W.lt p hp; omega, fun H2 e2 => ?_⟩
      have M2 := M'.ex e2
      have g2 := g.trans (Gw.ofEx (m := mi ml) (B := B') e2)
      have hz2 := e2 _ _ hz
      refine ⟨d, wa, oa, ml, L, ws, O, bh, B', ks, x, sizeR x O, rfl, M2, W, wnd, hxk, R.sub, by omega, by omega, fun B3 H3 v g3 M3 T3 => ?_⟩
      rw [← hmis] at M3 T3
      have hB3 := g3.n _ hBr (by rw [hz2]; exact fun z => nomatch z)
      refine ⟨r, _, _, rfl, rfl, g3.k _ _ hrm hrm hz2, sz_lt (by omega), ?_⟩
      have go := run_go W (bh := bh) (n := k') hlt
      have R2 := step_run W (bh := bh) R hlt
      rw [hx] at go R2
      refine ⟨k', Nat.lt_succ_self _, _, B3, _, _, us ++ [v], rfl, (g2.trans g3).mut hr1, M3.mut hB3 hrm, hB3, upd_same, (KX.ex g3.b).snoc T3, R2, by rw [← go]; exact er, ?_⟩
      rw [List.length_append, List.length_singleton]
      omega
    · rw [show decide (((us.length : Nat) : Int) < ((ks.length : Nat) : Int)) = false from decide_eq_false (by omega)]
      refine iteF ?_
      have hst := run_stop W (bh := bh) (n := k) hlt
      rw [hst] at er
      have et : TrB L ws O bh = ts := by
        unfold TrB
        rw [← er]
      refine ⟨_, rfl, q (upd B' r (.lst us)) H' r us (g.b.trans (Ex.new hBr)) (M'.knows hz hBr hrm).e hB0 upd_same (by rw [et]; exact KX.ex (Ex.new hBr)) (by rw [et]; exact kl)⟩
end
end Law

/-! repr of any single value: None, a bool, an int, a text, a list, a tuple -/
namespace RV
open PySem PySem.Spec PyProof.Rows L2 DY
theorem dict_ent {X : Cx} {pins : List (Addr × Obj)} {σ : L2.St} {H : Hp} {s : Shared} (I : Inv X pins σ H s) {a : Addr} {kvs : List (PyData × PyData)} (h : DE X.K H (.ref a) (.dict kvs)) (hs : (PyData.dict kvs).showable = true) (hz : (PyData.dict kvs).shown.length ≤ sizeLine) (d : Nat) :
    (a == sysModules) = false ∧ ∃ (o : Obj) (n : Nat) (es : Array DictEntry), s.heap.get? a = some o ∧ o.cls = .type "dict" ∧ o.data = .dict es n ∧ ReprEntriesK X.prog X.w [] s.heap d es.toList (PyData.shownKv kvs) := by
  cases h with
  | emp hq =>
    obtain ⟨hy, o, n, ho, hc, hd⟩ := emp_at I hq
    exact ⟨hy, o, n, _, ho, hc, hd, by rw [PyData.shownKv_eq]; exact ReprEntriesK.of_two [] _ _ .nil .nil⟩
  | @one _ k i hq =>
    obtain ⟨hy, o, n, e, t1, t2, ho, hc, hd, e1, e2⟩ := one_at I hq
    have hs2 : (PyData.int i).showable = true := by
      simp only [PyData.showable, PyData.showableKv, Bool.and_eq_true] at hs ⊢
      first
        | exact hs.1.2
        | exact hs.2.1
        | exact hs.2
        | simpa using hs
    have hz2 : (dictText (PyData.shownKv [(.str k, .int i)])).length ≤ sizeLine := by simpa only [PyData.shown] using hz
    have hk : (PyData.str k).shown.length ≤ sizeLine := by
      have h1 := dictText_mem_le (ps := PyData.shownKv [(.str k, .int i)]) (p := (PyData.str k).shown ++ ": " ++ (PyData.int i).shown) (by simp only [PyData.shownKv]; exact List.mem_cons_self ..)
      rw [Str.length_append, Str.length_append] at h1
      omega
    refine ⟨hy, o, n, #[e], ho, hc, hd, ?_⟩
    rw [PyData.shownKv_eq]
    refine ReprEntriesK.of_two [e] _ _ (.cons ?_ .nil) (.cons ?_ .nil)
    · show ReprK X.prog X.w [] s.heap _ e.key (PyData.str k).shown
      rw [e1]
      simp only [PyData.shown]
      exact .of_is (ReprIs.str k t1 (by simpa only [PyData.shown] using hk)) _ _ _
    · show ReprK X.prog X.w [] s.heap _ e.val (PyData.int i).shown
      rw [e2]
      simp only [PyData.shown]
      exact .of_is (ReprIs.int t2 (by simpa [PyData.showable] using hs2)) _ _ _
  | @dks _ ks hq =>
    obtain ⟨hy, o, n, es, ho, hc, hd, fo⟩ := dks_at I hq
    have hs2 : PyData.showableKv (kdI ks) = true := by simpa only [PyData.showable] using hs
    obtain ⟨y1, y2⟩ := PyData.showableKv_split _ hs2
    refine ⟨hy, o, n, es, ho, hc, hd, ?_⟩
    rw [PyData.shownKv_eq]
    exact ReprEntriesK.of_two _ _ _ (fo.rk y1 y2).1 (fo.rk y1 y2).2
structure RX (K : PySem.W.Frag) (xs : List V) (H : Hp) (Q : VK) : Prop where
  ex : ∃ v d, xs = [v] ∧ DE K H v d ∧ True ∧ d.showable = true ∧ d.depth ≤ 64 ∧ d.shown.length ≤ sizeLine ∧ Q (.str d.shown) H
abbrev rRv (K : PySem.W.Frag) : List V → Hp → VK → Prop := fun xs H Q => RX K xs H Q
theorem call_reprV {X : Cx} (hg : X.A.guards = some []) (hu : X.A.units + 70 < cLine) : CallR X (.builtin "repr") (rRv X.K) := by
  intro pins s σ H xs us Q I r h
  obtain ⟨v, d, rfl, hd, hnd, h1, h3, h4, q⟩ := h.ex
  obtain ⟨u, rfl, ru⟩ := vals1 r
  have fin : ∀ h' u' tk, (∀ b o, s.heap.get? b = some o → h'.get? b = some o) → EP X pins σ Q (.str d.shown u') { s with heap := h', toks := tk } := fun h' u' tk hk => ⟨.str d.shown, H, I.kept hk, ⟨u', rfl⟩, q⟩
  have un : X.A.units + 1 < cLine := by omega
  cases hd with
  | non =>
    cases ru
    simp only [PyData.shown] at fin
    exact PySem.P.repr_of_none (fin _ _ _ fun _ _ e => e)
  | bl b =>
    cases ru
    simp only [PyData.shown] at fin
    exact PySem.P.repr_of_bool (fin _ _ _ fun _ _ e => e)
  | int i =>
    obtain ⟨t, rfl⟩ := ru
    simp only [PyData.shown] at fin
    exact PySem.P.repr_of_int (by simpa [PyData.showable] using h1) (fin _ _ _ fun _ _ e => e)
  | str z =>
    obtain ⟨t, rfl⟩ := ru
    simp only [PyData.shown] at fin h4
    exact PySem.P.repr_of_str (fin _ _ _ fun _ _ e => e) h4
  | lst hq ha =>
    rename_i a xs ds
    cases ru
    obtain ⟨its, rv, ⟨o, n, ho, hc, _, hd⟩, _⟩ := I.list hq
    have hz2 : (listText (PyData.shownAll ds)).length ≤ sizeLine := by simpa only [PyData.shown] using h4
    obtain ⟨⟨as, hr⟩, bs, hb, hk⟩ := DEs.sh I ds _ its ha rv (by simpa [PyData.showable] using h1) fun t ht => Nat.le_trans (listText_mem_le ht) hz2
    have r2 : Reads s.heap (.ref a) (.list ds) _ := Reads.list ho hc hd hr
    have hna := not_mem_of_deeper r2 (show PyData.depthAll ds < _ by simp only [PyData.depth]; omega) hb
    simp only [PyData.depth] at h3
    simp only [PyData.shown] at fin
    refine call_repr_slot un ⟨o, ho, hc⟩ F.slot_list_repr.toG ?_
    cases its with
    | nil =>
      cases rv
      cases ha
      simp only [PyData.shownAll, listText_nil] at fin
      exact call_list_repr_empty ⟨o, ho, hc⟩ ho hd ⟨_, _, rfl, fin s.heap _ _ fun _ _ e => e⟩
    | cons x l => exact call_list_reprK ho hc hd hna (by simpa using hk.length_eq) (fun i y e => hk.item i y (by simpa using e)) hg (fun b _ => Clear.nil b) (by show X.A.units + 1 + _ < cLine; omega) (fun _ _ e => e) (fun h' u' tk hk' => ⟨_, _, rfl, fin h' u' tk hk'⟩) hz2
  | tup hq ha =>
    rename_i a xs ds
    cases ru
    obtain ⟨its, rv, ⟨o, ho, hc, n, hd⟩, _⟩ := I.tuple hq
    have hz2 : (tupleText (PyData.shownAll ds)).length ≤ sizeLine := by simpa only [PyData.shown] using h4
    obtain ⟨⟨as, hr⟩, bs, hb, hk⟩ := DEs.sh I ds _ its ha rv (by simpa [PyData.showable] using h1) fun t ht => Nat.le_trans (tupleText_mem_le ht) hz2
    have r2 : Reads s.heap (.ref a) (.tuple ds) _ := Reads.tuple ho hc hd hr
    have hna := not_mem_of_deeper r2 (show PyData.depthAll ds < _ by simp only [PyData.depth]; omega) hb
    simp only [PyData.depth] at h3
    simp only [PyData.shown] at fin
    refine call_repr_slot un ⟨o, ho, hc⟩ F.slot_tuple_repr ?_
    exact call_tuple_reprK ho hc hd hna hk hg (fun b _ => Clear.nil b) (by show X.A.units + 1 + _ < cLine; omega) (fun _ _ e => e) (fun h' u' tk hk' => ⟨_, _, rfl, fin h' u' tk hk'⟩) hz2
  | emp hq =>
    cases ru
    obtain ⟨hy, o, n, es, ho, hc, hd, hE⟩ := dict_ent I (DE.emp hq) h1 h4 64
    simp only [PyData.shown] at fin h4
    refine call_repr_slot un ⟨o, ho, hc⟩ F.slot_dict_repr ?_
    exact call_dict_reprK (as := []) ho hc hd hy (fun h => nomatch h) hE hg (fun b _ => Clear.nil b) (by show X.A.units + 1 + _ < cLine; omega) (fun _ _ e => e) (fun h' u' tk hk' => ⟨_, _, rfl, fin h' u' tk hk'⟩) h4
  | one hq =>
    cases ru
    obtain ⟨hy, o, n, es, ho, hc, hd, hE⟩ := dict_ent I (DE.one hq) h1 h4 64
    simp only [PyData.shown] at fin h4
    refine call_repr_slot un ⟨o, ho, hc⟩ F.slot_dict_repr ?_
    exact call_dict_reprK (as := []) ho hc hd hy (fun h => nomatch h) hE hg (fun b _ => Clear.nil b) (by show X.A.units + 1 + _ < cLine; omega) (fun _ _ e => e) (fun h' u' tk hk' => ⟨_, _, rfl, fin h' u' tk hk'⟩) h4
  | dks hq =>
    cases ru
    obtain ⟨hy, o, n, es, ho, hc, hd, hE⟩ := dict_ent I (DE.dks hq) h1 h4 64
    simp only [PyData.shown] at fin h4
    refine call_repr_slot un ⟨o, ho, hc⟩ F.slot_dict_repr ?_
    exact call_dict_reprK (as := []) ho hc hd hy (fun h => nomatch h) hE hg (fun b _ => Clear.nil b) (by show X.A.units + 1 + _ < cLine; omega) (fun _ _ e => e) (fun h' u' tk hk' => ⟨_, _, rfl, fin h' u' tk hk'⟩) h4
end RV

/-! a law that makes lambdas and the text of values: its code object and that one's table -/
namespace GT
open PySem PySem.Spec PyProof.Rows L2 GD
/-- a def of which the code object is known -/
structure FunC (K : PySem.W.Frag) (x qual : Str) (st : Stmt) (f : Addr) (fd : FuncData) (c : Addr) : Prop where
  ex : ∃ (oc : Value) (od : Option Addr) (kV doc pm : Value) (an : Option Addr) (ct : Value) (osl : Array (Option Value)),
    fd = PySem.W.fnOf x qual (defArgs st) (defBody st) (defScope st) .none kV doc pm an (.ref c) ct ∧ K.lookup f = some ⟨oc, od, .func fd, osl⟩ ∧ PySem.W.codeIn K (.ref c) qual = true
section
variable {P : Program} {w : World} {K : PySem.W.Frag} {mg : Str → Option Value} {base : Heap}
theorem okGC {x qual : Str} {st : Stmt} {f c : Addr} {fd : FuncData} {N ps : List Str} {k : Nat} {sp : Sp} (F : FunC K x qual st f fd c) (S : FnScope N ps (defScope st)) (len : ∀ vs H Q E, sp vs H Q E → vs.length = ps.length)
    (hbody : ∀ (A : Around) (outer : List Env) (s : Shared) (H : Hp) (vs : List V) (Q : VK) (E : XK), Room k (A.deeper (envOfC qual (defScope st) s.heap.objs.size f (.ref c))) → (A.deeper (envOfC qual (defScope st) s.heap.objs.size f (.ref c))).guards = some [] → sp vs H Q E →
      ∃ t, PSs (cxOf CX0 P w K mg base N qual (defScope st) f (.ref c) A outer s H E).nox (defBody st) t ∧ t { nx := fun _ H' => Q .non H', rt := Q } (start N vs) H) : Gd P w K mg base (k + 1) f fd ps sp := by
  obtain ⟨oc, od, kV, doc, pm, an, ct, osl, rfl, known, code⟩ := F.ex
  refine ⟨fun A outer s H args us vs Q E room free e0 bound rel told => ?_⟩
  have kin : K.In s.heap := e0.mod.kin.keeps fun b o e => (e0.bs b o e).1
  have nolim : s.heap.NoLimit := e0.mod.nolimit.keeps fun b o e => (e0.bs b o e).1
  have names : ∀ y ∈ ps.zip us, (defScope st).names.lookup y.1 = some .local ∨ ((defScope st).names.lookup y.1 = some .cell ∧ ((cellsFrom (s.heap.objs.size + 1) (defScope st).names []).lookup y.1).isSome = true) := by
    rintro ⟨n, v⟩ hy
    rcases S.par n (List.of_mem_zip hy).1 with q | q
    · exact .inl q
    · exact .inr ⟨q, PySem.W.cellsFrom_some _ _ _ (.inl q)⟩
  refine codeAny_call_function room.depth (kin _ _ known) rfl S.co S.gen rfl (PySem.W.codeRec_of kin code) (bound _ _ _ _ (wpAny_newFunctionEnv_cells S.kind names fun env made s1 z => ?_))
  subst made
  refine ⟨nolim.keeps z.toInCall.keep, codeAny_func ?_⟩
  obtain ⟨t, ht, hq⟩ := hbody A outer s H vs Q E (room.deeper _) (deeper_guards free) told
  have I := inv_start (CX := CX0) (E := E) S room.hd e0 (len _ _ _ _ told) rel z
  refine wpAny_mono (ht.nox.run [] s1 (start N vs) H _ I hq) (fun fl s' hs => ?_) fun e s' hs => hs
  cases fl with
  | ret u =>
    obtain ⟨v, σ', H', J, rv, q⟩ := hs
    exact ⟨v, H', J.os, J.bare, J.base, J.hok, rv, q⟩
  | next =>
    obtain ⟨σ', H', J, q⟩ := hs
    exact ⟨V.non, H', J.os, J.bare, J.base, J.hok, rfl, q⟩
  | brk =>
    obtain ⟨_, _, _, q⟩ := hs
    exact q.elim
  | cont =>
    obtain ⟨_, _, _, q⟩ := hs
    exact q.elim
end
/-- the script, where it is tracked, and the table -/
def two (t : Addr) (s : Hp) : Hp := fun b => if b = t then some (.tbl #[]) else s b
theorem two_t {t : Addr} {s : Hp} : two t s t = some (.tbl #[]) := if_pos rfl
theorem two_ne {t b : Addr} {s : Hp} (h : b ≠ t) : two t s b = s b := if_neg h
/-- the module's builtins -/
def Bm (mg : Str → Option Value) (h : Heap) : Prop := ∃ (bm : Addr) (ob : Obj), mg "__builtins__" = some (.ref bm) ∧ bm ≠ builtinsNs ∧ h.get? bm = some ob ∧ ob.cls = .type "module" ∧ ob.dict = some builtinsNs ∧ ob.data = .plain
theorem callGT {P : Program} {w : World} {K : PySem.W.Frag} {mg mb : Str → Option Value} {k : Nat} {fa a c t : Addr} {fd : FuncData} {x : Str} {sp : Sp} {s : Shared} {vs : List Value} {ns : List Int}
    (kin : K.In s.heap) (hns : s.heap.Ns mainGlobals mg) (hb : s.heap.Ns builtinsNs mb) (hbb : ∀ x : Str, x ≠ "__name__" → mb x = bootBuiltins x) (nolim : s.heap.NoLimit) (gens : s.gens = #[])
    (tab : s.heap.get? t = some { cls := .none, data := .fields #[] }) (tabK : K.lookup t = none) (code : PySem.W.CodeHd s.heap c t) (hbm : Bm mg s.heap)
    (ha : s.heap.get? a = some { cls := .type "list", data := .seq vs.toArray }) (hi : IntsAre vs ns) (hl : ns.length ≤ sizeLine) (room : Room k callerA)
    (F : ∀ base : Heap, K.In base → base.Ns mainGlobals mg → LamX.TabB base mg c t → Gd P w K mg base k fa fd [x] sp) (binds : ∀ (s : Shared) (u : Value), BindsTo s fd ⟨[u], []⟩ [(x, u)])
    (hsp : ∀ H : Hp, H t = some (.tbl #[]) → SqL K H a (ns.map V.int) → sp [.ref a] H (fun v _ => v = .bl true) E0) :
    codeAny (model P w) callerA (.call (.ref fa) ⟨[.ref a], []⟩) (fun r s' => r = .ok (.ret (.bool true)) ∧ OldK s.heap s'.heap ∧ s'.os = s.os ∧ AllBare s'.gens) s := by
  have rv := vals_ints hi
  have nat : a ≠ t := fun z => by
    rw [z, tab] at ha
    cases ha
  have step : ∀ H : Hp, (∀ b u, H b = some u → b ≠ t → b = a ∧ K.lookup a = none ∧ ∃ o xs, u = .frz o (.lst xs)) → H t = some (.tbl #[]) → HOk P w H s.heap → SqL K H a (ns.map V.int) →
      codeAny (model P w) callerA (.call (.ref fa) ⟨[.ref a], []⟩) (fun r s' => r = .ok (.ret (.bool true)) ∧ OldK s.heap s'.heap ∧ s'.os = s.os ∧ AllBare s'.gens) s := by
    intro H only hT hok hS
    have free : ∀ {b : Addr}, b ≠ a → b ≠ t → H b = none := fun {b} n nt => by
      cases e : H b with
      | none => rfl
      | some u => exact absurd (only b u e nt).1 n
    -- what stands at neither of the two stays in sight
    have sees : ∀ {b : Addr} {o : Obj}, s.heap.get? b = some o → (∀ us m, o.data ≠ .seq us m) → o.data ≠ .fields #[] → (hidT s.heap H).get? b = some o := fun {b o} e n1 n2 => by
      refine hidT_get e (free (fun z => ?_) fun z => ?_)
      · rw [z, ha] at e
        cases e
        exact n1 _ _ rfl
      · rw [z, tab] at e
        cases e
        exact n2 rfl
    have stays : ∀ {b : Addr} {m : Str → Option Value}, s.heap.Ns b m → (hidT s.heap H).Ns b m := fun {b m} ⟨o, es, ep, e, d, r⟩ => by
      refine ⟨o, es, ep, sees e (fun us m z => ?_) (fun z => ?_), d, r⟩
      · rw [show o.data = _ from d] at z
        cases z
      · rw [show o.data = _ from d] at z
        cases z
    have kinB : K.In (hidT s.heap H) := fun b o e => hidT_get (kin b o e) (by
      cases q : H b with
      | none => rfl
      | some u =>
        by_cases nt : b = t
        · rw [nt, tabK] at e
          cases e
        · obtain ⟨h1, h2, _⟩ := only b u q nt
          rw [h1, h2] at e
          cases e)
    have TB : LamX.TabB (hidT s.heap H) mg c t := by
      refine ⟨?_, ?_, fun z => ?_⟩
      · obtain ⟨o, us, y1, y2, y3, y4, y5, y6, y7, at_, cl, dat, v11, rest⟩ := code
        refine ⟨o, us, y1, y2, y3, y4, y5, y6, y7, sees at_ (fun _ _ z => ?_) (fun z => ?_), cl, dat, v11, rest⟩
        · rw [dat] at z
          cases z
        · rw [dat] at z
          cases z
          cases v11
      · obtain ⟨bm, ob, m1, m2, m3, m4, m5, m6⟩ := hbm
        have np : ∀ us : Array Value, ob.data ≠ .fields us := fun us z => by
          rw [m6] at z
          cases z
        refine ⟨bm, ob, m1, m2, fun z => ?_, fun z => ?_, sees m3 (fun _ _ z => ?_) (np _), m4, m5, m6⟩
        · obtain ⟨o, es, ep, e, d, _⟩ := hns
          rw [← z, m3] at e
          cases e
          rw [m6] at d
          cases d
        · rw [z, tab] at m3
          cases m3
          exact np _ rfl
        · rw [m6] at z
          cases z
      · obtain ⟨o, es, ep, e, d, _⟩ := hns
        rw [z, tab] at e
        cases e
        cases d
    have e0 : Env0 P w K mg (hidT s.heap H) callerA [] s H :=
      ⟨rfl, ⟨kinB, stays hns, ⟨mb, stays hb, hbb⟩, let ⟨mc, h1, h2⟩ := nolim; ⟨mc, stays h1, h2⟩⟩, fun b o e => of_hidT e, Nat.le_of_eq (hidT_size _ _), trivial, fun b hb => (nomatch (show b ∈ ([] : List Addr) from hb)), hok, .of_eq gens⟩
    refine codeAny_mono ((F _ kinB (stays hns) TB).run callerA [] s H ⟨[.ref a], []⟩ [.ref a] [.ref a] _ E0 room rfl e0 (binds s (.ref a)) (.cons rfl .nil) (hsp H hT hS)) fun r s' h => ?_
    cases r with
    | error e => exact h.elim
    | ok fl =>
      cases fl with
      | ret u =>
        obtain ⟨v, H', os, bare, un, hok', r', q⟩ := h
        obtain rfl : v = .bl true := q
        obtain rfl : u = Value.bool true := r'
        obtain ⟨more, hm⟩ := un.tbls t #[] hT
        have hm2 : s'.heap.get? t = some { cls := .none, data := .fields (#[] ++ more) } := hok' t _ hm
        rw [Array.empty_append] at hm2
        refine ⟨rfl, ⟨fun b o e => ?_, fun b o e => ?_⟩, os, bare⟩
        · by_cases nt : b = t
          · subst nt
            rw [tab] at e
            cases e
            exact .inr (.inl ⟨(code.tab tab).isCodeTable, rfl, #[], more, rfl, by rw [Array.empty_append]; exact hm2⟩)
          · refine .inl ?_
            cases q : H b with
            | none => exact un.keep b o e q (by intro z; exact (nomatch (show b ∈ ([] : List Addr) from z))) (by simp)
            | some u =>
              obtain ⟨_, _, ob, xs, rfl⟩ := only b u q nt
              obtain ⟨e1, _⟩ := hok b _ q
              obtain ⟨e2, _⟩ := hok' b _ (un.frzs b ob _ q)
              rw [e] at e1
              cases e1
              exact e2
        · by_cases nt : b = t
          · subst nt
            exact ⟨_, hm2⟩
          · cases q : H b with
            | none => exact ⟨o, un.keep b o e q (by intro z; exact (nomatch (show b ∈ ([] : List Addr) from z))) (by simp)⟩
            | some u =>
              obtain ⟨_, _, ob, xs, rfl⟩ := only b u q nt
              obtain ⟨e2, _⟩ := hok' b _ (un.frzs b ob _ q)
              exact ⟨_, e2⟩
      | next => exact h.elim
      | brk => exact h.elim
      | cont => exact h.elim
  cases hk : K.lookup a with
  | some o =>
    have e := kin a o hk
    rw [ha] at e
    cases e
    refine step (two t fun _ => none) (fun b u z nt => by rw [two_ne nt] at z; cases z) two_t (fun b u z => ?_) (.inr ⟨_, vs.toArray, _, hk, rfl, rfl, rfl, ?_, by simpa using rv⟩)
    · by_cases nt : b = t
      · subst nt
        rw [two_t] at z
        cases z
        exact tab
      · rw [two_ne nt] at z
        cases z
    · rw [List.size_toArray, hi.length]
      exact hl
  | none =>
    refine step (two t (one a vs ns)) (fun b u z nt => ?_) two_t (fun b u z => ?_) (.inl (.inr ⟨_, (two_ne nat).trans (if_pos rfl)⟩))
    · rw [two_ne nt] at z
      unfold one at z
      by_cases q : b = a
      · rw [if_pos q] at z
        cases z
        exact ⟨q, hk, _, _, rfl⟩
      · rw [if_neg q] at z
        cases z
    · by_cases nt : b = t
      · subst nt
        rw [two_t] at z
        cases z
        exact tab
      rw [two_ne nt] at z
      unfold one at z
      by_cases q : b = a
      · rw [if_pos q] at z
        cases z
        subst q
        exact ⟨ha, by rw [List.length_map]; exact hl, vs, _, rv, ha⟩
      · rw [if_neg q] at z
        cases z
theorem walkGT {l : PySem.W.OpenLaw} {n k : Nat} {q : Program} {loose : List Str} {XP : (Str → Option Value) → Heap → Prop} {YP : World → Heap → Prop} {d : DefRec} {K : Params → PySem.W.Frag} {x : Str}
    (hn : l.most = some n) (hn2 : n ≤ sizeLine) (hdf : d.params.defaults = []) (hr : Room k callerA) (hY : ∀ (w : World) (h : Heap), YP w h → (K w.params).In h)
    (F : ∀ (w : World) (mg : Str → Option Value) (fa : Addr) (h : Heap), YP w h → (K w.params).In h → h.Ns mainGlobals mg → mg d.name = some (.ref fa) →
      ∃ (fd : FuncData) (c t : Addr) (sp : Sp), h.get? t = some { cls := .none, data := .fields #[] } ∧ (K w.params).lookup t = none ∧ PySem.W.CodeHd h c t ∧ (∀ (s : Shared) (u : Value), BindsTo s fd ⟨[u], []⟩ [(x, u)]) ∧
        (∀ (H : Hp) (a : Addr) (ns : List Int), ns.length ≤ n → H t = some (.tbl #[]) → SqL (K w.params) H a (ns.map V.int) → sp [.ref a] H (fun v _ => v = .bl true) E0) ∧
        ∀ base : Heap, (K w.params).In base → base.Ns mainGlobals mg → LamX.TabB base mg c t → Gd l.prog w (K w.params) mg base k fa fd [x] sp) :
    PySem.W.WalkO q loose XP YP l.row.toRowW d [] (fun f vs => PySem.call f vs) := by
  refine Att.attach_call hn hdf fun w s₀ s₁ mg mb fa o pm cd doc a vs ns G Y ho hd hcd hmg hobj hints hlen hg => ?_
  have kin := hY w _ Y
  obtain ⟨fd, c, t, sp, tab, tabK, code, hb, hsp, hF⟩ := F w mg fa _ Y kin G.T.g hmg
  exact callGT kin G.T.g G.T.b G.T.builtins G.T.nolimit hg tab tabK code G.T.bmain hobj hints (Nat.le_trans hlen hn2) hr hF hb fun H hT hS => hsp H a ns hlen hT hS
end GT

/-! a call of a def whose promise holds where no text of an object is being made -/
namespace GD
open PySem PySem.Spec PyProof.Rows L2
section
variable {X : Cx} {k : Nat} {f : Addr} {fd : FuncData} {ps : List Str} {sp : Sp} {x : Str} {p pos : Pos} {e : Expr} {es : List Expr} {t : L2.TA}
theorem run_gd {pins : List (Addr × Obj)} {s : Shared} {σ : L2.St} {H : Hp} {Q : VK} {us : List Value} {vs : List V} (G : Gd X.prog X.w X.K X.mg X.base k f fd ps sp) (len : ∀ ws H Q E, sp ws H Q E → ws.length = ps.length) (free : X.A.guards = some []) (room : Room k X.A) (binds : Binds X.K fd ps [])
    (I : Inv X pins σ H s) (rel : Vals vs us) (told : sp (vs ++ []) H Q E0) : wpAny (model X.prog X.w) X.A (call (.ref f) us) (EP X pins σ Q) X.xe s := by
  rw [List.append_nil] at told
  have same : us.length = ps.length := by
    rw [← rel.length]
    exact len _ _ _ _ told
  have bt := binds s us I.kIn (by rw [List.append_nil]; exact same)
  rw [List.append_nil] at bt
  refine wpAny_call (codeAny_mono (G.run X.A X.stack s H ⟨us, []⟩ us vs Q E0 room free I.env0 bt rel told) fun r s' got => ?_)
  cases r with
  | error e => exact got.elim
  | ok fl =>
    cases fl with
    | ret u => exact I.after got
    | next => exact got.elim
    | brk => exact got.elim
    | cont => exact got.elim
theorem pe_callG (G : Gd X.prog X.w X.K X.mg X.base k f fd ps sp) (len : ∀ ws H Q E, sp ws H Q E → ws.length = ps.length) (free : X.A.guards = some []) (room : Room k X.A) (glob : Gl X x) (at_ : X.mg x = some (.ref f)) (kept : PySem.W.keepIn X.K (.ref f) = true) (binds : Binds X.K fd ps [])
    (args : PA X (e :: es) t) (nodb : (x == ("__debug__" : Str)) = false := by decide) (star : starEach (e :: es) X.env = (false, eval e X.env) :: starEach es X.env := by rfl) (plain : (backTo pos (starEach es X.env)).any (·.1) = false := by rfl) :
    PE X (.Call (.Name x p) (e :: es) [] pos) (tCall sp [] E0 t) := by
  refine ⟨fun pins s σ H Q I told => wpAny_Call_Name_kw (ld_glob I glob at_ ?_ nodb)⟩
  exact PySem.W.callWith_K (h₀ := X.base) I.ok.mod.kin kept (thn (args.run pos pins s σ H _ I told) fun us s1 ⟨vs, H1, I1, rel, q⟩ => ⟨I1.kIn, run_gd G len free room binds I1 rel q⟩) star plain
end
end GD

/-! in a try: C(..) and o.m(..) whose E hangs on the names -/
namespace MS
open PySem PySem.Spec PyProof.Rows L2 EK
section
variable {X : Cx} {CX : CXT} {k : Nat} {f C : Addr} {fd : FuncData} {ps : List Str} {sp : Sp} {dvs : List V} {ds : List Value} {E : L2.St → XK} {x m : Str} {p pos apos : Pos} {e o : Expr} {es : List Expr} {ta : TE} {t : TA}
theorem run_makeS {pins : List (Addr × Obj)} {σ : L2.St} {H : Hp} {s : Shared} {Q : VK} {us : List Value} {vs : List V} (M : Mk X.K C f) (F : FnOk X.prog X.w X.K X.mg X.base CX k f fd ps sp) (hr : Room (k + 1) X.A) (hb : Binds X.K fd ps ds) (hd : Vals dvs ds)
    (hx : PassesAt CX X σ (E σ)) (I : Inv X pins σ H s) (r : Vals vs us)
    (h : ∀ x dx, H x = none → H dx = none → dx ≠ x → sp (.ref x :: (vs ++ dvs)) (upd (upd H dx (.own x)) x (.ins C dx [])) (fun v H2 => v = .non ∧ Q (.ref x) H2) (E σ)) :
    wpAny (model X.prog X.w) X.A (call (.ref C) us) (EP X pins σ Q) X.xe s := by
  have hq := h (s.heap.objs.size + 1) s.heap.objs.size (I.hok.fresh (Nat.le_succ _)) (I.hok.fresh (Nat.le_refl _)) (Nat.ne_of_lt (Nat.lt_succ_self _))
  have I2 := Inv.made (C := C) I
  have r2 : Vals (V.ref (s.heap.objs.size + 1) :: (vs ++ dvs)) (Value.ref (s.heap.objs.size + 1) :: (us ++ ds)) := .cons rfl (r.append hd)
  have hl : (Value.ref (s.heap.objs.size + 1) :: us ++ ds).length = ps.length := by
    have e := r2.length
    rw [F.len _ _ _ _ hq] at e
    exact e.symm
  refine wpAny_call (make_map (f := f) I.kIn M.makes M.init (beq_iff_eq.mp M.fn) (codeAny_mono (F.run _ X.stack _ _ ⟨Value.ref (s.heap.objs.size + 1) :: us, []⟩ (Value.ref (s.heap.objs.size + 1) :: (us ++ ds)) _ _ (E σ) (hr.make C us [])
    (I2.env0.make C us []) (hb _ (Value.ref (s.heap.objs.size + 1) :: us) I2.kIn hl) r2 hq) fun r s' hq' => ?_))
  cases r with
  | error e => exact hx pins _ _ e s' I2 hq'
  | ok fl =>
    cases fl with
    | ret u =>
      obtain ⟨v, H', I3, rv, ev, q3⟩ := I2.after hq'
      subst ev
      exact ⟨rv, ⟨V.ref (s.heap.objs.size + 1), H', I3, rfl, q3⟩⟩
    | next => exact False.elim hq'
    | brk => exact False.elim hq'
    | cont => exact False.elim hq'
def tMakeS (C : Addr) (sp : Sp) (dvs : List V) (E : L2.St → XK) (t : TA) : TE := fun σ H Q => t σ H fun vs H1 => ∀ x dx, H1 x = none → H1 dx = none → dx ≠ x → sp (.ref x :: (vs ++ dvs)) (upd (upd H1 dx (.own x)) x (.ins C dx [])) (fun v H2 => v = .non ∧ Q (.ref x) H2) (E σ)
theorem pe_makeS (M : Mk X.K C f) (F : FnOk X.prog X.w X.K X.mg X.base CX k f fd ps sp) (hr : Room (k + 1) X.A) (hg : Gl X x) (hm : X.mg x = some (.ref C)) (hb : Binds X.K fd ps ds) (hd : Vals dvs ds) (hx : ∀ σ, PassesAt CX X σ (E σ))
    (ha : PA X (e :: es) t) (hdb : (x == ("__debug__" : Str)) = false := by decide) (he : starEach (e :: es) X.env = (false, eval e X.env) :: starEach es X.env := by rfl) (hpl : (backTo pos (starEach es X.env)).any (·.1) = false := by rfl) :
    PE X (.Call (.Name x p) (e :: es) [] pos) (tMakeS C sp dvs E t) := by
  refine ⟨fun pins s σ H Q I h => ?_⟩
  refine wpAny_Call_Name_kw (ld_glob I hg hm ?_ hdb)
  refine PySem.W.callWith_K (h₀ := X.base) I.ok.mod.kin M.kp (thn (ha.run pos pins s σ H _ I h) fun us s1 ⟨vs, H1, I1, r, q⟩ => ⟨I1.kIn, ?_⟩) he hpl
  exact run_makeS M F hr hb hd (hx σ) I1 r q
def tMethS (C : Addr) (m : Str) (sp : Sp) (E : L2.St → XK) (ta : TE) (t : TA) : TE := fun σ H Q => ta σ H fun x H1 => ∃ a dx fs, x = .ref a ∧ H1 a = some (.ins C dx fs) ∧ fs.lookup m = none ∧ t σ H1 fun vs H2 => sp (x :: vs) H2 Q (E σ)
theorem pe_methS {pl : Sem Bool} (he : PE X o ta) (c : Cls X.K C) (hm : Meth X.K C m f) (F : FnOk X.prog X.w X.K X.mg X.base CX k f fd ps sp) (hr : Room k X.A) (hb : Binds X.K fd ps []) (hx : ∀ σ, PassesAt CX X σ (E σ)) (ha : PA X (e :: es) t)
    (hst : starEach (e :: es) X.env = (false, eval e X.env) :: starEach es X.env := by rfl) (hpl : (backTo pos (starEach es X.env)).any (·.1) = false := by rfl)
    (ht : eval (.Call (.Attribute o m apos) (e :: es) [] pos) X.env = (do
      let ov ← eval o X.env
      standAt apos.atName
      let (f, first) ← holding [ov] (getMethod ov m pl)
      callWith pos f first (backTo pos (starEach (e :: es) X.env)) (backToKw pos (keywordEach [] X.env))) := by rfl) :
    PE X (.Call (.Attribute o m apos) (e :: es) [] pos) (tMethS C m sp E ta t) := by
  refine ⟨fun pins s σ H Q I h => ?_⟩
  refine PySem.W.methodCall_KW (pl := pl) (thn (he.run pins s σ H _ I h) fun u s1 ⟨x, H1, I1, rx, a, dx, fs, ex, ea, l, q⟩ => ?_) ht
  subst ex
  obtain rfl : u = Value.ref a := rx
  refine getmeth_ok I1 ea c hm l ?_
  refine PySem.W.callWith_K (first := [.ref a]) (h₀ := X.base) I.ok.mod.kin hm.kp (thn (ha.run pos pins s1 σ H1 _ I1 q) fun us s2 ⟨vs, H2, I2, r, q2⟩ => ⟨I2.kIn, ?_⟩) hst hpl
  exact run_fnS (us := .ref a :: us) (vs := .ref a :: vs) F hr hb (hx σ) I2 (.cons rfl r) q2
end
section
variable {X : Cx} {C : Addr} {x : Str} {p pos : Pos}
/-- raise C(), C without an __init__ of its own -/
theorem pmk_mk0 (T : OexC X.K C) (iC : PySem.W.findIn X.K (.ref C) "__init__" = some (some (.builtin "ValueError.__init__"))) (hg : Gl X x) (hm : X.mg x = some (.ref C)) (hdb : (x == ("__debug__" : Str)) = false := by decide) :
    PMk X (.Call (.Name x p) [] [] pos) (fun _ H Q => Q (.ref C) none H) := by
  intro pins s σ H Q I h
  refine wpAny_Call_Name_kw (ld_glob I hg hm ?_ hdb)
  refine PySem.W.callWith_K0 (first := []) I.kIn T.kC ?_
  show wpAny _ _ (call (.ref C) []) _ _ _
  have RS : Raises X (.ref C) := raises_own T.exC T.tyC
  obtain ⟨nm, q, N, bs, bm, sn, sub, ab, col, dd, k0, k1, k2, k3, k5, hC, hbm⟩ := T.cls
  obtain ⟨hp, g, dr, tk, os⟩ := s
  have up : hp.objs.size ≤ hp.objs.size + 1 := Nat.le_succ _
  have kk : ∀ b o, hp.get? b = some o → ((hp.push (PySem.W.kdv_tup [])).push (PySem.HandSPX.excO C hp.objs.size)).get? b = some o := fun b o y => Heap.get?_push_of_some _ (Heap.get?_push_of_some _ y)
  have he : ((hp.push (PySem.W.kdv_tup [])).push (PySem.HandSPX.excO C hp.objs.size)).get? (hp.objs.size + 1) = some (PySem.HandSPX.excO C hp.objs.size) := by heap_get
  have hnew : hp.get? (hp.objs.size + 1) = none := by
    cases z : hp.get? (hp.objs.size + 1) with
    | none => rfl
    | some o => exact absurd (Heap.lt_size z) (Nat.not_lt.mpr (Nat.le_succ _))
  have I2 : Inv X pins σ (upd H (hp.objs.size + 1) (exo (hp.objs.size + 1) C none)) ⟨(hp.push (PySem.W.kdv_tup [])).push (PySem.HandSPX.excO C hp.objs.size), g, dr, tk, os⟩ :=
    I.laid (t' := tk) (a := hp.objs.size + 1) (o := exo (hp.objs.size + 1) C none) (h' := (hp.push (PySem.W.kdv_tup [])).push (PySem.HandSPX.excO C hp.objs.size)) kk up (exo_ok he)
  refine wpAny_call (PySem.ExV.own_call (fv := .builtin "ValueError.__init__") F.excBase_ValueError (fun Y => PySem.HandSPX.refsVE_contains Y bm hbm) (I.kIn _ _ hC) (PySem.W.looks_findIn I.kIn iC) (fun self => .of_pure (F.excBase_ValueError.init.bind self)) (Nat.zero_le _)
    (PySem.HandSPX.init_base F.excBase_ValueError (fun Y => PySem.HandSPX.refsVE_contains Y bm hbm) (I2.kIn _ _ hC) he (Nat.zero_le _) fun h' t2 kh hx => ?_))
  refine ⟨rfl, hp.objs.size + 1, _, _, ⟨hp, g, dr, tk, os⟩, H, .ref C, none, rfl, I, fun b o y => kh b o (Nat.ne_of_lt (Nat.lt_succ_of_lt (Heap.lt_size y))) (kk b o y), hnew, hx, ⟨rfl, rfl⟩, rfl, rfl, I.hok.fresh up, rfl, I.bare, RS, h⟩
end
/-- isinstance(e, c), e the exception that the suite holds, without a dict -/
def rIsE0 (K : PySem.W.Frag) (cls : Value) (d : Option Addr) (D a : Addr) : List V → Hp → VK → Prop := fun xs H Q => ∃ (c : V) (cv : Value) (b : Bool), xs = [.ref a, c] ∧ cls = .ref D ∧ d = none ∧ ClsV c cv ∧ PySem.W.kitOne K (.ref D) cv = some b ∧ Q (.bl b) H
theorem call_isE0 {X : Cx} {a D : Addr} {cls : Value} {d : Option Addr} {oe : Obj} {pn : List (Addr × Obj)} (C : ExcC X.K D) (hz : Zc cls d oe) (hf : ∃ vs, oe.data = .fields vs) : CallR (X.suite a ((a, oe) :: pn)) (.builtin "isinstance") (rIsE0 X.K cls d D a) := by
  intro pins s σ H xs us Q I r h
  obtain ⟨c, cv, b, rfl, ec, ed, k, e, q⟩ := h
  obtain ⟨u1, u2, rfl, r1, r2⟩ := vals2 r
  cases r1
  have e2 := k.eq r2
  subst e2 ec ed
  obtain ⟨hget, _⟩ := I.pin (a, oe) (List.mem_append.mpr (.inl List.mem_cons_self))
  obtain ⟨vs, hv⟩ := hf
  have J : PySem.W.InstAt s.heap a oe D none := ⟨hget, hz.1, by unfold PySem.W.notCls; rw [hv] <;> rfl, by rw [hz.2]; exact True.intro⟩
  exact PySem.W.kia_one (PySem.W.ek_kitx C.hg C.hk C.hs C.hd C.ha C.hn C.ht C.hm) I.kIn J e (fun z => nomatch z) fun tk => ⟨.bl b, H, I.kept (t' := tk) fun _ _ z => z, rfl, q⟩
theorem pe_bmK {X : Cx} {K : PySem.W.Frag} {c : Expr} {T : String} {r : V → List V → Hp → VK → Prop} {to : TE} {t : TA} (hK : X.K = K) (h : PE X c (tBM X.K T r to t)) : PE X c (tBM K T r to t) := hK ▸ h
theorem call_isE1 {X : Cx} {K : PySem.W.Frag} {a D : Addr} {cls : Value} {d : Option Addr} {oe : Obj} {pn : List (Addr × Obj)} (hK : X.K = K) (C : ExcC K D) (hz : Zc cls d oe) (hf : ∃ vs, oe.data = .fields vs) : CallR (X.suite a ((a, oe) :: pn)) (.builtin "isinstance") (rIsE0 K cls d D a) := by
  subst hK
  exact call_isE0 C hz hf
end MS

/-! list(text) -/
namespace LS
open PySem PySem.Spec PyProof.Rows L2
def rLstS : List V → Hp → VK → Prop := fun xs H Q => ∃ z : Str, xs = [.str z] ∧ z.cps.size ≤ sizeLine ∧ ∀ l, H l = none → Q (.ref l) (upd H l (.lst (z.cps.toList.map fun c => V.str ⟨#[c]⟩)))
theorem call_list_tx {X : Cx} (hc : X.calm = true) : CallR X (.type "list") rLstS := by
  intro pins s σ H xs us Q I r h
  obtain ⟨z, rfl, hz, q⟩ := h
  obtain ⟨u, rfl, t, rfl⟩ := vals1 r
  refine call_list_str (I.ok.hd hc) z t (hn := hz) fun h' tk acc' c' hkeep hS hacc => ?_
  refine ⟨.ref s.heap.objs.size, upd H s.heap.objs.size (.lst (z.cps.toList.map fun c => V.str ⟨#[c]⟩)), I.laid hkeep (Nat.le_refl _) (show ObjOk X.prog X.w _ _ _ (.lst (z.cps.toList.map fun c => V.str ⟨#[c]⟩)) from ⟨?_, acc'.toList, c', ?_, ?_⟩), rfl, q _ (I.hok.fresh (Nat.le_refl _))⟩
  · rw [List.length_map, Array.length_toList]; exact hz
  · have el : acc'.toList.length = acc'.size := by simp
    refine vals_of_at (by rw [List.length_map, el, hacc.1, Array.length_toList]) fun j x w h1 h2 => ?_
    obtain ⟨c, u, hcu, rfl⟩ := hacc.2 j w (by rw [← Array.getElem?_toList]; exact h2)
    rw [List.getElem?_map, Array.getElem?_toList, hcu] at h1
    cases h1
    exact ⟨u, rfl⟩
  · simpa using hS
end LS

namespace Law
open PySem PySem.Spec PyProof.Rows L2 Evl EK LamX TR GX Fg
theorem PenAt.now {p : PenI} {H0 H : Hp} {n : Nat} (P : PenAt p H0 H n) : PenAt p (del H p.d) H n ∧ Ex H0 (del H p.d) := by
  obtain ⟨e0, h0, hc, hl, op, lf, ho, hd⟩ := P
  have nc : p.c ≠ p.d := fun z => by
    rw [z, h0] at hc
    cases hc
  refine ⟨⟨fun b o h => ?_, del_same, by rw [del_ne nc]; exact e0 _ _ hc, hl, op, lf, ho, hd⟩, fun b o h => ?_⟩
  · by_cases hb : b = p.d
    · rw [hb, del_same] at h
      cases h
    · rw [del_ne hb] at h
      exact h
  · rw [del_ne (fun z => by rw [z, h0] at h; cases h)]
    exact e0 _ _ h
/-- no table in it -/
def NT (H : Hp) : Prop := ∀ b ps, H b ≠ some (.tbl ps)
def noT (H : Hp) : Hp := fun b => match H b with
  | some (.tbl _) => none
  | o => o
theorem noT_of {H : Hp} {b : Addr} {o : HO} (h : H b = some o) (n : ∀ ps, o ≠ .tbl ps) : noT H b = some o := by
  unfold noT
  rw [h]
  cases o with
  | tbl ps => exact absurd rfl (n ps)
  | _ => rfl
theorem noT_nt (H : Hp) : NT (noT H) := fun b ps z => by
  unfold noT at z
  split at z
  · cases z
  · rename_i h
    exact h ps z
theorem noT_ex (H : Hp) : Ex (noT H) H := fun b o z => by
  unfold noT at z
  split at z
  · cases z
  · exact z
theorem noT_none {H : Hp} {b : Addr} (h : H b = none) : noT H b = none := by
  unfold noT
  rw [h]
theorem noT_n (H : Hp) : ExtN H (noT H) := fun b o h n => noT_of h n
theorem tabs_del {T : List (Addr × Str)} {H : Hp} {d : Addr} {kvs : List (Key × V)} (h : Tabs T H) (hd : H d = some (.dK kvs)) : Tabs T (del H d) := fun q hq => by
  obtain ⟨ps, h1, h2, h3⟩ := h q hq
  refine ⟨ps, by rw [del_ne (fun z => by rw [z, hd] at h1; cases h1)]; exact h1, h2, fun pos cv hc => ?_⟩
  obtain ⟨c, e1, e2⟩ := h3 pos cv hc
  refine ⟨c, e1, ?_⟩
  rw [del_ne (fun z => by
    rw [z, hd] at e2
    unfold CodeO at e2
    cases e2)]
  exact e2
/-- the law's state: the pen over a base without tables, and the tables -/
structure Sta (T : List (Addr × Str)) (p : PenI) (B H : Hp) (n : Nat) : Prop where
  pen : PenAt p B H n
  nt : NT B
  tabs : Tabs T H
section
variable {T : List (Addr × Str)} {p : PenI} {B H H' H1 : Hp} {n m : Nat}
theorem Sta.plus (S : Sta T p B H n) : PenAt p (del H p.d) H n := S.pen.now.1
theorem Sta.up (S : Sta T p B H n) : Ex B (del H p.d) := S.pen.now.2
theorem Sta.td (S : Sta T p B H n) : Tabs T (del H p.d) := by
  obtain ⟨kvs, h⟩ := S.pen.dict
  exact tabs_del S.tabs h
theorem Sta.back (S : Sta T p B H n) (P' : PenAt p (del H p.d) H' m) : Sta T p B H' m where
  pen := ⟨S.up.trans P'.1, S.pen.2.1, S.pen.2.2.1, S.pen.2.2.2.1, P'.2.2.2.2⟩
  nt := S.nt
  tabs := S.td.ext P'.1
theorem Sta.ex (S : Sta T p B H n) (e : Ex H H') : Sta T p B H' n := ⟨S.pen.ex e, S.nt, S.tabs.ext e⟩
theorem Sta.le (S : Sta T p B H n) (h : n ≤ m) : Sta T p B H m := ⟨S.pen.le h, S.nt, S.tabs⟩
theorem Sta.exN (S : Sta T p B H n) (e : ExtN H H') (t : Tabs T H') : Sta T p B H' n where
  pen := by
    obtain ⟨e0, h0, hc, hl, op, lf, ho, hd⟩ := S.pen
    exact ⟨fun b o h => e b o (e0 b o h) (fun ps z => S.nt b ps (by rw [h, z])), h0, hc, hl, op, lf, ho, e _ _ hd (fun ps z => by cases z)⟩
  nt := S.nt
  tabs := t
theorem Sta.bn (S : Sta T p B H n) (e : ExtN H H') : Ex B H' := fun b o h => e b o (S.pen.1 b o h) (fun ps z => S.nt b ps (by rw [h, z]))
theorem Sta.grow (S : Sta T p B H n) (P' : PenAt p H1 H' m) (e : Ex (del H p.d) H1) : Sta T p (noT H1) H' m ∧ Ex B (noT H1) := by
  obtain ⟨e0, h0, hc, hl, op, lf, ho, hd⟩ := P'
  refine ⟨⟨⟨(noT_ex H1).trans e0, noT_none h0, noT_of hc (fun ps z => by cases z), hl, op, lf, ho, hd⟩, noT_nt H1, S.td.ext (e.trans e0)⟩, fun b o h => ?_⟩
  exact noT_of ((S.up.trans e) b o h) (fun ps z => S.nt b ps (by rw [h, z]))
/-- all that stands is kept -/
theorem Sta.hold (S : Sta T p B H n) : ∃ B', Sta T p B' H n ∧ Ex B B' ∧ ∀ b o, H b = some o → b ≠ p.d → (∀ ps, o ≠ .tbl ps) → B' b = some o := by
  obtain ⟨S', e⟩ := S.grow S.plus (Ex.refl _)
  exact ⟨_, S', e, fun b o h nb nt => noT_of (by rw [del_ne nb]; exact h) nt⟩
end
def okT (d : PyData) : Bool := d.showable && decide (d.depth ≤ 64) && decide (d.shown.length ≤ 1000)
theorem rx_tup {K : PySem.W.Frag} {H : Hp} {r : Addr} {xs : List V} {ds : List PyData} {Q : VK} (hr : H r = some (.tup xs)) (hd : DY.DEs K H xs ds) (ok : okT (.tuple ds) = true) (q : Q (.str (PyData.tuple ds).shown) H) : DY.RX K [.ref r] H Q := by
  unfold okT at ok
  rw [Bool.and_eq_true, Bool.and_eq_true, decide_eq_true_eq, decide_eq_true_eq] at ok
  exact ⟨.inr ⟨r, xs, ds, rfl, st_of hr, hd, ok.1.1, ok.1.2, Nat.le_trans ok.2 (by decide), q⟩⟩

structure Exm (K : PySem.W.Frag) (CL CW CO CT : Addr) : Prop where
  ll : PySem.W.exmOne K (.ref CL) (.ref CL) = some true
  wl : PySem.W.exmOne K (.ref CW) (.ref CL) = some false
  ww : PySem.W.exmOne K (.ref CW) (.ref CW) = some true
  ol : PySem.W.exmOne K (.ref CO) (.ref CL) = some false
  ow : PySem.W.exmOne K (.ref CO) (.ref CW) = some false
  oo : PySem.W.exmOne K (.ref CO) (.ref CO) = some true
  tl : PySem.W.exmOne K (.ref CT) (.ref CL) = some false
  tw : PySem.W.exmOne K (.ref CT) (.ref CW) = some false
  to : PySem.W.exmOne K (.ref CT) (.ref CO) = some false
  tt : PySem.W.exmOne K (.ref CT) (.ref CT) = some true
structure NoF (K : PySem.W.Frag) (CL CW CO CT : Addr) : Prop where
  l : PySem.W.findIn K (.ref CL) "letters" = some none
  w : PySem.W.findIn K (.ref CW) "place" = some none
  o : PySem.W.findIn K (.ref CO) "order" = some none
  t1 : PySem.W.findIn K (.ref CT) "what" = some none
  t2 : PySem.W.findIn K (.ref CT) "many" = some none
  t3 : PySem.W.findIn K (.ref CT) "most" = some none
structure Gs (mg : Str → Option Value) (CL CW CO CT C0 : Addr) : Prop where
  l : mg "BadLetters" = some (.ref CL)
  w : mg "BadWords" = some (.ref CW)
  o : mg "BadOrder" = some (.ref CO)
  t : mg "TooMany" = some (.ref CT)
  s : mg "SkipsError" = some (.ref C0)
theorem room70 {k : Nat} {A : Around} (r : Room k A) : A.units + 70 < cLine := by
  have := r.un
  omega
/-- what _law_met makes of an error -/
def Emet (K : PySem.W.Frag) (CL CW CO CT : Addr) (Q : VK) : XK := fun cls d H' => ∃ dd, d = some dd ∧
  ((∃ v, cls = .ref CL ∧ H' dd = some (.xd [("letters", v)]) ∧ RV.RX K [v] H' fun s H2 => H2 = H' ∧ ∀ r, H2 r = none → Q (.ref r) (upd H2 r (.tup [.str "letters", s, .bl true]))) ∨
   (∃ v, cls = .ref CW ∧ H' dd = some (.xd [("place", v)]) ∧ ∀ r, H' r = none → Q (.ref r) (upd H' r (.tup [.str "words", v]))) ∨
   (∃ v, cls = .ref CO ∧ H' dd = some (.xd [("order", v)]) ∧ RV.RX K [v] H' fun s H2 => ∀ r, H2 r = none → Q (.ref r) (upd H2 r (.tup [.str "order", s]))) ∨
   (∃ x y z, cls = .ref CT ∧ H' dd = some (.xd [("most", x), ("many", y), ("what", z)]) ∧ ∀ r, H' r = none → Q (.ref r) (upd H' r (.tup [z, y, x]))))
theorem takes_len {X : Cx} {W : WX} (tk : Takes X W) : Takes X (fun cls d σ H => σ.length = X.N.length → W cls d σ H) := fun u s' ⟨a, B, sI, pins, σ, H, cls, d, e, I, nb, up, sky, na, os, ag, h⟩ =>
  tk u s' ⟨a, B, sI, pins, σ, H, cls, d, e, I, nb, up, sky, na, os, ag, h I.len⟩
def TTmet (K : PySem.W.Frag) (CL CW CO CT : Addr) : (XK → Hp → VK → Prop) → Hp → VK → Prop := fun tl H Q => tl (Emet K CL CW CO CT Q) H fun _ H' => ([] : List V).length ≤ sizeLine ∧ ∀ r, H' r = none → Q (.ref r) (upd H' r (.tup []))
section
variable {X : Cx}
theorem met_gives {q : Str} {g C_BadLetters C_BadWords C_BadOrder C_TooMany fL fW fO fT C_SkipsError : Addr} {cdg : Value} (hg : X.A.guards = some []) (hrm : Room 1 X.A) (g_repr : X.mg "repr" = none) (T : Tx X.mg) (E1 : ErrC X.K C_BadLetters fL C_SkipsError) (E2 : ErrC X.K C_BadWords fW C_SkipsError) (E3 : ErrC X.K C_BadOrder fO C_SkipsError) (E4 : ErrC X.K C_TooMany fT C_SkipsError)
    (G : Gs X.mg C_BadLetters C_BadWords C_BadOrder C_TooMany C_SkipsError) (NF : NoF X.K C_BadLetters C_BadWords C_BadOrder C_TooMany) (EX : Exm X.K C_BadLetters C_BadWords C_BadOrder C_TooMany) :
    GivesTo X N_lmet "_law_met" (defScope s_lmet) g cdg (defBody s_lmet) "_law_call" q (TTmet X.K C_BadLetters C_BadWords C_BadOrder C_TooMany) := by
  intro f c' s H Q tl act hc h
  obtain ⟨_, _, _, XF_BadLetters, EX_BadLetters, k1⟩ := E1
  obtain ⟨_, _, _, XF_BadWords, EX_BadWords, k2⟩ := E2
  obtain ⟨_, _, _, XF_BadOrder, EX_BadOrder, k3⟩ := E3
  obtain ⟨_, _, _, XF_TooMany, EX_TooMany, k4⟩ := E4
  obtain ⟨g_BadLetters, g_BadWords, g_BadOrder, g_TooMany, g_SkipsError⟩ := G
  have hu70 := hrm.un
  obtain ⟨N_BadLetters_letters, N_BadWords_place, N_BadOrder_order, N_TooMany_what, N_TooMany_many, N_TooMany_most⟩ := NF
  refine ⟨_, pss_cons (EK.ps_tryN (X := (cxOf C8.CX0 X.prog X.w X.K X.mg X.base N_lmet "_law_met" (defScope s_lmet) g cdg X.A X.stack s H C8.E0).nox) (i := 1) (n := "e")
      (tb := fun W D σ H => ∃ Ech : XK, (∀ cls d σ' H', Ech cls d H' → σ'.length = 2 → W cls d σ' H') ∧ σ[0]? = some (some (.ref f)) ∧ H c' = some (CodeO c' q) ∧ tl Ech H fun _ H' => D.nx σ H')
      rfl rfl sc_lmet.nd rfl rfl LamX.takes0 (fun W pn xe tk _ => ?_)
      (EK.HdsN.cons ⟨(by rfl), (by decide), .inl g_BadLetters⟩ (fun a oe cls d pn hz hf => (pss_one (ps_ret (pe_tup (pa_cons pe_str (pa_cons (pe_callB (show CallR _ _ (RV.rRv X.K) from RV.call_reprV (by exact hg) (by show X.A.units + 3 + 70 < cLine; omega)) (by rfl) g_repr boot_repr (pa_cons (pe_xf XF_BadLetters N_BadLetters_letters hz hf (pv 1)) pa_nil)) (pa_cons (pe_callB (EK.call_isE EX_BadLetters hz hf) (by rfl) T.isinstance PyProof.Rows.boot_isinstance (pa_cons (pv 1) (pa_cons (pe_glob (v := .ref C_SkipsError) rfl g_SkipsError rfl) pa_nil))) pa_nil))))))) (EK.HdsN.cons ⟨(by rfl), (by decide), .inl g_BadWords⟩ (fun a oe cls d pn hz hf => (pss_one (ps_ret (pe_tup (pa_cons pe_str (pa_cons (pe_xf XF_BadWords N_BadWords_place hz hf (pv 1)) pa_nil)))))) (EK.HdsN.cons ⟨(by rfl), (by decide), .inl g_BadOrder⟩ (fun a oe cls d pn hz hf => (pss_one (ps_ret (pe_tup (pa_cons pe_str (pa_cons (pe_callB (show CallR _ _ (RV.rRv X.K) from RV.call_reprV (by exact hg) (by show X.A.units + 3 + 70 < cLine; omega)) (by rfl) g_repr boot_repr (pa_cons (pe_xf XF_BadOrder N_BadOrder_order hz hf (pv 1)) pa_nil)) pa_nil)))))) (EK.HdsN.cons ⟨(by rfl), (by decide), .inl g_TooMany⟩ (fun a oe cls d pn hz hf => (pss_one (ps_ret (pe_tup (pa_cons (pe_xf XF_TooMany N_TooMany_what hz hf (pv 1)) (pa_cons (pe_xf XF_TooMany N_TooMany_many hz hf (pv 1)) (pa_cons (pe_xf XF_TooMany N_TooMany_most hz hf (pv 1)) pa_nil))))))) EK.HdsN.nil))))) (pss_one (ps_ret (pe_tup pa_nil))), ?_⟩
  · refine ⟨fun pins s' σ H' D I h' => ?_⟩
    obtain ⟨Ech, hW, h1, h2, h3⟩ := h'
    exact (pss_one (ps_expr (act _ pn xe Ech _ _ (takes_len tk) hW))).run pins s' σ H' D I ⟨h1, h2, h3⟩
  · refine ⟨Emet X.K C_BadLetters C_BadWords C_BadOrder C_TooMany Q, ?_, rfl, hc, ?_⟩
    · rintro cls d σ' H' h2 h3
      obtain ⟨u1, u2, rfl⟩ : ∃ u1 u2, σ' = [u1, u2] := by
        match σ', h3 with
        | [a, b], _ => exact ⟨a, b, rfl⟩
      obtain ⟨dd, rfl, ⟨v, rfl, hx, q1⟩ | ⟨v, rfl, hx, q1⟩ | ⟨v, rfl, hx, q1⟩ | ⟨x, y, z, rfl, hx, q1⟩⟩ := h2
      · refine ⟨true, EX.ll, fun _ a ha => ?_, fun z => nomatch z⟩
        refine ⟨_, rfl, rfl, rfl, dd, _, _, rfl, hx, rfl, ?_⟩
        obtain ⟨v2, d2, e1, e2, e3, e4, e5, e6, _, e7⟩ := q1.ex
        exact ⟨v2, d2, e1, e2, e3, e4, e5, e6, _, rfl, _, _, true, rfl, rfl, ⟨dd, _, rfl, hx⟩, .own _, k1, by show 3 ≤ sizeLine; decide, fun r hr2 => e7 r hr2⟩
      · refine ⟨false, EX.wl, (fun z => nomatch z), fun _ => ⟨true, EX.ww, fun _ a ha => ?_, fun z => nomatch z⟩⟩
        refine ⟨_, rfl, rfl, rfl, dd, _, _, rfl, hx, rfl, by show 2 ≤ sizeLine; decide, fun r hr2 => ?_⟩
        exact q1 r hr2
      · refine ⟨false, EX.ol, (fun z => nomatch z), fun _ => ⟨false, EX.ow, (fun z => nomatch z), fun _ => ⟨true, EX.oo, fun _ a ha => ?_, fun z => nomatch z⟩⟩⟩
        refine ⟨_, rfl, rfl, rfl, dd, _, _, rfl, hx, rfl, ?_⟩
        obtain ⟨v2, d2, e1, e2, e3, e4, e5, e6, e7⟩ := q1.ex
        exact ⟨v2, d2, e1, e2, e3, e4, e5, e6, by show 2 ≤ sizeLine; decide, fun r hr2 => e7 r hr2⟩
      · refine ⟨false, EX.tl, (fun z => nomatch z), fun _ => ⟨false, EX.tw, (fun z => nomatch z), fun _ => ⟨false, EX.to, (fun z => nomatch z), fun _ => ⟨true, EX.tt, fun _ a ha => ?_, fun z => nomatch z⟩⟩⟩⟩
        refine ⟨_, rfl, rfl, rfl, dd, _, _, rfl, hx, rfl, _, rfl, rfl, rfl, dd, _, _, rfl, hx, rfl, _, rfl, rfl, rfl, dd, _, _, rfl, hx, rfl, by show 3 ≤ sizeLine; decide, fun r hr2 => ?_⟩
        exact q1 r hr2
    · exact h
end
end Law

/-! == and != of data without dicts; nothing is asked of the texts in it -/
namespace EQ
open PySem PySem.Spec PyProof.Rows L2
section
variable {X : Cx}
def rEqP (K : PySem.W.Frag) : R2 := fun x y H Q => ∃ d e, Dp K H x d ∧ Dp K H y e ∧ d.plain = true ∧ e.plain = true ∧ d.depth ≤ 60 ∧ Q (.bl (PyData.eqv d e)) H
def rNeP (K : PySem.W.Frag) : R2 := fun x y H Q => ∃ d e, Dp K H x d ∧ Dp K H y e ∧ d.plain = true ∧ e.plain = true ∧ d.depth ≤ 60 ∧ Q (.bl (!PyData.eqv d e)) H
theorem op_eqP (hu : X.A.units + 64 < cLine) : OpR X (compareOp .Eq) (rEqP X.K) := by
  intro pins s σ H x y v u Q I rx ry h
  obtain ⟨d, e, hd, he, sd, se, hp, q⟩ := h
  obtain ⟨as, r1⟩ := Dp.reads I d x v hd rx
  obtain ⟨bs, r2⟩ := Dp.reads I e y u he ry
  exact SeqAt.eq_plain r1 r2 sd se (by omega) ⟨.bl _, H, I, rfl, q⟩
theorem op_neP (hu : X.A.units + 64 < cLine) : OpR X (compareOp .NotEq) (rNeP X.K) := by
  intro pins s σ H x y v u Q I rx ry h
  obtain ⟨d, e, hd, he, sd, se, hp, q⟩ := h
  obtain ⟨as, r1⟩ := Dp.reads I d x v hd rx
  obtain ⟨bs, r2⟩ := Dp.reads I e y u he ry
  exact SeqAt.ne_plain r1 r2 sd se (by omega) ⟨.bl _, H, I, rfl, q⟩
end
end EQ

/-! dict(zip(xs, ys)) of lists of ints -/
namespace DZ
open PySem PySem.Spec PyProof.Rows L2 DY
theorem prs_of : ∀ {ns ms : List Int} {us vs : List Value}, Vals (ns.map V.int) us → Vals (ms.map V.int) vs → ns.length = ms.length →
    ∃ prs : List (Key × Value), KV (kvI (ns.zip ms)) prs ∧ prs.length = ns.length ∧ ∀ (i : Nat) (k v : Value), us[i]? = some k → vs[i]? = some v → ∃ q, prs[i]? = some (q, v) ∧ keyIs q k = true
  | [], [], _, _, .nil, .nil, _ => ⟨[], .nil, rfl, fun i k v e => by simp at e⟩
  | [], m :: ms, _, _, _, _, h => by simp at h
  | n :: ns, [], _, _, _, _, h => by simp at h
  | n :: ns, m :: ms, _, _, @Paired.cons _ _ _ _ u _ _ r1 r2, @Paired.cons _ _ _ _ y _ _ s1 s2, h => by
    obtain ⟨prs, r, hl, hp⟩ := prs_of r2 s2 (by simpa using h)
    refine ⟨(.inl n, y) :: prs, .cons ⟨rfl, s1⟩ r, by rw [List.length_cons, List.length_cons, hl], fun i k v e1 e2 => ?_⟩
    cases i with
    | zero =>
      have e1' : u = k := Option.some.inj e1
      have e2' : y = v := Option.some.inj e2
      subst e1'
      subst e2'
      obtain ⟨t, rfl⟩ := r1
      exact ⟨.inl n, rfl, keyIs_int n t⟩
    | succ i =>
      obtain ⟨q, e3, e4⟩ := hp i k v (by simpa using e1) (by simpa using e2)
      exact ⟨q, by simpa using e3, e4⟩
theorem merge_new : ∀ (more acc : List (Key × V)), ((acc ++ more).map (·.1)).Nodup → mergeK acc more = acc ++ more
  | [], acc, _ => by rw [List.append_nil]; rfl
  | p :: r, acc, h => by
    have h2 : ((acc ++ [p] ++ r).map (·.1)).Nodup := by rw [List.append_assoc]; exact h
    have hn : p.1 ∉ acc.map (·.1) := fun z => by
      rw [List.map_append, List.nodup_append] at h
      exact h.2.2 _ z _ List.mem_cons_self rfl
    have e : putK acc p.1 p.2 = acc ++ [p] := by
      unfold putK
      rw [if_neg]
      intro z
      obtain ⟨y, hy, ey⟩ := List.any_eq_true.mp z
      have ey : y.1 = p.1 := by simpa using ey
      exact hn (ey ▸ List.mem_map_of_mem hy)
    show mergeK (putK acc p.1 p.2) r = _
    rw [e, merge_new r _ h2, List.append_assoc]
    rfl
theorem zip_keys {ns ms : List Int} (h : ns.length = ms.length) : (kvI (ns.zip ms)).map (·.1) = ns.map Sum.inl := by
  unfold kvI
  rw [List.map_map]
  have : ((fun x : Key × V => x.1) ∘ fun p : Int × Int => ((.inl p.1, V.int p.2) : Key × V)) = Sum.inl ∘ Prod.fst := rfl
  rw [this, ← List.map_map, List.map_fst_zip (by omega)]
theorem merge_zip {ns ms : List Int} (h : ns.length = ms.length) (nd : ns.Nodup) : mergeK [] (kvI (ns.zip ms)) = kvI (ns.zip ms) := by
  refine merge_new _ [] ?_
  rw [List.nil_append, zip_keys h]
  unfold List.Nodup at nd ⊢
  rw [List.pairwise_map]
  exact nd.imp fun hab e => hab (Sum.inl.inj e)
def tDictZip (K : PySem.W.Frag) (ta : TA) : TE := fun σ H Q => ta σ H fun vs H1 => ∃ (a b : Addr) (ns ms : List Int), vs = [.ref a, .ref b] ∧ SqL K H1 a (ns.map V.int) ∧ SqL K H1 b (ms.map V.int) ∧ ns.length = ms.length ∧ ns.Nodup ∧
  ∀ d, H1 d = none → Q (.ref d) (upd H1 d (.dK (kvI (ns.zip ms))))
theorem pe_dictZipA {X : Cx} {e e2 : Expr} {ta : TA} {p p2 q pos : Pos} (hg : Gl X "dict") (hm : X.mg "dict" = none) (hg2 : Gl X "zip") (hm2 : X.mg "zip" = none) (ha : PA X [e, e2] ta) (hc : X.calm = true := by rfl)
    (hs : starEach [e, e2] X.env = (false, eval e X.env) :: starEach [e2] X.env := by rfl) (hpl : (backTo q (starEach [e2] X.env)).any (·.1) = false := by rfl) :
    PE X (.Call (.Name "dict" p) [.Call (.Name "zip" p2) [e, e2] [] q] [] pos) (tDictZip X.K ta) := by
  refine ⟨fun pins s σ H Q I h => ?_⟩
  refine Call_ (ld_blt I hg hm PyProof.Rows.boot_dict ?_)
  refine PyProof.Rows.callWith_type1 (PyProof.Rows.args_cons ?_ rfl) rfl rfl
  refine Call_ (ld_blt I hg2 hm2 PyProof.Rows.boot_zip (PyProof.Rows.callWith_type1 (thn (ha.run q pins s σ H _ I h) fun us s1 ⟨vs, H1, I1, r1, q1⟩ => ?_) hs hpl))
  obtain ⟨a, b, ns, ms, ex, hqx, hqy, hnm, nd, q1⟩ := q1
  subst ex
  cases r1 with
  | cons r rr =>
    cases rr with
    | cons r' rr =>
      cases rr
      cases r
      cases r'
      obtain ⟨its, rv, p1, hz1⟩ := I1.list hqx
      obtain ⟨its2, rv2, p2', hz2⟩ := I1.list hqy
      obtain ⟨prs, rel, hl, hp⟩ := prs_of rv rv2 hnm
      have l1 : its.length = ns.length := by rw [← rv.length, List.length_map]
      have l2 : its2.length = ms.length := by rw [← rv2.length, List.length_map]
      have la : a < s1.heap.objs.size := p1.lt
      have lb : b < s1.heap.objs.size := p2'.lt
      refine call_zip_2 p1.isList p2'.isList fun h' hz hTI hTO h1 h2 hsz hk => ?_
      have I2 : Inv X pins σ H1 { s1 with heap := h' } := I1.kept (t' := s1.toks) hk
      refine PyProof.Rows.args_nil ?_
      have hmin : min its.toArray.size its2.toArray.size = ns.length := by
        rw [List.size_toArray, List.size_toArray]
        omega
      have hC : PairsHave (mixKind X.prog X.w) (min its.toArray.size its2.toArray.size) (fun i k v => its.toArray[i]? = some k ∧ its2.toArray[i]? = some v) prs := ⟨by rw [hmin]; exact hl, fun i k v e => by
        obtain ⟨qk, e3, e4⟩ := hp i k v (by simpa using e.1) (by simpa using e.2)
        exact ⟨qk, e3, e4⟩⟩
      refine PySem.call_dict_pairs (PairArg.zip _ _ _ _ _ a b (PySem.W.ktu_apart s1.heap.objs.size a b la lb) its.toArray its2.toArray) (I2.ok.hd hc) ⟨hz, hTI, ⟨_, _, hTO⟩, h1, h2, (p1.keeps hk).isList, (p2'.keeps hk).isList⟩ hC (by rw [hmin]; rw [List.length_map] at hz1; exact hz1) fun h2' tk hd' k => ?_
      have hm' : (h'.objs.size == sysModules) = false := beq_eq_false_iff_ne.mpr (Nat.ne_of_gt I2.big)
      have hlen : (mergeK [] (kvI (ns.zip ms))).length ≤ sizeLine := by
        refine Nat.le_trans (length_mergeK _ []) ?_
        rw [List.length_nil, Nat.zero_add]
        unfold kvI
        rw [List.length_map, List.length_zip]
        rw [List.length_map] at hz1
        omega
      have q2 : Q (.ref h'.objs.size) (upd H1 h'.objs.size (.dK (mergeK [] (kvI (ns.zip ms))))) := by
        rw [merge_zip hnm nd]
        exact q1 _ (I1.hok.fresh (by rw [hsz]; omega))
      refine ⟨.ref h'.objs.size, upd H1 h'.objs.size (.dK (mergeK [] (kvI (ns.zip ms)))), I1.laid (t' := tk) (fun b' o' e' => k b' o' ?_ (hk _ _ e')) (by rw [hsz]; omega) (show ObjOk X.prog X.w _ _ _ (.dK (mergeK [] (kvI (ns.zip ms)))) from ⟨hlen, hm', merged [] prs, KV.merge rel .nil, hd'⟩), rfl, q2⟩
      have hlt := Heap.lt_size e'
      simp only [List.mem_cons, List.not_mem_nil, or_false, not_or]
      exact ⟨Nat.ne_of_lt (Nat.lt_of_lt_of_le hlt (Nat.le_add_right _ _)), Nat.ne_of_lt (Nat.lt_of_lt_of_le hlt (Nat.le_add_right _ _)), Nat.ne_of_lt hlt, Nat.ne_of_lt (Nat.lt_of_lt_of_le hlt (Nat.le_add_right _ _))⟩
theorem pe_dictZip {X : Cx} {e e2 : Expr} {t1 t2 : TE} {p p2 q pos : Pos} (hg : Gl X "dict") (hm : X.mg "dict" = none) (hg2 : Gl X "zip") (hm2 : X.mg "zip" = none) (h1 : PE X e t1) (h2 : PE X e2 t2) (hc : X.calm = true := by rfl)
    (hs : starEach [e, e2] X.env = (false, eval e X.env) :: starEach [e2] X.env := by rfl) (hs2 : starEach [e2] X.env = (false, eval e2 X.env) :: starEach [] X.env := by rfl) (hpl : (backTo q (starEach [e2] X.env)).any (·.1) = false := by rfl) :
    PE X (.Call (.Name "dict" p) [.Call (.Name "zip" p2) [e, e2] [] q] [] pos) (tDictZip X.K (tCons t1 (tCons t2 tNil))) := pe_dictZipA hg hm hg2 hm2 (pa_cons h1 (pa_cons h2 pa_nil hs2) hs) hc hs hpl
end DZ

namespace Law
open PySem PySem.Spec PyProof.Rows L2 Evl EK LamX TR GX Fg BT
abbrev lamR : Str := (Str.ofString "_law_are_refused" ++ ".<locals>.") ++ "<lambda>"
structure okR (d : PyData) : Prop where
  sh : d.showable = true
  dp : d.depth ≤ 64
  sz : d.shown.length ≤ 1000
theorem okR_of {d : PyData} (h : okT d = true) : okR d := by
  unfold okT at h
  rw [Bool.and_eq_true, Bool.and_eq_true, decide_eq_true_eq, decide_eq_true_eq] at h
  exact ⟨h.1.1, h.1.2, h.2⟩
def oI (O : List Nat) : List Int := O.map fun p : Nat => (p : Int)
def dL (ns : List Int) : PyData := .list (ns.map PyData.int)
/-- all orders of up to four places -/
def ups : Nat → List (List Nat)
  | 0 => [[]]
  | n + 1 => (List.range 4).flatMap fun a => (ups n).map fun r => a :: r
def perms : List (List Nat) := ([1, 2, 3, 4].flatMap ups).filter fun O => decide O.Nodup && O.all fun p => decide (p < O.length)
def ordD (O : List Nat) : List PyData := [dL (oI (O.drop 1)), dL (oI (O ++ [0])), dL (oI (O.dropLast ++ [O.length])), .list ((O.dropLast.map fun p => PyData.int (p : Nat)) ++ [.bool true]), .dict (DY.kdI ((oI O).zip (oI O))), dL (List.replicate O.length (-1))]
def ordGs (O : List Nat) : List Gt := [.seq false ((oI (O.drop 1)).map Gt.int), .seq false ((oI (O ++ [0])).map Gt.int), .seq false ((oI (O.dropLast ++ [O.length])).map Gt.int), .seq false ((O.dropLast.map fun p => Gt.int (p : Nat)) ++ [.bl true]), .oth, .seq false ((List.replicate O.length (-1 : Int)).map Gt.int)]
theorem perms_n : perms.length = 33 := by decide +kernel
theorem perms_d : ∀ O ∈ perms, ∀ d ∈ ordD O, okT d = true := by decide +kernel
theorem perms_g : ∀ O ∈ perms, ∀ g ∈ ordGs O, ordG O.length g = false := by decide +kernel
theorem ups_in : ∀ {n : Nat} {O : List Nat}, O.length = n → (∀ p ∈ O, p < 4) → O ∈ ups n
  | 0, O, h, _ => by rw [List.length_eq_zero_iff.mp h]; exact List.mem_singleton.mpr rfl
  | n + 1, [], h, _ => by simp at h
  | n + 1, a :: r, h, l => List.mem_flatMap.mpr ⟨a, List.mem_range.mpr (l a List.mem_cons_self), List.mem_map.mpr ⟨r, ups_in (by simpa using h) (fun p hp => l p (List.mem_cons_of_mem _ hp)), rfl⟩⟩
theorem perm_in {O : List Nat} (o1 : 1 ≤ O.length) (o4 : O.length ≤ 4) (nd : O.Nodup) (lt : ∀ p ∈ O, p < O.length) : O ∈ perms := by
  refine List.mem_filter.mpr ⟨List.mem_flatMap.mpr ⟨O.length, by simp; omega, ups_in rfl fun p hp => by have := lt p hp; omega⟩, ?_⟩
  rw [Bool.and_eq_true, decide_eq_true_eq, List.all_eq_true]
  exact ⟨nd, fun p hp => decide_eq_true (lt p hp)⟩
theorem cut_one (xs : List V) (h : 1 ≤ xs.length) : cutV xs (some 1) none = xs.drop 1 := by
  have e : HT.sIx xs.length 0 (some (1 : Int)) = 1 := by
    show (if (1 : Int) < 0 then ((1 : Int) + (xs.length : Int)).toNat else min (1 : Int).toNat xs.length) = 1
    rw [if_neg (by decide)]
    show min 1 xs.length = 1
    omega
  unfold cutV
  rw [HT.sIx_none, e]
  exact List.take_of_length_le (by rw [List.length_drop]; exact Nat.le_refl _)
theorem nos_non {K : PySem.W.Frag} {H : Hp} : NoS K H .non := ⟨_, .base .non, kit_ty (by decide +kernel)⟩
theorem nos_int {K : PySem.W.Frag} {H : Hp} {i : Int} : NoS K H (.int i) := ⟨_, .base (.int _), kit_ty (by decide +kernel)⟩
theorem nos_lst {K : PySem.W.Frag} {H : Hp} {a : Addr} {xs : List V} (h : H a = some (.lst xs)) : NoS K H (.ref a) := ⟨_, .base (.lst h), kit_ty (by decide +kernel)⟩
theorem nos_dct {K : PySem.W.Frag} {H : Hp} {a : Addr} {xs : List (Key × V)} (h : H a = some (.dK xs)) : NoS K H (.ref a) := ⟨_, .base (.dK h), kit_ty (by decide +kernel)⟩
theorem dot_zs (n : Nat) (h : 1 ≤ n) : Txt.mul (Str.ofString "Z") (n : Int) = tx (List.replicate n 90) := by
  rw [show Str.ofString "Z" = tx [90] by decide +kernel, mul_tx [90] (by omega), Int.toNat_natCast]
  congr 1
  induction n with
  | zero => omega
  | succ n ih =>
    cases n with
    | zero => rfl
    | succ n =>
      rw [List.replicate_succ, List.flatten_cons, ih (by omega)]
      rfl
theorem good_app {L : List Nat} {m : Nat} {ws : List (List Nat)} (W : Wds L m ws) (e : Option (List Nat)) {j : Nat} (hj : j < ws.length) : goodB L (ws.map some ++ [e]) j = true := by
  have lo := W.lo
  have h0 : ws[0]? = some ws[0] := List.getElem?_eq_getElem (by omega)
  have hjj : ws[j]? = some ws[j] := List.getElem?_eq_getElem hj
  have w0 := W.of _ (List.getElem_mem (show 0 < ws.length by omega))
  have wj := W.of _ (List.getElem_mem hj)
  have m1 := W.m1
  have m6 := W.m6
  have ej : (ws.map some ++ [e])[j]? = some (some ws[j]) := by
    rw [List.getElem?_append_left (by rw [List.length_map]; exact hj), List.getElem?_map, hjj]
    rfl
  have e0 : (ws.map some ++ [e])[0]? = some (some ws[0]) := by
    rw [List.getElem?_append_left (by rw [List.length_map]; omega), List.getElem?_map, h0]
    rfl
  unfold goodB
  rw [ej]
  show (wdB L ws[j] && lenB (ws.map some ++ [e]) ws[j] && !decide (some ws[j] ∈ (ws.map some ++ [e]).take j)) = true
  have e1 : wdB L ws[j] = true := decide_eq_true ⟨by rw [wj.len]; omega, by rw [wj.len]; omega, wj.of⟩
  have e2 : lenB (ws.map some ++ [e]) ws[j] = true := by
    unfold lenB
    rw [e0]
    exact decide_eq_true (by rw [wj.len, w0.len])
  have e3 : decide (some ws[j] ∈ (ws.map some ++ [e]).take j) = false := by
    refine decide_eq_false fun z => ?_
    rw [List.take_append_of_le_length (by rw [List.length_map]; omega), ← List.map_take] at z
    obtain ⟨y, hy, e⟩ := List.mem_map.mp z
    cases e
    obtain ⟨i, hi2, ei⟩ := List.mem_iff_getElem.mp hy
    rw [List.length_take] at hi2
    rw [List.getElem_take] at ei
    exact List.pairwise_iff_getElem.mp W.nd i j (by omega) hj (by omega) ei
  rw [e1, e2, e3]
  rfl
theorem good_last {L : List Nat} {ws : List (List Nat)} (e : Option (List Nat)) (h : ∀ x, e = some x → wdB L x = false ∨ (∃ y, ws[0]? = some y ∧ x.length ≠ y.length) ∨ x ∈ ws) : goodB L (ws.map some ++ [e]) ws.length = false := by
  have ej : (ws.map some ++ [e])[ws.length]? = some e := by
    rw [List.getElem?_append_right (by rw [List.length_map]; exact Nat.le_refl _), List.length_map, Nat.sub_self]
    rfl
  unfold goodB
  rw [ej]
  cases e with
  | none => rfl
  | some x =>
    show (wdB L x && lenB (ws.map some ++ [some x]) x && !decide (some x ∈ (ws.map some ++ [some x]).take ws.length)) = false
    rcases h x rfl with h | ⟨y, hy, hn⟩ | h
    · rw [h]
      rfl
    · have e2 : lenB (ws.map some ++ [some x]) x = false := by
        unfold lenB
        have hl := (List.getElem?_eq_some_iff.mp hy).1
        rw [List.getElem?_append_left (by rw [List.length_map]; exact hl), List.getElem?_map, hy]
        exact decide_eq_false hn
      rw [e2, Bool.and_false, Bool.false_and]
    · have e3 : decide (some x ∈ (ws.map some ++ [some x]).take ws.length) = true := by
        refine decide_eq_true ?_
        rw [List.take_append_of_le_length (by rw [List.length_map]; exact Nat.le_refl _), List.take_of_length_le (by rw [List.length_map]; exact Nat.le_refl _)]
        exact List.mem_map.mpr ⟨x, h, rfl⟩
      rw [e3]
      simp
/-- letters that are none -/
structure OddLt (K : PySem.W.Frag) (B : Hp) (x : V) : Prop where
  ex : ∃ d, AV B x d ∧ OddL K B x ∧ okR d
/-- a word that is wrong behind these -/
structure OddW (K : PySem.W.Frag) (B : Hp) (L : List Nat) (ws : List (List Nat)) (x : V) : Prop where
  ex : ∃ e, El K B x e ∧ goodB L (ws.map some ++ [e]) ws.length = false
/-- an order that is none -/
structure OddO (B : Hp) (m : Nat) (x : V) : Prop where
  ex : ∃ g d, GA B x g ∧ AV B x d ∧ (∀ k gs, g = .seq k gs → gs.length ≤ 50) ∧ ordG m g = false ∧ okR d
section
variable {K : PySem.W.Frag} {CL CW CO CT : Addr} {H : Hp} {Q : VK} {d : PyData}
theorem okR.sz2 (ok : okR d) : d.shown.length ≤ sizeLine := Nat.le_trans ok.sz (by decide)
theorem met_lets (ok : okR d) (hq : ∀ r H', Ex H H' → H' r = some (.tup [.str "letters", .str d.shown, .bl true]) → Q (.ref r) H') : RzD (Emet K CL CW CO CT Q) H CL "letters" d := fun dd v' H2 e2 _ hx av =>
  ⟨dd, rfl, .inl ⟨v', rfl, hx, ⟨⟨v', d, rfl, av.de, True.intro, ok.sh, ok.dp, ok.sz2, rfl, fun r hr => hq _ _ (e2.trans (Ex.new hr)) upd_same⟩⟩⟩⟩
theorem met_ord (ok : okR d) (hq : ∀ r H', Ex H H' → H' r = some (.tup [.str "order", .str d.shown]) → Q (.ref r) H') : RzD (Emet K CL CW CO CT Q) H CO "order" d := fun dd v' H2 e2 _ hx av =>
  ⟨dd, rfl, .inr (.inr (.inl ⟨v', rfl, hx, ⟨⟨v', d, rfl, av.de, True.intro, ok.sh, ok.dp, ok.sz2, fun r hr => hq _ _ (e2.trans (Ex.new hr)) upd_same⟩⟩⟩))⟩
theorem met_word {i : Nat} (hq : ∀ r H', Ex H H' → H' r = some (.tup [.str "words", .int (i : Nat)]) → Q (.ref r) H') : RzD (Emet K CL CW CO CT Q) H CW "place" (.int (i : Nat)) := fun dd v' H2 e2 _ hx av => by
  have := av_int av
  subst this
  exact ⟨dd, rfl, .inr (.inl ⟨_, rfl, hx, fun r hr => hq _ _ (e2.trans (Ex.new hr)) upd_same⟩)⟩
end
theorem Sta.low {T : List (Addr × Str)} {p : PenI} {B B' H H' : Hp} {n m : Nat} (S : Sta T p B H n) (S' : Sta T p B' H' m) (e : Ex B B') : Sta T p B H' m where
  pen := ⟨e.trans S'.pen.1, S.pen.2.1, S.pen.2.2.1, S.pen.2.2.2.1, S'.pen.2.2.2.2⟩
  nt := S.nt
  tabs := S'.tabs
structure KnG (P : Program) (w : World) (K : PySem.W.Frag) (mg : Str → Option Value) (base : Heap) (x : Str) (ps : List Str) (k : Nat) (sp : Sp) where
  f : Addr
  fd : FuncData
  ok : GD.Gd P w K mg base k f fd ps sp
  len : ∀ ws H Q E, sp ws H Q E → ws.length = ps.length
  g : mg x = some (.ref f)
  kp : PySem.W.keepIn K (.ref f) = true
  b : Binds K fd ps []
/-- best with its last value left out -/
structure KnD (P : Program) (w : World) (K : PySem.W.Frag) (mg : Str → Option Value) (base : Heap) (x : Str) (ps : List Str) (k : Nat) (sp : Sp) where
  f : Addr
  fd : FuncData
  ok : FnOk P w K mg base (L2.CX P w) k f fd ps sp
  g : mg x = some (.ref f)
  kp : PySem.W.keepIn K (.ref f) = true
  ds : List Value
  b : Binds K fd ps ds
  v : Vals [V.bl false] ds
def spRefused (T2 : List (Addr × Str)) : Sp := fun vs H Q _ => ∃ (p : PenI) (B : Hp) (n : Nat) (wa oa : Addr) (L : List Nat) (ws : List (List Nat)) (O : List Nat), vs = [.ref p.d, .str (tx L), .ref wa, .ref oa] ∧ Sta T2 p B H n ∧ n < 500000 ∧ B wa = some (.lst (wv ws)) ∧ B oa = some (.lst (nV O)) ∧ LG L ∧ Wds L O.length ws ∧ ws.length ≤ 2 ∧
  1 ≤ O.length ∧ O.length ≤ 4 ∧ O.Nodup ∧ (∀ p ∈ O, p < O.length) ∧ ∀ H', Sta T2 p B H' (n + 10) → Q (.bl true) H'
section
variable {P : Program} {w : World} {K : PySem.W.Frag} {mg : Str → Option Value} {base : Heap} {C_BadLetters C_BadWords C_BadOrder C_TooMany C_Searcher fL fW fO fT C_SkipsError gm c Pt : Addr} {fdm : FuncData} {T2 : List (Addr × Str)}
theorem ok_refused {f : Addr} {fd : FuncData} (F : GT.FunC K "_law_are_refused" "_law_are_refused" s_lare_refused f fd c) (T : Tx mg) (g_repr : mg "repr" = none) (Fm : Fun K "_law_met" "_law_met" s_lmet gm fdm) (g_lmet : mg "_law_met" = some (.ref gm)) (b_lmet : Binds K fdm ["_law_call"] [])
    (E1 : ErrC K C_BadLetters fL C_SkipsError) (E2 : ErrC K C_BadWords fW C_SkipsError) (E3 : ErrC K C_BadOrder fO C_SkipsError) (E4 : ErrC K C_TooMany fT C_SkipsError)
    (GS : Gs mg C_BadLetters C_BadWords C_BadOrder C_TooMany C_SkipsError) (NF : NoF K C_BadLetters C_BadWords C_BadOrder C_TooMany) (EX : Exm K C_BadLetters C_BadWords C_BadOrder C_TooMany) (TB : LamX.TabB base mg c Pt)
    (hmT : (Pt, lamR) ∈ T2) (uT : ∀ q ∈ T2, q.1 = Pt → q.2 = lamR)
    (c_pickL : Kn P w K mg base "_law_pick" ["_law_pen", "_law_items"] 2 spPickL) (c_best3 : KnD P w K mg base "best" ["letters", "words", "order", "behind"] 44 (spBest K C_BadLetters C_BadWords C_BadOrder C_Searcher)) :
    GD.Gd P w K mg base 48 f fd ["_law_pen", "_law_letters", "_law_words", "_law_order"] (spRefused T2) := by
  have k_lmet := Fm.kp
  obtain ⟨oc, od, kV, doc, pm, an, cdm, ct, osl, rfl, l_lmet, h_lmet⟩ := Fm.ex
  have mT : ∀ {q : Addr × Str}, q = (Pt, lamR) → q ∈ T2 := fun e => e ▸ hmT
  refine GT.okGC F sc_lare_refused (fun vs H Q E h => ?_) (fun A outer s H vs Q E hr hg h => ?_)
  · obtain ⟨p, B, n, wa, oa, L, ws, O, rfl, _⟩ := h
    rfl
  · obtain ⟨p, B, n, wa, oa, L, ws, O, rfl, S0, hn, hwa, hoa, hL, W, w2, o1, o4, ond, olt, q⟩ := h
    refine ⟨_, (pss_cons (ps_set (i := 4) sc_lare_refused.nd rfl (Or.inr rfl) (pe_call c_pickL.ok (hr.mono (by decide)) (by rfl) c_pickL.g c_pickL.kp c_pickL.b .nil pass0 (pa_cons (pv 0) (pa_cons (pe_lst (pa_cons pe_non (pa_cons pe_str (pa_cons pe_str (pa_cons pe_str (pa_cons pe_str (pa_cons pe_int (pa_cons (pe_lst pa_nil) (pa_cons (pe_disp (pps_cons pe_str pe_int pps_nil) (by rfl) (by rfl) (fun z => by cases z) (by decide)) pa_nil))))))))) pa_nil))))
      (pss_cons (ps_if (pt_cmpR (EQ.op_neP hr.units) (LamX.pe_lamcall (k := 44) (by rfl) g_lmet k_lmet l_lmet h_lmet b_lmet sc_lmet rfl (Or.inl rfl) (met_gives hg (hr.mono (by decide)) g_repr T E1 E2 E3 E4 GS NF EX) TB rfl (mT rfl) uT (hr.mono (by decide)) (LamX.lamS_by (sc := defScope s_lare_refused) (by decide +kernel)) rfl (fun _ _ _ _ _ => rfl) (fun A outer s H E f c hr => (pe_callSD c_best3.ok (hr.mono (by decide)) (by rfl) c_best3.g c_best3.kp c_best3.b c_best3.v (fun σ => passAt (takes_of rfl rfl rfl rfl) σ) (pa_cons (pv 4) (pa_cons (pe_lst (pa_cons pe_str pa_nil)) (pa_cons pe_non pa_nil)))))) (pe_tup (pa_cons pe_str (pa_cons (pe_callB (RV.call_reprV hg (room70 hr)) (by rfl) g_repr boot_repr (pa_cons (pv 4) pa_nil)) (pa_cons pe_bl pa_nil)))) (nomark _)) (pss_one (ps_ret pe_bl)) pss_nil)
      (pss_cons (ps_set (i := 5) sc_lare_refused.nd rfl (Or.inr rfl) (pe_call c_pickL.ok (hr.mono (by decide)) (by rfl) c_pickL.g c_pickL.kp c_pickL.b .nil pass0 (pa_cons (pv 0) (pa_cons (pe_lst (pa_cons pe_non (pa_cons pe_str (pa_cons (pe_op op_add_str (pe_ix ix_list (pv 2) pe_int (fun _ _ => rfl)) (pe_ix ix_str (pv 1) pe_int (fun _ _ => rfl))) (pa_cons (pe_op ZS.op_mulS pe_str (pe_callB call_len_str (by rfl) T.len PySem.boot_len (pa_cons (pe_ix ix_list (pv 2) pe_int (fun _ _ => rfl)) pa_nil))) (pa_cons (pe_ix ix_list (pv 2) pe_int (fun _ _ => rfl)) (pa_cons pe_int (pa_cons (pe_lst pa_nil) pa_nil)))))))) pa_nil))))
      (pss_cons (ps_if (pt_cmpR (EQ.op_neP hr.units) (LamX.pe_lamcall (k := 44) (by rfl) g_lmet k_lmet l_lmet h_lmet b_lmet sc_lmet rfl (Or.inl rfl) (met_gives hg (hr.mono (by decide)) g_repr T E1 E2 E3 E4 GS NF EX) TB rfl (mT rfl) uT (hr.mono (by decide)) (LamX.lamS_by (sc := defScope s_lare_refused) (by decide +kernel)) rfl (fun _ _ _ _ _ => rfl) (fun A outer s H E f c hr => (pe_callSD c_best3.ok (hr.mono (by decide)) (by rfl) c_best3.g c_best3.kp c_best3.b c_best3.v (fun σ => passAt (takes_of rfl rfl rfl rfl) σ) (pa_cons (pv 1) (pa_cons (pe_op op_cat (pv 2) (pe_lst (pa_cons (pv 5) pa_nil))) (pa_cons pe_non pa_nil)))))) (pe_tup (pa_cons pe_str (pa_cons (pe_callB call_len_seq (by rfl) T.len PySem.boot_len (pa_cons (pv 2) pa_nil)) pa_nil))) (nomark _)) (pss_one (ps_ret pe_bl)) pss_nil)
      (pss_cons (ps_set (i := 6) sc_lare_refused.nd rfl (Or.inl rfl) (pe_lst (pa_cons pe_non (pa_cons pe_str (pa_cons (pe_slice sl_list (pv 3) (po_some pe_int) po_none) (pa_cons (pe_op op_cat (pv 3) (pe_lst (pa_cons pe_int pa_nil))) (pa_cons (pe_op op_cat (pe_slice sl_list (pv 3) po_none (po_some (pe_un un_neg pe_int))) (pe_lst (pa_cons (pe_callB call_len_seq (by rfl) T.len PySem.boot_len (pa_cons (pv 3) pa_nil)) pa_nil))) (pa_cons (pe_op op_cat (pe_slice sl_list (pv 3) po_none (po_some (pe_un un_neg pe_int))) (pe_lst (pa_cons pe_bl pa_nil))) pa_nil))))))))
      (pss_cons (ps_set (i := 4) sc_lare_refused.nd rfl (Or.inr rfl) (pe_call c_pickL.ok (hr.mono (by decide)) (by rfl) c_pickL.g c_pickL.kp c_pickL.b .nil pass0 (pa_cons (pv 0) (pa_cons (pe_op op_cat (pv 6) (pe_lst (pa_cons (DZ.pe_dictZip (by rfl) T.dict (by rfl) T.zip (pv 3) (pv 3)) (pa_cons (pe_op op_rep (pe_lst (pa_cons (pe_un un_neg pe_int) pa_nil)) (pe_callB call_len_seq (by rfl) T.len PySem.boot_len (pa_cons (pv 3) pa_nil))) pa_nil)))) pa_nil))))
      (pss_one (ps_ret (pe_cmpR (EQ.op_eqP hr.units) (LamX.pe_lamcall (k := 44) (by rfl) g_lmet k_lmet l_lmet h_lmet b_lmet sc_lmet rfl (Or.inl rfl) (met_gives hg (hr.mono (by decide)) g_repr T E1 E2 E3 E4 GS NF EX) TB rfl (mT rfl) uT (hr.mono (by decide)) (LamX.lamS_by (sc := defScope s_lare_refused) (by decide +kernel)) rfl (fun _ _ _ _ _ => rfl) (fun A outer s H E f c hr => (pe_callSD c_best3.ok (hr.mono (by decide)) (by rfl) c_best3.g c_best3.kp c_best3.b c_best3.v (fun σ => passAt (takes_of rfl rfl rfl rfl) σ) (pa_cons (pv 1) (pa_cons (pv 2) (pa_cons (pv 4) pa_nil)))))) (pe_tup (pa_cons pe_str (pa_cons (pe_callB (RV.call_reprV hg (room70 hr)) (by rfl) g_repr boot_repr (pa_cons (pv 4) pa_nil)) pa_nil))) (nomark _)))))))))), ?_⟩
    have wz : ∀ z ∈ ws, z.length = O.length := fun z hz => (W.of z hz).len
    obtain ⟨z0, hz0⟩ : ∃ z0, ws[0]? = some z0 := ⟨_, List.getElem?_eq_getElem W.lo⟩
    have zm := List.mem_of_getElem? hz0
    have zl := wz z0 zm
    have hz1 : (wv ws)[0]? = some (.str (tx z0)) := by unfold wv; rw [List.getElem?_map, hz0]; rfl
    -- letters that are none
    refine ⟨_, rfl, by show 0 ≤ sizeLine; decide, fun l1 hl1 dd hdd => ?_⟩
    have S1 := S0.ex (Ex.new (o := .lst []) hl1)
    have k1 : (L2.upd H l1 (.lst [])) l1 = some (.lst []) := upd_same
    generalize (L2.upd H l1 (.lst [])) = H1 at S1 k1 hdd ⊢
    refine ⟨upd_same, [(.inr (Str.ofString "a"), .int 1)], rfl, by decide, ?_⟩
    rw [upd_upd]
    have e2 := Ex.new (o := .dK (mergeK [] [((Sum.inr (Str.ofString "a") : Key), V.int 1)])) hdd
    have S2 := S1.ex e2
    have k2 := e2 _ _ k1
    have d2 : (L2.upd H1 dd (.dK (mergeK [] [((Sum.inr (Str.ofString "a") : Key), V.int 1)]))) dd = some (.dK [(.inr (Str.ofString "a"), .int 1)]) := upd_same
    generalize (L2.upd H1 dd (.dK (mergeK [] [((Sum.inr (Str.ofString "a") : Key), V.int 1)]))) = H2 at S2 k2 d2 ⊢
    obtain ⟨xs, hxs⟩ : ∃ xs, [V.non, .str "a", .str "aab", .str "abcde", .str "aB", .int 7, .ref l1, .ref dd] = xs := ⟨_, rfl⟩
    have ndd : dd ≠ p.d := fun z => by
      obtain ⟨kvs, h⟩ := S1.pen.dict
      rw [← z, hdd] at h
      cases h
    refine ⟨by show 8 ≤ sizeLine; decide, fun b hb => ?_⟩
    rw [show [V.non, .str "a", .str "aab", .str "abcde", .str "aB", .int 7, .ref l1, .ref dd] = xs from hxs]
    have lx : xs.length = 8 := by rw [← hxs]; rfl
    have S3 := S2.ex (Ex.new (o := .lst xs) hb)
    have k3 := (Ex.new (o := .lst xs) hb) _ _ k2
    have d3 := (Ex.new (o := .lst xs) hb) _ _ d2
    have b3 : (L2.upd H2 b (.lst xs)) b = some (.lst xs) := upd_same
    generalize (L2.upd H2 b (.lst xs)) = H3 at S3 k3 d3 b3 ⊢
    obtain ⟨B2, S4, eB, kB⟩ := S3.hold
    have k4 := kB _ _ k3 (S3.pen.lst_ne k3) (fun _ z => by cases z)
    have d4 := kB _ _ d3 ndd (fun _ z => by cases z)
    refine ⟨p, _, b, _, xs, rfl, S4.plus, by omega, b3, by omega, by omega, fun H4 x P4 hx => ?_⟩
    have S5 := S4.back P4
    have hodd : OddLt K B2 x := by
      rw [← hxs] at hx
      simp only [List.mem_cons, List.not_mem_nil, or_false] at hx
      have st : ∀ (z : Str) (x : List Nat), z = tx x → x.length < 500 → areB x = false → okT (.str z) = true → OddLt K B2 (.str z) := fun z x h1 h2 h3 h4 => ⟨_, .flat (.str z), .inl ⟨x, by rw [h1], h2, h3⟩, okR_of h4⟩
      rcases hx with rfl | rfl | rfl | rfl | rfl | rfl | rfl | rfl
      · exact ⟨_, .flat .non, .inr nos_non, okR_of (by decide +kernel)⟩
      · exact st _ [97] (by decide +kernel) (by decide) (by decide +kernel) (by decide +kernel)
      · exact st _ [97, 97, 98] (by decide +kernel) (by decide) (by decide +kernel) (by decide +kernel)
      · exact st _ [97, 98, 99, 100, 101] (by decide +kernel) (by decide) (by decide +kernel) (by decide +kernel)
      · exact st _ [97, 66] (by decide +kernel) (by decide) (by decide +kernel) (by decide +kernel)
      · exact ⟨_, .flat (.int _), .inr nos_int, okR_of (by decide +kernel)⟩
      · exact ⟨_, .lst k4 .nil (by decide), .inr (nos_lst k4), okR_of (by decide +kernel)⟩
      · exact ⟨_, .one d4, .inr (nos_dct d4), okR_of (by decide +kernel)⟩
    obtain ⟨d, v1, v2, v3⟩ := hodd.ex
    have v2' : ∀ {H'}, Ex B2 H' → OddL K H' x := fun e => v2.imp id fun h => h.ex e
    dsimp only [gName]
    refine' st_eq (σ' := [some (.ref p.d), some (.str (tx L)), some (.ref wa), some (.ref oa), some x, none, none]) rfl ?_
    refine ⟨S5.tabs, fun H7 eN7 T7 => ?_⟩
    have S7 := S5.exN eN7 T7
    refine ⟨_, rfl, by show 1 ≤ sizeLine; decide, fun l9 hl9 => ?_⟩
    have S8 := S7.ex (Ex.new (o := .lst [V.str ""]) hl9)
    refine ⟨x, .non, l9, false, false, _, rfl, upd_same, .inl ⟨d, v1.ex S8.pen.1, v2' S8.pen.1, fun H8 e8 => met_lets v3 fun rr H9 e9 hr9 => ?_⟩⟩
    have S9 := (S8.ex e8).ex e9
    refine ⟨_, rfl, ⟨⟨x, d, rfl, (v1.ex S9.pen.1).de, True.intro, v3.sh, v3.dp, v3.sz2, by show 3 ≤ sizeLine; decide, fun r2 hr2 => ?_⟩⟩⟩
    have e10 := Ex.new (o := .tup [.str "letters", .str d.shown, .bl true]) hr2
    refine ⟨.tuple [.str "letters", .str d.shown, .bool true], .tuple [.str "letters", .str d.shown, .bool true], .tup (st_of (e10 _ _ hr9)) (.cons (.str _) (.cons (.str _) (.cons (.bl _) .nil))), .tup (st_of upd_same) (.cons (.str _) (.cons (.str _) (.cons (.bl _) .nil))), rfl, rfl, by simp [PyData.depth, PyData.depthAll], ?_⟩
    rw [SeqAt.eqv_refl_plain _ rfl]
    refine ⟨_, rfl, ite2 (fun hb => absurd hb (by simp)) (fun _ => ?_)⟩
    have S10 := S9.ex e10
    generalize L2.upd H9 r2 _ = H10 at S10 ⊢
    clear v1 v2 v2' v3 hodd hx S9 S8 S7 S5 hr9 e9 e8 e10 T7 eN7 hr2 hl9 P4 d4 k4 b3 d3 k3 S3
    have hwa2 := eB _ _ hwa
    have hoa2 := eB _ _ hoa
    have l2 := hL.lo
    have l4 := hL.hi
    -- a wrong word
    have wa1 := S10.pen.1 _ _ hwa2
    refine ⟨_, rfl, _, rfl, wa, _, _, .str (tx z0), rfl, rfl, sq_of wa1, atI_nat (j := 0) hz1, _, rfl, _, _, L.getD 0 0, rfl, rfl, tx_le (by omega), at_of_lt (show 0 < L.length by omega), _, _, rfl, rfl, ?_, ?_⟩
    · rw [tx_len]
      show z0.length + 1 ≤ sizeLine
      exact sz_le (by omega)
    refine ⟨_, rfl, wa, _, _, .str (tx z0), rfl, rfl, sq_of wa1, atI_nat (j := 0) hz1, _, rfl, tx_le (by omega), _, _, rfl, rfl, ?_, ?_⟩
    · rw [show Str.ofString "Z" = sg 90 by decide +kernel, tx_len]
      exact mulOk_of 1 1000 (by rw [sg_len]; omega) (by omega) (by omega) (by decide) (by decide)
    refine ⟨_, rfl, wa, _, _, .str (tx z0), rfl, rfl, sq_of wa1, atI_nat (j := 0) hz1, by show 0 ≤ sizeLine; decide, fun l3 hl3 => ⟨by show 7 ≤ sizeLine; decide, fun b2 hb2 => ?_⟩⟩
    rw [tx_len, dot_zs _ (by omega)]
    have ew : tx z0 ++ (⟨#[L.getD 0 0]⟩ : Str) = tx (z0 ++ [L.getD 0 0]) := by
      rw [← tx_app]
      rfl
    rw [ew]
    obtain ⟨ys, hys⟩ : ∃ ys, [V.non, .str "", .str (tx (z0 ++ [L.getD 0 0])), .str (tx (List.replicate z0.length 90)), .str (tx z0), .int 7, .ref l3] = ys := ⟨_, rfl⟩
    rw [show [V.non, .str "", .str (tx (z0 ++ [L.getD 0 0])), .str (tx (List.replicate z0.length 90)), .str (tx z0), .int 7, .ref l3] = ys from hys]
    have ly : ys.length = 7 := by rw [← hys]; rfl
    have k11 : (L2.upd H10 l3 (.lst [])) l3 = some (.lst []) := upd_same
    have S11 := S10.ex (Ex.new (o := .lst []) hl3)
    generalize (L2.upd H10 l3 (.lst [])) = H11 at S11 k11 hb2 ⊢
    have k12 := (Ex.new (o := .lst ys) hb2) _ _ k11
    have b12 : (L2.upd H11 b2 (.lst ys)) b2 = some (.lst ys) := upd_same
    have S12 := S11.ex (Ex.new (o := .lst ys) hb2)
    generalize (L2.upd H11 b2 (.lst ys)) = H12 at S12 k12 b12 ⊢
    obtain ⟨B3, S13, eB3, kB3⟩ := S12.hold
    have k13 := kB3 _ _ k12 (S12.pen.lst_ne k12) (fun _ z => by cases z)
    refine ⟨p, _, b2, _, ys, rfl, S13.plus, by omega, b12, by omega, by omega, fun H14 y P14 hy => ?_⟩
    have S14 := S13.back P14
    have hodw : OddW K B3 L ws y := by
      rw [← hys] at hy
      simp only [List.mem_cons, List.not_mem_nil, or_false] at hy
      rcases hy with rfl | rfl | rfl | rfl | rfl | rfl | rfl
      · exact ⟨none, .odd nos_non, good_last _ fun x h => by cases h⟩
      · exact ⟨some [], .txt [] (by decide), good_last _ fun x h => by cases h; exact .inl rfl⟩
      · exact ⟨some _, .txt _ (by rw [List.length_append, zl]; show O.length + 1 < 900; omega), good_last _ fun x h => by cases h; exact .inr (.inl ⟨z0, hz0, by rw [List.length_append]; show z0.length + 1 ≠ z0.length; omega⟩)⟩
      · refine ⟨some _, .txt _ (by rw [List.length_replicate, zl]; omega), good_last _ fun x h => ?_⟩
        cases h
        refine .inl (decide_eq_false fun z => ?_)
        have := hL.az 90 (z.2.2 90 (List.mem_replicate.mpr ⟨by omega, rfl⟩))
        omega
      · exact ⟨some z0, .txt z0 (by omega), good_last _ fun x h => by cases h; exact .inr (.inr zm)⟩
      · exact ⟨none, .odd nos_int, good_last _ fun x h => by cases h⟩
      · exact ⟨none, .odd (nos_lst k13), good_last _ fun x h => by cases h⟩
    obtain ⟨ee, w1, w5⟩ := hodw.ex
    have hwa3 := eB3 _ _ hwa2
    have hoa3 := eB3 _ _ hoa2
    dsimp only [gName]
    refine' st_eq (σ' := [some (.ref p.d), some (.str (tx L)), some (.ref wa), some (.ref oa), some x, some y, none]) rfl ?_
    refine ⟨S14.tabs, fun H7 eN7 T7 => ?_⟩
    have S7 := S14.exN eN7 T7
    have wlen : (wv ws).length = ws.length := by unfold wv; rw [List.length_map]
    refine ⟨_, rfl, _, rfl, _, rfl, by show 1 ≤ sizeLine; decide, fun l4 hl4 => ?_⟩
    have S8 := S7.ex (Ex.new (o := .lst [y]) hl4)
    have k8 : (L2.upd H7 l4 (.lst [y])) l4 = some (.lst [y]) := upd_same
    generalize (L2.upd H7 l4 (.lst [y])) = H8 at S8 k8 ⊢
    refine ⟨wa, l4, _, _, rfl, rfl, S8.pen.1 _ _ hwa3, k8, by rw [wlen]; exact sz_le (by show ws.length + 1 < 1000; omega), fun l5 hl5 => ?_⟩
    have S9 := S8.ex (Ex.new (o := .lst (wv ws ++ [y])) hl5)
    have k9 : (L2.upd H8 l5 (.lst (wv ws ++ [y]))) l5 = some (.lst (wv ws ++ [y])) := upd_same
    generalize (L2.upd H8 l5 (.lst (wv ws ++ [y]))) = H9 at S9 k9 ⊢
    have els : Els K H9 (wv ws ++ [y]) (ws.map some ++ [ee]) := by
      have h1 : ∀ us : List (List Nat), (∀ u ∈ us, u.length < 900) → Els K H9 (wv us ++ [y]) (us.map some ++ [ee]) := fun us => by
        induction us with
        | nil => exact fun _ => .cons (w1.ex S9.pen.1) .nil
        | cons u r ih => exact fun h => .cons (.txt u (h u List.mem_cons_self)) (ih fun v hv => h v (List.mem_cons_of_mem _ hv))
      exact h1 ws fun u hu => by rw [wz u hu]; omega
    refine ⟨.str (tx L), .non, l5, false, false, _, rfl, k9, .inr (.inl ⟨L, ws.map some ++ [ee], ws.length, rfl, hL, els, by rw [List.length_append, wlen]; show ws.length + 1 < 100; omega, bad_at (by omega) (by rw [List.length_append, List.length_map]; show ws.length < ws.length + 1; omega) (fun j hj => good_app W ee hj) w5, fun H11 e11 => met_word fun rr H15 e15 hr15 => ?_⟩)⟩
    have S15 := (S9.ex e11).ex e15
    refine ⟨_, rfl, wa, _, rfl, .inl (sq_of (S15.pen.1 _ _ hwa3)), by show 2 ≤ sizeLine; decide, fun r3 hr3 => ?_⟩
    rw [wlen]
    have e16 := Ex.new (o := .tup [.str "words", .int (ws.length : Nat)]) hr3
    refine ⟨.tuple [.str "words", .int (ws.length : Nat)], .tuple [.str "words", .int (ws.length : Nat)], .tup (st_of (e16 _ _ hr15)) (.cons (.str _) (.cons (.int _) .nil)), .tup (st_of upd_same) (.cons (.str _) (.cons (.int _) .nil)), rfl, rfl, by simp [PyData.depth, PyData.depthAll], ?_⟩
    rw [SeqAt.eqv_refl_plain _ rfl]
    refine ⟨_, rfl, ite2 (fun hb => absurd hb (by simp)) (fun _ => ?_)⟩
    have S16 := S15.ex e16
    generalize L2.upd H15 r3 _ = H16 at S16 ⊢
    clear w1 w5 hodw S15 S9 S8 S7 S14 hr15 e16 e15 e11 hr3 k9 k8 els hl5 hl4 T7 eN7 P14 hy k13 b12 k12 S12
    -- orders that are none
    obtain ⟨ro, xo, rO⟩ := last_of o1
    have en : nV O = nV ro ++ [.int (xo : Nat)] := by rw [rO]; unfold nV; rw [List.map_append]; rfl
    have dl : O.dropLast = ro := by rw [rO, List.dropLast_concat]
    have ce := cut_initV (nV ro) (.int (xo : Nat))
    rw [← en] at ce
    have oV : nV O = (oI O).map V.int := by unfold nV oI; rw [List.map_map]; rfl
    have oa1 := S16.pen.1 _ _ hoa3
    have ho5 : O.length ≤ 4 := o4
    refine ⟨_, rfl, _, rfl, oa, _, rfl, sq_of oa1, fun t1 ht1 => ?_⟩
    rw [show cutV (nV O) (some 1) none = (oI (O.drop 1)).map V.int from by
      refine (cut_one _ (by rw [nV_len]; exact o1)).trans ?_
      rw [oV]
      unfold oI
      rw [← List.map_drop, ← List.map_drop]]
    have q1 : (L2.upd H16 t1 (.lst ((oI (O.drop 1)).map V.int))) t1 = some (.lst ((oI (O.drop 1)).map V.int)) := upd_same
    have S17 := S16.ex (Ex.new (o := .lst ((oI (O.drop 1)).map V.int)) ht1)
    generalize (L2.upd H16 t1 (.lst ((oI (O.drop 1)).map V.int))) = H17 at S17 q1 ⊢
    refine ⟨_, rfl, by show 1 ≤ sizeLine; decide, fun l1 hl1 => ?_⟩
    have e18 := Ex.new (o := .lst [V.int 0]) hl1
    have S18 := S17.ex e18
    have q18 := e18 _ _ q1
    have k18 : (L2.upd H17 l1 (.lst [V.int 0])) l1 = some (.lst [V.int 0]) := upd_same
    generalize (L2.upd H17 l1 (.lst [V.int 0])) = H18 at S18 q18 k18 ⊢
    refine ⟨oa, l1, _, _, rfl, rfl, S18.pen.1 _ _ hoa3, k18, by rw [nV_len]; exact sz_le (by show O.length + 1 < 1000; omega), fun t2 ht2 => ?_⟩
    rw [show nV O ++ [V.int 0] = (oI (O ++ [0])).map V.int from by rw [oV]; unfold oI; rw [List.map_append, List.map_append]; rfl]
    have e19 := Ex.new (o := .lst ((oI (O ++ [0])).map V.int)) ht2
    have S19 := S18.ex e19
    have q19 := e19 _ _ q18
    have r19 : (L2.upd H18 t2 (.lst ((oI (O ++ [0])).map V.int))) t2 = some (.lst ((oI (O ++ [0])).map V.int)) := upd_same
    generalize (L2.upd H18 t2 (.lst ((oI (O ++ [0])).map V.int))) = H19 at S19 q19 r19 ⊢
    refine ⟨_, rfl, _, rfl, _, rfl, oa, _, rfl, sq_of (S19.pen.1 _ _ hoa3), fun s3 hs3 => ?_⟩
    rw [ce.1]
    have e20 := Ex.new (o := .lst (nV ro)) hs3
    have S20 := S19.ex e20
    have q20 := e20 _ _ q19
    have r20 := e20 _ _ r19
    have k20 : (L2.upd H19 s3 (.lst (nV ro))) s3 = some (.lst (nV ro)) := upd_same
    generalize (L2.upd H19 s3 (.lst (nV ro))) = H20 at S20 q20 r20 k20 ⊢
    have elen : (nV O).length = O.length := nV_len O
    have erl : (nV ro).length = ro.length := nV_len ro
    have rl4 : ro.length ≤ 4 := by rw [← dl, List.length_dropLast]; omega
    refine ⟨_, rfl, oa, _, rfl, .inl (sq_of (S20.pen.1 _ _ hoa3)), by show 1 ≤ sizeLine; decide, fun l2 hl2 => ?_⟩
    rw [elen]
    have e21 := Ex.new (o := .lst [V.int (O.length : Nat)]) hl2
    have S21 := S20.ex e21
    have q21 := e21 _ _ q20
    have r21 := e21 _ _ r20
    have k21 := e21 _ _ k20
    have j21 : (L2.upd H20 l2 (.lst [V.int (O.length : Nat)])) l2 = some (.lst [V.int (O.length : Nat)]) := upd_same
    generalize (L2.upd H20 l2 (.lst [V.int (O.length : Nat)])) = H21 at S21 q21 r21 k21 j21 ⊢
    refine ⟨s3, l2, _, _, rfl, rfl, k21, j21, by rw [erl]; exact sz_le (by show ro.length + 1 < 1000; omega), fun t3 ht3 => ?_⟩
    rw [show nV ro ++ [V.int (O.length : Nat)] = (oI (O.dropLast ++ [O.length])).map V.int from by rw [dl]; unfold oI nV; rw [List.map_append, List.map_append, List.map_map]; rfl]
    have e22 := Ex.new (o := .lst ((oI (O.dropLast ++ [O.length])).map V.int)) ht3
    have S22 := S21.ex e22
    have q22 := e22 _ _ q21
    have r22 := e22 _ _ r21
    have u22 : (L2.upd H21 t3 (.lst ((oI (O.dropLast ++ [O.length])).map V.int))) t3 = some (.lst ((oI (O.dropLast ++ [O.length])).map V.int)) := upd_same
    generalize (L2.upd H21 t3 (.lst ((oI (O.dropLast ++ [O.length])).map V.int))) = H22 at S22 q22 r22 u22 ⊢
    refine ⟨_, rfl, _, rfl, _, rfl, oa, _, rfl, sq_of (S22.pen.1 _ _ hoa3), fun s4 hs4 => ?_⟩
    rw [ce.1]
    have e23 := Ex.new (o := .lst (nV ro)) hs4
    have S23 := S22.ex e23
    have q23 := e23 _ _ q22
    have r23 := e23 _ _ r22
    have u23 := e23 _ _ u22
    have k23 : (L2.upd H22 s4 (.lst (nV ro))) s4 = some (.lst (nV ro)) := upd_same
    generalize (L2.upd H22 s4 (.lst (nV ro))) = H23 at S23 q23 r23 u23 k23 ⊢
    refine ⟨by show 1 ≤ sizeLine; decide, fun l4 hl4 => ?_⟩
    have e24 := Ex.new (o := .lst [V.bl true]) hl4
    have S24 := S23.ex e24
    have q24 := e24 _ _ q23
    have r24 := e24 _ _ r23
    have u24 := e24 _ _ u23
    have k24 := e24 _ _ k23
    have j24 : (L2.upd H23 l4 (.lst [V.bl true])) l4 = some (.lst [V.bl true]) := upd_same
    generalize (L2.upd H23 l4 (.lst [V.bl true])) = H24 at S24 q24 r24 u24 k24 j24 ⊢
    refine ⟨s4, l4, _, _, rfl, rfl, k24, j24, by rw [erl]; exact sz_le (by show ro.length + 1 < 1000; omega), fun t4 ht4 => ?_⟩
    have e25 := Ex.new (o := .lst (nV ro ++ [V.bl true])) ht4
    have S25 := S24.ex e25
    have q25 := e25 _ _ q24
    have r25 := e25 _ _ r24
    have u25 := e25 _ _ u24
    have w25 : (L2.upd H24 t4 (.lst (nV ro ++ [V.bl true]))) t4 = some (.lst (nV ro ++ [V.bl true])) := upd_same
    generalize (L2.upd H24 t4 (.lst (nV ro ++ [V.bl true]))) = H25 at S25 q25 r25 u25 w25 ⊢
    refine ⟨by show 6 ≤ sizeLine; decide, fun sm hsm => ?_⟩
    have e26 := Ex.new (o := .lst [V.non, .str "", .ref t1, .ref t2, .ref t3, .ref t4]) hsm
    have S26 := S25.ex e26
    have q26 := e26 _ _ q25
    have r26 := e26 _ _ r25
    have u26 := e26 _ _ u25
    have w26 := e26 _ _ w25
    have m26 : (L2.upd H25 sm (.lst [V.non, .str "", .ref t1, .ref t2, .ref t3, .ref t4])) sm = some (.lst [V.non, .str "", .ref t1, .ref t2, .ref t3, .ref t4]) := upd_same
    generalize (L2.upd H25 sm (.lst [V.non, .str "", .ref t1, .ref t2, .ref t3, .ref t4])) = H26 at S26 q26 r26 u26 w26 m26 ⊢
    dsimp only [gName]
    refine' st_eq (σ' := [some (.ref p.d), some (.str (tx L)), some (.ref wa), some (.ref oa), some x, some y, some (.ref sm)]) rfl ?_
    have oa26 := S26.pen.1 _ _ hoa3
    rw [oV] at oa26
    refine ⟨_, rfl, _, rfl, _, rfl, _, rfl, oa, oa, oI O, oI O, rfl, sq_of oa26, sq_of oa26, rfl, nd_int ond, fun dz hdz => ?_⟩
    have ndz : dz ≠ p.d := fun z => by
      obtain ⟨kvs, h⟩ := S26.pen.dict
      rw [← z, hdz] at h
      cases h
    have e27 := Ex.new (o := .dK (DY.kvI ((oI O).zip (oI O)))) hdz
    have S27 := S26.ex e27
    have q27 := e27 _ _ q26
    have r27 := e27 _ _ r26
    have u27 := e27 _ _ u26
    have w27 := e27 _ _ w26
    have m27 := e27 _ _ m26
    have z27 : (L2.upd H26 dz (.dK (DY.kvI ((oI O).zip (oI O))))) dz = some (.dK (DY.kvI ((oI O).zip (oI O)))) := upd_same
    generalize (L2.upd H26 dz (.dK (DY.kvI ((oI O).zip (oI O))))) = H27 at S27 q27 r27 u27 w27 m27 z27 ⊢
    refine ⟨_, rfl, by show 1 ≤ sizeLine; decide, fun lm hlm => ?_⟩
    have e28 := Ex.new (o := .lst [V.int (-1)]) hlm
    have S28 := S27.ex e28
    have q28 := e28 _ _ q27
    have r28 := e28 _ _ r27
    have u28 := e28 _ _ u27
    have w28 := e28 _ _ w27
    have m28 := e28 _ _ m27
    have z28 := e28 _ _ z27
    have j28 : (L2.upd H27 lm (.lst [V.int (-1)])) lm = some (.lst [V.int (-1)]) := upd_same
    generalize (L2.upd H27 lm (.lst [V.int (-1)])) = H28 at S28 q28 r28 u28 w28 m28 z28 j28 ⊢
    refine ⟨_, rfl, oa, _, rfl, .inl (sq_of (S28.pen.1 _ _ hoa3)), lm, _, _, rfl, rfl, j28, by rw [elen]; omega, by rw [elen]; omega, by rw [elen]; exact sz_le (by show 1 * ((O.length : Nat) : Int).toNat < 1000; omega), fun t5 ht5 => ?_⟩
    rw [show (List.replicate (((nV O).length : Nat) : Int).toNat [V.int (-1)]).flatten = (List.replicate O.length (-1 : Int)).map V.int from by
      rw [elen, Int.toNat_natCast, List.map_replicate]
      generalize O.length = j
      induction j with
      | zero => rfl
      | succ j ih => rw [List.replicate_succ, List.flatten_cons, ih, List.replicate_succ]; rfl]
    have e29 := Ex.new (o := .lst ((List.replicate O.length (-1 : Int)).map V.int)) ht5
    have S29 := S28.ex e29
    have q29 := e29 _ _ q28
    have r29 := e29 _ _ r28
    have u29 := e29 _ _ u28
    have w29 := e29 _ _ w28
    have m29 := e29 _ _ m28
    have z29 := e29 _ _ z28
    have x29 : (L2.upd H28 t5 (.lst ((List.replicate O.length (-1 : Int)).map V.int))) t5 = some (.lst ((List.replicate O.length (-1 : Int)).map V.int)) := upd_same
    generalize (L2.upd H28 t5 (.lst ((List.replicate O.length (-1 : Int)).map V.int))) = H29 at S29 q29 r29 u29 w29 m29 z29 x29 ⊢
    refine ⟨by show 2 ≤ sizeLine; decide, fun l7 hl7 => ?_⟩
    have e30 := Ex.new (o := .lst [V.ref dz, .ref t5]) hl7
    have n30 : (L2.upd H29 l7 (.lst [V.ref dz, .ref t5])) l7 = some (.lst [V.ref dz, .ref t5]) := upd_same
    refine ⟨sm, l7, _, _, rfl, rfl, e30 _ _ m29, n30, by show 8 ≤ sizeLine; decide, fun l8 hl8 => ?_⟩
    obtain ⟨os, hos⟩ : ∃ os, [V.non, .str "", .ref t1, .ref t2, .ref t3, .ref t4, .ref dz, .ref t5] = os := ⟨_, rfl⟩
    have los : os.length = 8 := by rw [← hos]; rfl
    rw [show [V.non, V.str "", .ref t1, .ref t2, .ref t3, .ref t4] ++ [V.ref dz, .ref t5] = os from hos]
    have e31 := e30.trans (Ex.new (o := .lst os) hl8)
    have S31 := S29.ex e31
    have b31 : (L2.upd (L2.upd H29 l7 (.lst [V.ref dz, .ref t5])) l8 (.lst os)) l8 = some (.lst os) := upd_same
    generalize (L2.upd (L2.upd H29 l7 (.lst [V.ref dz, .ref t5])) l8 (.lst os)) = H31 at e31 S31 b31 ⊢
    obtain ⟨B4, S32, eB4, kB4⟩ := S31.hold
    have kl : ∀ {a : Addr} {xs : List V}, H29 a = some (.lst xs) → B4 a = some (.lst xs) := fun h => kB4 _ _ (e31 _ _ h) (S31.pen.lst_ne (e31 _ _ h)) (fun _ z => by cases z)
    have q32 := kl q29
    have r32 := kl r29
    have u32 := kl u29
    have w32 := kl w29
    have x32 := kl x29
    have z32 := kB4 _ _ (e31 _ _ z29) ndz (fun _ z => by cases z)
    refine ⟨p, _, l8, _, os, rfl, S32.plus, by omega, b31, by omega, by omega, fun H33 v P33 hv => ?_⟩
    have S33 := S32.back P33
    have pin := perm_in o1 o4 ond olt
    have pd := perms_d O pin
    have pg := perms_g O pin
    have flI : ∀ ns : List Int, Fls (ns.map V.int) (ns.map PyData.int) := fun ns => by
      induction ns with
      | nil => exact .nil
      | cons n r ih => exact .cons (.int n) ih
    have gaI : ∀ ns : List Int, GAs B4 (ns.map V.int) (ns.map Gt.int) := fun ns => by
      induction ns with
      | nil => exact .nil
      | cons n r ih => exact .cons (.int n) ih
    have il : ∀ ns : List Int, (ns.map V.int).length = ns.length := fun ns => List.length_map ..
    have oil : ∀ o : List Nat, (oI o).length = o.length := fun o => by unfold oI; rw [List.length_map]
    have lstO : ∀ {a : Addr} {ns : List Int}, B4 a = some (.lst (ns.map V.int)) → ns.length ≤ 50 → dL ns ∈ ordD O → Gt.seq false (ns.map Gt.int) ∈ ordGs O → OddO B4 O.length (.ref a) := fun {a ns} h hl h1 h2 =>
      ⟨.seq false (ns.map Gt.int), dL ns, .seq (k := false) h (gaI ns), .lst h (flI ns) (by rw [il]; exact hl), (fun k gs e => by cases e; rw [List.length_map]; exact hl), pg _ h2, okR_of (pd _ h1)⟩
    have hodo : OddO B4 O.length v := by
      rw [← hos] at hv
      simp only [List.mem_cons, List.not_mem_nil, or_false] at hv
      rcases hv with rfl | rfl | rfl | rfl | rfl | rfl | rfl | rfl
      · exact ⟨.oth, _, .non, .flat .non, (fun k gs e => by cases e), rfl, okR_of (by decide +kernel)⟩
      · exact ⟨.str _, _, .str _, .flat (.str _), (fun k gs e => by cases e), rfl, okR_of (by decide +kernel)⟩
      · exact lstO q32 (by rw [oil, List.length_drop]; omega) (by unfold ordD; simp) (by unfold ordGs; simp)
      · exact lstO r32 (by rw [oil, List.length_append]; show O.length + 1 ≤ 50; omega) (by unfold ordD; simp) (by unfold ordGs; simp)
      · exact lstO u32 (by rw [oil, List.length_append, dl]; show ro.length + 1 ≤ 50; omega) (by unfold ordD; simp) (by unfold ordGs; simp)
      · have f1 : ∀ o : List Nat, Fls (nV o ++ [V.bl true]) ((o.map fun p : Nat => PyData.int (p : Nat)) ++ [.bool true]) := fun o => by
          induction o with
          | nil => exact .cons (.bl true) .nil
          | cons n r ih => exact .cons (.int _) ih
        have f2 : ∀ o : List Nat, GAs B4 (nV o ++ [V.bl true]) ((o.map fun p : Nat => Gt.int (p : Nat)) ++ [.bl true]) := fun o => by
          induction o with
          | nil => exact .cons (.bl true) .nil
          | cons n r ih => exact .cons (.int _) ih
        refine ⟨.seq false ((ro.map fun p : Nat => Gt.int (p : Nat)) ++ [.bl true]), .list ((ro.map fun p : Nat => PyData.int (p : Nat)) ++ [.bool true]), .seq (k := false) w32 (f2 ro), .lst w32 (f1 ro) (by rw [List.length_append, erl]; show ro.length + 1 ≤ 50; omega), (fun k gs e => ?_), pg _ ?_, okR_of (pd _ ?_)⟩
        · cases e
          rw [List.length_append, List.length_map]
          show ro.length + 1 ≤ 50
          omega
        · rw [← dl]
          unfold ordGs
          simp
        · rw [← dl]
          unfold ordD
          simp
      · refine ⟨.oth, .dict (DY.kdI ((oI O).zip (oI O))), .dct z32, .dks z32 ?_ ?_, (fun k gs e => by cases e), rfl, okR_of (pd _ (by unfold ordD; simp))⟩
        · rw [List.map_fst_zip (Nat.le_refl _)]
          exact nd_int ond
        · rw [List.length_zip, oil]
          omega
      · exact lstO x32 (by rw [List.length_replicate]; omega) (by unfold ordD; simp) (by unfold ordGs; simp)
    obtain ⟨g, d, g1, g2, g3, g4, g5⟩ := hodo.ex
    have hwa4 := eB4 _ _ hwa3
    dsimp only [gName]
    refine' st_eq (σ' := [some (.ref p.d), some (.str (tx L)), some (.ref wa), some (.ref oa), some v, some y, some (.ref sm)]) rfl ?_
    refine ⟨S33.tabs, fun H7 eN7 T7 => ?_⟩
    have S7 := S33.exN eN7 T7
    refine ⟨_, rfl, _, rfl, _, rfl, ?_⟩
    refine ⟨.str (tx L), v, wa, false, false, _, rfl, S7.pen.1 _ _ hwa4, .inr (.inr (.inl ⟨L, O.length, ws, d, g, rfl, hL, rfl, W, g2.ex S7.pen.1, GA.ex S7.pen.1 g1, g3, g4, fun H8 e8 => met_ord g5 fun rr H9 e9 hr9 => ?_⟩))⟩
    have S9 := (S7.ex e8).ex e9
    refine ⟨_, rfl, ⟨⟨v, d, rfl, (g2.ex S9.pen.1).de, True.intro, g5.sh, g5.dp, g5.sz2, by show 2 ≤ sizeLine; decide, fun r2 hr2 => ?_⟩⟩⟩
    have e10 := Ex.new (o := .tup [.str "order", .str d.shown]) hr2
    refine ⟨.tuple [.str "order", .str d.shown], .tuple [.str "order", .str d.shown], .tup (st_of (e10 _ _ hr9)) (.cons (.str _) (.cons (.str _) .nil)), .tup (st_of upd_same) (.cons (.str _) (.cons (.str _) .nil)), rfl, rfl, by simp [PyData.depth, PyData.depthAll], ?_⟩
    rw [SeqAt.eqv_refl_plain _ rfl]
    exact q _ ((S0.low (S9.ex e10) (eB.trans (eB3.trans eB4))).le (by omega))
end
end Law

namespace TR
open PySem PySem.Spec L2 Evl
theorem ob_del {H : Hp} {d a : Addr} {kvs : List (Key × V)} {j : Bool} {xs : List V} (hd : H d = some (.dK kvs)) (h : H a = some (ob j xs)) : L2.del H d a = some (ob j xs) := by
  rw [L2.del_ne (fun z => by rw [z, hd] at h; exact ob_ne (Option.some.inj h).symm)]
  exact h
mutual
theorem TX.del {k : Bool} {H : Hp} {d : Addr} {kvs : List (Key × V)} (hd : H d = some (.dK kvs)) : ∀ {t : Tr} {v : V}, TX k H v t → TX k (L2.del H d) v t
  | _, _, .go h => .go (ob_del hd h)
  | _, _, .tell h r => .tell (ob_del hd h) (TX.del hd r)
  | _, _, .read h1 h2 r => .read (ob_del hd h1) (ob_del hd h2) (TXs.del hd r)
theorem TXs.del {k : Bool} {H : Hp} {d : Addr} {kvs : List (Key × V)} (hd : H d = some (.dK kvs)) : ∀ {ts : Trs} {vs : List V}, TXs k H vs ts → TXs k (L2.del H d) vs ts
  | _, _, .nil => .nil
  | _, _, .cons h r => .cons (TX.del hd h) (TXs.del hd r)
end
theorem KidX.del {k : Bool} {H : Hp} {d : Addr} {kvs : List (Key × V)} (hd : H d = some (.dK kvs)) : ∀ {vs : List V} {ts : List Tr}, KidX k H vs ts → KidX k (L2.del H d) vs ts
  | _, _, .nil => .nil
  | _, _, .cons h r => .cons (h.del hd) (KidX.del hd r)
end TR
namespace Law
open PySem PySem.Spec PyProof.Rows L2 Evl EK LamX TR GX Fg BT
abbrev lamL : Str := (Str.ofString "law" ++ ".<locals>.") ++ "<lambda>"
def spLaw (K : PySem.W.Frag) (T2 : List (Addr × Str)) : Sp := fun vs H Q _ => ∃ (a : Addr) (ns : List Int), vs = [.ref a] ∧ (∀ q ∈ T2, H q.1 = some (.tbl #[])) ∧ SqL K H a (ns.map V.int) ∧ ns.length ≤ 63 ∧ ∀ H', Q (.bl true) H'
theorem lets4 {v : V} (h : v ∈ [V.str "ab", .str "ba", .str "abc", .str "zyx"]) : ∃ L, v = .str (tx L) ∧ LG L ∧ 46 ∉ L ∧ L.length ≤ 3 := by
  have mk : ∀ L : List Nat, (2 ≤ L.length ∧ L.length ≤ 4 ∧ (∀ c ∈ L, 97 ≤ c ∧ c ≤ 122) ∧ L.Nodup ∧ 46 ∉ L ∧ L.length ≤ 3) → LG L ∧ 46 ∉ L ∧ L.length ≤ 3 := fun L h => ⟨⟨h.1, h.2.1, h.2.2.1, h.2.2.2.1⟩, h.2.2.2.2⟩
  simp only [List.mem_cons, List.not_mem_nil, or_false] at h
  rcases h with rfl | rfl | rfl | rfl
  · exact ⟨[97, 98], by decide +kernel, mk _ (by decide)⟩
  · exact ⟨[98, 97], by decide +kernel, mk _ (by decide)⟩
  · exact ⟨[97, 98, 99], by decide +kernel, mk _ (by decide)⟩
  · exact ⟨[122, 121, 120], by decide +kernel, mk _ (by decide)⟩
theorem Sta.updD {T : List (Addr × Str)} {p : PenI} {B H : Hp} {n : Nat} {d : Addr} {kvs : List (Key × V)} {o : HO} (S : Sta T p B H n) (hB : B d = none) (hd : d ≠ p.d) (hk : H d = some (.dK kvs)) : Sta T p B (L2.upd H d o) n where
  pen := S.pen.upd hB hd
  nt := S.nt
  tabs := fun q hq => by
    obtain ⟨ps, h1, h2, h3⟩ := S.tabs q hq
    refine ⟨ps, by rw [upd_ne (fun z => by rw [z, hk] at h1; cases h1)]; exact h1, h2, fun pos cv hc => ?_⟩
    obtain ⟨c, e1, e2⟩ := h3 pos cv hc
    refine ⟨c, e1, ?_⟩
    rw [upd_ne (fun z => by
      rw [z, hk] at e2
      unfold CodeO at e2
      cases e2)]
    exact e2
section
variable {P : Program} {w : World} {K : PySem.W.Frag} {mg : Str → Option Value} {base : Heap} {C_BadLetters C_BadWords C_BadOrder C_TooMany C_Searcher fL fW fO fT C_SkipsError gm c Pt feq fsi : Addr} {fdm fdeq fdsi : FuncData} {T2 : List (Addr × Str)}
theorem ok_law {f : Addr} {fd : FuncData} (F : GT.FunC K "law" "law" s_law f fd c) (T : Tx mg) (g_repr : mg "repr" = none) (Fm : Fun K "_law_met" "_law_met" s_lmet gm fdm) (g_lmet : mg "_law_met" = some (.ref gm)) (b_lmet : Binds K fdm ["_law_call"] [])
    (E1 : ErrC K C_BadLetters fL C_SkipsError) (E2 : ErrC K C_BadWords fW C_SkipsError) (E3 : ErrC K C_BadOrder fO C_SkipsError) (E4 : ErrC K C_TooMany fT C_SkipsError)
    (GS : Gs mg C_BadLetters C_BadWords C_BadOrder C_TooMany C_SkipsError) (NF : NoF K C_BadLetters C_BadWords C_BadOrder C_TooMany) (EX : Exm K C_BadLetters C_BadWords C_BadOrder C_TooMany) (TB : LamX.TabB base mg c Pt)
    (hmT : (Pt, lamL) ∈ T2) (uT : ∀ q ∈ T2, q.1 = Pt → q.2 = lamL)
    (c_lpen : Kn P w K mg base "_law_pen_of" ["_law_script"] 1 (spPen K)) (c_ldraw : Kn P w K mg base "_law_draw" ["_law_pen", "_law_many"] 1 spDraw) (c_pickL : Kn P w K mg base "_law_pick" ["_law_pen", "_law_items"] 2 spPickL) (c_lshuffled : Kn P w K mg base "_law_shuffled" ["_law_pen", "_law_items"] 2 spShuf)
    (c_lsome_words : Kn P w K mg base "_law_some_words" ["_law_pen", "_law_letters", "_law_width", "_law_most"] 4 spSomeWords)
    (c_lstates : Kn P w K mg base "_law_states" ["_law_world"] 10 spStates)
    (c_best4 : Kn' P w K mg base (L2.CX P w) "best" ["letters", "words", "order", "behind"] 44 (spBest K C_BadLetters C_BadWords C_BadOrder C_Searcher)) (c_best3 : KnD P w K mg base "best" ["letters", "words", "order", "behind"] 44 (spBest K C_BadLetters C_BadWords C_BadOrder C_Searcher))
    (O_Searcher : OE.Own K C_Searcher feq) (F_eq : FnOk P w K mg base CX0 1 feq fdeq ["self", "other"] (spEqO C_Searcher)) (b_eq : Binds K fdeq ["self", "other"] [])
    (g_Searcher : mg "Searcher" = some (.ref C_Searcher)) (M_Searcher : Mk K C_Searcher fsi) (F_Searcher : FnOk P w K mg base CX0 42 fsi fdsi ["self", "letters", "width", "states"] (spInit C_Searcher)) (b_Searcher : Binds K fdsi ["self", "letters", "width", "states"] [])
    (c_lare_refused : KnG P w K mg base "_law_are_refused" ["_law_pen", "_law_letters", "_law_words", "_law_order"] 48 (spRefused T2)) :
    GD.Gd P w K mg base 51 f fd ["_law_script"] (spLaw K T2) := by
  have k_lmet := Fm.kp
  obtain ⟨oc, od, kV, doc, pm, an, cdm, ct, osl, rfl, l_lmet, h_lmet⟩ := Fm.ex
  have mT : ∀ {q : Addr × Str}, q = (Pt, lamL) → q ∈ T2 := fun e => e ▸ hmT
  refine GT.okGC F sc_law (fun vs H Q E h => ?_) (fun A outer s H vs Q E hr hg h => ?_)
  · obtain ⟨a, ns, rfl, _⟩ := h
    rfl
  · obtain ⟨a, ns, rfl, hPt, hS, hl, q⟩ := h
    refine ⟨_, (pss_cons (ps_set (i := 1) sc_law.nd rfl (Or.inl rfl) (pe_call c_lpen.ok (hr.mono (by decide)) (by rfl) c_lpen.g c_lpen.kp c_lpen.b .nil pass0 (pa_cons (pv 0) pa_nil)))
      (pss_cons (ps_for PassesOwn.never rfl (pi_range1 (by rfl) T.range (pa_cons pe_int pa_nil)) (pg_name (i := 2) sc_law.nd rfl (Or.inl rfl)) (pss_cons (ps_asg (pe_tup (pa_cons (pe_call c_pickL.ok (hr.mono (by decide)) (by rfl) c_pickL.g c_pickL.kp c_pickL.b .nil pass0 (pa_cons (pv 1) (pa_cons (pe_lst (pa_cons pe_str (pa_cons pe_str (pa_cons pe_str (pa_cons pe_str pa_nil))))) pa_nil))) (pa_cons (pe_op op_add pe_int (pe_call c_ldraw.ok (hr.mono (by decide)) (by rfl) c_ldraw.g c_ldraw.kp c_ldraw.b .nil pass0 (pa_cons (pv 1) (pa_cons pe_int pa_nil)))) pa_nil))) (pg_tup (by rfl) (pgs_cons (pg_name (i := 3) sc_law.nd rfl (Or.inr rfl)) (pgs_cons (pg_name (i := 4) sc_law.nd rfl (Or.inl rfl)) pgs_nil))))
      (pss_cons (ps_set (i := 5) sc_law.nd rfl (Or.inl rfl) (pe_call c_lsome_words.ok (hr.mono (by decide)) (by rfl) c_lsome_words.g c_lsome_words.kp c_lsome_words.b .nil pass0 (pa_cons (pv 1) (pa_cons (pv 3) (pa_cons (pv 4) (pa_cons pe_int pa_nil))))))
      (pss_cons (ps_set (i := 6) sc_law.nd rfl (Or.inr rfl) (pe_call c_lshuffled.ok (hr.mono (by decide)) (by rfl) c_lshuffled.g c_lshuffled.kp c_lshuffled.b .nil pass0 (pa_cons (pv 1) (pa_cons (pe_listRg rfl (by rfl) T.list (prg_1 (by rfl) T.range (pv 4))) pa_nil))))
      (pss_cons (ps_set (i := 7) sc_law.nd rfl (Or.inr rfl) (pe_disp (pps_cons pe_str (pv 3) (pps_cons pe_str (pv 5) (pps_cons pe_str (pv 6) (pps_cons pe_str (pe_cmpR op_eq (pe_call c_ldraw.ok (hr.mono (by decide)) (by rfl) c_ldraw.g c_ldraw.kp c_ldraw.b .nil pass0 (pa_cons (pv 1) (pa_cons pe_int pa_nil))) pe_int (nomark _)) pps_nil)))) (by rfl) (by rfl) (fun z => by cases z) (by decide)))
      (pss_cons (ps_asg (pe_tup (pa_cons (pe_call c_lstates.ok (hr.mono (by decide)) (by rfl) c_lstates.g c_lstates.kp c_lstates.b .nil pass0 (pa_cons (pv 7) pa_nil)) (pa_cons (pe_call c_pickL.ok (hr.mono (by decide)) (by rfl) c_pickL.g c_pickL.kp c_pickL.b .nil pass0 (pa_cons (pv 1) (pa_cons (pe_lst (pa_cons (pe_callTy call_list_of (by rfl) T.list PyProof.Rows.boot_list (pa_cons (pv 5) pa_nil)) (pa_cons (pe_callTy SQ.call_tuple_fr (by rfl) T.tuple PyProof.Rows.boot_tuple (pa_cons (pv 5) pa_nil)) pa_nil))) pa_nil))) pa_nil))) (pg_tup (by rfl) (pgs_cons (pg_name (i := 8) sc_law.nd rfl (Or.inl rfl)) (pgs_cons (pg_name (i := 9) sc_law.nd rfl (Or.inr rfl)) pgs_nil))))
      (pss_cons (ps_if (pt_cmpR op_gt (pe_callB call_len_seq (by rfl) T.len PySem.boot_len (pa_cons (pv 8) pa_nil)) pe_int (nomark _)) (pss_one (ps_if (pt_cmpR (EQ.op_neP hr.units) (LamX.pe_lamcall (k := 44) (by rfl) g_lmet k_lmet l_lmet h_lmet b_lmet sc_lmet rfl (Or.inl rfl) (met_gives hg (hr.mono (by decide)) g_repr T E1 E2 E3 E4 GS NF EX) TB rfl (mT rfl) uT (hr.mono (by decide)) (LamX.lamS_by (sc := defScope s_law) (by decide +kernel)) rfl (fun _ _ _ _ _ => rfl) (fun A outer s H E f c hr => (pe_callS c_best4.ok (hr.mono (by decide)) (by rfl) c_best4.g c_best4.kp c_best4.b (fun σ => passAt (takes_of rfl rfl rfl rfl) σ) (pa_cons (pv 3) (pa_cons (pv 9) (pa_cons (pv 6) (pa_cons (pe_dget (hu_of hr) (pv 7) pe_str (fun _ _ => rfl)) pa_nil))))))) (pe_tup (pa_cons pe_str (pa_cons (pe_callB call_len_seq (by rfl) T.len PySem.boot_len (pa_cons (pv 8) pa_nil)) (pa_cons pe_int pa_nil)))) (nomark _)) (pss_one (ps_ret pe_bl)) pss_nil)) (pss_one (ps_if (pt_cmpR (OE.op_ownN O_Searcher F_eq b_eq (hr.mono (by decide))) (pe_call c_best4.ok (hr.mono (by decide)) (by rfl) c_best4.g c_best4.kp c_best4.b .nil passL (pa_cons (pv 3) (pa_cons (pv 9) (pa_cons (pe_callTy call_tuple_of (by rfl) T.tuple PyProof.Rows.boot_tuple (pa_cons (pv 6) pa_nil)) (pa_cons (pe_dget (hu_of hr) (pv 7) pe_str (fun _ _ => rfl)) pa_nil))))) (pe_make M_Searcher F_Searcher (hr.mono (by decide)) (by rfl) g_Searcher b_Searcher .nil pass0 (pa_cons (pv 3) (pa_cons (pv 4) (pa_cons (pv 8) pa_nil)))) (nomark _)) (pss_one (ps_ret pe_bl)) (pss_one (ps_if (PW.pt (pw_and (pt_not (pt_val (pe_dget (hu_of hr) (pv 7) pe_str (fun _ _ => rfl)))) (pw_and1 (pt_cmpR (OE.op_ownN O_Searcher F_eq b_eq (hr.mono (by decide))) (pe_call c_best3.ok (hr.mono (by decide)) (by rfl) c_best3.g c_best3.kp c_best3.b c_best3.v passL (pa_cons (pv 3) (pa_cons (pv 9) (pa_cons (pv 6) pa_nil)))) (pe_call c_best4.ok (hr.mono (by decide)) (by rfl) c_best4.g c_best4.kp c_best4.b .nil passL (pa_cons (pv 3) (pa_cons (pv 5) (pa_cons (pv 6) (pa_cons pe_bl pa_nil))))) (nomark _))))) (pss_one (ps_ret pe_bl)) pss_nil)))))
      (pss_one (ps_if (pt_not (pt_val (GD.pe_callG c_lare_refused.ok c_lare_refused.len hg (hr.mono (by decide)) (by rfl) c_lare_refused.g c_lare_refused.kp c_lare_refused.b (pa_cons (pv 1) (pa_cons (pv 3) (pa_cons (pe_slice sl_list (pv 5) po_none (po_some pe_int)) (pa_cons (pv 6) pa_nil))))))) (pss_one (ps_ret pe_bl)) pss_nil)))))))))
      (pss_one (ps_ret pe_bl)))), ?_⟩
    refine ⟨_, rfl, a, ns, rfl, hS, hl, fun p H0 H1 eH P0 => ?_⟩
    have S0 : Sta T2 p (noT H0) H1 0 := by
      have hT1 : ∀ q ∈ T2, H1 q.1 = some (.tbl #[]) := fun q hq => P0.1 _ _ (eH _ _ (hPt q hq))
      obtain ⟨e0, h0, hc, hl', op, lf, ho, hd⟩ := P0
      exact ⟨⟨(noT_ex H0).trans e0, noT_none h0, noT_of hc (fun ps z => by cases z), hl', op, lf, ho, hd⟩, noT_nt H0, fun q hq => TabS.nil (hT1 q hq)⟩
    clear P0
    dsimp only [gName]
    refine' st_eq (σ' := [some (.ref a), some (.ref p.d), none, none, none, none, none, none, none, none]) rfl ?_
    refine ⟨3, rfl, by decide, by decide, ?_⟩
    refine for_range (lo := 0) (n := 3) (fun i σ H' => ∃ (B : Hp) (y2 y3 y4 y5 y6 y7 y8 y9 : Option V), σ = [some (.ref a), some (.ref p.d), y2, y3, y4, y5, y6, y7, y8, y9] ∧ Sta T2 p B H' (300 * i))
      ⟨_, none, none, none, none, none, none, none, none, rfl, S0⟩ (fun i σ H2 hi hw => ?_) (fun σ H2 hw => ?_)
    · obtain ⟨B, y2, y3, y4, y5, y6, y7, y8, y9, rfl, S1⟩ := hw
      dsimp only [gName]
      refine ⟨_, rfl, by show 4 ≤ sizeLine; decide, fun l hl => ?_⟩
      have S2 := S1.ex (Ex.new (o := .lst [V.str "ab", .str "ba", .str "abc", .str "zyx"]) hl)
      refine ⟨p, _, l, _, _, rfl, S2.plus, by omega, upd_same, by show 0 < 4; decide, by show 4 < 1000; decide, fun H3 v P3 hv => ?_⟩
      have S3 := S2.back P3
      obtain ⟨L, rfl, hLG, h46, l3⟩ := lets4 hv
      refine ⟨_, rfl, p, _, _, 4, rfl, S3.plus, by omega, by decide, by decide, fun H4 r4 P4 r40 r41 => ⟨_, _, rfl, rfl, by show 2 ≤ sizeLine; decide, fun t ht => ?_⟩⟩
      have S4 := (S3.back P4).ex (Ex.new (o := .tup [.str (tx L), .int (1 + r4)]) ht)
      obtain ⟨m, hm⟩ : ∃ m : Nat, 1 + r4 = (m : Int) := ⟨(1 + r4).toNat, (Int.toNat_of_nonneg (by omega)).symm⟩
      refine ⟨t, _, rfl, .inl (.inl upd_same), rfl, _, _, rfl, _, _, rfl, rfl, ?_⟩
      dsimp only [gName]
      refine' st_eq (σ' := [some (.ref a), some (.ref p.d), some (.int (0 + (i : Int))), some (.str (tx L)), some (.int (m : Nat)), y5, y6, y7, y8, y9]) (by rw [← hm]; rfl) ?_
      have m1 : 1 ≤ m := by omega
      have m4 : m ≤ 4 := by omega
      have l2 := hLG.lo
      have l4 := hLG.hi
      clear hm ht
      generalize (L2.upd H4 t (.tup [.str (tx L), .int (1 + r4)])) = H5 at S4 ⊢
      clear S3 P3 P4 S2 hv r40 r41
      refine ⟨_, rfl, _, rfl, _, rfl, p, _, _, m, 3, L, rfl, S4.plus, by omega, by omega, by omega, by omega, by decide, by decide, fun Hb H6 wa ws eb P6 wa0 hwa w1 w3 w4 wnd => ?_⟩
      obtain ⟨S6, e6⟩ := S4.grow P6 eb
      have hwaB := noT_of hwa (fun ps z => by cases z)
      generalize noT Hb = B6 at S6 e6 hwaB
      clear P6 eb hwa wa0 S4
      have W : Wds L m ws := ⟨w1, w3, w4, wnd, m1, by omega, h46⟩
      dsimp only [gName]
      refine' st_eq (σ' := [some (.ref a), some (.ref p.d), some (.int (0 + (i : Int))), some (.str (tx L)), some (.int (m : Nat)), some (.ref wa), y6, y7, y8, y9]) rfl ?_
      -- the order
      refine ⟨_, rfl, _, rfl, _, rfl, RgOk.of_le (by decide) (by omega) (by decide) (by omega), fun qa hqa => ?_⟩
      have erg : rgV 0 ((m : Nat) : Int) = (List.range m).map iv := by
        unfold rgV
        rw [show (((m : Nat) : Int) - 0).toNat = m by omega]
        refine List.map_congr_left fun k _ => ?_
        show V.int (0 + (k : Int)) = V.int (k : Int)
        rw [Int.zero_add]
      rw [erg]
      have S7 := S6.ex (Ex.new (o := .lst ((List.range m).map iv)) hqa)
      have k7 : (L2.upd H6 qa (.lst ((List.range m).map iv))) qa = some (.lst ((List.range m).map iv)) := upd_same
      generalize (L2.upd H6 qa (.lst ((List.range m).map iv))) = H7 at S7 k7 ⊢
      refine ⟨p, _, _, qa, List.range m, rfl, S7.plus, by omega, k7, by rw [List.length_range]; omega, fun Hs H8 oa O es P8 oa0 hoa operm => ?_⟩
      rw [List.length_range] at P8
      obtain ⟨S8, e8⟩ := S7.grow P8 es
      have hoaB := noT_of hoa (fun ps z => by cases z)
      generalize noT Hs = B8 at S8 e8 hoaB
      clear P8 es hoa oa0 S7 k7 S6
      have ol : O.length = m := by rw [operm.length_eq, List.length_range]
      have ond : O.Nodup := operm.nodup_iff.mpr List.nodup_range
      have olt : ∀ y ∈ O, y < O.length := fun y hy => by
        have := List.mem_range.mp (operm.mem_iff.mp hy)
        omega
      have hoaV : B8 oa = some (.lst (nV O)) := hoaB
      have hwa8 := e8 _ _ hwaB
      have eB8 := e6.trans e8
      have W' : Wds L O.length ws := by rw [ol]; exact W
      have Wk : Wok L ws O := ⟨l2, l3, fun c hc e => h46 (e ▸ hc), w1, w3, fun z hz => by rw [(w4 z hz).len, ol], ond, olt, by omega, by omega⟩
      dsimp only [gName]
      refine' st_eq (σ' := [some (.ref a), some (.ref p.d), some (.int (0 + (i : Int))), some (.str (tx L)), some (.int (m : Nat)), some (.ref wa), some (.ref oa), y7, y8, y9]) rfl ?_
      -- the world
      refine fun d hd => ?_
      have ndp : d ≠ p.d := fun z => by
        obtain ⟨kvs, h⟩ := S8.pen.dict
        rw [← z, hd] at h
        cases h
      have dB : B8 d = none := fresh_back S8.pen.1 hd
      have S9 := S8.ex (Ex.new (o := .dK []) hd)
      have k9 : (L2.upd H8 d (.dK [])) d = some (.dK []) := upd_same
      generalize (L2.upd H8 d (.dK [])) = H9 at S9 k9 ⊢
      refine ⟨_, rfl, _, rfl, _, rfl, _, rfl, p, _, _, 3, rfl, S9.plus, by omega, by decide, by decide, fun H10 r3 P10 r30 r31 => ?_⟩
      have S10 := S9.back P10
      have k10 : H10 d = some (.dK []) := P10.1 _ _ (by rw [del_ne ndp]; exact k9)
      obtain ⟨bh, hbh⟩ : ∃ bh : Bool, decide (V.int r3 = V.int 0) = bh := ⟨_, rfl⟩
      refine ⟨rfl, k10, wrK L wa oa (decide (V.int r3 = V.int 0)), rfl, by show 4 ≤ 15; decide, ?_⟩
      rw [hbh]
      rw [show mergeK [] (wrK L wa oa bh) = wrK L wa oa bh from rfl]
      have S11 := S10.updD (o := .dK (wrK L wa oa bh)) dB ndp k10
      have k11 : (L2.upd H10 d (.dK (wrK L wa oa bh))) d = some (.dK (wrK L wa oa bh)) := upd_same
      generalize (L2.upd H10 d (.dK (wrK L wa oa bh))) = H11 at S11 k11 ⊢
      clear S10 P10 k10 S9 k9 S8 hbh r30 r31
      have Wd : WdA d wa oa L ws O bh H11 := ⟨k11, S11.pen.1 _ _ hwa8, S11.pen.1 _ _ hoaV⟩
      dsimp only [gName]
      refine' st_eq (σ' := [some (.ref a), some (.ref p.d), some (.int (0 + (i : Int))), some (.str (tx L)), some (.int (m : Nat)), some (.ref wa), some (.ref oa), some (.ref d), y8, y9]) rfl ?_
      -- its states
      refine ⟨_, rfl, d, wa, oa, L, ws, O, bh, rfl, Wd, Wk, wnd, fun B12 H12 r us e12 e12' hr0 hr KX hul => ?_⟩
      have e13 := e12.trans e12'
      have S12 := S11.ex e13
      have hr12 := e12' _ _ hr
      have KX12 := KX.ex e12'
      have Wd12 := Wd.ex e13
      have oV : nV O = O.map iv := rfl
      refine ⟨_, rfl, _, rfl, wa, _, rfl, .inl (sq_of Wd12.w), fun h1 hh1 => ?_⟩
      have S13 := S12.ex (Ex.new (o := .lst (wv ws)) hh1)
      have e14 := Ex.new (o := .lst (wv ws)) hh1
      have j13 : (L2.upd H12 h1 (.lst (wv ws))) h1 = some (.lst (wv ws)) := upd_same
      have hr13 := e14 _ _ hr12
      have KX13 := KX12.ex e14
      have Wd13 := Wd12.ex e14
      generalize (L2.upd H12 h1 (.lst (wv ws))) = H13 at S13 j13 hr13 KX13 Wd13 e14 ⊢
      refine ⟨_, rfl, wa, _, rfl, sq_of Wd13.w, fun h2 ob2 hh2 hc2 hd2 => ?_⟩
      have e15 := Ex.new (o := .frz ob2 (.tup (wv ws))) hh2
      have S14 := S13.ex e15
      have j14 := e15 _ _ j13
      have f14 : (L2.upd H13 h2 (.frz ob2 (.tup (wv ws)))) h2 = some (.frz ob2 (.tup (wv ws))) := upd_same
      have hr14 := e15 _ _ hr13
      have KX14 := KX13.ex e15
      have Wd14 := Wd13.ex e15
      generalize (L2.upd H13 h2 (.frz ob2 (.tup (wv ws)))) = H14 at S14 j14 f14 hr14 KX14 Wd14 e15 ⊢
      refine ⟨by show 2 ≤ sizeLine; decide, fun hb hhb => ?_⟩
      have e16 := Ex.new (o := .lst [V.ref h1, .ref h2]) hhb
      have S15 := S14.ex e16
      have j15 := e16 _ _ j14
      have f15 := e16 _ _ f14
      have b15 : (L2.upd H14 hb (.lst [V.ref h1, .ref h2])) hb = some (.lst [V.ref h1, .ref h2]) := upd_same
      have hr15 := e16 _ _ hr14
      have KX15 := KX14.ex e16
      have Wd15 := Wd14.ex e16
      generalize (L2.upd H14 hb (.lst [V.ref h1, .ref h2])) = H15 at S15 j15 f15 b15 hr15 KX15 Wd15 e16 ⊢
      refine ⟨p, _, hb, _, _, rfl, S15.plus, by omega, b15, by show 0 < 2; decide, by show 2 < 1000; decide, fun H16 v P16 hv => ⟨by show 2 ≤ sizeLine; decide, fun t ht => ?_⟩⟩
      obtain ⟨kvp, hkvp⟩ := S15.pen.dict
      have S16 := S15.back P16
      have kp : ∀ {b : Addr} {u : HO}, H15 b = some u → (∀ kvs, u ≠ .dK kvs) → H16 b = some u := fun {b u} h hn => P16.1 _ _ (by rw [del_ne (fun z => by rw [z, hkvp] at h; exact hn _ (Option.some.inj h).symm)]; exact h)
      have hr16 := kp hr15 (fun _ z => by cases z)
      have KX16 := (KX15.del hkvp).ex P16.1
      have wa16 := kp Wd15.w (fun _ z => by cases z)
      have oa16 := kp Wd15.o (fun _ z => by cases z)
      have d16 : H16 d = some (.dK (wrK L wa oa bh)) := P16.1 _ _ (by rw [del_ne ndp]; exact Wd15.dk)
      have hh16 : ∃ (va : Addr) (kw : Bool), v = .ref va ∧ SQ.WQ H16 va kw (wv ws) := by
        simp only [List.mem_cons, List.not_mem_nil, or_false] at hv
        rcases hv with rfl | rfl
        · exact ⟨h1, false, rfl, kp j15 (fun _ z => by cases z)⟩
        · exact ⟨h2, true, rfl, ob2, kp f15 (fun _ z => by cases z), hc2, hd2⟩
      obtain ⟨va, kw, rfl, hwq⟩ := hh16
      have Wd16 : WdA d wa oa L ws O bh H16 := ⟨d16, wa16, oa16⟩
      have eT := Ex.new (o := .tup [V.ref r, .ref va]) ht
      have S17 := S16.ex eT
      have hr17 := eT _ _ hr16
      have KX17 := KX16.ex eT
      have Wd17 := Wd16.ex eT
      have hwq17 := hwq.ex eT
      refine ⟨t, _, rfl, .inl (.inl upd_same), rfl, _, _, rfl, _, _, rfl, rfl, ?_⟩
      generalize (L2.upd H16 t (.tup [V.ref r, .ref va])) = H17 at S17 hr17 KX17 Wd17 hwq17 ⊢
      clear S16 P16 S15 S14 S13 S12 S11 KX16 KX15 KX14 KX13 KX12 KX Wd16 Wd15 Wd14 Wd13 Wd12 Wd hwq hr16 hr15 hr14 hr13 hr12 hr f15 f14 b15 j15 j14 j13 kp hkvp
      dsimp only [gName]
      refine' st_eq (σ' := [some (.ref a), some (.ref p.d), some (.int (0 + (i : Int))), some (.str (tx L)), some (.int (m : Nat)), some (.ref wa), some (.ref oa), some (.ref d), some (.ref r), some (.ref va)]) rfl ?_
      obtain ⟨b1, b2, b3, b4⟩ := best_good Wk (bh := bh) (R := run L ws O bh 40 [] (dotsK O)) rfl
      have bn : (TrB L ws O bh).length ≤ 40 := b2
      have dp : ∀ t ∈ TrB L ws O bh, t.depth ≤ 31 := fun t ht => Nat.le_trans (b3 t ht).2 (by decide)
      refine' cutV2 (fun σ' H' => σ' = [some (.ref a), some (.ref p.d), some (.int (0 + (i : Int))), some (.str (tx L)), some (.int (m : Nat)), some (.ref wa), some (.ref oa), some (.ref d), some (.ref r), some (.ref va)] ∧ Sta T2 p B8 H' (300 * i + 1 + 1 + 1 + m * 3 + m + 1 + 1)) (fun kk => ?_) ?_
      rotate_left
      · refine ⟨_, rfl, r, _, rfl, .inl (sq_of hr17), _, _, rfl, rfl, _, rfl, ite2 (fun hb => ?_) (fun _ => ?_)⟩
        · have hb2 : (64 : Int) < ((us.length : Nat) : Int) := of_decide_eq_true hb
          omega
        · refine ⟨_, rfl, _, rfl, _, rfl, oa, _, rfl, .inl ⟨sq_of Wd17.o, fun l hl => ?_⟩⟩
          have eL := Ex.new (o := .tup (nV O)) hl
          have kL : (L2.upd H17 l (.tup (nV O))) l = some (.tup (nV O)) := upd_same
          have S18 := S17.ex eL
          have hr18 := eL _ _ hr17
          have KX18 := KX17.ex eL
          have Wd18 := Wd17.ex eL
          have hwq18 := hwq17.ex eL
          generalize (L2.upd H17 l (.tup (nV O))) = H18 at S18 hr18 KX18 Wd18 hwq18 kL ⊢
          refine ⟨_, rfl, d, _, rfl, Wd18.g4, ?_⟩
          refine ⟨.str (tx L), .ref l, va, kw, bh, wv ws, rfl, hwq18, .inr (.inr (.inr ⟨L, ws, O, l, true, rfl, hLG, rfl, W', Wk, rfl, kL, fun o H19 e19 ho SO => ?_⟩))⟩
          rw [ol] at SO
          have S19 := S18.ex e19
          have hr19 := e19 _ _ hr18
          have KX19 := KX18.ex e19
          have Wd19 := Wd18.ex e19
          have hwq19 := hwq18.ex e19
          refine ⟨_, rfl, _, rfl, _, rfl, fun o2 dx2 ho2 hdx2 hne2 => ?_⟩
          have ho3 : (L2.upd H19 dx2 (.own o2)) o2 = none := by rw [upd_ne hne2.symm]; exact ho2
          have e7 : Ex H19 (L2.upd (L2.upd H19 dx2 (.own o2)) o2 (.ins C_Searcher dx2 [])) := (Ex.new hdx2).trans (Ex.new ho3)
          refine ⟨o2, dx2, r, L, m, false, true, us, TrB L ws O bh, H19, rfl, e7, ho2, upd_same, hr19, KX19, hLG, m1, by omega, b1, by omega, fun t ht => ⟨by rw [← ol]; exact (b3 t ht).1, Nat.le_trans (b3 t ht).2 (by decide)⟩, b4, fun H20 e20 SO2 => ⟨rfl, ?_⟩⟩
          have SO1 := SO.up e20
          have S20 := S19.ex e20
          have Wd20 := Wd19.ex e20
          have hwq20 := hwq19.ex e20
          obtain ⟨dxa, sta, usa, ia, _, _⟩ := SO1.ex
          obtain ⟨dxb, stb, usb, ib, _, _⟩ := SO2.ex
          refine ⟨o, o2, _, _, rfl, rfl, ia, .inl ⟨_, _, ib⟩, .inl ⟨o, o2, L, L, m, m, TrB L ws O bh, TrB L ws O bh, true, rfl, SO1, SO2, dp, dp, ⟨fun _ => ⟨rfl, rfl, rfl⟩, fun _ => rfl⟩, fun H21 e21 => ⟨true, rfl, _, rfl, ?_⟩⟩⟩
          refine iteF ?_
          have S21 := S20.ex e21
          have Wd21 := Wd20.ex e21
          have hwq21 := hwq20.ex e21
          refine ⟨_, rfl, d, _, rfl, Wd21.g4, _, rfl, ?_⟩
          cases bh with
          | true =>
            refine (if_neg (by decide)).mpr ?_
            exact iteF (kk _ _ ⟨rfl, S21⟩)
          | false =>
            refine (if_pos rfl).mpr ?_
            refine ⟨_, rfl, _, rfl, _, rfl, ?_⟩
            refine ⟨.str (tx L), .ref oa, va, kw, false, wv ws, rfl, hwq21, .inr (.inr (.inr ⟨L, ws, O, oa, false, rfl, hLG, rfl, W', Wk, rfl, Wd21.o, fun o3 H22 e22 ho3 SO3 => ?_⟩))⟩
            have S22 := S21.ex e22
            have Wd22 := Wd21.ex e22
            refine ⟨_, rfl, _, rfl, _, rfl, ?_⟩
            refine ⟨.str (tx L), .ref oa, wa, false, false, wv ws, rfl, Wd22.w, .inr (.inr (.inr ⟨L, ws, O, oa, false, rfl, hLG, rfl, W', Wk, rfl, Wd22.o, fun o4 H23 e23 ho4 SO4 => ?_⟩))⟩
            have S23 := S22.ex e23
            have SO5 := SO3.up e23
            obtain ⟨dxc, stc, usc, ic, _, _⟩ := SO5.ex
            obtain ⟨dxd, std, usd, id', _, _⟩ := SO4.ex
            refine ⟨o3, o4, _, _, rfl, rfl, ic, .inl ⟨_, _, id'⟩, .inl ⟨o3, o4, L, L, O.length, O.length, TrB L ws O false, TrB L ws O false, true, rfl, SO5, SO4, dp, dp, ⟨fun _ => ⟨rfl, rfl, rfl⟩, fun _ => rfl⟩, fun H24 e24 => ⟨true, rfl, _, rfl, ?_⟩⟩⟩
            exact iteF (kk _ _ ⟨rfl, S23.ex e24⟩)
      · intro σ' H18 h
        obtain ⟨rfl, S18⟩ := h
        refine ⟨_, rfl, _, rfl, _, rfl, _, rfl, wa, _, rfl, sq_of (S18.pen.1 _ _ hwa8), fun qs hqs => ?_⟩
        have ct : cutV (wv ws) none (some 2) = wv (ws.take 2) := by
          have wl : (wv ws).length = ws.length := by unfold wv; rw [List.length_map]
          have e1 : cutV (wv ws) none (some 2) = (wv ws).take 2 := by
            by_cases h : 2 ≤ (wv ws).length
            · exact cut_takeV (wv ws) 2 h
            · have e : HT.sIx (wv ws).length (wv ws).length (some (2 : Int)) = (wv ws).length := by
                show (if (2 : Int) < 0 then ((2 : Int) + ((wv ws).length : Int)).toNat else min (2 : Int).toNat (wv ws).length) = (wv ws).length
                rw [if_neg (by decide)]
                show min 2 (wv ws).length = (wv ws).length
                omega
              unfold cutV
              rw [HT.sIx_none, e, Nat.sub_zero, List.drop_zero, List.take_length, List.take_of_length_le (by omega)]
          rw [e1]
          unfold wv
          rw [List.map_take]
        rw [ct]
        have S19 := S18.ex (Ex.new (o := .lst (wv (ws.take 2))) hqs)
        have k19 : (L2.upd H18 qs (.lst (wv (ws.take 2)))) qs = some (.lst (wv (ws.take 2))) := upd_same
        generalize (L2.upd H18 qs (.lst (wv (ws.take 2)))) = H19 at S19 k19 ⊢
        obtain ⟨B20, S20, e20, kB20⟩ := S19.hold
        have k20 := kB20 _ _ k19 (S19.pen.lst_ne k19) (fun _ z => by cases z)
        have Wt : Wds L O.length (ws.take 2) := ⟨by rw [List.length_take]; omega, by rw [List.length_take]; omega, fun z hz => W'.of z (List.mem_of_mem_take hz), List.Sublist.nodup (List.take_sublist _ _) wnd, W'.m1, W'.m6, h46⟩
        refine ⟨_, rfl, p, B20, _, qs, oa, L, ws.take 2, O, rfl, S20, by omega, k20, e20 _ _ hoaV, hLG, Wt, by rw [List.length_take]; omega, by omega, by omega, ond, olt, fun H21 S21 => ⟨true, rfl, ?_⟩⟩
        exact iteF ⟨B, _, _, _, _, _, _, _, _, rfl, (S1.low S21 (eB8.trans e20)).le (by omega)⟩
    · obtain ⟨B, y2, y3, y4, y5, y6, y7, y8, y9, rfl, S1⟩ := hw
      exact q _
end
end Law

/-! a law under whose calls defs are made: several code objects with a table each -/
namespace GT
open PySem PySem.Spec PyProof.Rows L2 GD
/-- the script, where it is tracked, and the tables -/
def mny (ts : List Addr) (s : Hp) : Hp := fun b => if b ∈ ts then some (.tbl #[]) else s b
theorem mny_in {ts : List Addr} {s : Hp} {b : Addr} (h : b ∈ ts) : mny ts s b = some (.tbl #[]) := if_pos h
theorem mny_out {ts : List Addr} {s : Hp} {b : Addr} (h : b ∉ ts) : mny ts s b = s b := if_neg h
theorem callGTs {P : Program} {w : World} {K : PySem.W.Frag} {mg mb : Str → Option Value} {k : Nat} {fa a : Addr} {cs : List (Addr × Addr)} {fd : FuncData} {x : Str} {sp : Sp} {s : Shared} {vs : List Value} {ns : List Int}
    (kin : K.In s.heap) (hns : s.heap.Ns mainGlobals mg) (hb : s.heap.Ns builtinsNs mb) (hbb : ∀ x : Str, x ≠ "__name__" → mb x = bootBuiltins x) (nolim : s.heap.NoLimit) (gens : s.gens = #[])
    (tab : ∀ p ∈ cs, s.heap.get? p.2 = some { cls := .none, data := .fields #[] }) (tabK : ∀ p ∈ cs, K.lookup p.2 = none) (code : ∀ p ∈ cs, PySem.W.CodeHd s.heap p.1 p.2) (hbm : Bm mg s.heap)
    (ha : s.heap.get? a = some { cls := .type "list", data := .seq vs.toArray }) (hi : IntsAre vs ns) (hl : ns.length ≤ sizeLine) (room : Room k callerA)
    (F : ∀ base : Heap, K.In base → base.Ns mainGlobals mg → (∀ p ∈ cs, LamX.TabB base mg p.1 p.2) → Gd P w K mg base k fa fd [x] sp) (binds : ∀ (s : Shared) (u : Value), BindsTo s fd ⟨[u], []⟩ [(x, u)])
    (hsp : ∀ H : Hp, (∀ p ∈ cs, H p.2 = some (.tbl #[])) → SqL K H a (ns.map V.int) → sp [.ref a] H (fun v _ => v = .bl true) E0) :
    codeAny (model P w) callerA (.call (.ref fa) ⟨[.ref a], []⟩) (fun r s' => r = .ok (.ret (.bool true)) ∧ OldK s.heap s'.heap ∧ s'.os = s.os ∧ AllBare s'.gens) s := by
  have rv := vals_ints hi
  obtain ⟨ts, hts⟩ : ∃ ts, cs.map (·.2) = ts := ⟨_, rfl⟩
  have tin : ∀ {p : Addr × Addr}, p ∈ cs → p.2 ∈ ts := fun {p} hp => by
    rw [← hts]
    exact List.mem_map_of_mem hp
  have tof : ∀ {b : Addr}, b ∈ ts → ∃ p ∈ cs, p.2 = b := fun {b} hb => by
    rw [← hts] at hb
    obtain ⟨p, hp, e⟩ := List.mem_map.mp hb
    exact ⟨p, hp, e⟩
  have tobj : ∀ {b : Addr}, b ∈ ts → s.heap.get? b = some { cls := .none, data := .fields #[] } := fun {b} hb => by
    obtain ⟨p, hp, rfl⟩ := tof hb
    exact tab p hp
  have nat : a ∉ ts := fun z => by
    have := tobj z
    rw [ha] at this
    cases this
  have step : ∀ H : Hp, (∀ b u, H b = some u → b ∉ ts → b = a ∧ K.lookup a = none ∧ ∃ o xs, u = .frz o (.lst xs)) → (∀ b ∈ ts, H b = some (.tbl #[])) → HOk P w H s.heap → SqL K H a (ns.map V.int) →
      codeAny (model P w) callerA (.call (.ref fa) ⟨[.ref a], []⟩) (fun r s' => r = .ok (.ret (.bool true)) ∧ OldK s.heap s'.heap ∧ s'.os = s.os ∧ AllBare s'.gens) s := by
    intro H only hT hok hS
    have free : ∀ {b : Addr}, b ≠ a → b ∉ ts → H b = none := fun {b} n nt => by
      cases e : H b with
      | none => rfl
      | some u => exact absurd (only b u e nt).1 n
    -- what stands at none of them stays in sight
    have sees : ∀ {b : Addr} {o : Obj}, s.heap.get? b = some o → (∀ us m, o.data ≠ .seq us m) → o.data ≠ .fields #[] → (hidT s.heap H).get? b = some o := fun {b o} e n1 n2 => by
      refine hidT_get e (free (fun z => ?_) fun z => ?_)
      · rw [z, ha] at e
        cases e
        exact n1 _ _ rfl
      · rw [tobj z] at e
        cases e
        exact n2 rfl
    have stays : ∀ {b : Addr} {m : Str → Option Value}, s.heap.Ns b m → (hidT s.heap H).Ns b m := fun {b m} ⟨o, es, ep, e, d, r⟩ => by
      refine ⟨o, es, ep, sees e (fun us m z => ?_) (fun z => ?_), d, r⟩
      · rw [show o.data = _ from d] at z
        cases z
      · rw [show o.data = _ from d] at z
        cases z
    have kinB : K.In (hidT s.heap H) := fun b o e => hidT_get (kin b o e) (by
      cases q : H b with
      | none => rfl
      | some u =>
        by_cases nt : b ∈ ts
        · obtain ⟨p, hp, rfl⟩ := tof nt
          rw [tabK p hp] at e
          cases e
        · obtain ⟨h1, h2, _⟩ := only b u q nt
          rw [h1, h2] at e
          cases e)
    have TB : ∀ p ∈ cs, LamX.TabB (hidT s.heap H) mg p.1 p.2 := fun p hp => by
      have tp := tab p hp
      refine ⟨?_, ?_, fun z => ?_⟩
      · obtain ⟨o, us, y1, y2, y3, y4, y5, y6, y7, at_, cl, dat, v11, rest⟩ := code p hp
        refine ⟨o, us, y1, y2, y3, y4, y5, y6, y7, sees at_ (fun _ _ z => ?_) (fun z => ?_), cl, dat, v11, rest⟩
        · rw [dat] at z
          cases z
        · rw [dat] at z
          cases z
          cases v11
      · obtain ⟨bm, ob, m1, m2, m3, m4, m5, m6⟩ := hbm
        have np : ∀ us : Array Value, ob.data ≠ .fields us := fun us z => by
          rw [m6] at z
          cases z
        refine ⟨bm, ob, m1, m2, fun z => ?_, fun z => ?_, sees m3 (fun _ _ z => ?_) (np _), m4, m5, m6⟩
        · obtain ⟨o, es, ep, e, d, _⟩ := hns
          rw [← z, m3] at e
          cases e
          rw [m6] at d
          cases d
        · rw [z, tp] at m3
          cases m3
          exact np _ rfl
        · rw [m6] at z
          cases z
      · obtain ⟨o, es, ep, e, d, _⟩ := hns
        rw [z, tp] at e
        cases e
        cases d
    have e0 : Env0 P w K mg (hidT s.heap H) callerA [] s H :=
      ⟨rfl, ⟨kinB, stays hns, ⟨mb, stays hb, hbb⟩, let ⟨mc, h1, h2⟩ := nolim; ⟨mc, stays h1, h2⟩⟩, fun b o e => of_hidT e, Nat.le_of_eq (hidT_size _ _), trivial, fun b hb => (nomatch (show b ∈ ([] : List Addr) from hb)), hok, .of_eq gens⟩
    refine codeAny_mono ((F _ kinB (stays hns) TB).run callerA [] s H ⟨[.ref a], []⟩ [.ref a] [.ref a] _ E0 room rfl e0 (binds s (.ref a)) (.cons rfl .nil) (hsp H (fun p hp => hT _ (tin hp)) hS)) fun r s' h => ?_
    cases r with
    | error e => exact h.elim
    | ok fl =>
      cases fl with
      | ret u =>
        obtain ⟨v, H', os, bare, un, hok', r', q⟩ := h
        obtain rfl : v = .bl true := q
        obtain rfl : u = Value.bool true := r'
        have grown : ∀ b ∈ ts, ∃ more : Array Value, s'.heap.get? b = some { cls := .none, data := .fields more } := fun b hb => by
          obtain ⟨more, hm⟩ := un.tbls b #[] (hT b hb)
          exact ⟨_, hok' b _ hm⟩
        refine ⟨rfl, ⟨fun b o e => ?_, fun b o e => ?_⟩, os, bare⟩
        · by_cases nt : b ∈ ts
          · obtain ⟨p, hp, rfl⟩ := tof nt
            obtain ⟨more, hm⟩ := grown _ nt
            rw [tab p hp] at e
            cases e
            exact .inr (.inl ⟨((code p hp).tab (tab p hp)).isCodeTable, rfl, #[], more, rfl, by rw [Array.empty_append]; exact hm⟩)
          · refine .inl ?_
            cases q : H b with
            | none => exact un.keep b o e q (by intro z; exact (nomatch (show b ∈ ([] : List Addr) from z))) (by simp)
            | some u =>
              obtain ⟨_, _, ob, xs, rfl⟩ := only b u q nt
              obtain ⟨e1, _⟩ := hok b _ q
              obtain ⟨e2, _⟩ := hok' b _ (un.frzs b ob _ q)
              rw [e] at e1
              cases e1
              exact e2
        · by_cases nt : b ∈ ts
          · obtain ⟨more, hm⟩ := grown b nt
            exact ⟨_, hm⟩
          · cases q : H b with
            | none => exact ⟨o, un.keep b o e q (by intro z; exact (nomatch (show b ∈ ([] : List Addr) from z))) (by simp)⟩
            | some u =>
              obtain ⟨_, _, ob, xs, rfl⟩ := only b u q nt
              obtain ⟨e2, _⟩ := hok' b _ (un.frzs b ob _ q)
              exact ⟨_, e2⟩
      | next => exact h.elim
      | brk => exact h.elim
      | cont => exact h.elim
  cases hk : K.lookup a with
  | some o =>
    have e := kin a o hk
    rw [ha] at e
    cases e
    refine step (mny ts fun _ => none) (fun b u z nt => by rw [mny_out nt] at z; cases z) (fun b hb => mny_in hb) (fun b u z => ?_) (.inr ⟨_, vs.toArray, _, hk, rfl, rfl, rfl, ?_, by simpa using rv⟩)
    · by_cases nt : b ∈ ts
      · rw [mny_in nt] at z
        cases z
        exact tobj nt
      · rw [mny_out nt] at z
        cases z
    · rw [List.size_toArray, hi.length]
      exact hl
  | none =>
    refine step (mny ts (one a vs ns)) (fun b u z nt => ?_) (fun b hb => mny_in hb) (fun b u z => ?_) (.inl (.inr ⟨_, (mny_out nat).trans (if_pos rfl)⟩))
    · rw [mny_out nt] at z
      unfold one at z
      by_cases q : b = a
      · rw [if_pos q] at z
        cases z
        exact ⟨q, hk, _, _, rfl⟩
      · rw [if_neg q] at z
        cases z
    · by_cases nt : b ∈ ts
      · rw [mny_in nt] at z
        cases z
        exact tobj nt
      rw [mny_out nt] at z
      unfold one at z
      by_cases q : b = a
      · rw [if_pos q] at z
        cases z
        subst q
        exact ⟨ha, by rw [List.length_map]; exact hl, vs, _, rv, ha⟩
      · rw [if_neg q] at z
        cases z
theorem walkGTs {l : PySem.W.OpenLaw} {n k : Nat} {q : Program} {loose : List Str} {XP : (Str → Option Value) → Heap → Prop} {YP : World → Heap → Prop} {d : DefRec} {K : Params → PySem.W.Frag} {x : Str}
    (hn : l.most = some n) (hn2 : n ≤ sizeLine) (hdf : d.params.defaults = []) (hr : Room k callerA) (hY : ∀ (w : World) (h : Heap), YP w h → (K w.params).In h)
    (F : ∀ (w : World) (mg : Str → Option Value) (fa : Addr) (h : Heap), YP w h → (K w.params).In h → h.Ns mainGlobals mg → mg d.name = some (.ref fa) →
      ∃ (fd : FuncData) (cs : List (Addr × Addr)) (sp : Sp), (∀ p ∈ cs, h.get? p.2 = some { cls := .none, data := .fields #[] }) ∧ (∀ p ∈ cs, (K w.params).lookup p.2 = none) ∧ (∀ p ∈ cs, PySem.W.CodeHd h p.1 p.2) ∧ (∀ (s : Shared) (u : Value), BindsTo s fd ⟨[u], []⟩ [(x, u)]) ∧
        (∀ (H : Hp) (a : Addr) (ns : List Int), ns.length ≤ n → (∀ p ∈ cs, H p.2 = some (.tbl #[])) → SqL (K w.params) H a (ns.map V.int) → sp [.ref a] H (fun v _ => v = .bl true) E0) ∧
        ∀ base : Heap, (K w.params).In base → base.Ns mainGlobals mg → (∀ p ∈ cs, LamX.TabB base mg p.1 p.2) → Gd l.prog w (K w.params) mg base k fa fd [x] sp) :
    PySem.W.WalkO q loose XP YP l.row.toRowW d [] (fun f vs => PySem.call f vs) := by
  refine Att.attach_call hn hdf fun w s₀ s₁ mg mb fa o pm cd doc a vs ns G Y ho hd hcd hmg hobj hints hlen hg => ?_
  have kin := hY w _ Y
  obtain ⟨fd, cs, sp, tab, tabK, code, hb, hsp, hF⟩ := F w mg fa _ Y kin G.T.g hmg
  exact callGTs kin G.T.g G.T.b G.T.builtins G.T.nolimit hg tab tabK code G.T.bmain hobj hints (Nat.le_trans hlen hn2) hr hF hb fun H hT hS => hsp H a ns hlen hT hS
end GT

namespace Law
open PySem PySem.Spec PyProof.Rows L2 Evl TR EK LamX GX Fg BT
theorem kit_mk {K : PySem.W.Frag} {t : Value} {c : Addr} {b : Bool} (n : (t == .ref c) = false ∨ b = true) (h1 : PySem.W.isClsIn K c = true) (h2 : PySem.W.typeIn K (.ref c) = some (.type "type")) (h3 : PySem.W.subIn K t (.ref c) = some b) : PySem.W.kitOne K t (.ref c) = some b := by
  have e : PySem.W.kitCls K t (.ref c) = some b := by
    unfold PySem.W.kitCls
    show (if ((PySem.W.clsIn K c).isSome && PySem.W.typeIn K (.ref c) == some (.type "type")) = true then PySem.W.subIn K t (.ref c) else none) = some b
    rw [if_pos (by rw [Bool.and_eq_true]; exact ⟨h1, by rw [h2]; simp⟩)]
    exact h3
  unfold PySem.W.kitOne
  by_cases q : (t == .ref c) = true
  · rw [if_pos q]
    rcases n with n | n
    · rw [n] at q
      cases q
    · rw [n]
  · rw [if_neg q]
    exact e
theorem exm_mk {K : PySem.W.Frag} {t : Value} {c : Addr} {b : Bool} (h0 : PySem.W.subIn K (.ref c) (.type "BaseException") = some true) (h1 : PySem.W.isClsIn K c = true) (h2 : PySem.W.typeIn K (.ref c) = some (.type "type")) (h3 : PySem.W.subIn K t (.ref c) = some b) : PySem.W.exmOne K t (.ref c) = some b := by
  unfold PySem.W.exmOne
  rw [if_pos (by rw [h0]; simp)]
  unfold PySem.W.kitCls
  show (if ((PySem.W.clsIn K c).isSome && PySem.W.typeIn K (.ref c) == some (.type "type")) = true then PySem.W.subIn K t (.ref c) else none) = some b
  rw [if_pos (by rw [Bool.and_eq_true]; exact ⟨h1, by rw [h2]; simp⟩)]
  exact h3
theorem all_mk {l : PySem.W.OpenLaw} {w : World} {K : PySem.W.Frag} {h : Heap} {mg : Str → Option Value} {fa C0 f1 f2 f3 f4 f5 f6 f7 f8 f9 f10 f11 f12 f13 f14 f15 f16 f17 f18 f19 f20 f21 f22 f23 f24 f25 f26 f27 f28 f29 f30 f31 f32 f33 f34 fF fM fS fL fW fO fT fX fQ fA fV fR fG fY fE CF CM CS CL CW CO CT : Addr} (X : K.In h) (G : h.Ns mainGlobals mg) (hfa : mg "law" = some (.ref fa))
    {od1 an1 od2 an2 od3 an3 od4 an4 od5 an5 od6 an6 od7 an7 od8 an8 od9 an9 od10 an10 od11 an11 od12 an12 od13 an13 od14 an14 od15 an15 od16 an16 od17 an17 od18 an18 od19 an19 od20 an20 od21 an21 od22 an22 od23 an23 od24 an24 od25 an25 od26 an26 od27 an27 od28 an28 od29 an29 od30 an30 od31 an31 od32 an32 od33 an33 od34 an34 odF anF odM anM odS anS odL anL odW anW odO anO odT anT odX anX odQ anQ odA anA odV anV odR anR odG anG odY anY odE anE : Option Addr} {sl1 sl2 sl3 sl4 sl5 sl6 sl7 sl8 sl9 sl10 sl11 sl12 sl13 sl14 sl15 sl16 sl17 sl18 sl19 sl20 sl21 sl22 sl23 sl24 sl25 sl26 sl27 sl28 sl29 sl30 sl31 sl32 sl33 sl34 slF slM slS slL slW slO slT slX slQ slA slV slR slG slY slE : Array (Option Value)} {oc1 kV1 dc1 pm1  ct1 oc2 kV2 dc2 pm2 cd2 ct2 oc3 kV3 dc3 pm3 cd3 ct3 oc4 kV4 dc4 pm4 cd4 ct4 oc5 kV5 dc5 pm5 cd5 ct5 oc6 kV6 dc6 pm6 cd6 ct6 oc7 kV7 dc7 pm7 cd7 ct7 oc8 kV8 dc8 pm8 cd8 ct8 oc9 kV9 dc9 pm9 cd9 ct9 oc10 kV10 dc10 pm10 cd10 ct10 oc11 kV11 dc11 pm11 cd11 ct11 oc12 kV12 dc12 pm12 cd12 ct12 oc13 kV13 dc13 pm13 cd13 ct13 oc14 kV14 dc14 pm14 cd14 ct14 oc15 kV15 dc15 pm15 cd15 ct15 oc16 kV16 dc16 pm16 cd16 ct16 oc17 kV17 dc17 pm17 cd17 ct17 oc18 kV18 dc18 pm18 cd18 ct18 oc19 kV19 dc19 pm19 cd19 ct19 oc20 kV20 dc20 pm20 cd20 ct20 oc21 kV21 dc21 pm21 cd21 ct21 oc22 kV22 dc22 pm22 cd22 ct22 oc23 kV23 dc23 pm23 cd23 ct23 oc24 kV24 dc24 pm24 cd24 ct24 oc25 kV25 dc25 pm25 cd25 ct25 oc26 kV26 dc26 pm26 cd26 ct26 oc27 kV27 dc27 pm27 cd27 ct27 oc28 kV28 dc28 pm28 cd28 ct28 oc29 kV29 dc29 pm29 cd29 ct29 oc30 kV30 dc30 pm30 cd30 ct30 oc31 kV31 dc31 pm31 cd31 ct31 oc32 kV32 dc32 pm32 cd32 ct32 oc33 kV33 dc33 pm33  ct33 oc34 kV34 dc34 pm34 cd34 ct34 ocF kVF dcF pmF cdF ctF ocM kVM dcM pmM cdM ctM ocS kVS dcS pmS cdS ctS ocL kVL dcL pmL cdL ctL ocW kVW dcW pmW cdW ctW ocO kVO dcO pmO cdO ctO ocT kVT dcT pmT cdT ctT ocX kVX dcX pmX cdX ctX ocQ kVQ dcQ pmQ cdQ ctQ ocA kVA dcA pmA cdA ctA ocV kVV dcV pmV cdV ctV ocR kVR dcR pmR cdR ctR ocG kVG dcG pmG cdG ctG ocY kVY dcY pmY cdY ctY ocE kVE dcE pmE cdE ctE : Value} {t0 t1 t2 t3 : Tok}
    {nmL} {qL} {NL} {bsL} {bmL} {snL} {suL} {abL} {colL} {ddL} {k0L} {k1L} {k2L} {k3L} {k5L} {nmW} {qW} {NW} {bsW} {bmW} {snW} {suW} {abW} {colW} {ddW} {k0W} {k1W} {k2W} {k3W} {k5W} {nmO} {qO} {NO} {bsO} {bmO} {snO} {suO} {abO} {colO} {ddO} {k0O} {k1O} {k2O} {k3O} {k5O} {nmT} {qT} {NT} {bsT} {bmT} {snT} {suT} {abT} {colT} {ddT} {k0T} {k1T} {k2T} {k3T} {k5T}
    {ca1 ta1 : Addr} {occ1 : Value} {odc1 : Option Addr} {vsc1 : Array Value} {slc1 : Array (Option Value)}
    {dt32 : Addr} {dc032 : Value} {dd32 : Option Addr} {dn32 : Nat} {ds32 : Array (Option Value)}
    {ca33 ta33 : Addr} {occ33 : Value} {odc33 : Option Addr} {vsc33 : Array Value} {slc33 : Array (Option Value)}
    (a1 : PySem.W.nsIn K mainGlobals "law" = some (some (.ref f1)))
    (l1 : K.lookup f1 = some ⟨oc1, od1, .func (PySem.W.fnOf "law" "law" (defArgs s_law) (defBody s_law) (defScope s_law) .none kV1 dc1 pm1 an1 (.ref ca1) ct1), sl1⟩)
    (c1 : PySem.W.codeIn K ((.ref ca1)) "law" = true)
    (k1 : PySem.W.keepIn K (.ref f1) = true)
    (tb1 : K.lookup ca1 = some ⟨occ1, odc1, .fields vsc1, slc1⟩)
    (tv1 : vsc1[11]? = some (.ref ta1))
    (hcd1 : PySem.W.codeHdIn K ca1 ta1 = true)
    (tk1 : K.lookup ta1 = none)
    (ht1 : h.get? ta1 = some { cls := .none, data := .fields #[] })
    (a2 : PySem.W.nsIn K mainGlobals "_law_pen_of" = some (some (.ref f2)))
    (l2 : K.lookup f2 = some ⟨oc2, od2, .func (PySem.W.fnOf "_law_pen_of" "_law_pen_of" (defArgs s_lpen) (defBody s_lpen) (defScope s_lpen) .none kV2 dc2 pm2 an2 cd2 ct2), sl2⟩)
    (c2 : PySem.W.codeIn K cd2 "_law_pen_of" = true)
    (k2 : PySem.W.keepIn K (.ref f2) = true)
    (a3 : PySem.W.nsIn K mainGlobals "_law_draw" = some (some (.ref f3)))
    (l3 : K.lookup f3 = some ⟨oc3, od3, .func (PySem.W.fnOf "_law_draw" "_law_draw" (defArgs s_ldraw) (defBody s_ldraw) (defScope s_ldraw) .none kV3 dc3 pm3 an3 cd3 ct3), sl3⟩)
    (c3 : PySem.W.codeIn K cd3 "_law_draw" = true)
    (k3 : PySem.W.keepIn K (.ref f3) = true)
    (a4 : PySem.W.nsIn K mainGlobals "_law_pick" = some (some (.ref f4)))
    (l4 : K.lookup f4 = some ⟨oc4, od4, .func (PySem.W.fnOf "_law_pick" "_law_pick" (defArgs s_lpick) (defBody s_lpick) (defScope s_lpick) .none kV4 dc4 pm4 an4 cd4 ct4), sl4⟩)
    (c4 : PySem.W.codeIn K cd4 "_law_pick" = true)
    (k4 : PySem.W.keepIn K (.ref f4) = true)
    (a5 : PySem.W.nsIn K mainGlobals "_law_shuffled" = some (some (.ref f5)))
    (l5 : K.lookup f5 = some ⟨oc5, od5, .func (PySem.W.fnOf "_law_shuffled" "_law_shuffled" (defArgs s_lshuffled) (defBody s_lshuffled) (defScope s_lshuffled) .none kV5 dc5 pm5 an5 cd5 ct5), sl5⟩)
    (c5 : PySem.W.codeIn K cd5 "_law_shuffled" = true)
    (k5 : PySem.W.keepIn K (.ref f5) = true)
    (a6 : PySem.W.nsIn K mainGlobals "is_list" = some (some (.ref f6)))
    (l6 : K.lookup f6 = some ⟨oc6, od6, .func (PySem.W.fnOf "is_list" "is_list" (defArgs s_is_list) (defBody s_is_list) (defScope s_is_list) .none kV6 dc6 pm6 an6 cd6 ct6), sl6⟩)
    (c6 : PySem.W.codeIn K cd6 "is_list" = true)
    (k6 : PySem.W.keepIn K (.ref f6) = true)
    (a7 : PySem.W.nsIn K mainGlobals "is_integer" = some (some (.ref f7)))
    (l7 : K.lookup f7 = some ⟨oc7, od7, .func (PySem.W.fnOf "is_integer" "is_integer" (defArgs s_is_integer) (defBody s_is_integer) (defScope s_is_integer) .none kV7 dc7 pm7 an7 cd7 ct7), sl7⟩)
    (c7 : PySem.W.codeIn K cd7 "is_integer" = true)
    (k7 : PySem.W.keepIn K (.ref f7) = true)
    (a8 : PySem.W.nsIn K mainGlobals "is_whole" = some (some (.ref f8)))
    (l8 : K.lookup f8 = some ⟨oc8, od8, .func (PySem.W.fnOf "is_whole" "is_whole" (defArgs s_is_whole) (defBody s_is_whole) (defScope s_is_whole) .none kV8 dc8 pm8 an8 cd8 ct8), sl8⟩)
    (c8 : PySem.W.codeIn K cd8 "is_whole" = true)
    (k8 : PySem.W.keepIn K (.ref f8) = true)
    (a9 : PySem.W.nsIn K mainGlobals "are_letters" = some (some (.ref f9)))
    (l9 : K.lookup f9 = some ⟨oc9, od9, .func (PySem.W.fnOf "are_letters" "are_letters" (defArgs s_are_letters) (defBody s_are_letters) (defScope s_are_letters) .none kV9 dc9 pm9 an9 cd9 ct9), sl9⟩)
    (c9 : PySem.W.codeIn K cd9 "are_letters" = true)
    (k9 : PySem.W.keepIn K (.ref f9) = true)
    (a10 : PySem.W.nsIn K mainGlobals "_is_part" = some (some (.ref f10)))
    (l10 : K.lookup f10 = some ⟨oc10, od10, .func (PySem.W.fnOf "_is_part" "_is_part" (defArgs s_is_part) (defBody s_is_part) (defScope s_is_part) .none kV10 dc10 pm10 an10 cd10 ct10), sl10⟩)
    (c10 : PySem.W.codeIn K cd10 "_is_part" = true)
    (k10 : PySem.W.keepIn K (.ref f10) = true)
    (a11 : PySem.W.nsIn K mainGlobals "_within" = some (some (.ref f11)))
    (l11 : K.lookup f11 = some ⟨oc11, od11, .func (PySem.W.fnOf "_within" "_within" (defArgs s_within) (defBody s_within) (defScope s_within) .none kV11 dc11 pm11 an11 cd11 ct11), sl11⟩)
    (c11 : PySem.W.codeIn K cd11 "_within" = true)
    (k11 : PySem.W.keepIn K (.ref f11) = true)
    (a12 : PySem.W.nsIn K mainGlobals "first_wrong" = some (some (.ref f12)))
    (l12 : K.lookup f12 = some ⟨oc12, od12, .func (PySem.W.fnOf "first_wrong" "first_wrong" (defArgs s_first_wrong) (defBody s_first_wrong) (defScope s_first_wrong) .none kV12 dc12 pm12 an12 cd12 ct12), sl12⟩)
    (c12 : PySem.W.codeIn K cd12 "first_wrong" = true)
    (k12 : PySem.W.keepIn K (.ref f12) = true)
    (a13 : PySem.W.nsIn K mainGlobals "all_parts" = some (some (.ref f13)))
    (l13 : K.lookup f13 = some ⟨oc13, od13, .func (PySem.W.fnOf "all_parts" "all_parts" (defArgs s_all_parts) (defBody s_all_parts) (defScope s_all_parts) .none kV13 dc13 pm13 an13 cd13 ct13), sl13⟩)
    (c13 : PySem.W.codeIn K cd13 "all_parts" = true)
    (k13 : PySem.W.keepIn K (.ref f13) = true)
    (a14 : PySem.W.nsIn K mainGlobals "renamed" = some (some (.ref f14)))
    (l14 : K.lookup f14 = some ⟨oc14, od14, .func (PySem.W.fnOf "renamed" "renamed" (defArgs s_renamed) (defBody s_renamed) (defScope s_renamed) .none kV14 dc14 pm14 an14 cd14 ct14), sl14⟩)
    (c14 : PySem.W.codeIn K cd14 "renamed" = true)
    (k14 : PySem.W.keepIn K (.ref f14) = true)
    (a15 : PySem.W.nsIn K mainGlobals "wrong_sign" = some (some (.ref f15)))
    (l15 : K.lookup f15 = some ⟨oc15, od15, .func (PySem.W.fnOf "wrong_sign" "wrong_sign" (defArgs s_wrong_sign) (defBody s_wrong_sign) (defScope s_wrong_sign) .none kV15 dc15 pm15 an15 cd15 ct15), sl15⟩)
    (c15 : PySem.W.codeIn K cd15 "wrong_sign" = true)
    (k15 : PySem.W.keepIn K (.ref f15) = true)
    (a16 : PySem.W.nsIn K mainGlobals "_is_word" = some (some (.ref f16)))
    (l16 : K.lookup f16 = some ⟨oc16, od16, .func (PySem.W.fnOf "_is_word" "_is_word" (defArgs s_is_word) (defBody s_is_word) (defScope s_is_word) .none kV16 dc16 pm16 an16 cd16 ct16), sl16⟩)
    (c16 : PySem.W.codeIn K cd16 "_is_word" = true)
    (k16 : PySem.W.keepIn K (.ref f16) = true)
    (a17 : PySem.W.nsIn K mainGlobals "wrong_word" = some (some (.ref f17)))
    (l17 : K.lookup f17 = some ⟨oc17, od17, .func (PySem.W.fnOf "wrong_word" "wrong_word" (defArgs s_wrong_word) (defBody s_wrong_word) (defScope s_wrong_word) .none kV17 dc17 pm17 an17 cd17 ct17), sl17⟩)
    (c17 : PySem.W.codeIn K cd17 "wrong_word" = true)
    (k17 : PySem.W.keepIn K (.ref f17) = true)
    (a18 : PySem.W.nsIn K mainGlobals "_kept" = some (some (.ref f18)))
    (l18 : K.lookup f18 = some ⟨oc18, od18, .func (PySem.W.fnOf "_kept" "_kept" (defArgs s_kept) (defBody s_kept) (defScope s_kept) .none kV18 dc18 pm18 an18 cd18 ct18), sl18⟩)
    (c18 : PySem.W.codeIn K cd18 "_kept" = true)
    (k18 : PySem.W.keepIn K (.ref f18) = true)
    (a19 : PySem.W.nsIn K mainGlobals "fits" = some (some (.ref f19)))
    (l19 : K.lookup f19 = some ⟨oc19, od19, .func (PySem.W.fnOf "fits" "fits" (defArgs s_fits) (defBody s_fits) (defScope s_fits) .none kV19 dc19 pm19 an19 cd19 ct19), sl19⟩)
    (c19 : PySem.W.codeIn K cd19 "fits" = true)
    (k19 : PySem.W.keepIn K (.ref f19) = true)
    (a20 : PySem.W.nsIn K mainGlobals "slid" = some (some (.ref f20)))
    (l20 : K.lookup f20 = some ⟨oc20, od20, .func (PySem.W.fnOf "slid" "slid" (defArgs s_slid) (defBody s_slid) (defScope s_slid) .none kV20 dc20 pm20 an20 cd20 ct20), sl20⟩)
    (c20 : PySem.W.codeIn K cd20 "slid" = true)
    (k20 : PySem.W.keepIn K (.ref f20) = true)
    (a21 : PySem.W.nsIn K mainGlobals "_law_fits" = some (some (.ref f21)))
    (l21 : K.lookup f21 = some ⟨oc21, od21, .func (PySem.W.fnOf "_law_fits" "_law_fits" (defArgs s_lfits) (defBody s_lfits) (defScope s_lfits) .none kV21 dc21 pm21 an21 cd21 ct21), sl21⟩)
    (c21 : PySem.W.codeIn K cd21 "_law_fits" = true)
    (k21 : PySem.W.keepIn K (.ref f21) = true)
    (a22 : PySem.W.nsIn K mainGlobals "_law_least" = some (some (.ref f22)))
    (l22 : K.lookup f22 = some ⟨oc22, od22, .func (PySem.W.fnOf "_law_least" "_law_least" (defArgs s_lleast) (defBody s_lleast) (defScope s_lleast) .none kV22 dc22 pm22 an22 cd22 ct22), sl22⟩)
    (c22 : PySem.W.codeIn K cd22 "_law_least" = true)
    (k22 : PySem.W.keepIn K (.ref f22) = true)
    (a23 : PySem.W.nsIn K mainGlobals "_law_some_word" = some (some (.ref f23)))
    (l23 : K.lookup f23 = some ⟨oc23, od23, .func (PySem.W.fnOf "_law_some_word" "_law_some_word" (defArgs s_lsome_word) (defBody s_lsome_word) (defScope s_lsome_word) .none kV23 dc23 pm23 an23 cd23 ct23), sl23⟩)
    (c23 : PySem.W.codeIn K cd23 "_law_some_word" = true)
    (k23 : PySem.W.keepIn K (.ref f23) = true)
    (a24 : PySem.W.nsIn K mainGlobals "_law_some_words" = some (some (.ref f24)))
    (l24 : K.lookup f24 = some ⟨oc24, od24, .func (PySem.W.fnOf "_law_some_words" "_law_some_words" (defArgs s_lsome_words) (defBody s_lsome_words) (defScope s_lsome_words) .none kV24 dc24 pm24 an24 cd24 ct24), sl24⟩)
    (c24 : PySem.W.codeIn K cd24 "_law_some_words" = true)
    (k24 : PySem.W.keepIn K (.ref f24) = true)
    (a25 : PySem.W.nsIn K mainGlobals "_law_put" = some (some (.ref f25)))
    (l25 : K.lookup f25 = some ⟨oc25, od25, .func (PySem.W.fnOf "_law_put" "_law_put" (defArgs s_lput) (defBody s_lput) (defScope s_lput) .none kV25 dc25 pm25 an25 cd25 ct25), sl25⟩)
    (c25 : PySem.W.codeIn K cd25 "_law_put" = true)
    (k25 : PySem.W.keepIn K (.ref f25) = true)
    (a26 : PySem.W.nsIn K mainGlobals "_law_size" = some (some (.ref f26)))
    (l26 : K.lookup f26 = some ⟨oc26, od26, .func (PySem.W.fnOf "_law_size" "_law_size" (defArgs s_lsize) (defBody s_lsize) (defScope s_lsize) .none kV26 dc26 pm26 an26 cd26 ct26), sl26⟩)
    (c26 : PySem.W.codeIn K cd26 "_law_size" = true)
    (k26 : PySem.W.keepIn K (.ref f26) = true)
    (a27 : PySem.W.nsIn K mainGlobals "_law_leaf" = some (some (.ref f27)))
    (l27 : K.lookup f27 = some ⟨oc27, od27, .func (PySem.W.fnOf "_law_leaf" "_law_leaf" (defArgs s_lleaf) (defBody s_lleaf) (defScope s_lleaf) .none kV27 dc27 pm27 an27 cd27 ct27), sl27⟩)
    (c27 : PySem.W.codeIn K cd27 "_law_leaf" = true)
    (k27 : PySem.W.keepIn K (.ref f27) = true)
    (a28 : PySem.W.nsIn K mainGlobals "_law_tree" = some (some (.ref f28)))
    (l28 : K.lookup f28 = some ⟨oc28, od28, .func (PySem.W.fnOf "_law_tree" "_law_tree" (defArgs s_ltree) (defBody s_ltree) (defScope s_ltree) .none kV28 dc28 pm28 an28 cd28 ct28), sl28⟩)
    (c28 : PySem.W.codeIn K cd28 "_law_tree" = true)
    (k28 : PySem.W.keepIn K (.ref f28) = true)
    (a29 : PySem.W.nsIn K mainGlobals "_law_states" = some (some (.ref f29)))
    (l29 : K.lookup f29 = some ⟨oc29, od29, .func (PySem.W.fnOf "_law_states" "_law_states" (defArgs s_lstates) (defBody s_lstates) (defScope s_lstates) .none kV29 dc29 pm29 an29 cd29 ct29), sl29⟩)
    (c29 : PySem.W.codeIn K cd29 "_law_states" = true)
    (k29 : PySem.W.keepIn K (.ref f29) = true)
    (a30 : PySem.W.nsIn K mainGlobals "check_words" = some (some (.ref f30)))
    (l30 : K.lookup f30 = some ⟨oc30, od30, .func (PySem.W.fnOf "check_words" "check_words" (defArgs s_check_words) (defBody s_check_words) (defScope s_check_words) .none kV30 dc30 pm30 an30 cd30 ct30), sl30⟩)
    (c30 : PySem.W.codeIn K cd30 "check_words" = true)
    (k30 : PySem.W.keepIn K (.ref f30) = true)
    (a31 : PySem.W.nsIn K mainGlobals "_is_order" = some (some (.ref f31)))
    (l31 : K.lookup f31 = some ⟨oc31, od31, .func (PySem.W.fnOf "_is_order" "_is_order" (defArgs s_is_order) (defBody s_is_order) (defScope s_is_order) .none kV31 dc31 pm31 an31 cd31 ct31), sl31⟩)
    (c31 : PySem.W.codeIn K cd31 "_is_order" = true)
    (k31 : PySem.W.keepIn K (.ref f31) = true)
    (a32 : PySem.W.nsIn K mainGlobals "best" = some (some (.ref f32)))
    (l32 : K.lookup f32 = some ⟨oc32, od32, .func (PySem.W.fnOf "best" "best" (defArgs s_best) (defBody s_best) (defScope s_best) (.ref dt32) kV32 dc32 pm32 an32 cd32 ct32), sl32⟩)
    (c32 : PySem.W.codeIn K cd32 "best" = true)
    (k32 : PySem.W.keepIn K (.ref f32) = true)
    (d32 : K.lookup dt32 = some ⟨dc032, dd32, .seq ([.bool false] : List Value).toArray dn32, ds32⟩)
    (a33 : PySem.W.nsIn K mainGlobals "_law_are_refused" = some (some (.ref f33)))
    (l33 : K.lookup f33 = some ⟨oc33, od33, .func (PySem.W.fnOf "_law_are_refused" "_law_are_refused" (defArgs s_lare_refused) (defBody s_lare_refused) (defScope s_lare_refused) .none kV33 dc33 pm33 an33 (.ref ca33) ct33), sl33⟩)
    (c33 : PySem.W.codeIn K ((.ref ca33)) "_law_are_refused" = true)
    (k33 : PySem.W.keepIn K (.ref f33) = true)
    (tb33 : K.lookup ca33 = some ⟨occ33, odc33, .fields vsc33, slc33⟩)
    (tv33 : vsc33[11]? = some (.ref ta33))
    (hcd33 : PySem.W.codeHdIn K ca33 ta33 = true)
    (tk33 : K.lookup ta33 = none)
    (ht33 : h.get? ta33 = some { cls := .none, data := .fields #[] })
    (a34 : PySem.W.nsIn K mainGlobals "_law_met" = some (some (.ref f34)))
    (l34 : K.lookup f34 = some ⟨oc34, od34, .func (PySem.W.fnOf "_law_met" "_law_met" (defArgs s_lmet) (defBody s_lmet) (defScope s_lmet) .none kV34 dc34 pm34 an34 cd34 ct34), sl34⟩)
    (c34 : PySem.W.codeIn K cd34 "_law_met" = true)
    (k34 : PySem.W.keepIn K (.ref f34) = true)
    (ndT : ([ta1, ta33] : List Addr).Nodup)
    (aCF : PySem.W.nsIn K mainGlobals "Fitting" = some (some (.ref CF)))
    (aF : PySem.W.findIn K (.ref CF) "__init__" = some (some (.ref fF)))
    (lF : K.lookup fF = some ⟨ocF, odF, .func (PySem.W.fnOf "__init__" "Fitting.__init__" (defArgs s_Fitting_init) (defBody s_Fitting_init) (defScope s_Fitting_init) .none kVF dcF pmF anF cdF ctF), slF⟩)
    (cF : PySem.W.codeIn K cdF "Fitting.__init__" = true)
    (kF : PySem.W.keepIn K (.ref fF) = true)
    (nF1 : PySem.W.findIn K (.ref CF) "_words" = some none)
    (nF2 : PySem.W.findIn K (.ref CF) "_found" = some none)
    (g4F : PySem.W.findIn K (.ref CF) "__setattr__" = some (some (.builtin "object.__setattr__")))
    (m2F : PySem.W.keepIn K (.ref CF) = true)
    (aCM : PySem.W.nsIn K mainGlobals "Maker" = some (some (.ref CM)))
    (aM : PySem.W.findIn K (.ref CM) "__init__" = some (some (.ref fM)))
    (lM : K.lookup fM = some ⟨ocM, odM, .func (PySem.W.fnOf "__init__" "Maker.__init__" (defArgs s_Maker_init) (defBody s_Maker_init) (defScope s_Maker_init) .none kVM dcM pmM anM cdM ctM), slM⟩)
    (cM : PySem.W.codeIn K cdM "Maker.__init__" = true)
    (kM : PySem.W.keepIn K (.ref fM) = true)
    (nM1 : PySem.W.findIn K (.ref CM) "_letters" = some none)
    (nM2 : PySem.W.findIn K (.ref CM) "_width" = some none)
    (nM3 : PySem.W.findIn K (.ref CM) "_numbers" = some none)
    (nM4 : PySem.W.findIn K (.ref CM) "_order" = some none)
    (nM5 : PySem.W.findIn K (.ref CM) "_behind" = some none)
    (nM6 : PySem.W.findIn K (.ref CM) "_fitting" = some none)
    (nM7 : PySem.W.findIn K (.ref CM) "_met" = some none)
    (g4M : PySem.W.findIn K (.ref CM) "__setattr__" = some (some (.builtin "object.__setattr__")))
    (m2M : PySem.W.keepIn K (.ref CM) = true)
    (aCS : PySem.W.nsIn K mainGlobals "Searcher" = some (some (.ref CS)))
    (aS : PySem.W.findIn K (.ref CS) "__init__" = some (some (.ref fS)))
    (lS : K.lookup fS = some ⟨ocS, odS, .func (PySem.W.fnOf "__init__" "Searcher.__init__" (defArgs s_Searcher_init) (defBody s_Searcher_init) (defScope s_Searcher_init) .none kVS dcS pmS anS cdS ctS), slS⟩)
    (cS : PySem.W.codeIn K cdS "Searcher.__init__" = true)
    (kS : PySem.W.keepIn K (.ref fS) = true)
    (nS1 : PySem.W.findIn K (.ref CS) "letters" = some none)
    (nS2 : PySem.W.findIn K (.ref CS) "width" = some none)
    (nS3 : PySem.W.findIn K (.ref CS) "states" = some none)
    (nS4 : PySem.W.findIn K (.ref CS) "nodes" = some none)
    (g4S : PySem.W.findIn K (.ref CS) "__setattr__" = some (some (.builtin "object.__setattr__")))
    (m2S : PySem.W.keepIn K (.ref CS) = true)
    (aCL : PySem.W.nsIn K mainGlobals "BadLetters" = some (some (.ref CL)))
    (aL : PySem.W.findIn K (.ref CL) "__init__" = some (some (.ref fL)))
    (lL : K.lookup fL = some ⟨ocL, odL, .func (PySem.W.fnOf "__init__" "BadLetters.__init__" (defArgs s_BadLetters_init) (defBody s_BadLetters_init) (defScope s_BadLetters_init) .none kVL dcL pmL anL cdL ctL), slL⟩)
    (cL : PySem.W.codeIn K cdL "BadLetters.__init__" = true)
    (kL : PySem.W.keepIn K (.ref fL) = true)
    (nL1 : PySem.W.findIn K (.ref CL) "letters" = some none)
    (g4L : PySem.W.findIn K (.ref CL) "__setattr__" = some (some (.builtin "object.__setattr__")))
    (m2L : PySem.W.keepIn K (.ref CL) = true)
    (aCW : PySem.W.nsIn K mainGlobals "BadWords" = some (some (.ref CW)))
    (aW : PySem.W.findIn K (.ref CW) "__init__" = some (some (.ref fW)))
    (lW : K.lookup fW = some ⟨ocW, odW, .func (PySem.W.fnOf "__init__" "BadWords.__init__" (defArgs s_BadWords_init) (defBody s_BadWords_init) (defScope s_BadWords_init) .none kVW dcW pmW anW cdW ctW), slW⟩)
    (cW : PySem.W.codeIn K cdW "BadWords.__init__" = true)
    (kW : PySem.W.keepIn K (.ref fW) = true)
    (nW1 : PySem.W.findIn K (.ref CW) "place" = some none)
    (g4W : PySem.W.findIn K (.ref CW) "__setattr__" = some (some (.builtin "object.__setattr__")))
    (m2W : PySem.W.keepIn K (.ref CW) = true)
    (aCO : PySem.W.nsIn K mainGlobals "BadOrder" = some (some (.ref CO)))
    (aO : PySem.W.findIn K (.ref CO) "__init__" = some (some (.ref fO)))
    (lO : K.lookup fO = some ⟨ocO, odO, .func (PySem.W.fnOf "__init__" "BadOrder.__init__" (defArgs s_BadOrder_init) (defBody s_BadOrder_init) (defScope s_BadOrder_init) .none kVO dcO pmO anO cdO ctO), slO⟩)
    (cO : PySem.W.codeIn K cdO "BadOrder.__init__" = true)
    (kO : PySem.W.keepIn K (.ref fO) = true)
    (nO1 : PySem.W.findIn K (.ref CO) "order" = some none)
    (g4O : PySem.W.findIn K (.ref CO) "__setattr__" = some (some (.builtin "object.__setattr__")))
    (m2O : PySem.W.keepIn K (.ref CO) = true)
    (aCT : PySem.W.nsIn K mainGlobals "TooMany" = some (some (.ref CT)))
    (aT : PySem.W.findIn K (.ref CT) "__init__" = some (some (.ref fT)))
    (lT : K.lookup fT = some ⟨ocT, odT, .func (PySem.W.fnOf "__init__" "TooMany.__init__" (defArgs s_TooMany_init) (defBody s_TooMany_init) (defScope s_TooMany_init) .none kVT dcT pmT anT cdT ctT), slT⟩)
    (cT : PySem.W.codeIn K cdT "TooMany.__init__" = true)
    (kT : PySem.W.keepIn K (.ref fT) = true)
    (nT1 : PySem.W.findIn K (.ref CT) "what" = some none)
    (nT2 : PySem.W.findIn K (.ref CT) "many" = some none)
    (nT3 : PySem.W.findIn K (.ref CT) "most" = some none)
    (g4T : PySem.W.findIn K (.ref CT) "__setattr__" = some (some (.builtin "object.__setattr__")))
    (m2T : PySem.W.keepIn K (.ref CT) = true)
    (aX : PySem.W.findIn K (.ref CF) "can" = some (some (.ref fX)))
    (lX : K.lookup fX = some ⟨ocX, odX, .func (PySem.W.fnOf "can" "Fitting.can" (defArgs s_Fitting_can) (defBody s_Fitting_can) (defScope s_Fitting_can) .none kVX dcX pmX anX cdX ctX), slX⟩)
    (cX : PySem.W.codeIn K cdX "Fitting.can" = true)
    (kX : PySem.W.keepIn K (.ref fX) = true)
    (nfX : PySem.W.isFn K (.ref fX) = true)
    (aQ : PySem.W.findIn K (.ref CF) "least" = some (some (.ref fQ)))
    (lQ : K.lookup fQ = some ⟨ocQ, odQ, .func (PySem.W.fnOf "least" "Fitting.least" (defArgs s_Fitting_least) (defBody s_Fitting_least) (defScope s_Fitting_least) .none kVQ dcQ pmQ anQ cdQ ctQ), slQ⟩)
    (cQ : PySem.W.codeIn K cdQ "Fitting.least" = true)
    (kQ : PySem.W.keepIn K (.ref fQ) = true)
    (nfQ : PySem.W.isFn K (.ref fQ) = true)
    (aA : PySem.W.findIn K (.ref CM) "all_trees" = some (some (.ref fA)))
    (lA : K.lookup fA = some ⟨ocA, odA, .func (PySem.W.fnOf "all_trees" "Maker.all_trees" (defArgs s_Maker_all_trees) (defBody s_Maker_all_trees) (defScope s_Maker_all_trees) .none kVA dcA pmA anA cdA ctA), slA⟩)
    (cA : PySem.W.codeIn K cdA "Maker.all_trees" = true)
    (kA : PySem.W.keepIn K (.ref fA) = true)
    (nfA : PySem.W.isFn K (.ref fA) = true)
    (aV : PySem.W.findIn K (.ref CM) "_tree" = some (some (.ref fV)))
    (lV : K.lookup fV = some ⟨ocV, odV, .func (PySem.W.fnOf "_tree" "Maker._tree" (defArgs s_Maker__tree) (defBody s_Maker__tree) (defScope s_Maker__tree) .none kVV dcV pmV anV cdV ctV), slV⟩)
    (cV : PySem.W.codeIn K cdV "Maker._tree" = true)
    (kV : PySem.W.keepIn K (.ref fV) = true)
    (nfV : PySem.W.isFn K (.ref fV) = true)
    (aR : PySem.W.findIn K (.ref CM) "_read" = some (some (.ref fR)))
    (lR : K.lookup fR = some ⟨ocR, odR, .func (PySem.W.fnOf "_read" "Maker._read" (defArgs s_Maker__read) (defBody s_Maker__read) (defScope s_Maker__read) .none kVR dcR pmR anR cdR ctR), slR⟩)
    (cR : PySem.W.codeIn K cdR "Maker._read" = true)
    (kR : PySem.W.keepIn K (.ref fR) = true)
    (nfR : PySem.W.isFn K (.ref fR) = true)
    (aG : PySem.W.findIn K (.ref CM) "_go" = some (some (.ref fG)))
    (lG : K.lookup fG = some ⟨ocG, odG, .func (PySem.W.fnOf "_go" "Maker._go" (defArgs s_Maker__go) (defBody s_Maker__go) (defScope s_Maker__go) .none kVG dcG pmG anG cdG ctG), slG⟩)
    (cG : PySem.W.codeIn K cdG "Maker._go" = true)
    (kG : PySem.W.keepIn K (.ref fG) = true)
    (nfG : PySem.W.isFn K (.ref fG) = true)
    (aY : PySem.W.findIn K (.ref CM) "_remembered" = some (some (.ref fY)))
    (lY : K.lookup fY = some ⟨ocY, odY, .func (PySem.W.fnOf "_remembered" "Maker._remembered" (defArgs s_Maker__remembered) (defBody s_Maker__remembered) (defScope s_Maker__remembered) .none kVY dcY pmY anY cdY ctY), slY⟩)
    (cY : PySem.W.codeIn K cdY "Maker._remembered" = true)
    (kY : PySem.W.keepIn K (.ref fY) = true)
    (nfY : PySem.W.isFn K (.ref fY) = true)
    (aE : PySem.W.findIn K (.ref CS) "__eq__" = some (some (.ref fE)))
    (lE : K.lookup fE = some ⟨ocE, odE, .func (PySem.W.fnOf "__eq__" "Searcher.__eq__" (defArgs s_Searcher_eq) (defBody s_Searcher_eq) (defScope s_Searcher_eq) .none kVE dcE pmE anE cdE ctE), slE⟩)
    (cE : PySem.W.codeIn K cdE "Searcher.__eq__" = true)
    (kE : PySem.W.keepIn K (.ref fE) = true)
    (nfE : PySem.W.isFn K (.ref fE) = true)
    (iF : PySem.W.isFn K (.ref fF) = true)
    (m1F : PySem.W.makesIn K CF = true)
    (g1F : PySem.W.plainGet K CF Str.empty = true)
    (g2F : PySem.W.hasDictIn K CF = true)
    (g3F : PySem.W.plainOver K CF = true)
    (iM : PySem.W.isFn K (.ref fM) = true)
    (m1M : PySem.W.makesIn K CM = true)
    (g1M : PySem.W.plainGet K CM Str.empty = true)
    (g2M : PySem.W.hasDictIn K CM = true)
    (g3M : PySem.W.plainOver K CM = true)
    (iS : PySem.W.isFn K (.ref fS) = true)
    (m1S : PySem.W.makesIn K CS = true)
    (g1S : PySem.W.plainGet K CS Str.empty = true)
    (g2S : PySem.W.hasDictIn K CS = true)
    (g3S : PySem.W.plainOver K CS = true)
    (j1 : PySem.W.findIn K (.ref CS) "__class__" = some (some (.builtin "object.__class__")))
    (j2 : PySem.W.specialIn K (.builtin "object.__class__") "__get__" = some (some (.builtin "getset_descriptor.__get__")))
    (j3 : PySem.W.takesIn K (.builtin "object.__class__") = some true)
    (j4 : PySem.W.mroIn K CS (.type "object") = some true)
    (j5 : PySem.W.isClsIn K CS = true)
    (j6 : PySem.W.typeIn K (.ref CS) = some (.type "type"))
    (j7 : PySem.W.findIn K (.ref CS) "__ne__" = some (some (.builtin "object.__ne__")))
    (aC0 : PySem.W.nsIn K mainGlobals "SkipsError" = some (some (.ref C0)))
    (r1 : PySem.W.readsIn K C0 (.type "type") = true)
    (r2 : PySem.W.specialIn K (.ref C0) "__getattribute__" = some (some (.builtin "type.__getattribute__")))
    (r3 : PySem.W.findCls K (.ref C0) (.type "type") "__init__" = some (.val (.builtin "ValueError.__init__")))
    (s1 : PySem.W.isClsIn K C0 = true)
    (s2 : PySem.W.typeIn K (.ref C0) = some (.type "type"))
    (s3 : PySem.W.specialIn K (.builtin "object.__class__") "__get__" = some (some (.builtin "getset_descriptor.__get__")))
    (s4 : PySem.W.takesIn K (.builtin "object.__class__") = some true)
    (o1L : K.lookup CL = some (excClassObj nmL qL CL NL bsL bmL true snL suL abL colL ddL k0L k1L k2L k3L k5L "ValueError.__new__"))
    (o2L : PySem.HandSPX.refsVE bmL = true)
    (o3L : PySem.W.subIn K (.ref CL) (.type "BaseException") = some true)
    (o4L : PySem.W.typeIn K (.ref CL) = some (.type "type"))
    (tL : PySem.W.typeIn K (.ref fL) = some (.type "function"))
    (x1L : PySem.W.findIn K (.ref CL) "__getattribute__" = some (some (.builtin "BaseException.__getattribute__")))
    (x2L : PySem.W.findIn K (.ref CL) "__getattr__" = some none)
    (x3L : PySem.W.hasDictIn K CL = true)
    (e1L : PySem.W.findIn K (.ref CL) "__class__" = some (some (.builtin "object.__class__")))
    (e2L : PySem.W.mroIn K CL (.type "object") = some true)
    (p1L : PySem.W.subIn K (.ref CL) (.ref C0) = some true)
    (p2L : PySem.W.isClsIn K CL = true)
    (o1W : K.lookup CW = some (excClassObj nmW qW CW NW bsW bmW true snW suW abW colW ddW k0W k1W k2W k3W k5W "ValueError.__new__"))
    (o2W : PySem.HandSPX.refsVE bmW = true)
    (o3W : PySem.W.subIn K (.ref CW) (.type "BaseException") = some true)
    (o4W : PySem.W.typeIn K (.ref CW) = some (.type "type"))
    (tW : PySem.W.typeIn K (.ref fW) = some (.type "function"))
    (x1W : PySem.W.findIn K (.ref CW) "__getattribute__" = some (some (.builtin "BaseException.__getattribute__")))
    (x2W : PySem.W.findIn K (.ref CW) "__getattr__" = some none)
    (x3W : PySem.W.hasDictIn K CW = true)
    (e1W : PySem.W.findIn K (.ref CW) "__class__" = some (some (.builtin "object.__class__")))
    (e2W : PySem.W.mroIn K CW (.type "object") = some true)
    (p1W : PySem.W.subIn K (.ref CW) (.ref C0) = some true)
    (p2W : PySem.W.isClsIn K CW = true)
    (o1O : K.lookup CO = some (excClassObj nmO qO CO NO bsO bmO true snO suO abO colO ddO k0O k1O k2O k3O k5O "ValueError.__new__"))
    (o2O : PySem.HandSPX.refsVE bmO = true)
    (o3O : PySem.W.subIn K (.ref CO) (.type "BaseException") = some true)
    (o4O : PySem.W.typeIn K (.ref CO) = some (.type "type"))
    (tO : PySem.W.typeIn K (.ref fO) = some (.type "function"))
    (x1O : PySem.W.findIn K (.ref CO) "__getattribute__" = some (some (.builtin "BaseException.__getattribute__")))
    (x2O : PySem.W.findIn K (.ref CO) "__getattr__" = some none)
    (x3O : PySem.W.hasDictIn K CO = true)
    (e1O : PySem.W.findIn K (.ref CO) "__class__" = some (some (.builtin "object.__class__")))
    (e2O : PySem.W.mroIn K CO (.type "object") = some true)
    (p1O : PySem.W.subIn K (.ref CO) (.ref C0) = some true)
    (p2O : PySem.W.isClsIn K CO = true)
    (o1T : K.lookup CT = some (excClassObj nmT qT CT NT bsT bmT true snT suT abT colT ddT k0T k1T k2T k3T k5T "ValueError.__new__"))
    (o2T : PySem.HandSPX.refsVE bmT = true)
    (o3T : PySem.W.subIn K (.ref CT) (.type "BaseException") = some true)
    (o4T : PySem.W.typeIn K (.ref CT) = some (.type "type"))
    (tT : PySem.W.typeIn K (.ref fT) = some (.type "function"))
    (x1T : PySem.W.findIn K (.ref CT) "__getattribute__" = some (some (.builtin "BaseException.__getattribute__")))
    (x2T : PySem.W.findIn K (.ref CT) "__getattr__" = some none)
    (x3T : PySem.W.hasDictIn K CT = true)
    (e1T : PySem.W.findIn K (.ref CT) "__class__" = some (some (.builtin "object.__class__")))
    (e2T : PySem.W.mroIn K CT (.type "object") = some true)
    (p1T : PySem.W.subIn K (.ref CT) (.ref C0) = some true)
    (p2T : PySem.W.isClsIn K CT = true)
    (yLL : PySem.W.subIn K (.ref CL) (.ref CL) = some true)
    (yWL : PySem.W.subIn K (.ref CW) (.ref CL) = some false)
    (yWW : PySem.W.subIn K (.ref CW) (.ref CW) = some true)
    (yOL : PySem.W.subIn K (.ref CO) (.ref CL) = some false)
    (yOW : PySem.W.subIn K (.ref CO) (.ref CW) = some false)
    (yOO : PySem.W.subIn K (.ref CO) (.ref CO) = some true)
    (yTL : PySem.W.subIn K (.ref CT) (.ref CL) = some false)
    (yTW : PySem.W.subIn K (.ref CT) (.ref CW) = some false)
    (yTO : PySem.W.subIn K (.ref CT) (.ref CO) = some false)
    (yTT : PySem.W.subIn K (.ref CT) (.ref CT) = some true)
    (v0 : PySem.W.nsIn K mainGlobals "DEEPEST" = some (some (.int 40 t0)))
    (v1 : PySem.W.nsIn K mainGlobals "MOST_WIDTH" = some (some (.int 8 t1)))
    (v2 : PySem.W.nsIn K mainGlobals "MOST_STATES" = some (some (.int 64 t2)))
    (v3 : PySem.W.nsIn K mainGlobals "MOST_NODES" = some (some (.int 3000 t3)))
    (z0 : PySem.W.nsIn K mainGlobals "len" = some none)
    (z1 : PySem.W.nsIn K mainGlobals "int" = some none)
    (z2 : PySem.W.nsIn K mainGlobals "bool" = some none)
    (z3 : PySem.W.nsIn K mainGlobals "abs" = some none)
    (z4 : PySem.W.nsIn K mainGlobals "min" = some none)
    (z5 : PySem.W.nsIn K mainGlobals "list" = some none)
    (z6 : PySem.W.nsIn K mainGlobals "all" = some none)
    (z7 : PySem.W.nsIn K mainGlobals "any" = some none)
    (z8 : PySem.W.nsIn K mainGlobals "range" = some none)
    (z9 : PySem.W.nsIn K mainGlobals "isinstance" = some none)
    (z10 : PySem.W.nsIn K mainGlobals "str" = some none)
    (z11 : PySem.W.nsIn K mainGlobals "set" = some none)
    (z12 : PySem.W.nsIn K mainGlobals "tuple" = some none)
    (z13 : PySem.W.nsIn K mainGlobals "dict" = some none)
    (z14 : PySem.W.nsIn K mainGlobals "enumerate" = some none)
    (z15 : PySem.W.nsIn K mainGlobals "sum" = some none)
    (z16 : PySem.W.nsIn K mainGlobals "sorted" = some none)
    (z17 : PySem.W.nsIn K mainGlobals "zip" = some none)
    (z18 : PySem.W.nsIn K mainGlobals "reversed" = some none)
    (z19 : PySem.W.nsIn K mainGlobals "max" = some none)
    (z20 : PySem.W.nsIn K mainGlobals "repr" = some none) :
    ∃ (fd : FuncData) (cs : List (Addr × Addr)) (sp : Sp), (∀ p ∈ cs, h.get? p.2 = some { cls := .none, data := .fields #[] }) ∧ (∀ p ∈ cs, K.lookup p.2 = none) ∧ (∀ p ∈ cs, PySem.W.CodeHd h p.1 p.2) ∧ (∀ (s : Shared) (v : Value), BindsTo s fd ⟨[v], []⟩ [("_law_script", v)]) ∧
      (∀ (H : Hp) (a : Addr) (ns : List Int), ns.length ≤ 63 → (∀ p ∈ cs, H p.2 = some (.tbl #[])) → SqL K H a (ns.map V.int) → sp [.ref a] H (fun v _ => v = .bl true) E0) ∧
      ∀ base : Heap, K.In base → base.Ns mainGlobals mg → (∀ p ∈ cs, LamX.TabB base mg p.1 p.2) → GD.Gd l.prog w K mg base 51 fa fd ["_law_script"] sp := by
  have e := hfa.symm.trans (PySem.W.mg_of X G a1)
  cases e
  have F1 := fun_mk (st := s_law) l1 c1 k1
  have F2 := fun_mk (st := s_lpen) l2 c2 k2
  have b2 := F2.binds (ps := ["_law_script"]) fun _ _ _ _ _ _ us hl => match us, hl with | [_], _ => rfl
  have F3 := fun_mk (st := s_ldraw) l3 c3 k3
  have b3 := F3.binds (ps := ["_law_pen", "_law_many"]) fun _ _ _ _ _ _ us hl => match us, hl with | [_, _], _ => rfl
  have F4 := fun_mk (st := s_lpick) l4 c4 k4
  have b4 := F4.binds (ps := ["_law_pen", "_law_items"]) fun _ _ _ _ _ _ us hl => match us, hl with | [_, _], _ => rfl
  have F5 := fun_mk (st := s_lshuffled) l5 c5 k5
  have b5 := F5.binds (ps := ["_law_pen", "_law_items"]) fun _ _ _ _ _ _ us hl => match us, hl with | [_, _], _ => rfl
  have F6 := fun_mk (st := s_is_list) l6 c6 k6
  have b6 := F6.binds (ps := ["value"]) fun _ _ _ _ _ _ us hl => match us, hl with | [_], _ => rfl
  have F7 := fun_mk (st := s_is_integer) l7 c7 k7
  have b7 := F7.binds (ps := ["value"]) fun _ _ _ _ _ _ us hl => match us, hl with | [_], _ => rfl
  have F8 := fun_mk (st := s_is_whole) l8 c8 k8
  have b8 := F8.binds (ps := ["value", "low", "high"]) fun _ _ _ _ _ _ us hl => match us, hl with | [_, _, _], _ => rfl
  have F9 := fun_mk (st := s_are_letters) l9 c9 k9
  have b9 := F9.binds (ps := ["value"]) fun _ _ _ _ _ _ us hl => match us, hl with | [_], _ => rfl
  have F10 := fun_mk (st := s_is_part) l10 c10 k10
  have b10 := F10.binds (ps := ["part", "letters", "width", "states"]) fun _ _ _ _ _ _ us hl => match us, hl with | [_, _, _, _], _ => rfl
  have F11 := fun_mk (st := s_within) l11 c11 k11
  have b11 := F11.binds (ps := ["part"]) fun _ _ _ _ _ _ us hl => match us, hl with | [_], _ => rfl
  have F12 := fun_mk (st := s_first_wrong) l12 c12 k12
  have b12 := F12.binds (ps := ["tree", "letters", "width", "states"]) fun _ _ _ _ _ _ us hl => match us, hl with | [_, _, _, _], _ => rfl
  have F13 := fun_mk (st := s_all_parts) l13 c13 k13
  have b13 := F13.binds (ps := ["tree"]) fun _ _ _ _ _ _ us hl => match us, hl with | [_], _ => rfl
  have F14 := fun_mk (st := s_renamed) l14 c14 k14
  have b14 := F14.binds (ps := ["tree", "names"]) fun _ _ _ _ _ _ us hl => match us, hl with | [_, _], _ => rfl
  have F15 := fun_mk (st := s_wrong_sign) l15 c15 k15
  have b15 := F15.binds (ps := ["letters", "text"]) fun _ _ _ _ _ _ us hl => match us, hl with | [_, _], _ => rfl
  have F16 := fun_mk (st := s_is_word) l16 c16 k16
  have b16 := F16.binds (ps := ["letters", "value"]) fun _ _ _ _ _ _ us hl => match us, hl with | [_, _], _ => rfl
  have F17 := fun_mk (st := s_wrong_word) l17 c17 k17
  have b17 := F17.binds (ps := ["letters", "words"]) fun _ _ _ _ _ _ us hl => match us, hl with | [_, _], _ => rfl
  have F18 := fun_mk (st := s_kept) l18 c18 k18
  have b18 := F18.binds (ps := ["value"]) fun _ _ _ _ _ _ us hl => match us, hl with | [_], _ => rfl
  have F19 := fun_mk (st := s_fits) l19 c19 k19
  have b19 := F19.binds (ps := ["known", "word", "offset"]) fun _ _ _ _ _ _ us hl => match us, hl with | [_, _, _], _ => rfl
  have F20 := fun_mk (st := s_slid) l20 c20 k20
  have b20 := F20.binds (ps := ["known", "by"]) fun _ _ _ _ _ _ us hl => match us, hl with | [_, _], _ => rfl
  have F21 := fun_mk (st := s_lfits) l21 c21 k21
  have b21 := F21.binds (ps := ["_law_known", "_law_word", "_law_by"]) fun _ _ _ _ _ _ us hl => match us, hl with | [_, _, _], _ => rfl
  have F22 := fun_mk (st := s_lleast) l22 c22 k22
  have b22 := F22.binds (ps := ["_law_words", "_law_known"]) fun _ _ _ _ _ _ us hl => match us, hl with | [_, _], _ => rfl
  have F23 := fun_mk (st := s_lsome_word) l23 c23 k23
  have b23 := F23.binds (ps := ["_law_pen", "_law_letters", "_law_width"]) fun _ _ _ _ _ _ us hl => match us, hl with | [_, _, _], _ => rfl
  have F24 := fun_mk (st := s_lsome_words) l24 c24 k24
  have b24 := F24.binds (ps := ["_law_pen", "_law_letters", "_law_width", "_law_most"]) fun _ _ _ _ _ _ us hl => match us, hl with | [_, _, _, _], _ => rfl
  have F25 := fun_mk (st := s_lput) l25 c25 k25
  have b25 := F25.binds (ps := ["_law_known", "_law_place", "_law_letter"]) fun _ _ _ _ _ _ us hl => match us, hl with | [_, _, _], _ => rfl
  have F26 := fun_mk (st := s_lsize) l26 c26 k26
  have b26 := F26.binds (ps := ["_law_world", "_law_known"]) fun _ _ _ _ _ _ us hl => match us, hl with | [_, _], _ => rfl
  have F27 := fun_mk (st := s_lleaf) l27 c27 k27
  have b27 := F27.binds (ps := ["_law_world", "_law_met_here", "_law_known"]) fun _ _ _ _ _ _ us hl => match us, hl with | [_, _, _], _ => rfl
  have F28 := fun_mk (st := s_ltree) l28 c28 k28
  have b28 := F28.binds (ps := ["_law_world", "_law_met_here", "_law_known", "_law_at"]) fun _ _ _ _ _ _ us hl => match us, hl with | [_, _, _, _], _ => rfl
  have F29 := fun_mk (st := s_lstates) l29 c29 k29
  have b29 := F29.binds (ps := ["_law_world"]) fun _ _ _ _ _ _ us hl => match us, hl with | [_], _ => rfl
  have F30 := fun_mk (st := s_check_words) l30 c30 k30
  have b30 := F30.binds (ps := ["letters", "words"]) fun _ _ _ _ _ _ us hl => match us, hl with | [_, _], _ => rfl
  have F31 := fun_mk (st := s_is_order) l31 c31 k31
  have b31 := F31.binds (ps := ["value", "width"]) fun _ _ _ _ _ _ us hl => match us, hl with | [_, _], _ => rfl
  have F32 : FunD K "best" "best" (defArgs s_best) (defBody s_best) (defScope s_best) [.bl false] [] f32 (PySem.W.fnOf "best" "best" (defArgs s_best) (defBody s_best) (defScope s_best) (.ref dt32) kV32 dc32 pm32 an32 cd32 ct32) :=
    ⟨⟨_, _, _, _, _, _, _, _, _, _, rfl, l32, c32, .inr ⟨by simp, dt32, _, _, _, rfl, d32, rfl, .cons rfl (.nil)⟩, .inl rfl⟩, k32⟩
  obtain ⟨e32_0, v32_0, b32_0⟩ := F32.binds1 (ps := ["letters", "words", "order", "behind"]) 3 0 (by simp) rfl fun _ _ _ _ _ _ _ us its hu hi => match us, its, hu, hi with | [_, _, _], [_], _, _ => ⟨_, rfl, rfl⟩
  obtain ⟨e32_1, v32_1, b32_1⟩ := F32.binds1 (ps := ["letters", "words", "order", "behind"]) 4 1 (by simp) rfl fun _ _ _ _ _ _ _ us its hu hi => match us, its, hu, hi with | [_, _, _, _], [_], _, _ => ⟨_, rfl, rfl⟩
  cases v32_1
  have b32 := b32_1
  have F33 := fun_mk (st := s_lare_refused) l33 c33 k33
  have b33 := F33.binds (ps := ["_law_pen", "_law_letters", "_law_words", "_law_order"]) fun _ _ _ _ _ _ us hl => match us, hl with | [_, _, _, _], _ => rfl
  have F34 := fun_mk (st := s_lmet) l34 c34 k34
  have b34 := F34.binds (ps := ["_law_call"]) fun _ _ _ _ _ _ us hl => match us, hl with | [_], _ => rfl
  have FF := fun_mk (x := "__init__") (qual := "Fitting.__init__") (st := s_Fitting_init) lF cF kF
  have bF := FF.binds (ps := ["self", "words"]) fun _ _ _ _ _ _ us hl => match us, hl with | [_, _], _ => rfl
  have mF := PySem.W.mg_of X G aCF
  have FM := fun_mk (x := "__init__") (qual := "Maker.__init__") (st := s_Maker_init) lM cM kM
  have bM := FM.binds (ps := ["self", "letters", "words", "order", "behind"]) fun _ _ _ _ _ _ us hl => match us, hl with | [_, _, _, _, _], _ => rfl
  have mM := PySem.W.mg_of X G aCM
  have FS := fun_mk (x := "__init__") (qual := "Searcher.__init__") (st := s_Searcher_init) lS cS kS
  have bS := FS.binds (ps := ["self", "letters", "width", "states"]) fun _ _ _ _ _ _ us hl => match us, hl with | [_, _, _, _], _ => rfl
  have mS := PySem.W.mg_of X G aCS
  have FL := fun_mk (x := "__init__") (qual := "BadLetters.__init__") (st := s_BadLetters_init) lL cL kL
  have bL := FL.binds (ps := ["self", "letters"]) fun _ _ _ _ _ _ us hl => match us, hl with | [_, _], _ => rfl
  have mL := PySem.W.mg_of X G aCL
  have FW := fun_mk (x := "__init__") (qual := "BadWords.__init__") (st := s_BadWords_init) lW cW kW
  have bW := FW.binds (ps := ["self", "place"]) fun _ _ _ _ _ _ us hl => match us, hl with | [_, _], _ => rfl
  have mW := PySem.W.mg_of X G aCW
  have FO := fun_mk (x := "__init__") (qual := "BadOrder.__init__") (st := s_BadOrder_init) lO cO kO
  have bO := FO.binds (ps := ["self", "order"]) fun _ _ _ _ _ _ us hl => match us, hl with | [_, _], _ => rfl
  have mO := PySem.W.mg_of X G aCO
  have FT := fun_mk (x := "__init__") (qual := "TooMany.__init__") (st := s_TooMany_init) lT cT kT
  have bT := FT.binds (ps := ["self", "what", "many", "most"]) fun _ _ _ _ _ _ us hl => match us, hl with | [_, _, _, _], _ => rfl
  have mT := PySem.W.mg_of X G aCT
  have FX := fun_mk (x := "can") (qual := "Fitting.can") (st := s_Fitting_can) lX cX kX
  have bX := FX.binds (ps := ["self", "known", "offset"]) fun _ _ _ _ _ _ us hl => match us, hl with | [_, _, _], _ => rfl
  have FQ := fun_mk (x := "least") (qual := "Fitting.least") (st := s_Fitting_least) lQ cQ kQ
  have bQ := FQ.binds (ps := ["self", "known", "low"]) fun _ _ _ _ _ _ us hl => match us, hl with | [_, _, _], _ => rfl
  have FA := fun_mk (x := "all_trees") (qual := "Maker.all_trees") (st := s_Maker_all_trees) lA cA kA
  have bA := FA.binds (ps := ["self"]) fun _ _ _ _ _ _ us hl => match us, hl with | [_], _ => rfl
  have FV := fun_mk (x := "_tree") (qual := "Maker._tree") (st := s_Maker__tree) lV cV kV
  have bV := FV.binds (ps := ["self", "known"]) fun _ _ _ _ _ _ us hl => match us, hl with | [_, _], _ => rfl
  have FR := fun_mk (x := "_read") (qual := "Maker._read") (st := s_Maker__read) lR cR kR
  have bR := FR.binds (ps := ["self", "known", "place"]) fun _ _ _ _ _ _ us hl => match us, hl with | [_, _, _], _ => rfl
  have FG := fun_mk (x := "_go") (qual := "Maker._go") (st := s_Maker__go) lG cG kG
  have bG := FG.binds (ps := ["self", "known"]) fun _ _ _ _ _ _ us hl => match us, hl with | [_, _], _ => rfl
  have FY := fun_mk (x := "_remembered") (qual := "Maker._remembered") (st := s_Maker__remembered) lY cY kY
  have bY := FY.binds (ps := ["self", "known"]) fun _ _ _ _ _ _ us hl => match us, hl with | [_, _], _ => rfl
  have FE := fun_mk (x := "__eq__") (qual := "Searcher.__eq__") (st := s_Searcher_eq) lE cE kE
  have bE := FE.binds (ps := ["self", "other"]) fun _ _ _ _ _ _ us hl => match us, hl with | [_, _], _ => rfl
  have T : Tx mg := { len := PySem.W.mg_none_of X G z0, int := PySem.W.mg_none_of X G z1, bool := PySem.W.mg_none_of X G z2, abs := PySem.W.mg_none_of X G z3, min := PySem.W.mg_none_of X G z4, list := PySem.W.mg_none_of X G z5, all := PySem.W.mg_none_of X G z6, any := PySem.W.mg_none_of X G z7, range := PySem.W.mg_none_of X G z8, isinstance := PySem.W.mg_none_of X G z9, str := PySem.W.mg_none_of X G z10, set := PySem.W.mg_none_of X G z11, tuple := PySem.W.mg_none_of X G z12, dict := PySem.W.mg_none_of X G z13, enumerate := PySem.W.mg_none_of X G z14, sum := PySem.W.mg_none_of X G z15, sorted := PySem.W.mg_none_of X G z16, zip := PySem.W.mg_none_of X G z17, reversed := PySem.W.mg_none_of X G z18, max := PySem.W.mg_none_of X G z19, k_DEEPEST := _, m_DEEPEST := PySem.W.mg_of X G v0, k_MOST_WIDTH := _, m_MOST_WIDTH := PySem.W.mg_of X G v1, k_MOST_STATES := _, m_MOST_STATES := PySem.W.mg_of X G v2, k_MOST_NODES := _, m_MOST_NODES := PySem.W.mg_of X G v3 }
  have B0 : BaseC K mg C0 := ⟨PySem.W.mg_of X G aC0, ⟨r1, r2⟩, r3⟩
  have EL : ErrC K CL fL C0 := ⟨⟨⟨_, _, _, _, _, _, _, _, _, _, _, _, _, _, _, o1L, o2L⟩, g4L, o3L, o4L, m2L⟩, aL, tL, ⟨x1L, x2L, o3L, x3L⟩, ⟨x1L, x2L, o3L, x3L, e1L, s3, s4, e2L⟩, kit_mk (.inr rfl) s1 s2 p1L⟩
  have EW : ErrC K CW fW C0 := ⟨⟨⟨_, _, _, _, _, _, _, _, _, _, _, _, _, _, _, o1W, o2W⟩, g4W, o3W, o4W, m2W⟩, aW, tW, ⟨x1W, x2W, o3W, x3W⟩, ⟨x1W, x2W, o3W, x3W, e1W, s3, s4, e2W⟩, kit_mk (.inr rfl) s1 s2 p1W⟩
  have EO : ErrC K CO fO C0 := ⟨⟨⟨_, _, _, _, _, _, _, _, _, _, _, _, _, _, _, o1O, o2O⟩, g4O, o3O, o4O, m2O⟩, aO, tO, ⟨x1O, x2O, o3O, x3O⟩, ⟨x1O, x2O, o3O, x3O, e1O, s3, s4, e2O⟩, kit_mk (.inr rfl) s1 s2 p1O⟩
  have ET : ErrC K CT fT C0 := ⟨⟨⟨_, _, _, _, _, _, _, _, _, _, _, _, _, _, _, o1T, o2T⟩, g4T, o3T, o4T, m2T⟩, aT, tT, ⟨x1T, x2T, o3T, x3T⟩, ⟨x1T, x2T, o3T, x3T, e1T, s3, s4, e2T⟩, kit_mk (.inr rfl) s1 s2 p1T⟩
  have MKF : Mk K CF fF := ⟨m1F, aF, iF, m2F⟩
  have MKM : Mk K CM fM := ⟨m1M, aM, iM, m2M⟩
  have MKS : Mk K CS fS := ⟨m1S, aS, iS, m2S⟩
  have SF : FC K CF := ⟨⟨g1F, g2F, g3F, g4F⟩, nF1, nF2⟩
  have SM : MC K CM := ⟨⟨g1M, g2M, g3M, g4M⟩, nM1, nM2, nM3, nM4, nM5, nM6, nM7⟩
  have S : SC K CS := ⟨⟨g1S, g2S, g3S, g4S⟩, nS1, nS2, nS3, nS4⟩
  have i5 : PySem.W.kitOne K (.ref CS) (.ref CS) = some true := by
    unfold PySem.W.kitOne
    rw [if_pos (by simp)]
  have i6 : PySem.W.kitOne K (.type "tuple") (.ref CS) = some false := by
    unfold PySem.W.kitOne PySem.W.kitCls
    rw [if_neg (by simp)]
    show (if ((PySem.W.clsIn K CS).isSome && PySem.W.typeIn K (.ref CS) == some (.type "type")) = true then PySem.W.subIn K (.type "tuple") (.ref CS) else none) = some false
    rw [if_pos (by rw [Bool.and_eq_true]; exact ⟨j5, by rw [j6]; simp⟩)]
    exact OE.sub_tup
  have S2 : SE K CS := ⟨⟨⟨g1S, g2S, g3S, g4S⟩, j1, j2, j3, j4, i5⟩, i6⟩
  have GS : Gs mg CL CW CO CT C0 := ⟨mL, mW, mO, mT, PySem.W.mg_of X G aC0⟩
  have NF : NoF K CL CW CO CT := ⟨nL1, nW1, nO1, nT1, nT2, nT3⟩
  have EXM : Exm K CL CW CO CT := ⟨exm_mk o3L p2L o4L yLL, exm_mk o3L p2L o4L yWL, exm_mk o3W p2W o4W yWW, exm_mk o3L p2L o4L yOL, exm_mk o3W p2W o4W yOW, exm_mk o3O p2O o4O yOO, exm_mk o3L p2L o4L yTL, exm_mk o3W p2W o4W yTW, exm_mk o3O p2O o4O yTO, exm_mk o3T p2T o4T yTT⟩
  have MeX : Meth K CF "can" fX := ⟨aX, nfX, kX⟩
  have MeQ : Meth K CF "least" fQ := ⟨aQ, nfQ, kQ⟩
  have MeA : Meth K CM "all_trees" fA := ⟨aA, nfA, kA⟩
  have MeV : Meth K CM "_tree" fV := ⟨aV, nfV, kV⟩
  have MeR : Meth K CM "_read" fR := ⟨aR, nfR, kR⟩
  have MeG : Meth K CM "_go" fG := ⟨aG, nfG, kG⟩
  have MeY : Meth K CM "_remembered" fY := ⟨aY, nfY, kY⟩
  have ndt : ta1 ≠ ta33 := by simpa using ndT
  have uL : ∀ q ∈ ([(ta1, lamL), (ta33, lamR)] : List (Addr × Str)), q.1 = ta1 → q.2 = lamL := by
    intro q hq h
    simp only [List.mem_cons, List.not_mem_nil, or_false] at hq
    rcases hq with rfl | rfl
    · rfl
    · exact absurd h.symm ndt
  have uR : ∀ q ∈ ([(ta1, lamL), (ta33, lamR)] : List (Addr × Str)), q.1 = ta33 → q.2 = lamR := by
    intro q hq h
    simp only [List.mem_cons, List.not_mem_nil, or_false] at hq
    rcases hq with rfl | rfl
    · exact absurd h ndt
    · rfl
  have FC1 : GT.FunC K "law" "law" s_law _ _ ca1 := ⟨_, _, _, _, _, _, _, _, rfl, l1, c1⟩
  have FC33 : GT.FunC K "_law_are_refused" "_law_are_refused" s_lare_refused _ _ ca33 := ⟨_, _, _, _, _, _, _, _, rfl, l33, c33⟩
  refine ⟨PySem.W.fnOf "law" "law" (defArgs s_law) (defBody s_law) (defScope s_law) .none kV1 dc1 pm1 an1 (.ref ca1) ct1, [(ca1, ta1), (ca33, ta33)], (spLaw K [(ta1, lamL), (ta33, lamR)]), ?_, ?_, ?_, fun s v => .of_eq rfl, fun H a ns hn hT hS => ⟨a, ns, rfl, ?_, hS, hn, fun _ => rfl⟩, fun base _ _ TB => ?_⟩
  · intro p hp
    simp only [List.mem_cons, List.not_mem_nil, or_false] at hp
    rcases hp with rfl | rfl
    · exact ht1
    · exact ht33
  · intro p hp
    simp only [List.mem_cons, List.not_mem_nil, or_false] at hp
    rcases hp with rfl | rfl
    · exact tk1
    · exact tk33
  · intro p hp
    simp only [List.mem_cons, List.not_mem_nil, or_false] at hp
    rcases hp with rfl | rfl
    · exact PySem.W.codeHd_of_K X hcd1
    · exact PySem.W.codeHd_of_K X hcd33
  · intro q hq
    simp only [List.mem_cons, List.not_mem_nil, or_false] at hq
    rcases hq with rfl | rfl
    · exact hT (ca1, ta1) (by simp)
    · exact hT (ca33, ta33) (by simp)
  have TB1 := TB (ca1, ta1) (by simp)
  have TB33 := TB (ca33, ta33) (by simp)
  have c_lpen : Kn l.prog w K mg base "_law_pen_of" ["_law_script"] 1 (spPen K) := ⟨f2, _, ok_pen F2 T , PySem.W.mg_of X G a2, F2.kp, b2⟩
  have c_ldraw : Kn l.prog w K mg base "_law_draw" ["_law_pen", "_law_many"] 1 spDraw := ⟨f3, _, ok_draw F3 T , PySem.W.mg_of X G a3, F3.kp, b3⟩
  have c_pickS : Kn l.prog w K mg base "_law_pick" ["_law_pen", "_law_items"] 2 spPickS := ⟨f4, _, ok_pickS F4 T c_ldraw, PySem.W.mg_of X G a4, F4.kp, b4⟩
  have c_pickL : Kn l.prog w K mg base "_law_pick" ["_law_pen", "_law_items"] 2 spPickL := ⟨f4, _, ok_pickL F4 T c_ldraw, PySem.W.mg_of X G a4, F4.kp, b4⟩
  have c_lshuf : Kn l.prog w K mg base "_law_shuffled" ["_law_pen", "_law_items"] 2 spShuf := ⟨f5, _, ok_shuf F5 T c_ldraw, PySem.W.mg_of X G a5, F5.kp, b5⟩
  have c_isQ : Kn l.prog w K mg base "is_list" ["value"] 1 spIsQ := ⟨f6, _, ok_isQ F6 T , PySem.W.mg_of X G a6, F6.kp, b6⟩
  have c_isInt : Kn l.prog w K mg base "is_integer" ["value"] 1 spIsInt := ⟨f7, _, ok_integer F7 T , PySem.W.mg_of X G a7, F7.kp, b7⟩
  have c_whole : Kn l.prog w K mg base "is_whole" ["value", "low", "high"] 2 spWhole := ⟨f8, _, ok_whole F8 T c_isInt, PySem.W.mg_of X G a8, F8.kp, b8⟩
  have c_areL : Kn l.prog w K mg base "are_letters" ["value"] 1 spAreL := ⟨f9, _, ok_areL F9 T , PySem.W.mg_of X G a9, F9.kp, b9⟩
  have c_is_part : Kn l.prog w K mg base "_is_part" ["part", "letters", "width", "states"] 3 spIsPart := ⟨f10, _, ok_ispart F10 T c_isQ c_whole, PySem.W.mg_of X G a10, F10.kp, b10⟩
  have c_within : Kn l.prog w K mg base "_within" ["part"] 1 spWithin := ⟨f11, _, ok_within F11 T , PySem.W.mg_of X G a11, F11.kp, b11⟩
  have c_first_wrong : Kn l.prog w K mg base "first_wrong" ["tree", "letters", "width", "states"] 4 spFW := ⟨f12, _, ok_fw F12 T c_is_part c_within, PySem.W.mg_of X G a12, F12.kp, b12⟩
  have c_all_parts : Kn l.prog w K mg base "all_parts" ["tree"] 2 spAll := ⟨f13, _, ok_all F13 T c_within, PySem.W.mg_of X G a13, F13.kp, b13⟩
  have c_renamed : Kn l.prog w K mg base "renamed" ["tree", "names"] 41 (spRen 40) := ⟨f14, _, ok_ren0 F14 T (PySem.W.mg_of X G a14) b14 40, PySem.W.mg_of X G a14, F14.kp, b14⟩
  have c_isLG : Kn l.prog w K mg base "is_list" ["value"] 1 spIsLG := ⟨f6, _, ok_isLG F6 T , PySem.W.mg_of X G a6, F6.kp, b6⟩
  have c_isW : Kn l.prog w K mg base "is_list" ["value"] 1 spIsW := ⟨f6, _, ok_isW F6 T , PySem.W.mg_of X G a6, F6.kp, b6⟩
  have c_isIG : Kn l.prog w K mg base "is_integer" ["value"] 1 spIsIG := ⟨f7, _, ok_isIG F7 T , PySem.W.mg_of X G a7, F7.kp, b7⟩
  have c_whG : Kn l.prog w K mg base "is_whole" ["value", "low", "high"] 2 spWhG := ⟨f8, _, ok_whG F8 T c_isIG, PySem.W.mg_of X G a8, F8.kp, b8⟩
  have c_areG : Kn l.prog w K mg base "are_letters" ["value"] 1 (spAreG K) := ⟨f9, _, ok_areG F9 T , PySem.W.mg_of X G a9, F9.kp, b9⟩
  have c_wrong_sign : Kn l.prog w K mg base "wrong_sign" ["letters", "text"] 1 (spWS K) := ⟨f15, _, ok_ws F15 T , PySem.W.mg_of X G a15, F15.kp, b15⟩
  have c_is_word : Kn l.prog w K mg base "_is_word" ["letters", "value"] 2 (spWdG K) := ⟨f16, _, ok_wdG F16 T c_wrong_sign, PySem.W.mg_of X G a16, F16.kp, b16⟩
  have c_wwG : Kn l.prog w K mg base "wrong_word" ["letters", "words"] 3 (spWWG K) := ⟨f17, _, ok_wwG F17 T c_isW c_is_word, PySem.W.mg_of X G a17, F17.kp, b17⟩
  have c_kept0 : Kn l.prog w K mg base "_kept" ["value"] 1 spKf := ⟨f18, _, ok_kf F18 T , PySem.W.mg_of X G a18, F18.kp, b18⟩
  have c_kept : Kn l.prog w K mg base "_kept" ["value"] 2 spKept := ⟨f18, _, ok_kept F18 T c_kept0, PySem.W.mg_of X G a18, F18.kp, b18⟩
  have c_fits : Kn l.prog w K mg base "fits" ["known", "word", "offset"] 1 spFits := ⟨f19, _, ok_fits F19 T , PySem.W.mg_of X G a19, F19.kp, b19⟩
  have c_slid : Kn l.prog w K mg base "slid" ["known", "by"] 1 spSlid := ⟨f20, _, ok_slid F20 T , PySem.W.mg_of X G a20, F20.kp, b20⟩
  have c_lfits : Kn l.prog w K mg base "_law_fits" ["_law_known", "_law_word", "_law_by"] 1 spFits := ⟨f21, _, ok_lfits F21 T , PySem.W.mg_of X G a21, F21.kp, b21⟩
  have c_lleast : Kn l.prog w K mg base "_law_least" ["_law_words", "_law_known"] 2 spLLeast := ⟨f22, _, ok_lleast F22 T c_lfits, PySem.W.mg_of X G a22, F22.kp, b22⟩
  have c_lsw : Kn l.prog w K mg base "_law_some_word" ["_law_pen", "_law_letters", "_law_width"] 3 spSomeWord := ⟨f23, _, ok_someword F23 T c_pickS, PySem.W.mg_of X G a23, F23.kp, b23⟩
  have c_lsws : Kn l.prog w K mg base "_law_some_words" ["_law_pen", "_law_letters", "_law_width", "_law_most"] 4 spSomeWords := ⟨f24, _, ok_somewords F24 T c_ldraw c_lsw, PySem.W.mg_of X G a24, F24.kp, b24⟩
  have c_lput : Kn l.prog w K mg base "_law_put" ["_law_known", "_law_place", "_law_letter"] 1 spPut := ⟨f25, _, ok_put F25 T , PySem.W.mg_of X G a25, F25.kp, b25⟩
  have c_lsize : Kn l.prog w K mg base "_law_size" ["_law_world", "_law_known"] 1 spSize := ⟨f26, _, ok_lsize F26 T , PySem.W.mg_of X G a26, F26.kp, b26⟩
  have c_lleaf : Kn l.prog w K mg base "_law_leaf" ["_law_world", "_law_met_here", "_law_known"] 3 spLLeaf := ⟨f27, _, ok_lleaf F27 T c_lleast c_lsize c_lput, PySem.W.mg_of X G a27, F27.kp, b27⟩
  have c_ltree : Kn l.prog w K mg base "_law_tree" ["_law_world", "_law_met_here", "_law_known", "_law_at"] 9 (spLTree 5) := ⟨f28, _, ok_ltree0 F28 T (PySem.W.mg_of X G a28) b28 c_lfits c_lleaf c_lput 5, PySem.W.mg_of X G a28, F28.kp, b28⟩
  have c_lstates : Kn l.prog w K mg base "_law_states" ["_law_world"] 10 spStates := ⟨f29, _, ok_lstates F29 T c_lsize c_ltree, PySem.W.mg_of X G a29, F29.kp, b29⟩
  have IL := ok_BadLetters (P := l.prog) (w := w) (base := base) FL T B0 EL.o nL1 c_kept
  have IW := ok_BadWords (P := l.prog) (w := w) (base := base) FW T B0 EW.o nW1 c_kept
  have IO := ok_BadOrder (P := l.prog) (w := w) (base := base) FO T B0 EO.o nO1 c_kept
  have IT := ok_TooMany (P := l.prog) (w := w) (base := base) FT T B0 ET.o nT1 nT2 nT3 c_kept
  have c_check : Kn' l.prog w K mg base (L2.CX l.prog w) "check_words" ["letters", "words"] 5 (spCheckG K CL CW) := ⟨f30, _, ok_checkG F30 T EL EW mL mW IL bL IW bW c_areG c_wwG, PySem.W.mg_of X G a30, F30.kp, b30⟩
  have c_order : Kn l.prog w K mg base "_is_order" ["value", "width"] 3 spOrd := ⟨f31, _, ok_order F31 T c_isLG c_whG, PySem.W.mg_of X G a31, F31.kp, b31⟩
  have IJ := ok_initF (P := l.prog) (w := w) (base := base) FF T SF
  have KX := ok_can (P := l.prog) (w := w) (base := base) FX T SF c_fits
  have KQ := ok_least (P := l.prog) (w := w) (base := base) FQ T SF MeX KX bX
  have KR := ok_rd (CF := CF) (P := l.prog) (w := w) (base := base) FR T SM
  have KY := ok_rem (CF := CF) (P := l.prog) (w := w) (base := base) FY T SM
  have KG := ok_go (P := l.prog) (w := w) (base := base) FG T SM SF c_slid MeQ KQ bQ MeY KY bY
  have KV := ok_tree0 (P := l.prog) (w := w) (base := base) FV T SM SF MeX KX bX MeR KR bR MeG KG bG MeV bV 5
  have KA := ok_all_trees (P := l.prog) (w := w) (base := base) FA T SM MeV KV bV
  have IM := ok_mk (P := l.prog) (w := w) (base := base) FM T SM mF MKF IJ bF
  have IS := ok_init (P := l.prog) (w := w) (base := base) FS T S c_areL c_whole c_isQ c_first_wrong c_all_parts c_renamed
  have QE := ok_eq (P := l.prog) (w := w) (base := base) FE T mS S S2
  have c_best4 : Kn' l.prog w K mg base (L2.CX l.prog w) "best" ["letters", "words", "order", "behind"] 44 (spBest K CL CW CO CS) := ⟨f32, _, ok_best F32 T SM EO mO IO bO c_check c_order mM MKM IM bM MeA KA bA mS MKS IS bS, PySem.W.mg_of X G a32, F32.kp, b32⟩
  have c_best3 : KnD l.prog w K mg base "best" ["letters", "words", "order", "behind"] 44 (spBest K CL CW CO CS) := ⟨f32, _, ok_best F32 T SM EO mO IO bO c_check c_order mM MKM IM bM MeA KA bA mS MKS IS bS, PySem.W.mg_of X G a32, F32.kp, e32_0, b32_0, v32_0⟩
  have c_ref : KnG l.prog w K mg base "_law_are_refused" ["_law_pen", "_law_letters", "_law_words", "_law_order"] 48 (spRefused [(ta1, lamL), (ta33, lamR)]) := ⟨f33, _, ok_refused FC33 T (PySem.W.mg_none_of X G z20) F34 (PySem.W.mg_of X G a34) b34 EL EW EO ET GS NF EXM TB33 (by simp) uR c_pickL c_best3, (fun vs H Q E h => by obtain ⟨p, B, n, wa, oa, L, ws, O, rfl, _⟩ := h; rfl), PySem.W.mg_of X G a33, F33.kp, b33⟩
  exact ok_law FC1 T (PySem.W.mg_none_of X G z20) F34 (PySem.W.mg_of X G a34) b34 EL EW EO ET GS NF EXM TB1 (by simp) uL c_lpen c_ldraw c_pickL c_lshuf c_lsws c_lstates c_best4 c_best3 ⟨aE, nfE, j7, j4⟩ QE bE mS MKS IS bS c_ref
end Law
open PySem PySem.W PyProof.Rows
set_option maxHeartbeats 0 in
theorem PySem.Challenge.cw_wordskips_k45_best_made_holds : PySem.Challenge.rw_wordskips_k45_best_made.Holds := by
  w_on; o_law; k_head; (case hw => w_witness2)
  k_fill
  refine GT.walkGTs (l := PySem.Challenge.rw_wordskips_k45_best_made) (n := 63) (k := 51) (x := "_law_script") rfl (by decide) rfl ⟨rfl, by decide, by decide⟩ (fun w h Y => PySem.W.km_in_of Y) ?F
  case F =>
    intro w mg fa h Y KX G hmg
    have tabs := PySem.W.km_tabs_of Y
    refine' Law.all_mk KX G hmg (a1 := ?a1) (l1 := ?l1) (c1 := ?c1) (k1 := ?k1) (tb1 := ?tb1) (tv1 := ?tv1) (hcd1 := ?hcd1) (tk1 := ?tk1) (ht1 := ?ht1) (a2 := ?a2) (l2 := ?l2) (c2 := ?c2) (k2 := ?k2) (a3 := ?a3) (l3 := ?l3) (c3 := ?c3) (k3 := ?k3) (a4 := ?a4) (l4 := ?l4) (c4 := ?c4) (k4 := ?k4) (a5 := ?a5) (l5 := ?l5) (c5 := ?c5) (k5 := ?k5) (a6 := ?a6) (l6 := ?l6) (c6 := ?c6) (k6 := ?k6) (a7 := ?a7) (l7 := ?l7) (c7 := ?c7) (k7 := ?k7) (a8 := ?a8) (l8 := ?l8) (c8 := ?c8) (k8 := ?k8) (a9 := ?a9) (l9 := ?l9) (c9 := ?c9) (k9 := ?k9) (a10 := ?a10) (l10 := ?l10) (c10 := ?c10) (k10 := ?k10) (a11 := ?a11) (l11 := ?l11) (c11 := ?c11) (k11 := ?k11) (a12 := ?a12) (l12 := ?l12) (c12 := ?c12) (k12 := ?k12) (a13 := ?a13) (l13 := ?l13) (c13 := ?c13) (k13 := ?k13) (a14 := ?a14) (l14 := ?l14) (c14 := ?c14) (k14 := ?k14) (a15 := ?a15) (l15 := ?l15) (c15 := ?c15) (k15 := ?k15) (a16 := ?a16) (l16 := ?l16) (c16 := ?c16) (k16 := ?k16) (a17 := ?a17) (l17 := ?l17) (c17 := ?c17) (k17 := ?k17) (a18 := ?a18) (l18 := ?l18) (c18 := ?c18) (k18 := ?k18) (a19 := ?a19) (l19 := ?l19) (c19 := ?c19) (k19 := ?k19) (a20 := ?a20) (l20 := ?l20) (c20 := ?c20) (k20 := ?k20) (a21 := ?a21) (l21 := ?l21) (c21 := ?c21) (k21 := ?k21) (a22 := ?a22) (l22 := ?l22) (c22 := ?c22) (k22 := ?k22) (a23 := ?a23) (l23 := ?l23) (c23 := ?c23) (k23 := ?k23) (a24 := ?a24) (l24 := ?l24) (c24 := ?c24) (k24 := ?k24) (a25 := ?a25) (l25 := ?l25) (c25 := ?c25) (k25 := ?k25) (a26 := ?a26) (l26 := ?l26) (c26 := ?c26) (k26 := ?k26) (a27 := ?a27) (l27 := ?l27) (c27 := ?c27) (k27 := ?k27) (a28 := ?a28) (l28 := ?l28) (c28 := ?c28) (k28 := ?k28) (a29 := ?a29) (l29 := ?l29) (c29 := ?c29) (k29 := ?k29) (a30 := ?a30) (l30 := ?l30) (c30 := ?c30) (k30 := ?k30) (a31 := ?a31) (l31 := ?l31) (c31 := ?c31) (k31 := ?k31) (a32 := ?a32) (l32 := ?l32) (c32 := ?c32) (k32 := ?k32) (d32 := ?d32) (a33 := ?a33) (l33 := ?l33) (c33 := ?c33) (k33 := ?k33) (tb33 := ?tb33) (tv33 := ?tv33) (hcd33 := ?hcd33) (tk33 := ?tk33) (ht33 := ?ht33) (a34 := ?a34) (l34 := ?l34) (c34 := ?c34) (k34 := ?k34) (ndT := ?ndT) (aCF := ?aCF) (aF := ?aF) (lF := ?lF) (cF := ?cF) (kF := ?kF) (nF1 := ?nF1) (nF2 := ?nF2) (g4F := ?g4F) (m2F := ?m2F) (aCM := ?aCM) (aM := ?aM) (lM := ?lM) (cM := ?cM) (kM := ?kM) (nM1 := ?nM1) (nM2 := ?nM2) (nM3 := ?nM3) (nM4 := ?nM4) (nM5 := ?nM5) (nM6 := ?nM6) (nM7 := ?nM7) (g4M := ?g4M) (m2M := ?m2M) (aCS := ?aCS) (aS := ?aS) (lS := ?lS) (cS := ?cS) (kS := ?kS) (nS1 := ?nS1) (nS2 := ?nS2) (nS3 := ?nS3) (nS4 := ?nS4) (g4S := ?g4S) (m2S := ?m2S) (aCL := ?aCL) (aL := ?aL) (lL := ?lL) (cL := ?cL) (kL := ?kL) (nL1 := ?nL1) (g4L := ?g4L) (m2L := ?m2L) (aCW := ?aCW) (aW := ?aW) (lW := ?lW) (cW := ?cW) (kW := ?kW) (nW1 := ?nW1) (g4W := ?g4W) (m2W := ?m2W) (aCO := ?aCO) (aO := ?aO) (lO := ?lO) (cO := ?cO) (kO := ?kO) (nO1 := ?nO1) (g4O := ?g4O) (m2O := ?m2O) (aCT := ?aCT) (aT := ?aT) (lT := ?lT) (cT := ?cT) (kT := ?kT) (nT1 := ?nT1) (nT2 := ?nT2) (nT3 := ?nT3) (g4T := ?g4T) (m2T := ?m2T) (aX := ?aX) (lX := ?lX) (cX := ?cX) (kX := ?kX) (nfX := ?nfX) (aQ := ?aQ) (lQ := ?lQ) (cQ := ?cQ) (kQ := ?kQ) (nfQ := ?nfQ) (aA := ?aA) (lA := ?lA) (cA := ?cA) (kA := ?kA) (nfA := ?nfA) (aV := ?aV) (lV := ?lV) (cV := ?cV) (kV := ?kV) (nfV := ?nfV) (aR := ?aR) (lR := ?lR) (cR := ?cR) (kR := ?kR) (nfR := ?nfR) (aG := ?aG) (lG := ?lG) (cG := ?cG) (kG := ?kG) (nfG := ?nfG) (aY := ?aY) (lY := ?lY) (cY := ?cY) (kY := ?kY) (nfY := ?nfY) (aE := ?aE) (lE := ?lE) (cE := ?cE) (kE := ?kE) (nfE := ?nfE) (iF := ?iF) (m1F := ?m1F) (g1F := ?g1F) (g2F := ?g2F) (g3F := ?g3F) (iM := ?iM) (m1M := ?m1M) (g1M := ?g1M) (g2M := ?g2M) (g3M := ?g3M) (iS := ?iS) (m1S := ?m1S) (g1S := ?g1S) (g2S := ?g2S) (g3S := ?g3S) (j1 := ?j1) (j2 := ?j2) (j3 := ?j3) (j4 := ?j4) (j5 := ?j5) (j6 := ?j6) (j7 := ?j7) (aC0 := ?aC0) (r1 := ?r1) (r2 := ?r2) (r3 := ?r3) (s1 := ?s1) (s2 := ?s2) (s3 := ?s3) (s4 := ?s4) (o1L := ?o1L) (o2L := ?o2L) (o3L := ?o3L) (o4L := ?o4L) (tL := ?tL) (x1L := ?x1L) (x2L := ?x2L) (x3L := ?x3L) (e1L := ?e1L) (e2L := ?e2L) (p1L := ?p1L) (p2L := ?p2L) (o1W := ?o1W) (o2W := ?o2W) (o3W := ?o3W) (o4W := ?o4W) (tW := ?tW) (x1W := ?x1W) (x2W := ?x2W) (x3W := ?x3W) (e1W := ?e1W) (e2W := ?e2W) (p1W := ?p1W) (p2W := ?p2W) (o1O := ?o1O) (o2O := ?o2O) (o3O := ?o3O) (o4O := ?o4O) (tO := ?tO) (x1O := ?x1O) (x2O := ?x2O) (x3O := ?x3O) (e1O := ?e1O) (e2O := ?e2O) (p1O := ?p1O) (p2O := ?p2O) (o1T := ?o1T) (o2T := ?o2T) (o3T := ?o3T) (o4T := ?o4T) (tT := ?tT) (x1T := ?x1T) (x2T := ?x2T) (x3T := ?x3T) (e1T := ?e1T) (e2T := ?e2T) (p1T := ?p1T) (p2T := ?p2T) (yLL := ?yLL) (yWL := ?yWL) (yWW := ?yWW) (yOL := ?yOL) (yOW := ?yOW) (yOO := ?yOO) (yTL := ?yTL) (yTW := ?yTW) (yTO := ?yTO) (yTT := ?yTT) (v0 := ?v0) (v1 := ?v1) (v2 := ?v2) (v3 := ?v3) (z0 := ?z0) (z1 := ?z1) (z2 := ?z2) (z3 := ?z3) (z4 := ?z4) (z5 := ?z5) (z6 := ?z6) (z7 := ?z7) (z8 := ?z8) (z9 := ?z9) (z10 := ?z10) (z11 := ?z11) (z12 := ?z12) (z13 := ?z13) (z14 := ?z14) (z15 := ?z15) (z16 := ?z16) (z17 := ?z17) (z18 := ?z18) (z19 := ?z19) (z20 := ?z20)
    (case a1 => k_is); (case l1 => k_is); (case c1 => k_is); (case k1 => k_is); (case tb1 => k_is); (case tv1 => rfl); (case hcd1 => kernel_rfl); (case tk1 => kernel_rfl); (case ht1 => exact tabs _ (by k_mem)); (case a2 => k_is); (case l2 => k_is); (case c2 => k_is); (case k2 => k_is); (case a3 => k_is); (case l3 => k_is); (case c3 => k_is); (case k3 => k_is); (case a4 => k_is); (case l4 => k_is); (case c4 => k_is); (case k4 => k_is); (case a5 => k_is); (case l5 => k_is); (case c5 => k_is); (case k5 => k_is); (case a6 => k_is); (case l6 => k_is); (case c6 => k_is); (case k6 => k_is); (case a7 => k_is); (case l7 => k_is); (case c7 => k_is); (case k7 => k_is); (case a8 => k_is); (case l8 => k_is); (case c8 => k_is); (case k8 => k_is); (case a9 => k_is); (case l9 => k_is); (case c9 => k_is); (case k9 => k_is); (case a10 => k_is); (case l10 => k_is); (case c10 => k_is); (case k10 => k_is); (case a11 => k_is); (case l11 => k_is); (case c11 => k_is); (case k11 => k_is); (case a12 => k_is); (case l12 => k_is); (case c12 => k_is); (case k12 => k_is); (case a13 => k_is); (case l13 => k_is); (case c13 => k_is); (case k13 => k_is); (case a14 => k_is); (case l14 => k_is); (case c14 => k_is); (case k14 => k_is); (case a15 => k_is); (case l15 => k_is); (case c15 => k_is); (case k15 => k_is); (case a16 => k_is); (case l16 => k_is); (case c16 => k_is); (case k16 => k_is); (case a17 => k_is); (case l17 => k_is); (case c17 => k_is); (case k17 => k_is); (case a18 => k_is); (case l18 => k_is); (case c18 => k_is); (case k18 => k_is); (case a19 => k_is); (case l19 => k_is); (case c19 => k_is); (case k19 => k_is); (case a20 => k_is); (case l20 => k_is); (case c20 => k_is); (case k20 => k_is); (case a21 => k_is); (case l21 => k_is); (case c21 => k_is); (case k21 => k_is); (case a22 => k_is); (case l22 => k_is); (case c22 => k_is); (case k22 => k_is); (case a23 => k_is); (case l23 => k_is); (case c23 => k_is); (case k23 => k_is); (case a24 => k_is); (case l24 => k_is); (case c24 => k_is); (case k24 => k_is); (case a25 => k_is); (case l25 => k_is); (case c25 => k_is); (case k25 => k_is); (case a26 => k_is); (case l26 => k_is); (case c26 => k_is); (case k26 => k_is); (case a27 => k_is); (case l27 => k_is); (case c27 => k_is); (case k27 => k_is); (case a28 => k_is); (case l28 => k_is); (case c28 => k_is); (case k28 => k_is); (case a29 => k_is); (case l29 => k_is); (case c29 => k_is); (case k29 => k_is); (case a30 => k_is); (case l30 => k_is); (case c30 => k_is); (case k30 => k_is); (case a31 => k_is); (case l31 => k_is); (case c31 => k_is); (case k31 => k_is); (case a32 => k_is); (case l32 => k_is); (case c32 => k_is); (case k32 => k_is); (case d32 => k_is); (case a33 => k_is); (case l33 => k_is); (case c33 => k_is); (case k33 => k_is); (case tb33 => k_is); (case tv33 => rfl); (case hcd33 => kernel_rfl); (case tk33 => kernel_rfl); (case ht33 => exact tabs _ (by k_mem)); (case a34 => k_is); (case l34 => k_is); (case c34 => k_is); (case k34 => k_is); (case ndT => decide); (case aCF => k_is); (case aF => k_is); (case lF => k_is); (case cF => k_is); (case kF => k_is); (case nF1 => k_is); (case nF2 => k_is); (case g4F => k_is); (case m2F => k_is); (case aCM => k_is); (case aM => k_is); (case lM => k_is); (case cM => k_is); (case kM => k_is); (case nM1 => k_is); (case nM2 => k_is); (case nM3 => k_is); (case nM4 => k_is); (case nM5 => k_is); (case nM6 => k_is); (case nM7 => k_is); (case g4M => k_is); (case m2M => k_is); (case aCS => k_is); (case aS => k_is); (case lS => k_is); (case cS => k_is); (case kS => k_is); (case nS1 => k_is); (case nS2 => k_is); (case nS3 => k_is); (case nS4 => k_is); (case g4S => k_is); (case m2S => k_is); (case aCL => k_is); (case aL => k_is); (case lL => k_is); (case cL => k_is); (case kL => k_is); (case nL1 => k_is); (case g4L => k_is); (case m2L => k_is); (case aCW => k_is); (case aW => k_is); (case lW => k_is); (case cW => k_is); (case kW => k_is); (case nW1 => k_is); (case g4W => k_is); (case m2W => k_is); (case aCO => k_is); (case aO => k_is); (case lO => k_is); (case cO => k_is); (case kO => k_is); (case nO1 => k_is); (case g4O => k_is); (case m2O => k_is); (case aCT => k_is); (case aT => k_is); (case lT => k_is); (case cT => k_is); (case kT => k_is); (case nT1 => k_is); (case nT2 => k_is); (case nT3 => k_is); (case g4T => k_is); (case m2T => k_is); (case aX => k_is); (case lX => k_is); (case cX => k_is); (case kX => k_is); (case nfX => k_is); (case aQ => k_is); (case lQ => k_is); (case cQ => k_is); (case kQ => k_is); (case nfQ => k_is); (case aA => k_is); (case lA => k_is); (case cA => k_is); (case kA => k_is); (case nfA => k_is); (case aV => k_is); (case lV => k_is); (case cV => k_is); (case kV => k_is); (case nfV => k_is); (case aR => k_is); (case lR => k_is); (case cR => k_is); (case kR => k_is); (case nfR => k_is); (case aG => k_is); (case lG => k_is); (case cG => k_is); (case kG => k_is); (case nfG => k_is); (case aY => k_is); (case lY => k_is); (case cY => k_is); (case kY => k_is); (case nfY => k_is); (case aE => k_is); (case lE => k_is); (case cE => k_is); (case kE => k_is); (case nfE => k_is); (case iF => k_is); (case m1F => k_is); (case g1F => k_is); (case g2F => k_is); (case g3F => k_is); (case iM => k_is); (case m1M => k_is); (case g1M => k_is); (case g2M => k_is); (case g3M => k_is); (case iS => k_is); (case m1S => k_is); (case g1S => k_is); (case g2S => k_is); (case g3S => k_is); (case j1 => k_is); (case j2 => k_is); (case j3 => k_is); (case j4 => k_is); (case j5 => k_is); (case j6 => k_is); (case j7 => k_is); (case aC0 => k_is); (case r1 => k_is); (case r2 => k_is); (case r3 => k_is); (case s1 => k_is); (case s2 => k_is); (case s3 => k_is); (case s4 => k_is); (case o1L => k_is); (case o2L => rfl); (case o3L => k_is); (case o4L => k_is); (case tL => k_is); (case x1L => k_is); (case x2L => k_is); (case x3L => k_is); (case e1L => k_is); (case e2L => k_is); (case p1L => k_is); (case p2L => k_is); (case o1W => k_is); (case o2W => rfl); (case o3W => k_is); (case o4W => k_is); (case tW => k_is); (case x1W => k_is); (case x2W => k_is); (case x3W => k_is); (case e1W => k_is); (case e2W => k_is); (case p1W => k_is); (case p2W => k_is); (case o1O => k_is); (case o2O => rfl); (case o3O => k_is); (case o4O => k_is); (case tO => k_is); (case x1O => k_is); (case x2O => k_is); (case x3O => k_is); (case e1O => k_is); (case e2O => k_is); (case p1O => k_is); (case p2O => k_is); (case o1T => k_is); (case o2T => rfl); (case o3T => k_is); (case o4T => k_is); (case tT => k_is); (case x1T => k_is); (case x2T => k_is); (case x3T => k_is); (case e1T => k_is); (case e2T => k_is); (case p1T => k_is); (case p2T => k_is); (case yLL => k_is); (case yWL => k_is); (case yWW => k_is); (case yOL => k_is); (case yOW => k_is); (case yOO => k_is); (case yTL => k_is); (case yTW => k_is); (case yTO => k_is); (case yTT => k_is); (case v0 => k_is); (case v1 => k_is); (case v2 => k_is); (case v3 => k_is); (case z0 => k_is); (case z1 => k_is); (case z2 => k_is); (case z3 => k_is); (case z4 => k_is); (case z5 => k_is); (case z6 => k_is); (case z7 => k_is); (case z8 => k_is); (case z9 => k_is); (case z10 => k_is); (case z11 => k_is); (case z12 => k_is); (case z13 => k_is); (case z14 => k_is); (case z15 => k_is); (case z16 => k_is); (case z17 => k_is); (case z18 => k_is); (case z19 => k_is); (case z20 => k_is)


import PyProof.Rows.All
import Wide.All
import OpenK.AllK
import Wide.FinOn
import HandS.ForMost
import HandS.Evl
import KE.GoesZip
import PyProof.EnumMake
import HandS.Strs
import KE.GoesMore
import HandS.IsInst
import HandS.NoneIn
import HandS.Walk
import HandS.Conv
import HandS.TupAny
import HandS.DictComp
import HandS.Small
import HandS.More
import PyProof.EqAt
import PyProof.EqKinds
import PyProof.FactsAll.dict_1
import PyProof.FactsAll.str
import PyProof.FactsAll.subtypes_3
import HandS.Base
import HandS.Call
import HandS.List
import HandS.Dict
import PyProof.ReprReads
import PyProof.ReprRoads
import PyProof.ReprDict
import HandS.Exc
import HandS.ExcInit
import HandS.ExcField
import HandS.ExcIs
import HandS.TryOnly
import HandS.TryMany
import HandS.WordsExc
import HandS.ClsMeth
import HandS.MakeKwOnly
import HandS.MakeKw
import HandS.Iter
import HandS.Comp
import PyProof.NeKinds
import HandS.Lambda
import HandS.EndBits
import HandS.ExcOwn
import HandS.Finally
import HandS.EndTab
import PySem.Challenge.RW_wordskips_k14_weaves_read
set_option Elab.async false
set_option linter.all false
set_option maxRecDepth 100000
set_option maxHeartbeats 4000000
namespace ZS
open PySem PySem.Spec PyProof.Rows L2

/-- two texts side by side: a new pair of signs at each turn -/
def ItzS (x y : Str) : It :=
  ⟨fun i _ => i < x.cps.size ∧ i < y.cps.size,
   fun i H v H' => ∃ T c d, v = .ref T ∧ H T = none ∧ H' = upd H T (.tup [.str ⟨#[c]⟩, .str ⟨#[d]⟩]) ∧ x.cps[i]? = some c ∧ y.cps[i]? = some d,
   fun i _ => i = min x.cps.size y.cps.size⟩
theorem drawsS {prog : Program} {w : World} {A : Around} (hh : A.handled = none) (it : Addr) (x : Str) (t : Tok) :
    Draws prog w A it [it] x.cps.size (fun i v => ∃ c u, x.cps[i]? = some c ∧ v = .str ⟨#[c]⟩ u) (fun i h => h.IsStrIter it (strIterType x) x t i) := by
  unfold strIterType
  cases x.cps.all (· < 128)
  · exact Draws.strWide hh it x t
  · exact Draws.strAscii hh it x t
def StZ (x y : Str) (t u : Tok) (z TI TO i1 i2 : Addr) (i : Nat) (h : Heap) : Prop :=
  IsZip h z TI TO .none ∧ IsTupOf2 h TI (.ref i1) (.ref i2) ∧ (∃ a1 a2, IsTupOf2 h TO a1 a2) ∧ h.IsStrIter i1 (strIterType x) x t i ∧ h.IsStrIter i2 (strIterType y) y u i
theorem walkS {prog : Program} {w : World} {A : Around} (hh : A.handled = none) {z TI TO i1 i2 : Addr} (S : ZipSep2 z TI TO i1 i2 [i1] [i2]) (x y : Str) (t u : Tok) :
    WalksT prog w A z (z :: TI :: TO :: ([i1] ++ [i2])) [z, TO, i1, i2] (min x.cps.size y.cps.size)
      (fun i vals => ∃ v1 v2, (∃ c u, x.cps[i]? = some c ∧ v1 = .str ⟨#[c]⟩ u) ∧ (∃ c u, y.cps[i]? = some c ∧ v2 = .str ⟨#[c]⟩ u) ∧ vals = #[v1, v2])
      (StZ x y t u z TI TO i1 i2)
      (fun i T h => IsZip h z TI TO (rawInt T) ∧ IsTupOf2 h TI (.ref i1) (.ref i2) ∧ (∃ a1 a2, IsTupOf2 h TO a1 a2) ∧ h.IsStrIter i1 (strIterType x) x t (i + 1) ∧ h.IsStrIter i2 (strIterType y) y u (i + 1) ∧ T ≠ z ∧ T ≠ TO ∧ T ≠ i1 ∧ T ≠ i2) :=
  WalksT.zipD2 S (drawsS (A := A.in1) hh i1 x t) (drawsS (A := A.in1) hh i2 y u)
theorem fp5 {z TI TO i1 i2 c : Addr} (h : c ∈ [z, TI, TO, i1, i2]) : c = z ∨ c = TI ∨ c = TO ∨ c = i1 ∨ c = i2 := by simpa using h
theorem turn_zipS {P : Program} {w : World} {K : PySem.W.Frag} {elts : List Expr} {kk : Nat} {tpos : Pos} {z TI TO i1 i2 : Addr} (S : ZipSep2 z TI TO i1 i2 [i1] [i2]) (x y : Str) (t u : Tok) :
    Turn P w K (.Tuple elts kk tpos) (ItzS x y) [z, TI, TO, i1, i2] z (StZ x y t u z TI TO i1 i2) where
  mem := List.mem_cons_self
  obj := fun i h st c hc => by
    obtain ⟨q1, q2, ⟨a1, a2, q3⟩, ⟨o1, e1, _, d1⟩, ⟨o2, e2, _, d2⟩⟩ := st
    rcases fp5 hc with q | q | q | q | q
    all_goals subst q
    · exact ⟨_, q1, fun v q => nomatch q⟩
    · exact ⟨_, q2, fun v q => nomatch q⟩
    · exact ⟨_, q3, fun v q => nomatch q⟩
    · exact ⟨o1, e1, fun v q => by rw [d1] at q; cases q⟩
    · exact ⟨o2, e2, fun v q => by rw [d2] at q; cases q⟩
  keep := fun i h h' st k => by
    obtain ⟨q1, q2, ⟨a1, a2, q3⟩, ⟨o1, e1, r1⟩, ⟨o2, e2, r2⟩⟩ := st
    exact ⟨k z (by simp) _ q1, k TI (by simp) _ q2, ⟨a1, a2, k TO (by simp) _ q3⟩, ⟨o1, k i1 (by simp) _ e1, r1⟩, ⟨o2, k i2 (by simp) _ e2, r2⟩⟩
  item := by
    intro X hP hw hK hc i pins s σ H E I hf st hg
    subst hP hw hK
    have W := walkS (prog := X.prog) (w := X.w) (A := X.A) (I.ok.hd hc) S x y t u
    have hlt : i < min x.cps.size y.cps.size := by
      have h1 := hg.1
      have h2 := hg.2
      omega
    refine W.item i s _ _ hlt st fun T vals h' tk hv hT hIs hm hk => ?_
    refine ⟨.ref T, rfl, ?_⟩
    refine W.go elts kk tpos i T { s with heap := h', toks := tk } _ _ hm fun h2 st2 hk2 => ?_
    obtain ⟨v1, v2, ⟨c, u1, hc1, rfl⟩, ⟨d, u2, hd1, rfl⟩, rfl⟩ := hv
    have ap : T ∉ [z, TO, i1, i2] := W.apart i T h' hm
    have up : ∀ b o, b ∉ [z, TO, i1, i2] → s.heap.get? b = some o → h2.get? b = some o := fun b o hb e => hk2 b o hb (hk b o hb e)
    have hT2 : h2.IsTuple T #[.str ⟨#[c]⟩ u1, .str ⟨#[d]⟩ u2] := hIs.at fun o e => hk2 T o ap e
    obtain ⟨oT, eT, cT, nT, dT⟩ := hT2
    have new : ObjOk X.prog X.w (upd H T (.tup [.str ⟨#[c]⟩, .str ⟨#[d]⟩])) h2 T (.tup [.str ⟨#[c]⟩, .str ⟨#[d]⟩]) :=
      ⟨by show 2 ≤ sizeLine; decide, [.str ⟨#[c]⟩ u1, .str ⟨#[d]⟩ u2], .cons ⟨u1, rfl⟩ (.cons ⟨u2, rfl⟩ .nil), ⟨oT, eT, cT, nT, dT⟩⟩
    have sub : ∀ b, b ∉ [z, TI, TO, i1, i2] → b ∉ [z, TO, i1, i2] := fun b hb hb2 => hb (by
      have q : b = z ∨ b = TO ∨ b = i1 ∨ b = i2 := by simpa using hb2
      rcases q with q | q | q | q <;> simp [q])
    have I1 := I.turnedNew (t' := tk) (ch := [z, TI, TO, i1, i2]) (fun b o hb e => up b o (sub b hb) e) hf hT new
    refine ⟨.ref T, _, I1, rfl, ⟨T, c, d, rfl, I.hok.fresh hT, rfl, hc1, hd1⟩, st2, fun b hb => ?_⟩
    have hlb : b < s.heap.objs.size := by
      obtain ⟨q1, q2, ⟨a1, a2, q3⟩, ⟨o1, e1, r1⟩, ⟨o2, e2, r2⟩⟩ := st
      rcases fp5 hb with q | q | q | q | q
      · rw [q]; exact Heap.lt_size q1
      · rw [q]; exact Heap.lt_size q2
      · rw [q]; exact Heap.lt_size q3
      · rw [q]; exact Heap.lt_size e1
      · rw [q]; exact Heap.lt_size e2
    rw [upd_ne (show b ≠ T from fun e => absurd hT (by rw [← e]; exact Nat.not_le.mpr hlb))]
    exact (hf b hb).1
  done := by
    intro X hP hw hK hc i pins s σ H E I hf st hg
    subst hP hw hK
    have W := walkS (prog := X.prog) (w := X.w) (A := X.A) (I.ok.hd hc) S x y t u
    have hg : i = min x.cps.size y.cps.size := hg
    subst hg
    refine W.done s _ _ st fun h' tk hk => ⟨rfl, ?_⟩
    refine I.turnedL (t' := tk) (ch := [z, TI, TO, i1, i2]) (fun b o hb e => hk b o (fun hb2 => hb ?_) e) hf
    have q : b = z ∨ b = TO ∨ b = i1 ∨ b = i2 := by simpa using hb2
    rcases q with q | q | q | q <;> simp [q]
  self := fun A i s Q E st h => wpAny_pyIter_zip st.1 h

abbrev g1 (h : Heap) (x : Str) (t : Tok) : Heap := h.push { cls := .type (strIterType x), data := .fields #[.str x t, .int 0 0] }
abbrev g3 (h : Heap) (x y : Str) (t u : Tok) : Heap := (g1 (g1 h x t) y u).push { cls := .type "tuple", data := .seq #[.ref h.objs.size, .ref (g1 h x t).objs.size] }
abbrev g4 (h : Heap) (x y : Str) (t u : Tok) : Heap := (g3 h x y t u).push { cls := .type "tuple", data := .seq #[.none, .none] }
abbrev g5 (h : Heap) (x y : Str) (t u : Tok) : Heap := (g4 h x y t u).push { cls := .type "zip", data := .fields #[.none, .bool false, .bool false, .ref (g1 (g1 h x t) y u).objs.size, .ref (g3 h x y t u).objs.size] }
theorem meets_zipS (x y : Str) (t u : Tok) :
    Meets (Builtin.«zip.__new__» ⟨[.type "zip", .str x t, .str y u], []⟩) (fun _ R s => R (.ok (.ret (.ref (g4 s.heap x y t u).objs.size))) { s with heap := g5 s.heap x y t u }) :=
  .of_wp fun prog w A R s h => by
    obtain ⟨hp, gg, d, tk, os⟩ := s
    have hsub := sub_zip
    wp_walk using wpAny_pyIter_strU
    exact ⟨_, rfl, h⟩
theorem call_zipS {prog : Program} {w : World} {A : Around} {E : Value → Shared → Prop} {s : Shared} {x y : Str} {t u : Tok} {Q : Value → Shared → Prop}
    (h : ∀ h', StZ x y t u (s.heap.objs.size + 4) (s.heap.objs.size + 2) (s.heap.objs.size + 3) s.heap.objs.size (s.heap.objs.size + 1) 0 h' → (∀ c o, s.heap.get? c = some o → h'.get? c = some o) → Q (.ref (s.heap.objs.size + 4)) { s with heap := h' }) :
    wpAny (model prog w) A (call (.type "zip") [.str x t, .str y u]) Q E s := by
  refine callType_new F.called_zip (by decide) (F.typeCall_zip_2 _ _) (F.newCall_zip_2 _ _) (fun obj => F.args_object_init_3 obj _ _) F.entry_zip_new (meets_zipS x y t u) ?_
  have n1 : (g1 s.heap x t).objs.size = s.heap.objs.size + 1 := Heap.size_push ..
  have n2 : (g1 (g1 s.heap x t) y u).objs.size = s.heap.objs.size + 2 := by rw [Heap.size_push, n1]
  have n3 : (g3 s.heap x y t u).objs.size = s.heap.objs.size + 3 := by rw [Heap.size_push, n2]
  have n4 : (g4 s.heap x y t u).objs.size = s.heap.objs.size + 4 := by rw [Heap.size_push, n3]
  have k5 : (g5 s.heap x y t u).get? (g4 s.heap x y t u).objs.size = some _ := Heap.get?_push_size _ rfl
  have k4 : (g5 s.heap x y t u).get? (g3 s.heap x y t u).objs.size = some _ := Heap.get?_push_of_some _ (Heap.get?_push_size _ rfl)
  have k3 : (g5 s.heap x y t u).get? (g1 (g1 s.heap x t) y u).objs.size = some _ := Heap.get?_push_of_some _ (Heap.get?_push_of_some _ (Heap.get?_push_size _ rfl))
  have k2 : (g5 s.heap x y t u).get? (g1 s.heap x t).objs.size = some _ := Heap.get?_push_of_some _ (Heap.get?_push_of_some _ (Heap.get?_push_of_some _ (Heap.get?_push_size _ rfl)))
  have k1 : (g5 s.heap x y t u).get? s.heap.objs.size = some _ := Heap.get?_push_of_some _ (Heap.get?_push_of_some _ (Heap.get?_push_of_some _ (Heap.get?_push_of_some _ (Heap.get?_push_size _ rfl))))
  show _ ∧ _
  rw [n2, n3, n4] at k5
  rw [n1, n2] at k3
  rw [n3] at k4
  rw [n1] at k2
  rw [n4]
  exact ⟨⟨_, k5, rfl⟩, h _ ⟨k5, k3, ⟨_, _, k4⟩, ⟨_, k1, rfl, rfl⟩, ⟨_, k2, rfl, rfl⟩⟩ fun c o e =>
    Heap.get?_push_of_some _ (Heap.get?_push_of_some _ (Heap.get?_push_of_some _ (Heap.get?_push_of_some _ (Heap.get?_push_of_some _ e))))⟩
theorem sepS (n : Nat) : ZipSep2 (n + 4) (n + 2) (n + 3) n (n + 1) [n] [n + 1] := by
  constructor <;> first | omega | (simp <;> omega) | simp
def iZipS (ta : TA) : TI := fun σ H R => ta σ H fun vs H1 => ∃ x y, vs = [.str x, .str y] ∧ R (ItzS x y) H1
theorem pi_zipS {X : Cx} {e e2 : Expr} {ta : TA} {p pos tpos : Pos} {elts : List Expr} {kk : Nat} (hg : Gl X "zip") (hm : X.mg "zip" = none) (ha : PA X [e, e2] ta)
    (hs : starEach [e, e2] X.env = (false, eval e X.env) :: starEach [e2] X.env := by rfl) (hpl : (backTo pos (starEach [e2] X.env)).any (·.1) = false := by rfl) :
    PI X (.Tuple elts kk tpos) (.Call (.Name "zip" p) [e, e2] [] pos) (iZipS ta) := by
  refine ⟨fun pins s σ H R I h => ?_⟩
  refine Call_ (ld_blt I hg hm boot_zip (callWith_type1 (thn (ha.run pos pins s σ H _ I h) fun us s1 ⟨vs, H1, I1, r1, q1⟩ => ?_) hs hpl))
  obtain ⟨x, y, ex, q⟩ := q1
  subst ex
  cases r1 with
  | cons r rr =>
    cases rr with
    | cons r' rr =>
      cases rr
      obtain ⟨t, rfl⟩ := r
      obtain ⟨u, rfl⟩ := r'
      refine call_zipS fun h' st hk => wpAny_pyIter_zip st.1 ?_
      have I2 : Inv X pins σ H1 { s1 with heap := h' } := I1.kept (t' := s1.toks) hk
      refine ⟨s1.heap.objs.size + 4, _, _, _, H1, rfl, I2, turn_zipS (sepS _) x y t u, st, fun c hcm => ?_, q⟩
      have hle : s1.heap.objs.size ≤ c := by
        rcases fp5 hcm with z | z | z | z | z <;> rw [z] <;> first | exact Nat.le_add_right _ _ | exact Nat.le_refl _
      exact I1.fpOk hle (I1.hok.fresh hle)
/-- a comprehension over it -/
theorem lc_zipS {x y : Str} {g : TG} {tt : TT} {te : TE} {vs : List Nat} {σ : L2.St} {H1 : Hp} {D : Addr} {Qd : Hp → Prop} (Pv : Nat → Hp → Prop) (h0 : Pv 0 (upd H1 D (.lst [])))
    (hs : ∀ i c d T H, x.cps[i]? = some c → y.cps[i]? = some d → Pv i H → H T = none → g (.ref T) (wipe σ vs) (upd H T (.tup [.str ⟨#[c]⟩, .str ⟨#[d]⟩])) fun σ2 H2 => wipe σ2 vs = wipe σ vs ∧ tt σ2 H2 fun b H3 =>
      if b = true then te σ2 H3 fun z H4 => ∃ acc, H4 D = some (.lst acc) ∧ acc.length < sizeLine ∧ Pv (i + 1) (upd H4 D (.lst (acc ++ [z]))) else Pv (i + 1) H3) (hd : ∀ H, Pv (min x.cps.size y.cps.size) H → Qd H) :
    ∃ W : Nat → Nat → Hp → Prop, (∃ m, W 0 m (upd H1 D (.lst []))) ∧ ∀ i m H, W i m H →
      ((ItzS x y).stop i H ∧ Qd H) ∨ ((ItzS x y).go i H ∧ ∃ Nx : Hp → Prop, (∀ H', Nx H' → ∃ m', m' < m ∧ W (i + 1) m' H') ∧ ∀ v H', (ItzS x y).yld i H v H' → g v (wipe σ vs) H' fun σ2 H2 => wipe σ2 vs = wipe σ vs ∧ tt σ2 H2 fun b H3 =>
        if b = true then te σ2 H3 fun z H4 => ∃ acc, H4 D = some (.lst acc) ∧ acc.length < sizeLine ∧ Nx (upd H4 D (.lst (acc ++ [z]))) else Nx H3) := by
  refine ⟨fun i m H => i + m = min x.cps.size y.cps.size ∧ Pv i H, ⟨_, Nat.zero_add _, h0⟩, ?_⟩
  rintro i m H ⟨e, p⟩
  by_cases hm : m = 0
  · have e2 : i = min x.cps.size y.cps.size := by omega
    refine .inl ⟨e2, hd H ?_⟩
    rw [← e2]
    exact p
  · refine .inr ⟨⟨by omega, by omega⟩, Pv (i + 1), fun H' p' => ⟨m - 1, by omega, by omega, p'⟩, ?_⟩
    rintro v H' ⟨T, c, d, rfl, hT, rfl, hc, hd'⟩
    exact hs i c d T H hc hd' p hT
theorem op_mulS {X : Cx} : OpR X (binaryOp .Mult) (fun x y H Q => ∃ z n, x = .str z ∧ y = .int n ∧ MulOk z n ∧ Q (.str (Txt.mul z n)) H) := by
  intro pins s σ H x y v u Q I rx ry h
  obtain ⟨z, n, rfl, rfl, hz, q⟩ := h
  obtain ⟨t, rfl⟩ := rx
  obtain ⟨t', rfl⟩ := ry
  exact SB.mul hz (fun t' tk => ⟨.str (Txt.mul z n), H, I.tok _, ⟨_, rfl⟩, q⟩)
end ZS

namespace ST
open PySem PySem.Spec PyProof.Rows L2
/-- how many different ones the first i of a list are -/
def dct (xs : List Str) : Nat → Nat
  | 0 => 0
  | i + 1 => if (xs.take i).any (· == xs.getD i Str.empty) = true then dct xs i else dct xs i + 1
theorem dct_le (xs : List Str) : ∀ i, dct xs i ≤ i
  | 0 => Nat.le_refl _
  | i + 1 => by
    have := dct_le xs i
    unfold dct
    split <;> omega
theorem any_next {xs : List Str} {i : Nat} (hi : i < xs.length) (k : Str) : (xs.take (i + 1)).any (· == k) = ((xs.take i).any (· == k) || decide (k = xs.getD i Str.empty)) := by
  rw [List.take_add_one, List.any_append, List.getElem?_eq_getElem hi, List.getD_eq_getElem?_getD, List.getElem?_eq_getElem hi]
  refine congrArg (fun b => (xs.take i).any (· == k) || b) ?_
  show (xs[i] == k || false) = decide (k = xs[i])
  rw [Bool.or_false]
  by_cases e : k = xs[i]
  · rw [decide_eq_true e, ← e]
    simp
  · rw [decide_eq_false e]
    simpa using fun q : xs[i] = k => e q.symm
section
variable {prog : Program} {w : World} {A : Around} {R : Result → Shared → Prop} {It : Addr} {fp wr : List Addr} {Gn : Array GenState → Array GenState → Prop} {n : Nat} {P : Nat → Value → Prop} {St : Nat → Shared → Prop}
theorem fill (W : WalksS prog w A.in1 It fp wr Gn n P St) (a : Addr) (haf : a ∉ fp) (xs : List Str) (hx : xs.length = n) (hn : n + 1 < scanBound) (hv : ∀ i v, P i v → ∃ t, v = .str (xs.getD i Str.empty) t) :
    ∀ (k i : Nat) (s : Shared), n - i = k → i ≤ n → St i s → s.heap.SetOf (PySem.strKind prog w) a (fun z => (xs.take i).any (· == z)) (dct xs i) →
      (∀ s', Moved (a :: wr) Gn s s' → s'.heap.SetOf (PySem.strKind prog w) a (fun z => (xs.take n).any (· == z)) (dct xs n) → R (.ok (.ret .none)) s') →
      codeAny (model prog w) A (.builtin "set.update.loop" ⟨[.ref a, .ref It], []⟩) R s := by
  have haw : a ∉ wr := fun q => haf (W.sub _ q)
  have up : ∀ b ∈ wr, b ∈ a :: wr := fun b q => List.mem_cons_of_mem _ q
  intro k
  induction k with
  | zero =>
    intro i s hk hi hst hset hR
    obtain rfl : i = n := by omega
    refine codeAny_builtin F.entry_set_update_loop ?_
    rw [Around.under_plainId F.plain_set_update_loop _]
    refine wpAny_bind (W.done s _ _ hst fun s' mv => wpAny_pure (hR s' (mv.mono up) ?_))
    obtain ⟨o, es, ep, tb, ho, rest⟩ := hset
    exact ⟨o, es, ep, tb, mv.heap a _ haw ho, rest⟩
  | succ k ih =>
    intro i s hk hi hst hset hR
    have hlt : i < n := by omega
    refine codeAny_builtin F.entry_set_update_loop ?_
    rw [Around.under_plainId F.plain_set_update_loop _]
    refine wpAny_bind (W.item i s _ _ hlt hst fun v s1 hp st1 mv => ?_)
    obtain ⟨t, rfl⟩ := hv i v hp
    have set1 : s1.heap.SetOf (PySem.strKind prog w) a (fun z => (xs.take i).any (· == z)) (dct xs i) := by
      obtain ⟨o, es, ep, tb, ho, rest⟩ := hset
      exact ⟨o, es, ep, tb, mv.heap a _ haw ho, rest⟩
    refine wpAny_bind (wpAny_holding ?_)
    unfold setAdd
    refine wpAny_holding (wpAny_bind ((PySem.strKind prog w).pyHash (k := xs.getD i Str.empty) (strKind_is _ _ _ _) ?_))
    have room : dct xs i + 1 < scanBound := by
      have := dct_le xs i
      omega
    refine wpAny_setAddHashed_of (knd := PySem.strKind prog w) (s := { s1 with toks := s1.toks + 1 }) (strKind_is _ _ _ _) rfl set1 room fun h2 sb set2 => ?_
    have set3 : h2.SetOf (PySem.strKind prog w) a (fun z => (xs.take (i + 1)).any (· == z)) (dct xs (i + 1)) :=
      SetOf_congr set2 (fun z => (any_next (by omega) z).symm) (by
        show dct xs (i + 1) = _
        unfold dct
        rfl)
    refine wpAny_pure ⟨plainId_quiet F.plain_set_update_loop _, ih (i + 1) _ (by omega) hlt (W.frame _ s1 _ _ st1 (Nat.le_succ _) fun b hb o e => ?_) set3 fun s2 mv2 hS2 => ?_⟩
    · rw [sb.2 b (fun q : b = a => haf (by rw [← q]; exact hb))]
      exact e
    · refine hR s2 (Moved.trans W.gtrans ((mv.mono up).then_heap (Nat.le_succ _) fun b o hb e => ?_) mv2) hS2
      rw [sb.2 b (fun q : b = a => hb (by rw [q]; exact List.mem_cons_self))]
      exact e
end
theorem walkStr {prog : Program} {w : World} {A : Around} (hh : A.handled = none) (it : Addr) (x : Str) (t : Tok) :
    Walks prog w A it [it] [it] x.cps.size (SignAt x) (fun i h => h.IsStrIter it (strIterType x) x t i) := by
  unfold strIterType
  cases x.cps.all (· < 128)
  · exact Walks.strWide hh it x t
  · exact Walks.strAscii hh it x t
def signsOf (x : Str) : List Str := x.cps.toList.map fun c => ⟨#[c]⟩
theorem signsOf_len (x : Str) : (signsOf x).length = x.cps.size := by simp [signsOf]
section
variable {prog : Program} {w : World} {A : Around} {E : Value → Shared → Prop} {s : Shared}
theorem call_set_text {x : Str} {t : Tok} {Q : Value → Shared → Prop} (hh : A.handled = none) (hn : x.cps.size + 1 < scanBound)
    (h : ∀ (h' : Heap) (tk : Nat), h'.SetOf (PySem.strKind prog w) s.heap.objs.size (fun z => ((signsOf x).take x.cps.size).any (· == z)) (dct (signsOf x) x.cps.size) →
      (∀ b o, b < s.heap.objs.size → s.heap.get? b = some o → h'.get? b = some o) → Q (.ref s.heap.objs.size) { s with heap := h', toks := tk }) :
    wpAny (model prog w) A (call (.type "set") [.str x t]) Q E s := by
  obtain ⟨c, tl, hmro⟩ := PySem.F.called_set.mro
  have hmade := PySem.F.called_set.made
  have hsub := PySem.F.called_set.sub
  refine wpAny_call (codeAny_of_tree ?_)
  show wpAny _ _ (callAny (.type "set") _) _ _ _
  refine wpAny_pure ⟨Code.quiet_builtin _ (by decide +kernel), codeAny_builtin PySem.F.entry_type_call ?_⟩
  rw [Around.under_plain (weight_type_call_type "set" [.str x t] []) rfl]
  have x1 := PySem.F.called_set.notType
  have x2 := PySem.F.called_set.canCreate
  have x3 := PySem.F.typeCall_set_1 (.str x t)
  repeat (any_goals (first | assumption | wp_step))
  refine codeAny_mono (code_set_new_1 (.str x t) (E := E) (Q₁ := fun obj s₁ => ∃ led : Bool, obj = .ref s.heap.objs.size ∧ s₁ = { s with heap := s.heap.push { cls := .type "set", dict := none, data := .set #[] 0 (.fresh 0 0 led) } }) fun led => ⟨led, rfl, rfl⟩) fun r s₁ hr => ?_
  cases r with
  | error e => exact hr
  | ok fl =>
    cases fl with
    | ret obj =>
      obtain ⟨led, rfl, rfl⟩ := hr
      obtain ⟨hp, hhp⟩ : ∃ hp, s.heap.push { cls := .type "set", dict := none, data := .set #[] 0 (.fresh 0 0 led) } = hp := ⟨_, rfl⟩
      have y1 : hp.get? s.heap.objs.size = some { cls := .type "set", dict := none, data := .set #[] 0 (.fresh 0 0 led) } := by
        rw [← hhp]
        exact Heap.get?_push_size _ rfl
      have y2 : hp.objs.size = s.heap.objs.size + 1 := by
        rw [← hhp]
        exact Heap.size_push ..
      have y3 : ∀ b o, s.heap.get? b = some o → hp.get? b = some o := fun b o e => by
        rw [← hhp]
        exact Heap.get?_push_of_some _ e
      rw [hhp]
      have hT : Shared.TypeIs { s with heap := hp } (.ref s.heap.objs.size) "set" := ⟨_, y1, rfl⟩
      have y4 := PySem.F.called_set.init.lookup
      have y5 := PySem.F.called_set.init.bind (.ref s.heap.objs.size)
      repeat (any_goals (first | assumption | wp_step))
      refine codeAny_mono (codeAny_call_builtin (R := wants (fun r s₂ => r = .none ∧ ∃ h' tk, s₂ = { s with heap := h', toks := tk } ∧
          h'.SetOf (PySem.strKind prog w) s.heap.objs.size (fun z => ((signsOf x).take x.cps.size).any (· == z)) (dct (signsOf x) x.cps.size) ∧
          (∀ b o, b < s.heap.objs.size → s.heap.get? b = some o → h'.get? b = some o)) E) PySem.F.called_set.init.plain PySem.F.entry_set_init (check_set_init_1 hT ?_)) fun r₂ s₂ hr₂ => ?_
      · have sb1 := PySem.F.sub_str_set
        have sb2 := PySem.F.sub_str_frozenset
        have sb3 : (Value.type "str" == Value.type "dict") = false := by decide
        unfold Builtin.«set.__init__» noKeywords Builtin.Frozenset.updateFrom
        generalize hPI : pyIter = PI
        wp_walk
        subst hPI
        refine wpAny_pyIter_strU ?_
        refine wpAny_bind (wpAny_runValue ?_)
        have hh3 : A.in1.in1.in1.handled = none := by simp [hh]
        have z1 : s.heap.objs.size ∉ [hp.objs.size] := by
          rw [y2]
          simp
        refine fill ((walkStr hh3 _ x t).toS) s.heap.objs.size z1 (signsOf x) (signsOf_len x) hn ?_ (x.cps.size - 0) 0 _ (by omega) (Nat.zero_le _)
          ⟨_, Heap.get?_push_size _ rfl, rfl, rfl⟩ ?_ ?_
        · rintro i v ⟨c, u, hc, rfl⟩
          refine ⟨u, ?_⟩
          unfold signsOf
          rw [List.getD_eq_getElem?_getD, List.getElem?_map, Array.getElem?_toList, hc]
          rfl
        · have z2 : (hp.push { cls := .type (strIterType x), data := .fields #[.str x t, .int 0 0] }).get? s.heap.objs.size = some { cls := .type "set", dict := none, data := .set #[] 0 (.fresh 0 0 led) } := Heap.get?_push_of_some _ y1
          exact SetOf_congr ((setObjOf_fresh (knd := PySem.strKind prog w) led).setOf z2 (by unfold scanBound; omega)) (fun _ => rfl) rfl
        · intro s' mv hS'
          obtain ⟨h', g', d', tk', os'⟩ := s'
          obtain rfl : g' = s.gens := mv.gens
          obtain rfl : d' = s.drawn := mv.drawn
          obtain rfl : os' = s.os := mv.os
          refine wpAny_pure ?_
          show wpAny _ _ (ret Value.none) _ _ _
          refine wpAny_pure ⟨rfl, h', tk', rfl, hS', fun b o hb e => ?_⟩
          refine mv.heap b o ?_ (Heap.get?_push_of_some _ (y3 b o e))
          rw [y2]
          simp only [List.mem_cons, List.not_mem_nil, or_false, not_or]
          exact ⟨Nat.ne_of_lt hb, Nat.ne_of_lt (Nat.lt_succ_of_lt hb)⟩
      · cases r₂ with
        | error e => exact hr₂
        | ok fl₂ =>
          cases fl₂ with
          | ret r =>
            obtain ⟨rfl, h', tk, rfl, hS', hk'⟩ := hr₂
            repeat (any_goals (first | assumption | wp_step))
            exact h _ _ hS' hk'
          | _ => exact hr₂.elim
    | _ => exact hr.elim
end
end ST

namespace EN
open PySem PySem.Spec PyProof.Rows L2
/-! ### len(set(text)) -/
def tLenSetS (ta : TE) : TE := fun σ H Q => ta σ H fun x H1 => ∃ z : Str, x = .str z ∧ z.cps.size < 1000 ∧ Q (.int (ST.dct (ST.signsOf z) z.cps.size)) H1
theorem pe_lenSetS {X : Cx} {a : Expr} {ta : TE} {p p2 q pos : Pos} (hc : X.calm = true) (hg : Gl X "len") (hm : X.mg "len" = none) (hg2 : Gl X "set") (hm2 : X.mg "set" = none) (ha : PE X a ta)
    (na : starEach [a] X.env = (false, eval a X.env) :: starEach [] X.env := by rfl) : PE X (.Call (.Name "len" p) [.Call (.Name "set" p2) [a] [] q] [] pos) (tLenSetS ta) := by
  refine ⟨fun pins s σ H Q I h => Call_ (ld_blt I hg hm PySem.boot_len (callWith_builtin1 (args_cons (Call_ (ld_blt I hg2 hm2 boot_set ?_)) rfl) rfl rfl))⟩
  refine callWith_type1 (args_cons (thn (ha.run pins s σ H _ I h) fun v s1 ⟨x, H1, I1, r1, z, ex, hz, q1⟩ => args_nil ?_) na) na rfl
  subst ex
  obtain ⟨t, rfl⟩ := r1
  refine ST.call_set_text (I1.ok.hd hc) (by unfold scanBound; omega) fun h' tk hS hk => args_nil ?_
  obtain ⟨o, es, ep, t, ho, hex, hd, _, _, _, hf, hn⟩ := hS
  have I2 : Inv X pins σ H1 { s1 with heap := h', toks := tk } := I1.kept fun b o e => hk b o (Heap.lt_size e) e
  have hd2 := ST.dct_le (ST.signsOf z) z.cps.size
  exact call_len_set ho hex hd hf (by rw [hn]; omega) ⟨.int _, H1, I2.tok _, ⟨_, by rw [hn]⟩, q1⟩

/-! ### enumerate over a text, over a tuple -/
def ItS (x : Str) : It := ⟨fun i _ => i < x.cps.size,
  fun i H v H' => ∃ T c, v = .ref T ∧ H T = none ∧ H' = upd H T (.tup [.int (i : Nat), .str ⟨#[c]⟩]) ∧ x.cps[i]? = some c, fun i _ => i = x.cps.size⟩
def ItT (K : PySem.W.Frag) (a : Addr) : It := ⟨fun i H => ∃ (xs : List V) (x : V), SqT K H a xs ∧ xs[i]? = some x,
  fun i H v H' => ∃ T x, v = .ref T ∧ H T = none ∧ H' = upd H T (.tup [.int (i : Nat), x]) ∧ ∀ xs, SqT K H a xs → xs[i]? = some x, fun i H => ∃ xs : List V, SqT K H a xs ∧ i = xs.length⟩
theorem two {e it b : Addr} (h : b ∈ [e, it]) : b = e ∨ b = it := by simpa using h
theorem obj_of {h : Heap} {e it : Addr} {i : Int} {old : Value} (he : IsEnum h e it i old) {o : Obj} (ho : h.get? it = some o) {vs : Array Value} (hd : o.data = .fields vs) : ∀ b ∈ [e, it], ∃ o, h.get? b = some o ∧ ∀ v, o.data ≠ .cell v := fun b hb => by
  rcases two hb with z | z
  · rw [z]; exact ⟨_, he, fun v q => nomatch q⟩
  · rw [z]; exact ⟨o, ho, fun v q => by rw [hd] at q; cases q⟩
theorem turn_enumS {P : Program} {w : World} {K : PySem.W.Frag} {elts : List Expr} {kk : Nat} {tpos : Pos} (x : Str) (t : Tok) (e it : Addr) :
    Turn P w K (.Tuple elts kk tpos) (ItS x) [e, it] e (fun i h => (∃ old, IsEnum h e it ((i : Nat) : Int) old) ∧ h.IsStrIter it (strIterType x) x t i ∧ e ≠ it) where
  mem := List.mem_cons_self
  obj := fun i h st b hb => by
    obtain ⟨⟨old, he⟩, ⟨o, ho, _, hd⟩, _⟩ := st
    exact obj_of he ho hd b hb
  keep := fun i h h' st k => by
    obtain ⟨⟨old, he⟩, ⟨o, ho, r⟩, hne⟩ := st
    exact ⟨⟨old, k e (by simp) _ he⟩, ⟨o, k it (by simp) _ ho, r⟩, hne⟩
  item := by
    intro X hP hw hK hc i pins s σ H E I hf st hg
    subst hP hw hK
    obtain ⟨⟨old, he⟩, hit, hne⟩ := st
    have D := ZS.drawsS (prog := X.prog) (w := X.w) (A := X.A.in1) (I.ok.hd hc) it x t
    have l1 : e < s.heap.objs.size := Heap.lt_size he
    have l2 : it < s.heap.objs.size := by obtain ⟨_, q, _⟩ := hit; exact Heap.lt_size q
    refine wpAny_pyNext_enum_itemD D he hit hg hne (by simpa using hne) fun v h' tk hv ho hit' hT hsz hk => ?_
    obtain ⟨c, u, hcx, rfl⟩ := hv
    refine ⟨_, rfl, wpAny_letOwnedTupleGo_enum (s := { s with heap := h', toks := tk + 1 }) ho fun h2 he2 sb => ?_⟩
    have hT2 : h2.get? s.heap.objs.size = some { cls := .type "tuple", data := .seq #[.int i tk, .str ⟨#[c]⟩ u] } := (sb.2 _ (Nat.ne_of_gt l1)).trans hT
    have new : ObjOk X.prog X.w (upd H s.heap.objs.size (.tup [.int (i : Nat), .str ⟨#[c]⟩])) h2 s.heap.objs.size (.tup [.int (i : Nat), .str ⟨#[c]⟩]) :=
      ⟨by show 2 ≤ sizeLine; decide, [.int i tk, .str ⟨#[c]⟩ u], .cons ⟨_, rfl⟩ (.cons ⟨u, rfl⟩ .nil), ⟨_, hT2, rfl, _, rfl⟩⟩
    have I1 := I.turnedNew (t' := tk + 1) (ch := [e, it]) (fun b ob hb q => (sb.2 b (fun z => hb (by simp [z]))).trans (hk b ob (fun z => hb (by simp [z])) (fun z => hb (by simp [z])) q)) hf (Nat.le_refl _) new
    refine ⟨.ref s.heap.objs.size, _, I1, rfl, ⟨_, c, rfl, I.hok.fresh (Nat.le_refl _), rfl, hcx⟩, ⟨⟨.str ⟨#[c]⟩ u, ?_⟩, ?_, hne⟩, fun b hb => ?_⟩
    · rw [show ((i + 1 : Nat) : Int) = (i : Int) + 1 by omega]
      exact he2
    · obtain ⟨o, q, r⟩ := hit'
      exact ⟨o, (sb.2 it (Ne.symm hne)).trans q, r⟩
    · rw [upd_ne (show b ≠ s.heap.objs.size from fun q => by
        rcases two hb with z | z
        · rw [← q, z] at l1; exact Nat.lt_irrefl _ l1
        · rw [← q, z] at l2; exact Nat.lt_irrefl _ l2)]
      exact (hf b hb).1
  done := by
    intro X hP hw hK hc i pins s σ H E I hf st hg
    subst hP hw hK
    obtain ⟨⟨old, he⟩, hit, hne⟩ := st
    have hg : i = x.cps.size := hg
    subst hg
    have D := ZS.drawsS (prog := X.prog) (w := X.w) (A := X.A.in1) (I.ok.hd hc) it x t
    refine wpAny_pyNext_enum_endD D he hit fun h' eb => ⟨rfl, I.turnedL (t' := s.toks) (ch := [e, it]) (fun b o hb q => eb b o (fun z => hb (by simp [z])) q) hf⟩
  self := fun A i s Q E st h => by
    obtain ⟨⟨_, he⟩, _⟩ := st
    exact wpAny_pyIter_enum he h
theorem turn_enumT {P : Program} {w : World} {K : PySem.W.Frag} {elts : List Expr} {kk : Nat} {tpos : Pos} (a e it : Addr) :
    Turn P w K (.Tuple elts kk tpos) (ItT K a) [e, it] e (fun i h => (∃ old, IsEnum h e it ((i : Nat) : Int) old) ∧ h.IsTupleIter it a i ∧ e ≠ it ∧ a ≠ it ∧ a ≠ e) where
  mem := List.mem_cons_self
  obj := fun i h st b hb => by
    obtain ⟨⟨old, he⟩, ⟨o, ho, _, hd⟩, _⟩ := st
    exact obj_of he ho hd b hb
  keep := fun i h h' st k => by
    obtain ⟨⟨old, he⟩, ⟨o, ho, r⟩, hne⟩ := st
    exact ⟨⟨old, k e (by simp) _ he⟩, ⟨o, k it (by simp) _ ho, r⟩, hne⟩
  item := by
    intro X hP hw hK hc i pins s σ H E I hf st hg
    subst hP hw hK
    obtain ⟨⟨old, he⟩, hit, hne, hai, hae⟩ := st
    obtain ⟨xs, x, hq, hx⟩ := hg
    obtain ⟨its, rv, p, hz⟩ := I.tuple hq
    obtain ⟨u, hu, ru⟩ := rv.get hx
    have hlt : i < its.toArray.size := by
      have := (List.getElem?_eq_some_iff.mp hu).1
      simpa using this
    have D := Draws.tuple (prog := X.prog) (w := X.w) (A := X.A.in1) (I.ok.hd hc) it a hai its.toArray
    have l1 : e < s.heap.objs.size := Heap.lt_size he
    have l2 : it < s.heap.objs.size := by obtain ⟨_, q, _⟩ := hit; exact Heap.lt_size q
    have hef : e ∉ [it, a] := by
      intro q
      rcases two q with z | z
      · exact hne z
      · exact hae z.symm
    refine wpAny_pyNext_enum_itemD D he ⟨hit, p⟩ hlt hne hef fun v h' tk hv ho hit' hT hsz hk => ?_
    obtain rfl : v = u := by
      have q : its.toArray[i]? = some v := hv
      rw [List.getElem?_toArray, hu] at q
      exact (Option.some.inj q).symm
    refine ⟨_, rfl, wpAny_letOwnedTupleGo_enum (s := { s with heap := h', toks := tk + 1 }) ho fun h2 he2 sb => ?_⟩
    have hT2 : h2.get? s.heap.objs.size = some { cls := .type "tuple", data := .seq #[.int i tk, v] } := (sb.2 _ (Nat.ne_of_gt l1)).trans hT
    have new : ObjOk X.prog X.w (upd H s.heap.objs.size (.tup [.int (i : Nat), x])) h2 s.heap.objs.size (.tup [.int (i : Nat), x]) :=
      ⟨by show 2 ≤ sizeLine; decide, [.int i tk, v], .cons ⟨_, rfl⟩ (.cons ru .nil), ⟨_, hT2, rfl, _, rfl⟩⟩
    have I1 := I.turnedNew (t' := tk + 1) (ch := [e, it]) (fun b ob hb q => (sb.2 b (fun z => hb (by simp [z]))).trans (hk b ob (fun z => hb (by simp [z])) (fun z => hb (by simp [z])) q)) hf (Nat.le_refl _) new
    refine ⟨.ref s.heap.objs.size, _, I1, rfl, ⟨_, x, rfl, I.hok.fresh (Nat.le_refl _), rfl, fun ys hy => by rw [I.tuple_inj hy hq]; exact hx⟩, ⟨⟨v, ?_⟩, ?_, hne, hai, hae⟩, fun b hb => ?_⟩
    · rw [show ((i + 1 : Nat) : Int) = (i : Int) + 1 by omega]
      exact he2
    · obtain ⟨o, q, r⟩ := hit'.1
      exact ⟨o, (sb.2 it (Ne.symm hne)).trans q, r⟩
    · rw [upd_ne (show b ≠ s.heap.objs.size from fun q => by
        rcases two hb with z | z
        · rw [← q, z] at l1; exact Nat.lt_irrefl _ l1
        · rw [← q, z] at l2; exact Nat.lt_irrefl _ l2)]
      exact (hf b hb).1
  done := by
    intro X hP hw hK hc i pins s σ H E I hf st hg
    subst hP hw hK
    obtain ⟨⟨old, he⟩, hit, hne, hai, hae⟩ := st
    obtain ⟨xs, hq, hx⟩ := hg
    obtain ⟨its, rv, p, hz⟩ := I.tuple hq
    have D := Draws.tuple (prog := X.prog) (w := X.w) (A := X.A.in1) (I.ok.hd hc) it a hai its.toArray
    have hl := rv.length
    have hn : i = its.toArray.size := by
      rw [List.size_toArray]
      omega
    subst hn
    refine wpAny_pyNext_enum_endD D he ⟨hit, p⟩ fun h' eb => ⟨rfl, I.turnedL (t' := s.toks) (ch := [e, it]) (fun b o hb q => eb b o (fun z => hb (by simp [z])) q) hf⟩
  self := fun A i s Q E st h => by
    obtain ⟨⟨_, he⟩, _⟩ := st
    exact wpAny_pyIter_enum he h
theorem meets_enumT (a : Addr) (xs : Array Value) :
    Meets (Builtin.«enumerate.__new__» ⟨[.type "enumerate", .ref a], []⟩) (fun _ R s => s.heap.IsTuple a xs ∧
      R (.ok (.ret (.ref (s.heap.push { cls := .type "tuple_iterator", data := .fields #[.ref a, .int 0 0] }).objs.size)))
        { s with heap := (s.heap.push { cls := .type "tuple_iterator", data := .fields #[.ref a, .int 0 0] }).push { cls := .type "enumerate", data := .fields #[.none, .bool false, .ref s.heap.objs.size, rawInt 0, .none, .none] } }) :=
  .of_wp fun prog w A R s h => by
    obtain ⟨hp, g, d, tk, os⟩ := s
    obtain ⟨hl, h⟩ := h
    have hsub := sub_enumerate
    have hL : Heap.IsTuple (Shared.heap ⟨hp, g, d, tk, os⟩) a xs := hl
    wp_walk
    refine wpAny_stack_any fun st => wpAny_pure ?_
    split
    · rename_i c _ _ _ _ _
      cases (c == Value.type "enumerate")
      all_goals
        wp_walk using wpAny_pyIter_tuple hL
        exact ⟨_, rfl, h⟩
    · wp_walk using wpAny_pyIter_tuple hL
      exact ⟨_, rfl, h⟩
section
variable {X : Cx}
def iEnumS (ta : TA) : TI := fun σ H R => ta σ H fun vs H1 => ∃ x, vs = [.str x] ∧ R (ItS x) H1
theorem pi_enumS {e : Expr} {ta : TA} {p pos tpos : Pos} {elts : List Expr} {kk : Nat} (hg : Gl X "enumerate") (hm : X.mg "enumerate" = none) (ha : PA X [e] ta) (hs : starEach [e] X.env = [(false, eval e X.env)] := by rfl) :
    PI X (.Tuple elts kk tpos) (.Call (.Name "enumerate" p) [e] [] pos) (iEnumS ta) := by
  refine ⟨fun pins s σ H R I h => Call_ (ld_blt I hg hm boot_enumerate (callWith_type1 (thn (ha.run pos pins s σ H _ I h) fun us s1 ⟨vs, H1, I1, r1, q1⟩ => ?_) hs rfl))⟩
  obtain ⟨x, ex, q⟩ := q1
  subst ex
  cases r1 with
  | cons r rr =>
    cases rr
    obtain ⟨t, rfl⟩ := r
    refine call_enumerate_str fun h' he hit hsz hk => wpAny_pyIter_enum he ?_
    refine ⟨s1.heap.objs.size + 1, _, _, _, H1, rfl, I1.kept (t' := s1.toks) hk, turn_enumS x t (s1.heap.objs.size + 1) s1.heap.objs.size, ⟨⟨.none, he⟩, hit, Nat.succ_ne_self _⟩, fun b hb => ?_, q⟩
    have hle : s1.heap.objs.size ≤ b := by
      rcases two hb with z | z <;> rw [z] <;> first | exact Nat.le_add_right _ _ | exact Nat.le_refl _
    exact I1.fpOk hle (I1.hok.fresh hle)
def iEnumT (K : PySem.W.Frag) (ta : TA) : TI := fun σ H R => ta σ H fun vs H1 => ∃ a xs, vs = [.ref a] ∧ SqT K H1 a xs ∧ R (ItT K a) H1
theorem pi_enumT {e : Expr} {ta : TA} {p pos tpos : Pos} {elts : List Expr} {kk : Nat} (hg : Gl X "enumerate") (hm : X.mg "enumerate" = none) (ha : PA X [e] ta) (hs : starEach [e] X.env = [(false, eval e X.env)] := by rfl) :
    PI X (.Tuple elts kk tpos) (.Call (.Name "enumerate" p) [e] [] pos) (iEnumT X.K ta) := by
  refine ⟨fun pins s σ H R I h => Call_ (ld_blt I hg hm boot_enumerate (callWith_type1 (thn (ha.run pos pins s σ H _ I h) fun us s1 ⟨vs, H1, I1, r1, q1⟩ => ?_) hs rfl))⟩
  obtain ⟨a, xs, ex, hq, q⟩ := q1
  subst ex
  cases r1 with
  | cons r rr =>
    cases rr
    cases r
    obtain ⟨its, rv, p', hz⟩ := I1.tuple hq
    obtain ⟨oa, hoa, _⟩ := id p'
    have la : a < s1.heap.objs.size := Heap.lt_size hoa
    refine callType_new F.called_enumerate (by decide) (F.typeCall_enumerate_1 _) (F.newCall_enumerate_1 _) (fun obj => F.args_object_init_2 obj _) F.entry_enumerate_new (meets_enumT a its.toArray) ⟨p', ?_⟩
    have hz : (s1.heap.push { cls := .type "tuple_iterator", data := .fields #[.ref a, .int 0 0] }).objs.size = s1.heap.objs.size + 1 := Heap.size_push ..
    show _ ∧ _
    rw [hz]
    have g1 := Heap.get?_push_size (s1.heap.push { cls := .type "tuple_iterator", data := .fields #[.ref a, .int 0 0] }) (o := { cls := .type "enumerate", data := .fields #[.none, .bool false, .ref s1.heap.objs.size, rawInt 0, .none, .none] }) rfl
    rw [hz] at g1
    have he : IsEnum ((s1.heap.push { cls := .type "tuple_iterator", data := .fields #[.ref a, .int 0 0] }).push { cls := .type "enumerate", data := .fields #[.none, .bool false, .ref s1.heap.objs.size, rawInt 0, .none, .none] }) (s1.heap.objs.size + 1) s1.heap.objs.size 0 .none := g1
    refine ⟨⟨_, he, rfl⟩, wpAny_pyIter_enum he ?_⟩
    refine ⟨s1.heap.objs.size + 1, _, _, _, H1, rfl, I1.kept (t' := s1.toks) fun b o e => Heap.get?_push_of_some _ (Heap.get?_push_of_some _ e), turn_enumT a (s1.heap.objs.size + 1) s1.heap.objs.size,
      ⟨⟨.none, he⟩, ⟨_, Heap.get?_push_of_some _ (Heap.get?_push_size _ rfl), rfl, rfl⟩, Nat.succ_ne_self _, Nat.ne_of_lt la, Nat.ne_of_lt (Nat.lt_succ_of_lt la)⟩, fun b hb => ?_, q⟩
    have hle : s1.heap.objs.size ≤ b := by
      rcases two hb with z | z <;> rw [z] <;> first | exact Nat.le_add_right _ _ | exact Nat.le_refl _
    exact I1.fpOk hle (I1.hok.fresh hle)
end
/-! ### loops over them -/
theorem for_enumS {x : Str} {g : TG} {tb : TS} {D : Ends} {σ : L2.St} {H : Hp} (Pv : Nat → L2.St → Hp → Prop) (h0 : Pv 0 σ H)
    (hs : ∀ (i c : Nat) (T : Addr) (σ : L2.St) (H : Hp), x.cps[i]? = some c → Pv i σ H → H T = none → g (.ref T) σ (upd H T (.tup [.int (i : Nat), .str ⟨#[c]⟩])) fun σ2 H2 => tb { D with nx := Pv (i + 1), ct := Pv (i + 1), bk := D.nx } σ2 H2)
    (hd : ∀ σ H, Pv x.cps.size σ H → D.nx σ H) :
    ∃ W : Nat → Nat → L2.St → Hp → Prop, (∃ m, W 0 m σ H) ∧ ∀ i m σ H, W i m σ H →
      ((ItS x).stop i H ∧ D.nx σ H) ∨ ((ItS x).go i H ∧ ∃ N : L2.St → Hp → Prop, (∀ σ' H', N σ' H' → ∃ m', m' < m ∧ W (i + 1) m' σ' H') ∧ ∀ v H', (ItS x).yld i H v H' → g v σ H' fun σ2 H2 => tb { D with nx := N, ct := N, bk := D.nx } σ2 H2) := by
  refine ⟨fun i m σ H => i + m = x.cps.size ∧ Pv i σ H, ⟨_, Nat.zero_add _, h0⟩, ?_⟩
  rintro i m σ H ⟨e, p⟩
  by_cases hm : m = 0
  · have e2 : i = x.cps.size := by omega
    refine .inl ⟨e2, hd σ H ?_⟩
    rw [← e2]
    exact p
  · refine .inr ⟨show i < x.cps.size by omega, Pv (i + 1), fun σ' H' p' => ⟨m - 1, by omega, by omega, p'⟩, ?_⟩
    rintro v H' ⟨T, c, rfl, hT, rfl, hc⟩
    exact hs i c T σ H hc p hT
theorem for_enumT {K : PySem.W.Frag} {a : Addr} {xs : List V} {g : TG} {tb : TS} {D : Ends} {σ : L2.St} {H : Hp} (Pv : Nat → L2.St → Hp → Prop) (h0 : Pv 0 σ H) (hq : ∀ i σ H, Pv i σ H → SqT K H a xs)
    (hs : ∀ (i : Nat) (x : V) (T : Addr) (σ : L2.St) (H : Hp), xs[i]? = some x → Pv i σ H → H T = none → g (.ref T) σ (upd H T (.tup [.int (i : Nat), x])) fun σ2 H2 => tb { D with nx := Pv (i + 1), ct := Pv (i + 1), bk := D.nx } σ2 H2)
    (hd : ∀ σ H, Pv xs.length σ H → D.nx σ H) :
    ∃ W : Nat → Nat → L2.St → Hp → Prop, (∃ m, W 0 m σ H) ∧ ∀ i m σ H, W i m σ H →
      ((ItT K a).stop i H ∧ D.nx σ H) ∨ ((ItT K a).go i H ∧ ∃ N : L2.St → Hp → Prop, (∀ σ' H', N σ' H' → ∃ m', m' < m ∧ W (i + 1) m' σ' H') ∧ ∀ v H', (ItT K a).yld i H v H' → g v σ H' fun σ2 H2 => tb { D with nx := N, ct := N, bk := D.nx } σ2 H2) := by
  refine ⟨fun i m σ H => i + m = xs.length ∧ Pv i σ H, ⟨_, Nat.zero_add _, h0⟩, ?_⟩
  rintro i m σ H ⟨e, p⟩
  by_cases hm : m = 0
  · have e2 : i = xs.length := by omega
    refine .inl ⟨⟨xs, hq i σ H p, e2⟩, hd σ H ?_⟩
    rw [← e2]
    exact p
  · have hi : i < xs.length := by omega
    refine .inr ⟨⟨xs, xs[i], hq i σ H p, List.getElem?_eq_getElem hi⟩, Pv (i + 1), fun σ' H' p' => ⟨m - 1, by omega, by omega, p'⟩, ?_⟩
    rintro v H' ⟨T, x, rfl, hT, rfl, hx⟩
    exact hs i x T σ H (hx xs (hq i σ H p)) p hT
theorem for_enumL {K : PySem.W.Frag} {a : Addr} {xs : List V} {g : TG} {tb : TS} {D : Ends} {σ : L2.St} {H : Hp} (Pv : Nat → L2.St → Hp → Prop) (h0 : Pv 0 σ H) (hq : ∀ i σ H, Pv i σ H → SqL K H a xs)
    (hs : ∀ (i : Nat) (x : V) (T : Addr) (σ : L2.St) (H : Hp), xs[i]? = some x → Pv i σ H → H T = none → g (.ref T) σ (upd H T (.tup [.int (i : Nat), x])) fun σ2 H2 => tb { D with nx := Pv (i + 1), ct := Pv (i + 1), bk := D.nx } σ2 H2)
    (hd : ∀ σ H, Pv xs.length σ H → D.nx σ H) :
    ∃ W : Nat → Nat → L2.St → Hp → Prop, (∃ m, W 0 m σ H) ∧ ∀ i m σ H, W i m σ H →
      ((Ite K a).stop i H ∧ D.nx σ H) ∨ ((Ite K a).go i H ∧ ∃ N : L2.St → Hp → Prop, (∀ σ' H', N σ' H' → ∃ m', m' < m ∧ W (i + 1) m' σ' H') ∧ ∀ v H', (Ite K a).yld i H v H' → g v σ H' fun σ2 H2 => tb { D with nx := N, ct := N, bk := D.nx } σ2 H2) := by
  refine ⟨fun i m σ H => i + m = xs.length ∧ Pv i σ H, ⟨_, Nat.zero_add _, h0⟩, ?_⟩
  rintro i m σ H ⟨e, p⟩
  by_cases hm : m = 0
  · have e2 : i = xs.length := by omega
    refine .inl ⟨⟨xs, hq i σ H p, by omega⟩, hd σ H ?_⟩
    rw [← e2]
    exact p
  · have hi : i < xs.length := by omega
    refine .inr ⟨⟨xs, xs[i], hq i σ H p, List.getElem?_eq_getElem hi⟩, Pv (i + 1), fun σ' H' p' => ⟨m - 1, by omega, by omega, p'⟩, ?_⟩
    rintro v H' ⟨T, x, rfl, hT, rfl, hx⟩
    exact hs i x T σ H (hx xs (hq i σ H p)) p hT
end EN

namespace TR
open PySem PySem.Spec PyProof.Rows L2 Evl
/-- a list or a tuple of these -/
def ob (k : Bool) (xs : List V) : HO := if k = true then .tup xs else .lst xs
theorem ob_seq {K : PySem.W.Frag} {H : Hp} {a : Addr} {k : Bool} {xs : List V} (h : H a = some (ob k xs)) : SqL K H a xs ∨ SqT K H a xs := by
  cases k
  · exact .inl (sq_of h)
  · exact .inr (st_of h)
theorem ob_list {K : PySem.W.Frag} {H : Hp} {a : Addr} {k : Bool} {xs : List V} (h : H a = some (ob k xs)) : TyX K H (.ref a) (if k = true then .type "tuple" else .type "list") := by
  cases k
  · exact .base (.lst h)
  · exact .base (.tup h)
theorem ob_ne {k : Bool} {xs : List V} {kvs : List (Key × V)} : ob k xs ≠ .dK kvs := by
  cases k <;> intro h <;> cases h
section
variable {X : Cx} {pos : Pos}
/-- a, b, .. = a list or a tuple of that length -/
def gSeq (K : PySem.W.Frag) (n : Nat) (t : TGs) : TG := fun v σ H Q => gUnl K n t v σ H Q ∨ gTup K n t v σ H Q
theorem pg_seq {es : List Expr} {k : Nat} {t : TGs} {n : Nat} (hc : X.calm = true) (h : PGs X es t)
    (hn : (assignEach es X.env).length = n := by rfl) (hst : (assignEach es X.env).findIdx? (·.1) = none := by rfl) : PG X (.Tuple es k pos) (gSeq X.K n t) := by
  refine ⟨fun pins s σ H v u Q I r hw => ?_⟩
  rcases hw with hw | hw
  · exact (pg_unl hc h hn hst).run pins s σ H v u Q I r hw
  · exact (pg_tup hc h hn hst).run pins s σ H v u Q I r hw
theorem gSeq_of {K : PySem.W.Frag} {n : Nat} {t : TGs} {H : Hp} {a : Addr} {k : Bool} {xs : List V} {σ : L2.St} {Q : L2.St → Hp → Prop} (h : H a = some (ob k xs)) (hl : xs.length = n) (q : t xs σ H Q) : gSeq K n t (.ref a) σ H Q := by
  cases k
  · exact .inl ⟨a, xs, rfl, sq_of h, hl, q⟩
  · exact .inr ⟨a, xs, rfl, st_of h, hl, q⟩
/-- a walk over either -/
def iSeq (K : PySem.W.Frag) (te : TE) : TI := fun σ H R => iList K te σ H R ∨ iTup K te σ H R
theorem pi_seq {tg e : Expr} {te : TE} (he : PE X e te) : PI X tg e (iSeq X.K te) := by
  refine ⟨fun pins s σ H R I h => ?_⟩
  rcases h with h | h
  · exact (pi_list he).run pins s σ H R I h
  · exact (pi_tup he).run pins s σ H R I h
def iEnumQ (K : PySem.W.Frag) (ta : TA) : TI := fun σ H R => iEnum K ta σ H R ∨ EN.iEnumT K ta σ H R
theorem pi_enumQ {e : Expr} {ta : TA} {p tpos : Pos} {elts : List Expr} {kk : Nat} (hg : Gl X "enumerate") (hm : X.mg "enumerate" = none) (ha : PA X [e] ta) (hs : starEach [e] X.env = [(false, eval e X.env)] := by rfl) :
    PI X (.Tuple elts kk tpos) (.Call (.Name "enumerate" p) [e] [] pos) (iEnumQ X.K ta) := by
  refine ⟨fun pins s σ H R I h => ?_⟩
  rcases h with h | h
  · exact (pi_enum hg hm ha hs).run pins s σ H R I h
  · exact (EN.pi_enumT hg hm ha hs).run pins s σ H R I h
theorem ix_at {K : PySem.W.Frag} {H : Hp} {a : Addr} {k : Bool} {xs : List V} {i : Int} {v : V} {Q : VK} (h : H a = some (ob k xs)) (hi : atI xs i = some v) (q : Q v H) : rIx K (.ref a) (.int i) H Q := by
  cases k
  · exact .inl ⟨a, xs, i, v, rfl, rfl, sq_of h, hi, q⟩
  · exact .inr (.inl ⟨a, xs, i, v, rfl, rfl, st_of h, hi, q⟩)
end
/-! ### trees -/
mutual
inductive Tr where
  | go (s q : Nat) : Tr
  | tell (n : Nat) (t : Tr) : Tr
  | read (p : Nat) (ts : Trs) : Tr
inductive Trs where
  | nil : Trs
  | cons (t : Tr) (r : Trs) : Trs
end
def Trs.list : Trs → List Tr
  | .nil => []
  | .cons t r => t :: r.list
mutual
def Tr.size : Tr → Nat
  | .go _ _ => 1
  | .tell _ t => t.size + 1
  | .read _ ts => ts.size + 1
def Trs.size : Trs → Nat
  | .nil => 0
  | .cons t r => t.size + r.size
end
mutual
def Tr.depth : Tr → Nat
  | .go _ _ => 1
  | .tell _ t => t.depth + 1
  | .read _ ts => ts.depth + 1
def Trs.depth : Trs → Nat
  | .nil => 0
  | .cons t r => max t.depth r.depth
end
/-! as described, for so many letters, this width, so many states -/
mutual
def Tr.ok (l w n : Nat) : Tr → Prop
  | .go s q => 1 ≤ s ∧ s ≤ w + 1 ∧ q < n
  | .tell k t => k ≤ 2 ∧ t.ok l w n
  | .read p ts => p ≤ w ∧ ts.list.length = l ∧ ts.ok l w n
def Trs.ok (l w n : Nat) : Trs → Prop
  | .nil => True
  | .cons t r => t.ok l w n ∧ r.ok l w n
end
/-- the trees within -/
def Tr.kids : Tr → List Tr
  | .go _ _ => []
  | .tell _ t => [t]
  | .read _ ts => ts.list
/-! how a tree stands in memory, of lists or of tuples -/
mutual
inductive TA (k : Bool) (H : Hp) : V → Tr → Prop
  | go {a : Addr} {s q : Nat} : H a = some (ob k [.str "go", .int (s : Nat), .int (q : Nat)]) → TA k H (.ref a) (.go s q)
  | tell {a : Addr} {n : Nat} {v : V} {t : Tr} : H a = some (ob k [.str "tell", .int (n : Nat), v]) → TA k H v t → TA k H (.ref a) (.tell n t)
  | read {a b : Addr} {p : Nat} {vs : List V} {ts : Trs} : H a = some (ob k [.str "read", .int (p : Nat), .ref b]) → H b = some (ob k vs) → TAs k H vs ts → TA k H (.ref a) (.read p ts)
inductive TAs (k : Bool) (H : Hp) : List V → Trs → Prop
  | nil : TAs k H [] .nil
  | cons {v : V} {vs : List V} {t : Tr} {r : Trs} : TA k H v t → TAs k H vs r → TAs k H (v :: vs) (.cons t r)
end
mutual
theorem TA.ex {k : Bool} {H H' : Hp} (e : Ex H H') : ∀ {t : Tr} {v : V}, TA k H v t → TA k H' v t
  | _, _, .go h => .go (e _ _ h)
  | _, _, .tell h r => .tell (e _ _ h) (TA.ex e r)
  | _, _, .read h1 h2 r => .read (e _ _ h1) (e _ _ h2) (TAs.ex e r)
theorem TAs.ex {k : Bool} {H H' : Hp} (e : Ex H H') : ∀ {ts : Trs} {vs : List V}, TAs k H vs ts → TAs k H' vs ts
  | _, _, .nil => .nil
  | _, _, .cons h r => .cons (TA.ex e h) (TAs.ex e r)
end
/-- a list of trees as it stands -/
inductive Kids (k : Bool) (H : Hp) : List V → List Tr → Prop
  | nil : Kids k H [] []
  | cons {v : V} {vs : List V} {t : Tr} {r : List Tr} : TA k H v t → Kids k H vs r → Kids k H (v :: vs) (t :: r)
theorem TAs.kids {k : Bool} {H : Hp} : ∀ {ts : Trs} {vs : List V}, TAs k H vs ts → Kids k H vs ts.list
  | _, _, .nil => .nil
  | _, _, .cons h r => .cons h r.kids
theorem Kids.ex {k : Bool} {H H' : Hp} (e : Ex H H') : ∀ {vs : List V} {ts : List Tr}, Kids k H vs ts → Kids k H' vs ts
  | _, _, .nil => .nil
  | _, _, .cons h r => .cons (h.ex e) (Kids.ex e r)
theorem Kids.len {k : Bool} {H : Hp} : ∀ {vs : List V} {ts : List Tr}, Kids k H vs ts → vs.length = ts.length
  | _, _, .nil => rfl
  | _, _, .cons _ r => by rw [List.length_cons, List.length_cons, r.len]
theorem Kids.get {k : Bool} {H : Hp} : ∀ {vs : List V} {ts : List Tr} {i : Nat} {x : V}, Kids k H vs ts → vs[i]? = some x → ∃ t, ts[i]? = some t ∧ TA k H x t
  | _, _, _, _, .nil, h => by cases h
  | _, _, 0, _, .cons (t := t) h1 _, h => ⟨t, rfl, by rw [← Option.some.inj h]; exact h1⟩
  | _, _, i + 1, _, .cons _ r, h => Kids.get (i := i) r h
theorem Kids.snoc {k : Bool} {H : Hp} {v : V} {t : Tr} (h : TA k H v t) : ∀ {vs : List V} {ts : List Tr}, Kids k H vs ts → Kids k H (vs ++ [v]) (ts ++ [t])
  | _, _, .nil => .cons h .nil
  | _, _, .cons h1 r => .cons h1 (Kids.snoc h r)
theorem Kids.app {k : Bool} {H : Hp} : ∀ {vs : List V} {ts : List Tr} {us : List V} {rs : List Tr}, Kids k H vs ts → Kids k H us rs → Kids k H (vs ++ us) (ts ++ rs)
  | _, _, _, _, .nil, h => h
  | _, _, _, _, .cons h r, h2 => .cons h (Kids.app r h2)
theorem size_pos : ∀ t : Tr, 1 ≤ t.size
  | .go _ _ => Nat.le_refl 1
  | .tell _ t => by
    show 1 ≤ t.size + 1
    omega
  | .read _ ts => by
    show 1 ≤ ts.size + 1
    omega
def total (ts : List Tr) : Nat := (ts.map Tr.size).sum
theorem Trs.total : ∀ ts : Trs, TR.total ts.list = ts.size
  | .nil => rfl
  | .cons t r => by
    show t.size + TR.total r.list = t.size + r.size
    rw [Trs.total r]
theorem size_kids : ∀ t : Tr, t.size = TR.total t.kids + 1
  | .go _ _ => rfl
  | .tell _ t => rfl
  | .read _ ts => by
    show ts.size + 1 = TR.total ts.list + 1
    rw [Trs.total]
theorem Trs.ok_mem {l w n : Nat} : ∀ {ts : Trs}, ts.ok l w n → ∀ t ∈ ts.list, t.ok l w n
  | .nil, _, _, h => nomatch h
  | .cons t r, h, x, hx => by
    rcases List.mem_cons.mp hx with q | q
    · rw [q]
      exact h.1
    · exact Trs.ok_mem h.2 x q
theorem ok_kids {l w n : Nat} : ∀ {t : Tr}, t.ok l w n → ∀ x ∈ t.kids, x.ok l w n
  | .go _ _, _, _, h => nomatch h
  | .tell _ t, h, x, hx => by
    rw [List.mem_singleton.mp hx]
    exact h.2
  | .read _ ts, h, x, hx => Trs.ok_mem h.2.2 x hx
theorem Trs.depth_mem : ∀ {ts : Trs}, ∀ t ∈ ts.list, t.depth ≤ ts.depth
  | .nil, _, h => nomatch h
  | .cons t r, x, hx => by
    rcases List.mem_cons.mp hx with q | q
    · rw [q]
      exact Nat.le_max_left _ _
    · exact Nat.le_trans (Trs.depth_mem x q) (Nat.le_max_right _ _)
theorem depth_kids : ∀ {t : Tr}, ∀ x ∈ t.kids, x.depth + 1 ≤ t.depth
  | .go _ _, _, h => nomatch h
  | .tell _ t, x, hx => by
    rw [List.mem_singleton.mp hx]
    exact Nat.le_refl _
  | .read _ ts, x, hx => Nat.succ_le_succ (Trs.depth_mem x hx)
end TR

namespace Law
open PySem PySem.Spec PyProof.Rows L2 Evl
def top (i : Nat) : Stmt := PySem.Challenge.pw_wordskips_k14_weaves_read.main.body.getD i (.Pass ⟨0, 0, 0, 0⟩)
abbrev s_is_list : Stmt := top 1
abbrev N_is_list : List Str := ["value"]
theorem sc_is_list : FnScope N_is_list ["value"] (defScope s_is_list) := ⟨rfl, rfl, rfl, by decide +kernel, rfl, by decide +kernel, by decide +kernel⟩
abbrev s_is_integer : Stmt := top 2
abbrev N_is_integer : List Str := ["value"]
theorem sc_is_integer : FnScope N_is_integer ["value"] (defScope s_is_integer) := ⟨rfl, rfl, rfl, by decide +kernel, rfl, by decide +kernel, by decide +kernel⟩
abbrev s_is_whole : Stmt := top 3
abbrev N_is_whole : List Str := ["value", "low", "high"]
theorem sc_is_whole : FnScope N_is_whole ["value", "low", "high"] (defScope s_is_whole) := ⟨rfl, rfl, rfl, by decide +kernel, rfl, by decide +kernel, by decide +kernel⟩
abbrev s_are_letters : Stmt := top 4
abbrev N_are_letters : List Str := ["value", "sign"]
theorem sc_are_letters : FnScope N_are_letters ["value"] (defScope s_are_letters) := ⟨rfl, rfl, rfl, by decide +kernel, rfl, by decide +kernel, by decide +kernel⟩
abbrev s_wrong_sign : Stmt := top 5
abbrev N_wrong_sign : List Str := ["letters", "text", "place", "sign"]
theorem sc_wrong_sign : FnScope N_wrong_sign ["letters", "text"] (defScope s_wrong_sign) := ⟨rfl, rfl, rfl, by decide +kernel, rfl, by decide +kernel, by decide +kernel⟩
abbrev s_kept : Stmt := top 14
abbrev N_kept : List Str := ["value", "part", "key"]
theorem sc_kept : FnScope N_kept ["value"] (defScope s_kept) := ⟨rfl, rfl, rfl, by decide +kernel, rfl, by decide +kernel, by decide +kernel⟩
abbrev s_is_name : Stmt := top 22
abbrev N_is_name : List Str := ["value", "sign"]
theorem sc_is_name : FnScope N_is_name ["value"] (defScope s_is_name) := ⟨rfl, rfl, rfl, by decide +kernel, rfl, by decide +kernel, by decide +kernel⟩
abbrev s_is_rule : Stmt := top 23
abbrev N_is_rule : List Str := ["letters", "rules", "value", "pair"]
theorem sc_is_rule : FnScope N_is_rule ["letters", "rules", "value"] (defScope s_is_rule) := ⟨rfl, rfl, rfl, by decide +kernel, rfl, by decide +kernel, by decide +kernel⟩
abbrev s_is_part : Stmt := top 24
abbrev N_is_part : List Str := ["letters", "rules", "value"]
theorem sc_is_part : FnScope N_is_part ["letters", "rules", "value"] (defScope s_is_part) := ⟨rfl, rfl, rfl, by decide +kernel, rfl, by decide +kernel, by decide +kernel⟩
abbrev s_within : Stmt := top 25
abbrev N_within : List Str := ["rules", "name", "found", "waiting", "outer", "part", "_"]
theorem sc_within : FnScope N_within ["rules", "name"] (defScope s_within) := ⟨rfl, rfl, rfl, by decide +kernel, rfl, by decide +kernel, by decide +kernel⟩
abbrev s_sizes : Stmt := top 26
abbrev N_sizes : List Str := ["rules", "sizes", "name", "part", "_", "missing", "count"]
theorem sc_sizes : FnScope N_sizes ["rules"] (defScope s_sizes) := ⟨rfl, rfl, rfl, by decide +kernel, rfl, by decide +kernel, by decide +kernel⟩
abbrev s_lpen : Stmt := top 28
abbrev N_lpen : List Str := ["_law_script"]
theorem sc_lpen : FnScope N_lpen ["_law_script"] (defScope s_lpen) := ⟨rfl, rfl, rfl, by decide +kernel, rfl, by decide +kernel, by decide +kernel⟩
abbrev s_ldraw : Stmt := top 29
abbrev N_ldraw : List Str := ["_law_pen_here", "_law_many", "_law_digit", "_law_k", "_law_cells", "_law_cell", "_law_mix"]
theorem sc_ldraw : FnScope N_ldraw ["_law_pen_here", "_law_many"] (defScope s_ldraw) := ⟨rfl, rfl, rfl, by decide +kernel, rfl, by decide +kernel, by decide +kernel⟩
abbrev s_lpick : Stmt := top 30
abbrev N_lpick : List Str := ["_law_pen_here", "_law_some"]
theorem sc_lpick : FnScope N_lpick ["_law_pen_here", "_law_some"] (defScope s_lpick) := ⟨rfl, rfl, rfl, by decide +kernel, rfl, by decide +kernel, by decide +kernel⟩
abbrev s_lshuffled : Stmt := top 31
abbrev N_lshuffled : List Str := ["_law_pen_here", "_law_some", "_law_left", "_law_found"]
theorem sc_lshuffled : FnScope N_lshuffled ["_law_pen_here", "_law_some"] (defScope s_lshuffled) := ⟨rfl, rfl, rfl, by decide +kernel, rfl, by decide +kernel, by decide +kernel⟩
abbrev s_lletters : Stmt := top 32
abbrev N_lletters : List Str := ["_law_pen_here", "_law_small", "_law_first", "_law_pace", "_law_k"]
theorem sc_lletters : FnScope N_lletters ["_law_pen_here"] (defScope s_lletters) := ⟨rfl, rfl, rfl, by decide +kernel, rfl, by decide +kernel, by decide +kernel⟩
abbrev s_lpiece : Stmt := top 33
abbrev N_lpiece : List Str := ["_law_pen_here", "_law_letters_here", "_law_most", "_law_k"]
theorem sc_lpiece : FnScope N_lpiece ["_law_pen_here", "_law_letters_here", "_law_most"] (defScope s_lpiece) := ⟨rfl, rfl, rfl, by decide +kernel, rfl, by decide +kernel, by decide +kernel⟩
abbrev s_lrules : Stmt := top 34
abbrev N_lrules : List Str := ["_law_pen_here", "_law_letters_here", "_law_most", "_law_counts", "_law_first", "_law_rules_here", "_law_texts", "_law_names", "_law_k", "_law_name", "_law_parts", "_law_text", "_law_at", "_law_part", "_law_count"]
theorem sc_lrules : FnScope N_lrules ["_law_pen_here", "_law_letters_here", "_law_most", "_law_counts"] (defScope s_lrules) := ⟨rfl, rfl, rfl, by decide +kernel, rfl, by decide +kernel, by decide +kernel⟩
abbrev s_lmixed : Stmt := top 35
abbrev N_lmixed : List Str := ["_law_pen_here", "_law_rules_here", "_law_found", "_law_name", "_law_rows", "_law_pair"]
theorem sc_lmixed : FnScope N_lmixed ["_law_pen_here", "_law_rules_here"] (defScope s_lmixed) := ⟨rfl, rfl, rfl, by decide +kernel, rfl, by decide +kernel, by decide +kernel⟩
abbrev s_lmet : Stmt := top 36
abbrev N_lmet : List Str := ["_law_call", "e"]
theorem sc_lmet : FnScope N_lmet ["_law_call"] (defScope s_lmet) := ⟨rfl, rfl, rfl, by decide +kernel, rfl, by decide +kernel, by decide +kernel⟩
abbrev s_lis_read : Stmt := top 37
abbrev N_lis_read : List Str := ["_law_pen_here", "_law_weave", "_law_text", "_law_size", "_law_k", "_law_at", "_law_long", "_law_odd"]
theorem sc_lis_read : FnScope N_lis_read ["_law_pen_here", "_law_weave", "_law_text"] (defScope s_lis_read) := ⟨rfl, rfl, rfl, by decide +kernel, rfl, by decide +kernel, by decide +kernel⟩
abbrev s_law : Stmt := top 38
abbrev N_law : List Str := ["_law_script", "_law_pen_here", "_law_turn", "_law_letters_here", "_law_rules_here", "_law_texts", "_law_names", "_law_root", "_law_handed", "_law_weave", "_law_name", "_law_piece_here", "_law_count", "_law_half", "_law_at", "_law_low", "_law_due", "_law_end"]
theorem sc_law : FnScope N_law ["_law_script"] (defScope s_law) := ⟨rfl, rfl, rfl, by decide +kernel, rfl, by decide +kernel, by decide +kernel⟩
abbrev s_TooMany_init : Stmt := inClass (top 9) 0
abbrev N_TooMany_init : List Str := ["self", "what", "many", "most"]
theorem sc_TooMany_init : FnScope N_TooMany_init ["self", "what", "many", "most"] (defScope s_TooMany_init) := ⟨rfl, rfl, rfl, by decide +kernel, rfl, by decide +kernel, by decide +kernel⟩
abbrev s_BadPlace_init : Stmt := inClass (top 13) 0
abbrev N_BadPlace_init : List Str := ["self", "number"]
theorem sc_BadPlace_init : FnScope N_BadPlace_init ["self", "number"] (defScope s_BadPlace_init) := ⟨rfl, rfl, rfl, by decide +kernel, rfl, by decide +kernel, by decide +kernel⟩
abbrev s_Weave_init : Stmt := inClass (top 21) 0
abbrev N_Weave_init : List Str := ["self", "letters", "rules", "root", "many", "name", "part", "count"]
theorem sc_Weave_init : FnScope N_Weave_init ["self", "letters", "rules", "root"] (defScope s_Weave_init) := ⟨rfl, rfl, rfl, by decide +kernel, rfl, by decide +kernel, by decide +kernel⟩
abbrev s_Weave_letter : Stmt := inClass (top 21) 1
abbrev N_Weave_letter : List Str := ["self", "number"]
theorem sc_Weave_letter : FnScope N_Weave_letter ["self", "number"] (defScope s_Weave_letter) := ⟨rfl, rfl, rfl, by decide +kernel, rfl, by decide +kernel, by decide +kernel⟩
abbrev s_Weave_part : Stmt := inClass (top 21) 2
abbrev N_Weave_part : List Str := ["self", "first", "size"]
theorem sc_Weave_part : FnScope N_Weave_part ["self", "first", "size"] (defScope s_Weave_part) := ⟨rfl, rfl, rfl, by decide +kernel, rfl, by decide +kernel, by decide +kernel⟩
abbrev s_Weave__cut : Stmt := inClass (top 21) 3
abbrev N_Weave__cut : List Str := ["self", "name", "first", "size", "found", "inner", "count", "copy", "letters"]
theorem sc_Weave__cut : FnScope N_Weave__cut ["self", "name", "first", "size"] (defScope s_Weave__cut) := ⟨rfl, rfl, rfl, by decide +kernel, rfl, by decide +kernel, by decide +kernel⟩

/-! ### the pen -/
def penK (c : Addr) (op lf : Int) : List (Key × V) := [(.inr "cells", .ref c), (.inr "opened", .int op), (.inr "left", .int lf)]
structure PenI where
  d : Addr
  c : Addr
  ns : List Int
def PenAt (p : PenI) (H0 H : Hp) (n : Nat) : Prop := Ex H0 H ∧ H0 p.d = none ∧ H0 p.c = some (.lst (p.ns.map V.int)) ∧ p.ns.length ≤ 63 ∧
  ∃ (op : Nat) (lf : Int), op ≤ n ∧ H p.d = some (.dK (penK p.c op lf))
theorem PenAt.ex {p : PenI} {H0 H H1 : Hp} {n : Nat} (P : PenAt p H0 H n) (e : Ex H H1) : PenAt p H0 H1 n := by
  obtain ⟨e0, h0, hc, hl, op, lf, ho, hd⟩ := P
  exact ⟨e0.trans e, h0, hc, hl, op, lf, ho, e p.d _ hd⟩
theorem PenAt.le {p : PenI} {H0 H : Hp} {n m : Nat} (P : PenAt p H0 H n) (h : n ≤ m) : PenAt p H0 H m := by
  obtain ⟨e0, h0, hc, hl, op, lf, ho, hd⟩ := P
  exact ⟨e0, h0, hc, hl, op, lf, Nat.le_trans ho h, hd⟩
theorem PenAt.dict {p : PenI} {H0 H : Hp} {n : Nat} (P : PenAt p H0 H n) : ∃ kvs, H p.d = some (.dK kvs) := by
  obtain ⟨_, _, _, _, op, lf, _, h⟩ := P
  exact ⟨_, h⟩
theorem PenAt.lst_ne {p : PenI} {H0 H : Hp} {a : Addr} {n : Nat} {xs : List V} (P : PenAt p H0 H n) (h : H a = some (.lst xs)) : a ≠ p.d := by
  obtain ⟨kvs, h2⟩ := P.dict
  exact ne_of h h2 (by intro z; cases z)
/-- an object made meanwhile may change -/
theorem PenAt.upd {p : PenI} {H0 H : Hp} {a : Addr} {n : Nat} {o : HO} (P : PenAt p H0 H n) (h : H0 a = none) (hd : a ≠ p.d) : PenAt p H0 (upd H a o) n := by
  obtain ⟨e0, h0, hc, hl, op, lf, ho, hd'⟩ := P
  exact ⟨e0.mut h, h0, hc, hl, op, lf, ho, by rw [upd_ne hd.symm]; exact hd'⟩
/-- one more object kept, and let go again -/
theorem PenAt.keep {p : PenI} {H0 H : Hp} {a : Addr} {n : Nat} {o : HO} (P : PenAt p H0 H n) (h : H a = some o) (hd : a ≠ p.d) : PenAt p (L2.upd H0 a o) H n := by
  obtain ⟨e0, h0, hc, r⟩ := P
  refine ⟨fun b u e => ?_, by rw [upd_ne hd.symm]; exact h0, ?_, r⟩
  · by_cases q : b = a
    · subst q
      rw [upd_same] at e
      rw [h, e]
    · rw [upd_ne q] at e
      exact e0 b u e
  · by_cases q : p.c = a
    · have e2 := e0 _ _ hc
      rw [q, h] at e2
      rw [q, upd_same, e2]
    · rw [upd_ne q]
      exact hc
theorem PenAt.drop {p : PenI} {H0 H H' : Hp} {a : Addr} {n m : Nat} {o : HO} (P : PenAt p H0 H n) (h : H a = some o) (P' : PenAt p (L2.upd H0 a o) H' m) : PenAt p H0 H' m := by
  refine ⟨fun b u e => ?_, P.2.1, P.2.2.1, P'.2.2.2⟩
  by_cases q : b = a
  · subst q
    have e2 := P.1 _ _ e
    rw [h] at e2
    exact P'.1 _ _ (by rw [upd_same, e2])
  · exact P'.1 _ _ (by rw [upd_ne q]; exact e)
theorem cells_opened : ¬ (("cells" : Str) = "opened") := by decide +kernel
theorem cells_left : ¬ (("cells" : Str) = "left") := by decide +kernel
theorem opened_left : ¬ (("opened" : Str) = "left") := by decide +kernel
theorem get_cells (c : Addr) (op lf : Int) : valV (penK c op lf) (.inr "cells") = some (.ref c) := by
  unfold valV penK
  rw [List.find?_cons_of_pos (by simp)]
  rfl
theorem get_opened (c : Addr) (op lf : Int) : valV (penK c op lf) (.inr "opened") = some (.int op) := by
  unfold valV penK
  rw [List.find?_cons_of_neg (by simpa using cells_opened), List.find?_cons_of_pos (by simp)]
  rfl
theorem get_left (c : Addr) (op lf : Int) : valV (penK c op lf) (.inr "left") = some (.int lf) := by
  unfold valV penK
  rw [List.find?_cons_of_neg (by simpa using cells_left), List.find?_cons_of_neg (by simpa using opened_left), List.find?_cons_of_pos (by simp)]
  rfl
theorem put_opened (c : Addr) (op lf x : Int) : putK (penK c op lf) (.inr "opened") (.int x) = penK c x lf := by
  unfold putK penK
  simp [cells_opened, opened_left, cells_left, Ne.symm opened_left]
theorem put_left (c : Addr) (op lf x : Int) : putK (penK c op lf) (.inr "left") (.int x) = penK c op x := by
  unfold putK penK
  simp [cells_opened, opened_left, cells_left]
theorem dget_of {H : Hp} {d : Addr} {kvs : List (Key × V)} {k : Str} {v : V} (e : H d = some (.dK kvs)) (h : valV kvs (.inr k) = some v) : DGet H d (.str k) (some v) := by
  rw [← h]
  exact DGet.k (k := .inr k) e
theorem dput_of {H : Hp} {d : Addr} {kvs kvs' : List (Key × V)} {k : Str} {v : V} (e : H d = some (.dK kvs)) (hl : kvs.length < 100) (h : putK kvs (.inr k) v = kvs') : DPut H d (.str k) v (upd H d (.dK kvs')) := by
  rw [← h]
  exact DPut.k (k := .inr k) e (Nat.lt_of_lt_of_le hl (by decide))

/-! ### lists of ints as data -/
theorem lay_ints : ∀ ns : List Int, PyData.canLayAll0 (ns.map PyData.int) = true
  | [] => rfl
  | n :: r => by
    show (PyData.canLay0 (.int n) && PyData.canLayAll0 (r.map PyData.int)) = true
    rw [lay_ints r]
    rfl
theorem depth_ints : ∀ ns : List Int, PyData.depthAll (ns.map PyData.int) = 0
  | [] => rfl
  | n :: r => by
    show max (PyData.depth (.int n)) (PyData.depthAll (r.map PyData.int)) = 0
    rw [depth_ints r]
    rfl
theorem shaped_ints (ns : List Int) : SeqAt.shaped (.list (ns.map PyData.int)) = true := by
  unfold SeqAt.shaped
  have e1 : (PyData.list (ns.map PyData.int)).canLay0 = true := lay_ints ns
  have e2 : (PyData.list (ns.map PyData.int)).depth = 1 := by
    show PyData.depthAll (ns.map PyData.int) + 1 = 1
    rw [depth_ints]
  rw [e1, e2]
  rfl
theorem dp_ints {K : PySem.W.Frag} {H : Hp} : ∀ ns : List Int, DpAll K H (ns.map V.int) (ns.map PyData.int)
  | [] => .nil
  | n :: r => .cons (.int n) (dp_ints r)
theorem eqv_nil (ns : List Int) : PyData.eqv (.list (ns.map PyData.int)) (.list []) = ns.isEmpty := by
  cases ns <;> rfl

/-! ### what is known of a def that is called -/
structure Kn (P : Program) (w : World) (K : PySem.W.Frag) (mg : Str → Option Value) (base : Heap) (x : Str) (ps : List Str) (k : Nat) (sp : Sp) where
  f : Addr
  fd : FuncData
  ok : FnOk P w K mg base CX0 k f fd ps sp
  g : mg x = some (.ref f)
  kp : PySem.W.keepIn K (.ref f) = true
  b : Binds K fd ps []
structure Tx (mg : Str → Option Value) where
  len : mg "len" = none
  int : mg "int" = none
  bool : mg "bool" = none
  abs : mg "abs" = none
  min : mg "min" = none
  list : mg "list" = none
  all : mg "all" = none
  range : mg "range" = none
  isinstance : mg "isinstance" = none
  str : mg "str" = none
  set : mg "set" = none
  tuple : mg "tuple" = none
  dict : mg "dict" = none
  enumerate : mg "enumerate" = none
  reversed : mg "reversed" = none
  sum : mg "sum" = none
  sorted : mg "sorted" = none
  k_MOST_RULES : Tok
  m_MOST_RULES : mg "MOST_RULES" = some (.int 40 k_MOST_RULES)
  k_MOST_COUNT : Tok
  m_MOST_COUNT : mg "MOST_COUNT" = some (.int 1000000000000000000000000000000 k_MOST_COUNT)
  k_LONGEST_PART : Tok
  m_LONGEST_PART : mg "LONGEST_PART" = some (.int 2000 k_LONGEST_PART)
  k_MOST_PAIRS : Tok
  m_MOST_PAIRS : mg "MOST_PAIRS" = some (.int 8 k_MOST_PAIRS)
  k_LONGEST_STRING : Tok
  m_LONGEST_STRING : mg "LONGEST_STRING" = some (.int 60 k_LONGEST_STRING)

def spPen (K : PySem.W.Frag) : Sp := fun vs H Q _ => ∃ (a : Addr) (ns : List Int), vs = [.ref a] ∧ SqL K H a (ns.map V.int) ∧ ns.length ≤ 63 ∧ ∀ p H0 H', Ex H H0 → PenAt p H0 H' 0 → Q (.ref p.d) H'
def spDraw : Sp := fun vs H Q _ => ∃ (p : PenI) (H0 : Hp) (n : Nat) (m : Int), vs = [.ref p.d, .int m] ∧ PenAt p H0 H n ∧ n < 1000000 ∧ 0 < m ∧ m < 1000 ∧ ∀ H' r, PenAt p H0 H' (n + 1) → 0 ≤ r → r < m → Q (.int r) H'

section
variable {P : Program} {w : World} {K : PySem.W.Frag} {mg : Str → Option Value} {base : Heap}
theorem ok_pen {f : Addr} {fd : FuncData} (F : Fun K "_law_pen" "_law_pen" s_lpen f fd) (T : Tx mg) : FnOk P w K mg base CX0 1 f fd ["_law_script"] (spPen K) := by
  refine F.ok sc_lpen (fun vs H Q E h => ?_) (fun cdv A outer s H vs Q E hr h => ?_)
  · obtain ⟨a, ns, rfl, _⟩ := h
    rfl
  · obtain ⟨a, ns, rfl, hS, hl, q⟩ := h
    refine ⟨_, (pss_one (ps_ret (pe_disp (pps_cons pe_str (pe_callTy call_list_of (by rfl) T.list PyProof.Rows.boot_list (pa_cons (pe_slice sl_list (pv 0) po_none (po_some pe_int)) pa_nil)) (pps_cons pe_str pe_int (pps_cons pe_str pe_int pps_nil))) (by rfl) (by rfl) (fun z => by cases z) (by decide)))), ?_⟩
    intro d hd
    have e1 : Ex H (upd H d (.dK [])) := Ex.new hd
    refine ⟨.ref a, rfl, 63, rfl, a, _, rfl, ex_l e1 hS, fun c hc => ?_⟩
    have e2 := e1.trans (Ex.new (o := .lst (cutV (ns.map V.int) none (some 63))) hc)
    refine ⟨c, _, rfl, .inl (.inl (.inl upd_same)), fun c2 hc2 => ?_⟩
    have e3 := e2.trans (Ex.new (o := .lst (cutV (ns.map V.int) none (some 63))) hc2)
    have ncd : c ≠ d := fun z => by rw [z, upd_same] at hc; cases hc
    have nc2c : c2 ≠ c := fun z => by rw [z, upd_same] at hc2; cases hc2
    have nc2d : c2 ≠ d := fun z => by rw [z, upd_ne ncd.symm, upd_same] at hc2; cases hc2
    refine ⟨by rw [upd_ne nc2d.symm, upd_ne ncd.symm, upd_same], penK c2 0 0, rfl, (by show 3 ≤ 15; decide), ?_⟩
    have em : mergeK [] (penK c2 0 0) = penK c2 0 0 := by
      unfold mergeK penK
      simp [putK, cells_opened, opened_left, cells_left]
    rw [em]
    have el : ((cutV (ns.map V.int) none (some 63)) : List V) = ((ns.drop (HT.sIx ns.length 0 none)).take (HT.sIx ns.length ns.length (some 63) - HT.sIx ns.length 0 none)).map V.int := by
      unfold cutV
      rw [List.length_map, List.map_take, List.map_drop]
    have hn2 : H c2 = none := by
      rw [upd_ne nc2c, upd_ne nc2d] at hc2
      exact hc2
    refine q ⟨d, c2, (ns.drop (HT.sIx ns.length 0 none)).take (HT.sIx ns.length ns.length (some 63) - HT.sIx ns.length 0 none)⟩ (upd H c2 (.lst (cutV (ns.map V.int) none (some 63)))) _ (Ex.new hn2) ⟨fun b u e => ?_, ?_, ?_, ?_, 0, 0, Nat.le_refl _, upd_same⟩
    · have nbd : b ≠ d := fun z => by
        rw [z, upd_ne nc2d.symm, hd] at e
        cases e
      rw [upd_ne nbd]
      by_cases z : b = c2
      · subst z
        rw [upd_same] at e ⊢
        exact e
      · rw [upd_ne z] at e ⊢
        exact (e1.trans (Ex.new hc)) _ _ e
    · exact (upd_ne nc2d.symm).trans hd
    · show upd H c2 _ c2 = _
      rw [upd_same, el]
    · rw [List.length_take, List.length_drop]
      omega
theorem ok_draw {f : Addr} {fd : FuncData} (F : Fun K "_law_draw" "_law_draw" s_ldraw f fd) (T : Tx mg) : FnOk P w K mg base CX0 1 f fd ["_law_pen_here", "_law_many"] spDraw := by
  refine F.ok sc_ldraw (fun vs H Q E h => ?_) (fun cdv A outer s H vs Q E hr h => ?_)
  · obtain ⟨p, H0, n, m, rfl, _⟩ := h
    rfl
  · obtain ⟨⟨d, c, ns⟩, H0, n, m, rfl, ⟨e0, h0, hc0, hl, op, lf, ho, hd⟩, hn, hm0, hm1, q⟩ := h
    have hc : H c = some (.lst (ns.map V.int)) := e0 _ _ hc0
    dsimp only at h0 hl hd q ⊢
    have ncd : c ≠ d := ne_of hc hd (by intro z; cases z)
    have fin : ∀ (o2 : Nat) (l2 : Int) (H' : Hp), Ex H0 H' → H' c = some (.lst (ns.map V.int)) → H' d = some (.dK (penK c o2 l2)) → o2 ≤ n + 1 → PenAt ⟨d, c, ns⟩ H0 H' (n + 1) :=
      fun o2 l2 H' x1 x2 x3 x4 => ⟨x1, h0, hc0, hl, o2, l2, x4, x3⟩
    refine ⟨_, (pss_cons (ps_if (pt_cmpR op_gt (pe_dget (hu_of hr) (pv 0) pe_str (fun _ _ => rfl)) pe_int (nomark _)) (pss_cons (ps_set (i := 2) sc_ldraw.nd rfl (Or.inl rfl) (pe_op op_mod (pe_callTy call_int1 (by rfl) T.int PyProof.Rows.boot_int (pa_cons (pe_dget (hu_of hr) (pv 0) pe_str (fun _ _ => rfl)) pa_nil)) (pv 1)))
      (pss_cons (ps_dput (hu_of hr) (pv 0) pe_str (pe_op op_fdivN (pe_dget (hu_of hr) (pv 0) pe_str (fun _ _ => rfl)) (pv 1)) rfl)
      (pss_one (ps_ret (pv 2))))) pss_nil)
      (pss_cons (ps_par (i := 3) (j := 4) (by rfl) sc_ldraw.nd rfl rfl (by decide) rfl rfl (pa_cons (pe_dget (hu_of hr) (pv 0) pe_str (fun _ _ => rfl)) (pa_cons (pe_dget (hu_of hr) (pv 0) pe_str (fun _ _ => rfl)) pa_nil)) (by rfl))
      (pss_cons (ps_dput (hu_of hr) (pv 0) pe_str (pe_op op_add (pv 3) pe_int) rfl)
      (pss_cons (ps_if (pt_cmpR (op_eqD hr.units) (pv 4) (pe_lst pa_nil) (nomark _)) (pss_one (ps_ret (pe_op op_mod (pe_callTy call_int1 (by rfl) T.int PyProof.Rows.boot_int (pa_cons (pe_op op_add (pe_op op_mul pe_int (pv 3)) pe_int) pa_nil)) (pv 1)))) pss_nil)
      (pss_cons (ps_set (i := 5) sc_ldraw.nd rfl (Or.inl rfl) (pe_ix ix_list (pv 4) (pe_op op_mod (pe_callTy call_int1 (by rfl) T.int PyProof.Rows.boot_int (pa_cons (pv 3) pa_nil)) (pe_callB call_len_seq (by rfl) T.len PySem.boot_len (pa_cons (pv 4) pa_nil))) (fun _ _ => rfl)))
      (pss_cons (ps_if (PW.pt (pw_and (pt_cmpR op_lt (pv 3) (pe_callB call_len_seq (by rfl) T.len PySem.boot_len (pa_cons (pv 4) pa_nil)) (nomark _)) (pw_and1 (pt_cmpR op_ge (pe_callB call_abs (by rfl) T.abs (by decide +kernel) (pa_cons (pv 5) pa_nil)) (pe_op op_pow pe_int pe_int) (nomark _))))) (pss_cons (ps_dput (hu_of hr) (pv 0) pe_str (pe_op op_fdivN (pe_op op_sub (pe_callB call_abs (by rfl) T.abs (by decide +kernel) (pa_cons (pv 5) pa_nil)) (pe_op op_pow pe_int pe_int)) (pv 1)) rfl)
      (pss_one (ps_ret (pe_op op_mod (pe_callTy call_int1 (by rfl) T.int PyProof.Rows.boot_int (pa_cons (pe_op op_sub (pe_callB call_abs (by rfl) T.abs (by decide +kernel) (pa_cons (pv 5) pa_nil)) (pe_op op_pow pe_int pe_int)) pa_nil)) (pv 1))))) pss_nil)
      (pss_cons (ps_set (i := 6) sc_ldraw.nd rfl (Or.inl rfl) (pe_op op_mod (pe_callTy call_int1 (by rfl) T.int PyProof.Rows.boot_int (pa_cons (pe_op op_add (pe_op op_add (pe_op op_add (pe_op op_mul (pe_op op_mod (pe_callTy call_int1 (by rfl) T.int PyProof.Rows.boot_int (pa_cons (pv 5) pa_nil)) pe_int) pe_int) (pe_op op_mul (pe_op op_mul pe_int (pv 3)) (pv 3))) (pe_op op_mul pe_int (pv 3))) pe_int) pa_nil)) pe_int))
      (pss_cons (ps_set (i := 6) sc_ldraw.nd rfl (Or.inl rfl) (pe_op op_mod (pe_callTy call_int1 (by rfl) T.int PyProof.Rows.boot_int (pa_cons (pe_op op_add (pe_op op_add (pe_op op_mul (pv 6) (pv 6)) (pe_op op_mul pe_int (pv 6))) (pe_op op_mul pe_int (pv 3))) pa_nil)) pe_int))
      (pss_one (ps_ret (pe_op op_mod (pe_callTy call_int1 (by rfl) T.int PyProof.Rows.boot_int (pa_cons (pe_op op_fdivN (pe_op op_mod (pe_callTy call_int1 (by rfl) T.int PyProof.Rows.boot_int (pa_cons (pe_op op_mul (pv 6) (pe_op op_add (pv 6) pe_int)) pa_nil)) pe_int) pe_int) pa_nil)) (pv 1)))))))))))), ?_⟩
    refine ⟨_, rfl, d, .int lf, rfl, dget_of hd (get_left _ _ _), _, _, rfl, rfl, _, rfl, ite2 (fun hp => ?_) (fun hp => ?_)⟩
    · refine ⟨_, rfl, d, .int lf, rfl, dget_of hd (get_left _ _ _), .inl ⟨_, rfl, ?_⟩⟩
      refine ⟨_, rfl, _, _, rfl, rfl, hm0, ?_⟩
      refine ⟨_, rfl, d, .int lf, rfl, dget_of hd (get_left _ _ _), _, rfl, _, _, rfl, rfl, ⟨by omega, by omega⟩, ?_⟩
      refine ⟨_, rfl, d, _, rfl, dput_of hd (by show 3 < 100; decide) (put_left _ _ _ _), ?_⟩
      refine ⟨_, rfl, ?_⟩
      exact q _ _ (fin op _ _ (e0.mut h0) (by rw [upd_ne ncd]; exact hc) upd_same (by omega)) (Int.emod_nonneg _ (by omega)) (Int.emod_lt_of_pos _ hm0)
    · refine ⟨_, rfl, d, _, rfl, dget_of hd (get_opened _ _ _), _, rfl, d, _, rfl, dget_of hd (get_cells _ _ _), _, _, rfl, ?_⟩
      refine ⟨_, rfl, _, _, rfl, rfl, _, rfl, d, _, rfl, dput_of hd (by show 3 < 100; decide) (put_opened _ _ _ _), ?_⟩
      have x1 : Ex H0 (upd H d (.dK (penK c ((op : Int) + 1) lf))) := e0.mut h0
      have hc1 : (upd H d (.dK (penK c ((op : Int) + 1) lf))) c = some (.lst (ns.map V.int)) := by
        rw [upd_ne ncd]
        exact hc
      have hd1 : (upd H d (.dK (penK c ((op : Int) + 1) lf))) d = some (.dK (penK c ((op + 1 : Nat) : Int) lf)) := upd_same
      generalize (upd H d (.dK (penK c ((op : Int) + 1) lf))) = H1 at x1 hc1 hd1 ⊢
      -- if cells == []
      refine ⟨_, rfl, Nat.zero_le _, fun el hel => ?_⟩
      have x2 := x1.trans (Ex.new (o := .lst []) hel)
      have hc2 : (upd H1 el (.lst [])) c = some (.lst (ns.map V.int)) := Ex.new hel _ _ hc1
      have hd2 : (upd H1 el (.lst [])) d = some (.dK (penK c ((op + 1 : Nat) : Int) lf)) := Ex.new hel _ _ hd1
      refine ⟨.list (ns.map PyData.int), .list [], .lst (sq_of hc2) (dp_ints ns), .lst (xs := []) (sq_of upd_same) .nil, shaped_ints ns, rfl, _, rfl, ?_⟩
      rw [eqv_nil]
      generalize (upd H1 el (.lst [])) = H2 at x2 hc2 hd2 ⊢
      cases hns : ns.isEmpty with
      | true =>
        refine iteT ?_
        refine ⟨_, rfl, _, _, rfl, rfl, .inl (by decide), _, _, rfl, rfl, .inl ⟨_, rfl, _, rfl, _, _, rfl, rfl, hm0, ?_⟩⟩
        exact q _ _ (fin _ _ _ x2 hc2 hd2 (by omega)) (Int.emod_nonneg _ (by omega)) (Int.emod_lt_of_pos _ hm0)
      | false =>
        refine iteF ?_
        have hpos : 0 < ns.length := by
          cases ns with
          | nil => cases hns
          | cons x r => exact Nat.succ_pos _
        have hL : (0 : Int) < ((ns.map V.int).length : Int) := by
          rw [List.length_map]
          omega
        -- cell = cells[int(k) % len(cells)]
        obtain ⟨i, hi⟩ : ∃ i : Nat, (op : Int) % ((ns.map V.int).length : Int) = (i : Int) := ⟨((op : Int) % ((ns.map V.int).length : Int)).toNat, (Int.toNat_of_nonneg (Int.emod_nonneg _ (by omega))).symm⟩
        have hi2 : i < ns.length := by
          have := Int.emod_lt_of_pos (op : Int) hL
          rw [hi, List.length_map] at this
          omega
        have hat : atI (ns.map V.int) ((op : Int) % ((ns.map V.int).length : Int)) = some (V.int ns[i]) := by
          rw [hi]
          exact atI_nat (by rw [List.getElem?_map, List.getElem?_eq_getElem hi2]; rfl)
        refine ⟨_, rfl, _, rfl, .inl ⟨_, rfl, _, rfl, c, _, rfl, .inl (sq_of hc2), _, _, rfl, rfl, hL, c, _, _, _, rfl, rfl, sq_of hc2, hat, ?_⟩⟩
        generalize ns[i] = x
        -- the test
        have hcell : ∀ {σ : L2.St} {H' : Hp}, σ[5]? = some (some (V.int x)) → Ev (tVar 5) σ H' (V.int x) := fun h => ev_var h
        dsimp only [gName]
        refine q_when (b := decide ((op : Int) < ((ns.map V.int).length : Int)) && decide ((10 : Int) ^ (18 : Int).toNat ≤ (if x < 0 then -x else x)))
          (et_and (fun H4 e4 Q4 q4 => ?_) (fun _ H4 e4 Q4 q4 => ?_)) (fun hb H3 e3 => ?_) (fun hb H3 e3 => ?_)
        · exact ⟨_, rfl, _, rfl, c, _, rfl, .inl (sq_of (e4 _ _ hc2)), _, _, rfl, rfl, _, rfl, q4 _ (Ex.refl _)⟩
        · exact ⟨_, rfl, _, rfl, _, _, rfl, rfl, ⟨by decide, by decide, by decide⟩, _, _, rfl, rfl, _, rfl, q4 _ (Ex.refl _)⟩
        · have x3 := x2.trans e3
          refine ⟨_, rfl, _, rfl, _, _, rfl, rfl, ⟨by decide, by decide, by decide⟩, _, _, rfl, rfl, _, rfl, _, _, rfl, rfl, ⟨by omega, by omega⟩, ?_⟩
          refine ⟨_, rfl, d, _, rfl, dput_of (e3 _ _ hd2) (by show 3 < 100; decide) (put_left _ _ _ _), ?_⟩
          refine ⟨_, rfl, _, rfl, _, _, rfl, rfl, ⟨by decide, by decide, by decide⟩, _, _, rfl, rfl, .inl ⟨_, rfl, _, rfl, _, _, rfl, rfl, hm0, ?_⟩⟩
          exact q _ _ (fin _ _ _ (x3.mut h0) (by rw [upd_ne ncd]; exact e3 _ _ hc2) upd_same (by omega)) (Int.emod_nonneg _ (by omega)) (Int.emod_lt_of_pos _ hm0)
        · have x3 := x2.trans e3
          have b1 : (0 : Int) ≤ x % 4294965521 := Int.emod_nonneg _ (by decide)
          have b2 : x % 4294965521 < 4294965521 := Int.emod_lt_of_pos _ (by decide)
          refine ⟨_, rfl, .inl ⟨_, rfl, _, _, rfl, rfl, (by show (0 : Int) < _; decide), _, _, rfl, rfl, .inr ⟨by decide, by decide⟩, ?_⟩⟩
          refine ⟨_, rfl, _, _, rfl, rfl, .inl ⟨by decide, by decide⟩, _, rfl, _, _, rfl, rfl, .inr ⟨by omega, by omega⟩, _, _, rfl, rfl, ?_⟩
          refine ⟨_, rfl, _, _, rfl, rfl, .inl ⟨by decide, by decide⟩, _, _, rfl, rfl, _, _, rfl, rfl, .inl ⟨_, rfl, _, _, rfl, rfl, (by show (0 : Int) < _; decide), ?_⟩⟩
          generalize hy : (x % 4294965521 * 43793 + 25999 * (op : Int) * (op : Int) + 839 * (op : Int) + 67) % 4294965583 = y
          have b3 : 0 ≤ y := by rw [← hy]; exact Int.emod_nonneg _ (by decide)
          have b4 : y < 4294965583 := by rw [← hy]; exact Int.emod_lt_of_pos _ (by decide)
          refine ⟨_, rfl, _, rfl, _, _, rfl, rfl, .inl ⟨by omega, by omega⟩, _, rfl, _, _, rfl, rfl, .inl ⟨by decide, by decide⟩, _, _, rfl, rfl, ?_⟩
          refine ⟨_, rfl, _, _, rfl, rfl, .inl ⟨by decide, by decide⟩, _, _, rfl, rfl, .inl ⟨_, rfl, _, _, rfl, rfl, (by show (0 : Int) < _; decide), ?_⟩⟩
          generalize hz : (y * y + 40163 * y + 31 * (op : Int)) % 4294965511 = z
          have b5 : 0 ≤ z := by rw [← hz]; exact Int.emod_nonneg _ (by decide)
          have b6 : z < 4294965511 := by rw [← hz]; exact Int.emod_lt_of_pos _ (by decide)
          refine ⟨_, rfl, _, rfl, _, _, rfl, rfl, _, _, rfl, rfl, .inl ⟨by omega, by omega⟩, .inl ⟨_, rfl, _, _, rfl, rfl, (by show (0 : Int) < _; decide), _, _, rfl, rfl, ⟨by decide, by decide⟩, .inl ⟨_, rfl, _, rfl, _, _, rfl, rfl, hm0, ?_⟩⟩⟩
          exact q _ _ (fin _ _ _ x3 (e3 _ _ hc2) (e3 _ _ hd2) (by omega)) (Int.emod_nonneg _ (by omega)) (Int.emod_lt_of_pos _ hm0)
end
end Law

namespace Law
open PySem PySem.Spec PyProof.Rows L2 Evl
theorem sz_le {n : Nat} (h : n < 1000) : n ≤ sizeLine := Nat.le_trans (Nat.le_of_lt h) (by decide)
theorem at_draw {α : Type} {xs : List α} {r : Int} (h0 : 0 ≤ r) (h1 : r < (xs.length : Int)) : ∃ v, v ∈ xs ∧ atI xs r = some v := by
  obtain ⟨j, rfl⟩ : ∃ j : Nat, r = (j : Int) := ⟨r.toNat, (Int.toNat_of_nonneg h0).symm⟩
  have hj : j < xs.length := by omega
  exact ⟨xs[j], List.getElem_mem hj, atI_nat (List.getElem?_eq_getElem hj)⟩
def spPickS : Sp := fun vs H Q _ => ∃ (p : PenI) (H0 : Hp) (n : Nat) (z : Str), vs = [.ref p.d, .str z] ∧ PenAt p H0 H n ∧ n < 1000000 ∧ 0 < z.length ∧ z.length < 1000 ∧ ∀ H' c, PenAt p H0 H' (n + 1) → c ∈ z.cps.toList → Q (.str ⟨#[c]⟩) H'
def spPickL : Sp := fun vs H Q _ => ∃ (p : PenI) (H0 : Hp) (a : Addr) (n : Nat) (xs : List V), vs = [.ref p.d, .ref a] ∧ PenAt p H0 H n ∧ n < 1000000 ∧ H a = some (.lst xs) ∧ 0 < xs.length ∧ xs.length < 1000 ∧ ∀ H' v, PenAt p H0 H' (n + 1) → v ∈ xs → Q v H'
section
variable {P : Program} {w : World} {K : PySem.W.Frag} {mg : Str → Option Value} {base : Heap}
theorem ok_pickS {f : Addr} {fd : FuncData} (F : Fun K "_law_pick" "_law_pick" s_lpick f fd) (T : Tx mg) (c_ldraw : Kn P w K mg base "_law_draw" ["_law_pen_here", "_law_many"] 1 spDraw) : FnOk P w K mg base CX0 2 f fd ["_law_pen_here", "_law_some"] spPickS := by
  refine F.ok sc_lpick (fun vs H Q E h => ?_) (fun cdv A outer s H vs Q E hr h => ?_)
  · obtain ⟨p, H0, n, z, rfl, _⟩ := h
    rfl
  · obtain ⟨p, H0, n, z, rfl, P0, hn, hz0, hz1, q⟩ := h
    have ez : z.length = z.cps.toList.length := by simp [Str.length]
    refine ⟨_, (pss_one (ps_ret (pe_ix ix_str (pv 1) (pe_call c_ldraw.ok (hr.mono (by decide)) (by rfl) c_ldraw.g c_ldraw.kp c_ldraw.b .nil pass0 (pa_cons (pv 0) (pa_cons (pe_callB call_len_str (by rfl) T.len PySem.boot_len (pa_cons (pv 1) pa_nil)) pa_nil))) (fun _ _ => rfl)))), ?_⟩
    refine ⟨_, rfl, _, rfl, _, rfl, z, rfl, sz_le hz1, p, H0, n, _, rfl, P0, hn, by omega, by omega, fun H' r P1 r0 r1 => ?_⟩
    obtain ⟨c, hc, ha⟩ := at_draw (xs := z.cps.toList) r0 (by rw [← ez]; exact r1)
    exact ⟨z, r, c, rfl, rfl, sz_le hz1, ha, q _ _ P1 hc⟩
theorem ok_pickL {f : Addr} {fd : FuncData} (F : Fun K "_law_pick" "_law_pick" s_lpick f fd) (T : Tx mg) (c_ldraw : Kn P w K mg base "_law_draw" ["_law_pen_here", "_law_many"] 1 spDraw) : FnOk P w K mg base CX0 2 f fd ["_law_pen_here", "_law_some"] spPickL := by
  refine F.ok sc_lpick (fun vs H Q E h => ?_) (fun cdv A outer s H vs Q E hr h => ?_)
  · obtain ⟨p, H0, a, n, xs, rfl, _⟩ := h
    rfl
  · obtain ⟨p, H0, a, n, xs, rfl, P0, hn, hx, hz0, hz1, q⟩ := h
    refine ⟨_, (pss_one (ps_ret (pe_ix ix_list (pv 1) (pe_call c_ldraw.ok (hr.mono (by decide)) (by rfl) c_ldraw.g c_ldraw.kp c_ldraw.b .nil pass0 (pa_cons (pv 0) (pa_cons (pe_callB call_len_seq (by rfl) T.len PySem.boot_len (pa_cons (pv 1) pa_nil)) pa_nil))) (fun _ _ => rfl)))), ?_⟩
    refine ⟨_, rfl, _, rfl, _, rfl, a, xs, rfl, .inl (sq_of hx), p, upd H0 a (.lst xs), n, _, rfl, P0.keep hx (P0.lst_ne hx), hn, by omega, by omega, fun H' r P1 r0 r1 => ?_⟩
    obtain ⟨v, hv, ha⟩ := at_draw (xs := xs) r0 r1
    exact ⟨a, xs, r, v, rfl, rfl, sq_of (P1.1 _ _ upd_same), ha, q _ _ (P0.drop hx P1) hv⟩
end
end Law

namespace Law
open PySem PySem.Spec PyProof.Rows L2 Evl
def sg (c : Nat) : Str := ⟨#[c]⟩
def tx (l : List Nat) : Str := ⟨l.toArray⟩
theorem tx_len (l : List Nat) : (tx l).length = l.length := by simp [tx, Str.length]
theorem tx_list (l : List Nat) : (tx l).cps.toList = l := rfl
theorem tx_of (z : Str) : tx z.cps.toList = z := TL.ext_tl rfl
theorem sg_len (c : Nat) : (sg c).length = 1 := rfl
theorem joinL_nil : ∀ cs : List Nat, TL.joinL [] (cs.map fun c => [c]) = cs
  | [] => rfl
  | [c] => rfl
  | c :: d :: r => by
    show [c] ++ ([] ++ TL.joinL [] ((d :: r).map fun c => [c])) = c :: d :: r
    rw [joinL_nil (d :: r)]
    rfl
theorem join_sg (cs : List Nat) : Txt.join (Str.ofString "") (cs.map sg) = tx cs := by
  refine TL.ext_tl ?_
  rw [TL.join_eq, TL.tl_join, List.map_map, show TL.tl (Str.ofString "") = [] by decide +kernel]
  exact joinL_nil cs
theorem join_size (cs : List Nat) : ((cs.map sg).map (·.length)).sum = cs.length := by
  induction cs with
  | nil => rfl
  | cons c r ih =>
    show 1 + ((r.map sg).map (·.length)).sum = r.length + 1
    rw [ih, Nat.add_comm]
/-- the signs joined -/
theorem join_done {K : PySem.W.Frag} {H : Hp} {D : Addr} {cs : List Nat} {Q : VK} (hD : H D = some (.lst ((cs.map sg).map V.str))) (hl : cs.length ≤ 1000000) (q : Q (.str (tx cs)) H) :
    ∃ (a : Str) (p : Addr), ∃ ys : List Str, V.str (Str.ofString "") = .str a ∧ [V.ref D] = [.ref p] ∧ (SqL K H p (ys.map V.str) ∨ SqT K H p (ys.map V.str)) ∧ (ys.map (·.length)).sum + ys.length * a.length ≤ 16777216 ∧ Q (.str (Txt.join a ys)) H := by
  refine ⟨_, D, cs.map sg, rfl, rfl, .inl (sq_of hD), ?_, ?_⟩
  · rw [join_size, show (Str.ofString "").length = 0 from rfl]
    omega
  · rw [join_sg]
    exact q
def lets (f p n : Nat) : List Nat := (List.range n).map fun k => 97 + (f + p * k) % 26
def paces : List Nat := [1, 3, 5, 7, 9, 11, 15, 17, 19, 21, 23, 25]
def spLetters : Sp := fun vs H Q _ => ∃ (p : PenI) (H0 : Hp) (n : Nat), vs = [.ref p.d] ∧ PenAt p H0 H n ∧ n < 900000 ∧ ∀ H' f q m, PenAt p H0 H' (n + 3) → f < 26 → q ∈ paces → 2 ≤ m → m ≤ 4 → Q (.str (tx (lets f q m))) H'
theorem abc_at (r : Int) : ∃ c, atI (Str.ofString "abcdefghijklmnopqrstuvwxyz").cps.toList (r % 26) = some c ∧ c = 97 + (r % 26).toNat := by
  have h0 : 0 ≤ r % 26 := Int.emod_nonneg _ (by decide)
  have h1 : r % 26 < 26 := Int.emod_lt_of_pos _ (by decide)
  generalize hi : (r % 26) = i at h0 h1
  obtain ⟨j, rfl⟩ : ∃ j : Nat, i = (j : Int) := ⟨i.toNat, (Int.toNat_of_nonneg h0).symm⟩
  have hj : j < 26 := by omega
  have key : ∀ j : Nat, j < 26 → (Str.ofString "abcdefghijklmnopqrstuvwxyz").cps.toList[j]? = some (97 + j) := by decide +kernel
  exact ⟨97 + j, atI_nat (key j hj), by simp⟩
theorem paces_le : ∀ x ∈ paces, x ≤ 25 := by decide
theorem lets_succ (f p n : Nat) : lets f p (n + 1) = lets f p n ++ [97 + (f + p * n) % 26] := by
  unfold lets
  rw [List.range_succ, List.map_append]
  rfl
theorem lets_len (f p n : Nat) : (lets f p n).length = n := by
  unfold lets
  rw [List.length_map, List.length_range]
theorem sg_snoc (cs : List Nat) (c : Nat) : ((cs.map sg).map V.str) ++ [.str (sg c)] = ((cs ++ [c]).map sg).map V.str := by
  rw [List.map_append, List.map_append]
  rfl
theorem fresh0 {p : PenI} {H0 H : Hp} {n : Nat} {a : Addr} (P : PenAt p H0 H n) (h : H a = none) : H0 a = none := fresh_back P.1 h
theorem fresh_ne {p : PenI} {H0 H : Hp} {n : Nat} {a : Addr} (P : PenAt p H0 H n) (h : H a = none) : a ≠ p.d := by
  obtain ⟨kvs, h2⟩ := P.dict
  intro e
  rw [e, h2] at h
  cases h
section
variable {P : Program} {w : World} {K : PySem.W.Frag} {mg : Str → Option Value} {base : Heap}
theorem ok_letters {f : Addr} {fd : FuncData} (F : Fun K "_law_letters" "_law_letters" s_lletters f fd) (T : Tx mg) (c_ldraw : Kn P w K mg base "_law_draw" ["_law_pen_here", "_law_many"] 1 spDraw)
    (c_pickL : Kn P w K mg base "_law_pick" ["_law_pen_here", "_law_some"] 2 spPickL) : FnOk P w K mg base CX0 3 f fd ["_law_pen_here"] spLetters := by
  refine F.ok sc_lletters (fun vs H Q E h => ?_) (fun cdv A outer s H vs Q E hr h => ?_)
  · obtain ⟨p, H0, n, rfl, _⟩ := h
    rfl
  · obtain ⟨p, H0, n, rfl, P0, hn, q⟩ := h
    refine ⟨_, (pss_cons (ps_asg (pe_tup (pa_cons pe_str (pa_cons (pe_call c_ldraw.ok (hr.mono (by decide)) (by rfl) c_ldraw.g c_ldraw.kp c_ldraw.b .nil pass0 (pa_cons (pv 0) (pa_cons pe_int pa_nil))) pa_nil))) (pg_tup (by rfl) (pgs_cons (pg_name (i := 1) sc_lletters.nd rfl (Or.inr rfl)) (pgs_cons (pg_name (i := 2) sc_lletters.nd rfl (Or.inr rfl)) pgs_nil))))
      (pss_cons (ps_set (i := 3) sc_lletters.nd rfl (Or.inr rfl) (pe_call c_pickL.ok (hr.mono (by decide)) (by rfl) c_pickL.g c_pickL.kp c_pickL.b .nil pass0 (pa_cons (pv 0) (pa_cons (pe_lst (pa_cons pe_int (pa_cons pe_int (pa_cons pe_int (pa_cons pe_int (pa_cons pe_int (pa_cons pe_int (pa_cons pe_int (pa_cons pe_int (pa_cons pe_int (pa_cons pe_int (pa_cons pe_int (pa_cons pe_int pa_nil))))))))))))) pa_nil))))
      (pss_one (ps_ret (pe_join pe_str (pe_lc (own := [("_law_k", 4)]) (g := gName 4) (tt := tYes) rfl sc_lletters.nd (pi_range1 (by rfl) T.range (pa_cons (pe_op op_add pe_int (pe_call c_ldraw.ok (hr.mono (by decide)) (by rfl) c_ldraw.g c_ldraw.kp c_ldraw.b .nil pass0 (pa_cons (pv 0) (pa_cons pe_int pa_nil)))) pa_nil)) (blkOk_by (N := N_lletters) (sc := defScope s_lletters) (by decide +kernel)) (fun _ _ _ _ _ => (pg_name (i := 4) sc_lletters.nd rfl (Or.inl rfl))) (fun _ _ _ _ _ => pts_nil) (fun _ _ _ _ _ => (pe_ix ix_str (pv 1) (pe_op op_mod (pe_callTy call_int1 (by rfl) T.int PyProof.Rows.boot_int (pa_cons (pe_op op_add (pv 2) (pe_op op_mul (pv 3) (pv 4))) pa_nil)) pe_int) (fun _ _ => rfl))))))))), ?_⟩
    refine ⟨_, rfl, p, H0, n, 26, rfl, P0, by omega, by decide, by decide, fun H1 r P1 r0 r1 => ⟨by show 2 ≤ sizeLine; decide, fun t ht => ?_⟩⟩
    refine ⟨t, _, rfl, .inl (.inl upd_same), rfl, _, _, rfl, _, _, rfl, rfl, ?_⟩
    have P2 := P1.ex (Ex.new (o := .tup [V.str (Str.ofString "abcdefghijklmnopqrstuvwxyz"), V.int r]) ht)
    generalize (upd H1 t (.tup [V.str (Str.ofString "abcdefghijklmnopqrstuvwxyz"), V.int r])) = H2 at P2 ⊢
    refine ⟨_, rfl, by show 12 ≤ sizeLine; decide, fun l hl => ⟨p, H0, l, n + 1, _, rfl, P2.ex (Ex.new hl), by omega, upd_same, by show 0 < 12; decide, by show 12 < 1000; decide, fun H3 v P3 hv => ?_⟩⟩
    obtain ⟨pc, hpc, rfl⟩ : ∃ pc : Nat, pc ∈ paces ∧ v = .int pc := by
      have hv2 : v ∈ paces.map fun pc => V.int ((pc : Nat) : Int) := hv
      obtain ⟨x, h1, h2⟩ := List.mem_map.mp hv2
      exact ⟨x, h1, h2.symm⟩
    refine ⟨⟨_, rfl⟩, _, rfl, p, H0, n + 2, 3, rfl, P3, by omega, by decide, by decide, fun H4 r2 P4 s0 s1 => ⟨_, _, rfl, rfl, _, rfl, by omega, by omega, fun D hD => ?_⟩⟩
    obtain ⟨m, hm⟩ : ∃ m : Nat, (2 + r2).toNat = m := ⟨_, rfl⟩
    obtain ⟨fr, rfl⟩ : ∃ fr : Nat, r = (fr : Int) := ⟨r.toNat, (Int.toNat_of_nonneg r0).symm⟩
    rw [hm]
    have pc1 := paces_le pc hpc
    have d0 := fresh0 P4 hD
    have d1 := fresh_ne P4 hD
    refine lc_range (lo := 0) (n := m) (fun i H => PenAt p H0 H (n + 3) ∧ H D = some (.lst (((lets fr pc i).map sg).map V.str))) ⟨(P4.upd d0 d1).le (by omega), upd_same⟩ (fun i H hi hw => ?_) (fun H hw => ?_)
    · refine ⟨rfl, _, rfl, _, rfl, _, rfl, _, rfl, _, _, rfl, rfl, .inl ⟨by omega, by omega⟩, _, _, rfl, rfl, .inl ⟨_, rfl, _, _, rfl, rfl, (by show (0 : Int) < 26; decide), ?_⟩⟩
      obtain ⟨c, hc1, hc2⟩ := abc_at ((fr : Int) + (pc : Int) * ((0 : Int) + (i : Int)))
      refine ⟨_, _, c, rfl, rfl, by decide +kernel, hc1, _, hw.2, ?_, hw.1.upd d0 d1, ?_⟩
      · rw [List.length_map, List.length_map, lets_len]
        exact Nat.lt_of_lt_of_le (show i < 100 by omega) (by decide)
      · rw [upd_same]
        refine congrArg (fun l => some (HO.lst l)) ?_
        rw [lets_succ, ← sg_snoc]
        have e : c = 97 + (fr + pc * i) % 26 := by
          rw [hc2]
          have e1 : ((fr : Int) + (pc : Int) * ((0 : Int) + (i : Int))) = ((fr + pc * i : Nat) : Int) := by
            rw [Int.zero_add]
            simp
          rw [e1]
          omega
        rw [e]
        rfl
    · exact join_done hw.2 (by unfold lets; rw [List.length_map, List.length_range]; omega) (q _ _ _ _ hw.1 (by omega) hpc (by omega) (by omega))
end
end Law

namespace Law
open PySem PySem.Spec PyProof.Rows L2 Evl TR
theorem fold_app (l : List (Array Nat)) : ∀ a : Array Nat, (l.foldl (· ++ ·) a).toList = a.toList ++ (l.map Array.toList).flatten := by
  induction l with
  | nil => intro a; simp
  | cons x r ih =>
    intro a
    rw [List.foldl_cons, ih, List.map_cons, List.flatten_cons, Array.toList_append, List.append_assoc]
theorem mul_tx (l : List Nat) {n : Int} (h : 1 ≤ n) : Txt.mul (tx l) n = tx (List.replicate n.toNat l).flatten := by
  refine TL.ext_tl ?_
  unfold Txt.mul
  rw [if_neg (by omega)]
  by_cases q : (n == 1 || (tx l).length == 0) = true
  · rw [if_pos q]
    rw [Bool.or_eq_true, beq_iff_eq, beq_iff_eq] at q
    rcases q with q | q
    · subst q
      show l = (List.replicate 1 l).flatten
      simp
    · rw [tx_len] at q
      have e : l = [] := List.length_eq_zero_iff.mp q
      subst e
      show ([] : List Nat) = (List.replicate n.toNat []).flatten
      simp
  · rw [if_neg q]
    show (List.foldl (· ++ ·) #[] (List.replicate n.toNat (tx l).cps)).toList = (List.replicate n.toNat l).flatten
    rw [fold_app, List.map_replicate]
    rfl
theorem rep_len (n : Nat) (l : List Nat) : (List.replicate n l).flatten.length = n * l.length := by
  induction n with
  | zero => simp
  | succ k ih => rw [List.replicate_succ, List.flatten_cons, List.length_append, ih, Nat.succ_mul, Nat.add_comm]
theorem cut_to (l : List Nat) (k : Nat) : cutS (tx l) none (some (k : Int)) = tx (l.take k) := by
  refine TL.ext_tl ?_
  show (List.take _ (List.drop _ l)) = l.take k
  rw [HT.sIx_none, HT.sIx_nat, tx_len, Nat.sub_zero, List.drop_zero]
  rw [List.take_eq_take_iff]
  omega
theorem cut_from (l : List Nat) (k : Nat) : cutS (tx l) (some (k : Int)) none = tx (l.drop k) := by
  refine TL.ext_tl ?_
  show (List.take _ (List.drop _ l)) = l.drop k
  rw [HT.sIx_none, HT.sIx_nat, tx_len]
  by_cases h : k ≤ l.length
  · rw [Nat.min_eq_left h, List.take_of_length_le (by rw [List.length_drop]; omega)]
  · rw [Nat.min_eq_right (by omega), Nat.sub_self, List.take_zero, List.drop_eq_nil_of_le (by omega)]
theorem cut_mid (l : List Nat) (a b : Nat) : cutS (tx l) (some (a : Int)) (some ((a : Int) + (b : Int))) = tx ((l.drop a).take b) := by
  refine TL.ext_tl ?_
  show (List.take _ (List.drop _ l)) = (l.drop a).take b
  rw [show (a : Int) + (b : Int) = ((a + b : Nat) : Int) by omega, HT.sIx_nat, HT.sIx_nat, tx_len]
  by_cases h : a ≤ l.length
  · rw [Nat.min_eq_left h, List.take_eq_take_iff, List.length_drop]
    omega
  · have x1 : min a l.length = l.length := by omega
    have x2 : min (a + b) l.length = l.length := by omega
    rw [x1, x2, List.drop_length, List.drop_eq_nil_of_le (show l.length ≤ a by omega), List.take_nil, List.take_nil]
theorem join_bound (cs : List Nat) (h : cs.length ≤ 1000000) : ((cs.map sg).map (·.length)).sum + (cs.map sg).length * (Str.ofString "").length ≤ 16777216 := by
  rw [join_size, show (Str.ofString "").length = 0 from rfl]
  omega
theorem tx_le {l : List Nat} (h : l.length < 1000) : (tx l).length ≤ sizeLine := by
  rw [tx_len]
  exact sz_le h
theorem sg_tx (c : Nat) : sg c = tx [c] := rfl
theorem mem_rep {n : Nat} {l : List Nat} {c : Nat} (h : c ∈ (List.replicate n l).flatten) : c ∈ l := by
  obtain ⟨m, hm, hc⟩ := List.mem_flatten.mp h
  rw [List.eq_of_mem_replicate hm] at hc
  exact hc
theorem tx_app (l m : List Nat) : tx l ++ tx m = tx (l ++ m) := by
  refine TL.ext_tl ?_
  rw [TL.tl_append]
  rfl
theorem sgs_of (l : List Nat) : ST.signsOf (tx l) = l.map sg := rfl
theorem tx_size (l : List Nat) : (tx l).cps.size = l.length := by simp [tx]
theorem tx_at {l : List Nat} {i c : Nat} (h : (tx l).cps[i]? = some c) : l[i]? = some c := by
  rw [← h]
  simp [tx]
theorem sg_inj2 {c d : Nat} (h : sg c = sg d) : c = d := by
  have h2 : (sg c).cps.toList = (sg d).cps.toList := by rw [h]
  exact List.head_eq_of_cons_eq h2
theorem dct_nodup {l : List Nat} (h : l.Nodup) : ∀ i, i ≤ l.length → ST.dct (l.map sg) i = i
  | 0, _ => rfl
  | i + 1, hi => by
    have ih := dct_nodup h i (by omega)
    unfold ST.dct
    have hno : (((l.map sg).take i).any (· == (l.map sg).getD i Str.empty)) = false := by
      rw [Bool.eq_false_iff]
      intro q
      rw [List.any_eq_true] at q
      obtain ⟨x, hx, he⟩ := q
      rw [beq_iff_eq] at he
      have hi2 : i < l.length := by omega
      have e1 : (l.map sg).getD i Str.empty = sg l[i] := by
        rw [List.getD_eq_getElem?_getD, List.getElem?_map, List.getElem?_eq_getElem hi2]
        rfl
      rw [e1] at he
      obtain ⟨j, hj, ej⟩ := List.mem_iff_getElem.mp hx
      rw [List.length_take, List.length_map] at hj
      have ej2 : sg (l[j]'(by omega)) = x := by
        rw [← ej, List.getElem_take, List.getElem_map]
      have e2 : l[j]'(by omega) = l[i] := sg_inj2 (ej2.trans he)
      exact List.pairwise_iff_getElem.mp h j i (by omega) hi2 (by omega) e2
    rw [hno]
    show (if false = true then _ else _) = i + 1
    rw [if_neg (by decide), ih]
/-- letters: two to four different small ones -/
structure LG (l : List Nat) : Prop where
  lo : 2 ≤ l.length
  hi : l.length ≤ 4
  az : ∀ c ∈ l, 97 ≤ c ∧ c ≤ 122
  nd : l.Nodup
theorem lets_good {f p m : Nat} (hf : f < 26) (hp : p ∈ paces) (h1 : 2 ≤ m) (h2 : m ≤ 4) : LG (lets f p m) := by
  refine ⟨by rw [lets_len]; exact h1, by rw [lets_len]; exact h2, fun c hc => ?_, ?_⟩
  · unfold lets at hc
    obtain ⟨k, _, rfl⟩ := List.mem_map.mp hc
    omega
  · have key : ∀ f : Nat, f < 26 → ∀ p ∈ paces, (lets f p 2).Nodup ∧ (lets f p 3).Nodup ∧ (lets f p 4).Nodup := by decide +kernel
    obtain ⟨a, b, c⟩ := key f hf p hp
    have hm : m = 2 ∨ m = 3 ∨ m = 4 := by omega
    rcases hm with rfl | rfl | rfl <;> assumption
def spAreL : Sp := fun vs H Q _ => ∃ L : List Nat, vs = [.str (tx L)] ∧ LG L ∧ ∀ H', Ex H H' → Q (.bl true) H'
theorem kit_lt {K : PySem.W.Frag} : PySem.W.kitAny K (.type "list") [.type "list", .type "tuple"] = some true :=
  kitAny_cons (b := true) (kit_ty (by decide +kernel)) (fun h => by cases h) fun _ => rfl
theorem kit_tt {K : PySem.W.Frag} : PySem.W.kitAny K (.type "tuple") [.type "list", .type "tuple"] = some true :=
  kitAny_cons (b := false) (kit_ty (by decide +kernel)) (fun _ => kitAny_cons (b := true) (kit_ty (by decide +kernel)) (fun h => by cases h) fun _ => rfl) fun h => by cases h
theorem kit_ss {K : PySem.W.Frag} : PySem.W.kitOne K (.type "str") (.type "str") = some true := kit_ty (by decide +kernel)
theorem kit_ii {K : PySem.W.Frag} : PySem.W.kitOne K (.type "int") (.type "int") = some true := kit_ty (by decide +kernel)
theorem kit_ib {K : PySem.W.Frag} : PySem.W.kitOne K (.type "int") (.type "bool") = some false := kit_ty (by decide +kernel)
def spIsQ : Sp := fun vs H Q _ => ∃ (a : Addr) (k : Bool) (xs : List V), vs = [.ref a] ∧ H a = some (ob k xs) ∧ ∀ H', Ex H H' → Q (.bl true) H'
def spIsInt : Sp := fun vs H Q _ => ∃ v : Int, vs = [.int v] ∧ ∀ H', Ex H H' → Q (.bl true) H'
def spWhole : Sp := fun vs H Q _ => ∃ v lo hi : Int, vs = [.int v, .int lo, .int hi] ∧ lo ≤ v ∧ v ≤ hi ∧ ∀ H', Ex H H' → Q (.bl true) H'
def spIsPart : Sp := fun vs H Q _ => ∃ (t : Tr) (v : V) (k : Bool) (L : List Nat) (w n : Nat), vs = [v, .str (tx L), .int (w : Int), .int (n : Int)] ∧ TA k H v t ∧ t.ok L.length w n ∧ L.length ≤ 10 ∧ ∀ H', Ex H H' → Q (.bl true) H'
def spWithin : Sp := fun vs H Q _ => ∃ (t : Tr) (v : V) (k : Bool) (H0 : Hp), vs = [v] ∧ TA k H0 v t ∧ Ex H0 H ∧ ∀ r H' us, Ex H H' → H r = none → H' r = some (.lst us) → Kids k H0 us t.kids → Q (.ref r) H'
theorem go_ne_read : ¬ (V.str (Str.ofString "go") = V.str (Str.ofString "read")) := fun h => absurd (V.str.inj h) (by decide +kernel)
theorem go_ne_tell : ¬ (V.str (Str.ofString "go") = V.str (Str.ofString "tell")) := fun h => absurd (V.str.inj h) (by decide +kernel)
theorem tell_ne_read : ¬ (V.str (Str.ofString "tell") = V.str (Str.ofString "read")) := fun h => absurd (V.str.inj h) (by decide +kernel)
theorem tell_ne_go : ¬ (V.str (Str.ofString "tell") = V.str (Str.ofString "go")) := fun h => absurd (V.str.inj h) (by decide +kernel)
theorem read_ne_go : ¬ (V.str (Str.ofString "read") = V.str (Str.ofString "go")) := fun h => absurd (V.str.inj h) (by decide +kernel)
theorem read_ne_tell : ¬ (V.str (Str.ofString "read") = V.str (Str.ofString "tell")) := fun h => absurd (V.str.inj h) (by decide +kernel)
theorem iteD {c A B : Prop} [Decidable c] (hc : c) (h : A) : if decide c = true then A else B := by
  rw [if_pos (decide_eq_true hc)]
  exact h
theorem iteDn {c A B : Prop} [Decidable c] (hc : ¬ c) (h : B) : if decide c = true then A else B := by
  rw [if_neg (by rw [decide_eq_true_eq]; exact hc)]
  exact h
section
variable {P : Program} {w : World} {K : PySem.W.Frag} {mg : Str → Option Value} {base : Heap}
theorem ok_isQ {f : Addr} {fd : FuncData} (F : Fun K "is_list" "is_list" s_is_list f fd) (T : Tx mg) : FnOk P w K mg base CX0 1 f fd ["value"] spIsQ := by
  refine F.ok sc_is_list (fun vs H Q E h => ?_) (fun cdv A outer s H vs Q E hr h => ?_)
  · obtain ⟨a, k, xs, rfl, _⟩ := h
    rfl
  · obtain ⟨a, k, xs, rfl, ha, q⟩ := h
    refine ⟨_, (pss_one (ps_ret (pe_callB call_isiT (by rfl) T.isinstance PyProof.Rows.boot_isinstance (pa_cons (pv 0) (pa_cons (pe_tup (pa_cons (pe_bltn (v := .ty "list") (by rfl) T.list PyProof.Rows.boot_list rfl) (pa_cons (pe_bltn (v := .ty "tuple") (by rfl) T.tuple PyProof.Rows.boot_tuple rfl) pa_nil))) pa_nil))))), ?_⟩
    refine ⟨_, rfl, by show 2 ≤ sizeLine; decide, fun t ht => ?_⟩
    cases k
    · exact ⟨_, t, _, _, _, true, rfl, upd_same, .cons (.ty _) (.cons (.ty _) .nil), .base (.lst (Ex.new ht _ _ ha)), kit_lt, q _ (Ex.new ht)⟩
    · exact ⟨_, t, _, _, _, true, rfl, upd_same, .cons (.ty _) (.cons (.ty _) .nil), .base (.tup (Ex.new ht _ _ ha)), kit_tt, q _ (Ex.new ht)⟩
theorem ok_integer {f : Addr} {fd : FuncData} (F : Fun K "is_integer" "is_integer" s_is_integer f fd) (T : Tx mg) : FnOk P w K mg base CX0 1 f fd ["value"] spIsInt := by
  refine F.ok sc_is_integer (fun vs H Q E h => ?_) (fun cdv A outer s H vs Q E hr h => ?_)
  · obtain ⟨v, rfl, _⟩ := h
    rfl
  · obtain ⟨v, rfl, q⟩ := h
    refine ⟨_, (pss_one (ps_ret (pe_and (pe_callB call_isi (by rfl) T.isinstance PyProof.Rows.boot_isinstance (pa_cons (pv 0) (pa_cons (pe_bltn (v := .ty "int") (by rfl) T.int PyProof.Rows.boot_int rfl) pa_nil))) (pe_one (pe_not (pe_callB call_isi (by rfl) T.isinstance PyProof.Rows.boot_isinstance (pa_cons (pv 0) (pa_cons (pe_bltn (v := .ty "bool") (by rfl) T.bool PyProof.Rows.boot_bool rfl) pa_nil)))))))), ?_⟩
    refine ⟨_, rfl, _, _, _, _, true, rfl, .ty _, .base (.int _), kit_ii, true, rfl, ?_⟩
    exact ⟨_, rfl, _, _, _, _, false, rfl, .ty _, .base (.int _), kit_ib, false, rfl, q H (Ex.refl _)⟩
theorem ok_whole {f : Addr} {fd : FuncData} (F : Fun K "is_whole" "is_whole" s_is_whole f fd) (T : Tx mg) (c_is_integer : Kn P w K mg base "is_integer" ["value"] 1 spIsInt) : FnOk P w K mg base CX0 2 f fd ["value", "low", "high"] spWhole := by
  refine F.ok sc_is_whole (fun vs H Q E h => ?_) (fun cdv A outer s H vs Q E hr h => ?_)
  · obtain ⟨v, lo, hi, rfl, _⟩ := h
    rfl
  · obtain ⟨v, lo, hi, rfl, h1, h2, q⟩ := h
    refine ⟨_, (pss_one (ps_ret (pe_and (pe_call c_is_integer.ok (hr.mono (by decide)) (by rfl) c_is_integer.g c_is_integer.kp c_is_integer.b .nil pass0 (pa_cons (pv 0) pa_nil)) (pe_one (pe_chain op_le op_le (pv 1) (pv 0) (pv 2)))))), ?_⟩
    refine ⟨_, rfl, v, rfl, fun H' e => ⟨true, rfl, ?_⟩⟩
    refine ⟨_, rfl, _, rfl, _, _, rfl, rfl, _, rfl, iteD h1 ⟨_, rfl, _, _, rfl, rfl, ?_⟩⟩
    have q2 := q H' e
    show Q (V.bl (decide (v ≤ hi))) H'
    rw [decide_eq_true h2]
    exact q2
theorem le_a {c : Nat} (h : 97 ≤ c) : (!decide ((sg c).cps.toList < (Str.ofString "a").cps.toList)) = true := by
  rw [show (Str.ofString "a").cps.toList = [97] by decide +kernel, show (sg c).cps.toList = [c] from rfl]
  rw [decide_eq_false]
  · rfl
  · intro q
    rw [List.cons_lt_cons_iff] at q
    rcases q with q | ⟨_, q⟩
    · omega
    · exact absurd q (by simp)
theorem le_z {c : Nat} (h : c ≤ 122) : (!decide ((Str.ofString "z").cps.toList < (sg c).cps.toList)) = true := by
  rw [show (Str.ofString "z").cps.toList = [122] by decide +kernel, show (sg c).cps.toList = [c] from rfl]
  rw [decide_eq_false]
  · rfl
  · intro q
    rw [List.cons_lt_cons_iff] at q
    rcases q with q | ⟨_, q⟩
    · omega
    · exact absurd q (by simp)
theorem lc_str {x : Str} {g : TG} {tt : TT} {te : TE} {vs : List Nat} {σ : L2.St} {H1 : Hp} {D : Addr} {Qd : Hp → Prop} (Pv : Nat → Hp → Prop) (h0 : Pv 0 (upd H1 D (.lst [])))
    (hs : ∀ i c H, x.cps[i]? = some c → Pv i H → g (.str ⟨#[c]⟩) (wipe σ vs) H fun σ2 H2 => wipe σ2 vs = wipe σ vs ∧ tt σ2 H2 fun b H3 =>
      if b = true then te σ2 H3 fun z H4 => ∃ acc, H4 D = some (.lst acc) ∧ acc.length < sizeLine ∧ Pv (i + 1) (upd H4 D (.lst (acc ++ [z]))) else Pv (i + 1) H3) (hd : ∀ H, Pv x.cps.size H → Qd H) :
    ∃ W : Nat → Nat → Hp → Prop, (∃ m, W 0 m (upd H1 D (.lst []))) ∧ ∀ i m H, W i m H →
      ((Its x).stop i H ∧ Qd H) ∨ ((Its x).go i H ∧ ∃ Nx : Hp → Prop, (∀ H', Nx H' → ∃ m', m' < m ∧ W (i + 1) m' H') ∧ ∀ v H', (Its x).yld i H v H' → g v (wipe σ vs) H' fun σ2 H2 => wipe σ2 vs = wipe σ vs ∧ tt σ2 H2 fun b H3 =>
        if b = true then te σ2 H3 fun z H4 => ∃ acc, H4 D = some (.lst acc) ∧ acc.length < sizeLine ∧ Nx (upd H4 D (.lst (acc ++ [z]))) else Nx H3) := by
  refine ⟨fun i m H => i + m = x.cps.size ∧ Pv i H, ⟨_, Nat.zero_add _, h0⟩, ?_⟩
  rintro i m H ⟨e, p⟩
  by_cases hm : m = 0
  · have e2 : i = x.cps.size := by omega
    refine .inl ⟨by show x.cps.size ≤ i; omega, hd H ?_⟩
    rw [← e2]
    exact p
  · refine .inr ⟨by show i < x.cps.size; omega, Pv (i + 1), fun H' p' => ⟨m - 1, by omega, by omega, p'⟩, ?_⟩
    rintro v H' ⟨rfl, c, hc, rfl⟩
    exact hs i c _ hc p
theorem bl_snoc' (bs : List Bool) (b : Bool) : bs.map V.bl ++ [.bl b] = (bs ++ [b]).map V.bl := by
  rw [List.map_append]
  rfl
theorem all_yes (n : Nat) : (List.replicate n true).all id = true := by
  rw [List.all_eq_true]
  intro x hx
  rw [List.eq_of_mem_replicate hx]
  rfl
theorem ok_areL {f : Addr} {fd : FuncData} (F : Fun K "are_letters" "are_letters" s_are_letters f fd) (T : Tx mg) : FnOk P w K mg base CX0 1 f fd ["value"] spAreL := by
  refine F.ok sc_are_letters (fun vs H Q E h => ?_) (fun cdv A outer s H vs Q E hr h => ?_)
  · obtain ⟨L, rfl, _⟩ := h
    rfl
  · obtain ⟨L, rfl, hL, q⟩ := h
    have h1 := hL.lo
    have h2 := hL.hi
    refine ⟨_, (pss_cons (ps_if (PW.pt (pw_or (pt_not (pt_val (pe_callB call_isi (by rfl) T.isinstance PyProof.Rows.boot_isinstance (pa_cons (pv 0) (pa_cons (pe_bltn (v := .ty "str") (by rfl) T.str PyProof.Rows.boot_str rfl) pa_nil))))) (pw_or1 (pt_not (pt_chain op_le op_le pe_int (pe_callB call_len_str (by rfl) T.len PySem.boot_len (pa_cons (pv 0) pa_nil)) pe_int))))) (pss_one (ps_ret pe_bl)) pss_nil)
      (pss_one (ps_ret (pe_and (pe_callB (cr_all rfl) (by rfl) T.all PyProof.Rows.boot_all (pa_cons (pe_lc (own := [("sign", 1)]) (g := gName 1) (tt := tYes) rfl sc_are_letters.nd (pi_str (pv 0)) (blkOk_by (N := N_are_letters) (sc := defScope s_are_letters) (by decide +kernel)) (fun _ _ _ _ _ => (pg_name (i := 1) sc_are_letters.nd rfl (Or.inl rfl))) (fun _ _ _ _ _ => pts_nil) (fun _ _ _ _ _ => (pe_chain op_le_str op_le_str pe_str (pv 1) pe_str))) pa_nil)) (pe_one (pe_cmpR op_eq (EN.pe_lenSetS rfl (by rfl) T.len (by rfl) T.set (pv 0)) (pe_callB call_len_str (by rfl) T.len PySem.boot_len (pa_cons (pv 0) pa_nil)) (nomark _))))))), ?_⟩
    refine ⟨_, rfl, _, _, _, _, true, rfl, .ty _, .base (.str _), kit_ss, true, rfl, ?_⟩
    refine ⟨_, rfl, _, rfl, tx_le (by omega), _, _, rfl, rfl, _, rfl, ite2 (fun _ => ?_) (fun hn => absurd (decide_eq_true (by rw [tx_len]; omega)) hn)⟩
    refine ⟨_, _, rfl, rfl, _, rfl, ite2 (fun hb => ?_) (fun _ => ?_)⟩
    · rw [tx_len, decide_eq_true (by omega)] at hb
      cases hb
    refine ⟨_, rfl, _, rfl, fun D hD => ?_⟩
    refine lc_str (x := tx L) (fun i H' => Ex H H' ∧ H' D = some (.lst ((List.replicate i true).map V.bl))) ⟨Ex.new hD, upd_same⟩ (fun i c H' hic hw => ?_) (fun H' hw => ?_)
    · obtain ⟨e, hl⟩ := hw
      have hc := tx_at hic
      have az := hL.az c (List.mem_of_getElem? hc)
      have hi := (List.getElem?_eq_some_iff.mp hc).1
      refine ⟨rfl, _, rfl, _, _, rfl, rfl, _, rfl, ite2 (fun _ => ?_) (fun hn => absurd (le_a az.1) hn)⟩
      refine ⟨_, _, rfl, rfl, _, hl, ?_, e.mut hD, ?_⟩
      · rw [List.length_map, List.length_replicate]
        exact sz_lt (by omega)
      · rw [upd_same]
        refine congrArg (fun l => some (HO.lst l)) ?_
        show (List.replicate i true).map V.bl ++ [V.bl (!decide ((Str.ofString "z").cps.toList < (sg c).cps.toList))] = _
        rw [le_z az.2, bl_snoc', List.replicate_succ']
    · obtain ⟨e, hl⟩ := hw
      refine ⟨D, _, rfl, sq_of hl, _, rfl, ?_⟩
      rw [all_yes]
      refine ⟨_, rfl, _, rfl, by rw [tx_size]; omega, _, rfl, _, rfl, tx_le (by omega), rfl, ?_⟩
      have e2 : decide (V.int ((ST.dct (ST.signsOf (tx L)) (tx L).cps.size : Nat) : Int) = V.int (((tx L).length : Nat) : Int)) = true := decide_eq_true (by
        rw [sgs_of, tx_size, dct_nodup hL.nd _ (Nat.le_refl _), tx_len])
      show Q (V.bl (decide (V.int ((ST.dct (ST.signsOf (tx L)) (tx L).cps.size : Nat) : Int) = V.int (((tx L).length : Nat) : Int)))) H'
      rw [e2]
      exact q _ e
end
end Law

/-! x == a text, whatever x is -/
namespace ES
open PySem PySem.Spec PyProof.Rows L2
open AutoSeq1 (wpAny_loadPart')
open MeetsSeq MeetsSeq2 MeetsSeq3 SeqRoads2
theorem dict_says_no (l : Addr) (es : Array DictEntry) (n : Nat) (dd : Option Addr) (sl : Array (Option Value)) (b : Str) (u : Tok) :
    Meets (Builtin.«dict.__eq__» ⟨[.ref l, .str b u], []⟩) (fun _ R s => s.heap.get? l = some { cls := .type "dict", dict := dd, data := .dict es n, slots := sl } ∧ R (.ok (.ret .notImplemented)) s) :=
  .of_wp fun prog w A R s h => by
    obtain ⟨hp, g, d, tk, os⟩ := s
    obtain ⟨hl, h⟩ := h
    have f1 := F.sub_str_dict
    wp_walk using wpAny_loadPart' hl
    exact ⟨_, rfl, h⟩
theorem str_says_no (b : Str) (u : Tok) (l : Addr) (c : Value) (es : Array DictEntry) (n : Nat) (dd : Option Addr) (sl : Array (Option Value)) :
    Meets (Builtin.«str.__eq__» ⟨[.str b u, .ref l], []⟩) (fun _ R s => s.heap.get? l = some { cls := c, dict := dd, data := .dict es n, slots := sl } ∧ R (.ok (.ret .notImplemented)) s) :=
  .of_wp fun prog w A R s h => by
    obtain ⟨hp, g, d, tk, os⟩ := s
    obtain ⟨hl, h⟩ := h
    wp_walk using wpAny_loadPart' hl, wpAny_load hl
    exact ⟨_, rfl, h⟩
theorem dict_str {A : Around} {s : Shared} {l : Addr} {o : Obj} {es : Array DictEntry} {n : Nat} (b : Str) (u : Tok) (ho : s.heap.get? l = some o) (hc : o.cls = .type "dict") (hd : o.data = .dict es n) (hu : A.units < cLine) : SeqAt.RcAt A s (.ref l) (.str b u) false := fun prog w E Q h => by
  obtain ⟨cls, dd, data, sl⟩ := o
  simp only at hc hd
  subst hc hd
  exact SeqAt.rc_eq_decline_or (k := false) ⟨_, ho, rfl⟩ (typeIs_str s b u) (by decide) F.sub_str_dict F.slot_dict_eq F.slot_str_eq_refl
    (fun _ hq => call_meets F.slot_dict_eq ⟨_, ho, rfl⟩ F.entry_dict_eq (F.args_dict_eq_2 _ _) (dict_says_no l es n dd sl b u) ⟨ho, hq⟩)
    (fun _ hq => call_meets F.slot_str_eq_refl (typeIs_str s b u) F.entry_str_eq (F.args_str_eq_2 _ _) (str_says_no b u l (.type "dict") es n dd sl) ⟨ho, hq⟩)
    (fun _ hq => wpAny_of_eq (rfl : isSame (.ref l) (.str b u) = pure false) hq) (.inr hu) h
def rEqS (K : PySem.W.Frag) : R2 := fun x y H Q => rEq x y H Q ∨ ∃ a z, x = .ref a ∧ y = .str z ∧ ((∃ xs, SqL K H a xs) ∨ (∃ xs, SqT K H a xs) ∨ ∃ kvs, H a = some (.dK kvs)) ∧ Q (.bl false) H
theorem op_eqS {X : Cx} (hu : X.A.units + 64 < cLine) : OpR X (compareOp .Eq) (rEqS X.K) := by
  intro pins s σ H x y v u Q I rx ry h
  rcases h with h | ⟨a, z, rfl, rfl, h, q⟩
  · exact op_eq pins s σ H x y v u Q I rx ry h
  · cases (show v = Value.ref a from rx)
    obtain ⟨t, rfl⟩ := ry
    have un : X.A.units < cLine := by omega
    show wpAny _ _ (richCompare .Eq _ _) _ _ _
    rcases h with ⟨xs, h⟩ | ⟨xs, h⟩ | ⟨kvs, h⟩
    · obtain ⟨us, r1, p1, _⟩ := I.list h
      exact (SeqAt.RcAt.list_str z t p1.isList un) X.prog X.w _ _ ⟨.bl false, H, I, rfl, q⟩
    · obtain ⟨us, r1, p1, _⟩ := I.tuple h
      exact (SeqAt.RcAt.tuple_str z t p1 un) X.prog X.w _ _ ⟨.bl false, H, I, rfl, q⟩
    · obtain ⟨_, _, vs, kv, o, es, ep, g, ed, dd, _⟩ := dk_of I.hok h
      exact (dict_str z t g ed.1 dd un) X.prog X.w _ _ ⟨.bl false, H, I, rfl, q⟩
end ES

/-! what may stand where a tree should: any data -/
namespace GX
open PySem PySem.Spec PyProof.Rows L2 Evl TR
inductive Gt where
  | int (i : Int)
  | str (z : Str)
  | bl (b : Bool)
  | oth
  | seq (k : Bool) (gs : List Gt)
mutual
inductive GA (H : Hp) : V → Gt → Prop
  | int (i : Int) : GA H (.int i) (.int i)
  | str (z : Str) : GA H (.str z) (.str z)
  | bl (b : Bool) : GA H (.bl b) (.bl b)
  | non : GA H .non .oth
  | dct {a : Addr} {kvs : List (Key × V)} : H a = some (.dK kvs) → GA H (.ref a) .oth
  | seq {a : Addr} {k : Bool} {vs : List V} {gs : List Gt} : H a = some (ob k vs) → GAs H vs gs → GA H (.ref a) (.seq k gs)
inductive GAs (H : Hp) : List V → List Gt → Prop
  | nil : GAs H [] []
  | cons {v : V} {g : Gt} {vs : List V} {gs : List Gt} : GA H v g → GAs H vs gs → GAs H (v :: vs) (g :: gs)
end
mutual
theorem GA.ex {H H' : Hp} (e : Ex H H') : ∀ {v : V} {g : Gt}, GA H v g → GA H' v g
  | _, _, .int i => .int i
  | _, _, .str z => .str z
  | _, _, .bl b => .bl b
  | _, _, .non => .non
  | _, _, .dct h => .dct (e _ _ h)
  | _, _, .seq h r => .seq (e _ _ h) (GAs.ex e r)
theorem GAs.ex {H H' : Hp} (e : Ex H H') : ∀ {vs : List V} {gs : List Gt}, GAs H vs gs → GAs H' vs gs
  | _, _, .nil => .nil
  | _, _, .cons h r => .cons (GA.ex e h) (GAs.ex e r)
end
section
variable {H : Hp}
theorem GAs.len : ∀ {vs : List V} {gs : List Gt}, GAs H vs gs → vs.length = gs.length
  | _, _, .nil => rfl
  | _, _, .cons _ r => by rw [List.length_cons, List.length_cons, r.len]
theorem GAs.get : ∀ {vs : List V} {gs : List Gt} {i : Nat} {v : V}, GAs H vs gs → vs[i]? = some v → ∃ g, gs[i]? = some g ∧ GA H v g
  | _, _, _, _, .nil, h => by cases h
  | _, _, 0, _, .cons (g := g) a _, h => by
    cases h
    exact ⟨g, rfl, a⟩
  | _, _, i + 1, _, .cons _ r, h => GAs.get (i := i) r h
theorem GAs.get' : ∀ {vs : List V} {gs : List Gt} {i : Nat} {g : Gt}, GAs H vs gs → gs[i]? = some g → ∃ v, vs[i]? = some v ∧ GA H v g
  | _, _, _, _, .nil, h => by cases h
  | _, _, 0, _, .cons (v := v) a _, h => by
    cases h
    exact ⟨v, rfl, a⟩
  | _, _, i + 1, _, .cons _ r, h => GAs.get' (i := i) r h
theorem GAs.app : ∀ {vs : List V} {gs : List Gt} {us : List V} {fs : List Gt}, GAs H vs gs → GAs H us fs → GAs H (vs ++ us) (gs ++ fs)
  | _, _, _, _, .nil, h => h
  | _, _, _, _, .cons h1 r, h => .cons h1 (GAs.app r h)
theorem GAs.snoc {vs : List V} {gs : List Gt} {v : V} {g : Gt} (h : GAs H vs gs) (h1 : GA H v g) : GAs H (vs ++ [v]) (gs ++ [g]) := h.app (.cons h1 .nil)
theorem GAs.rev : ∀ {vs : List V} {gs : List Gt}, GAs H vs gs → GAs H vs.reverse gs.reverse
  | _, _, .nil => .nil
  | _, _, .cons h r => by
    rw [List.reverse_cons, List.reverse_cons]
    exact r.rev.snoc h
theorem GAs.take : ∀ {vs : List V} {gs : List Gt} (k : Nat), GAs H vs gs → GAs H (vs.take k) (gs.take k)
  | _, _, k, .nil => by rw [List.take_nil, List.take_nil]; exact .nil
  | _, _, 0, .cons _ _ => .nil
  | _, _, k + 1, .cons h r => .cons h (GAs.take k r)
theorem GAs.drop : ∀ {vs : List V} {gs : List Gt} (k : Nat), GAs H vs gs → GAs H (vs.drop k) (gs.drop k)
  | _, _, k, .nil => by rw [List.drop_nil, List.drop_nil]; exact .nil
  | _, _, 0, .cons h r => .cons h r
  | _, _, k + 1, .cons _ r => GAs.drop k r
theorem GAs.last : ∀ {vs : List V} {gs : List Gt}, GAs H vs gs → vs ≠ [] → ∃ us v fs g, vs = us ++ [v] ∧ gs = fs ++ [g] ∧ GAs H us fs ∧ GA H v g
  | _, _, .nil, h => absurd rfl h
  | _, _, .cons (v := v) (g := g) h .nil, _ => ⟨[], v, [], g, rfl, rfl, .nil, h⟩
  | _, _, .cons (v := v) (g := g) h (.cons a1 a2), _ => by
    obtain ⟨us, v', fs, g', e1, e2, s, b1⟩ := GAs.last (.cons a1 a2) (by intro q; cases q)
    exact ⟨v :: us, v', g :: fs, g', by rw [e1]; rfl, by rw [e2]; rfl, .cons h s, b1⟩
end
/-! ### the whole of it: how many parts, how deep -/
mutual
def Gt.size : Gt → Nat
  | .seq _ gs => Gt.sizes gs + 1
  | _ => 1
def Gt.sizes : List Gt → Nat
  | [] => 0
  | g :: r => g.size + Gt.sizes r
end
mutual
def Gt.depth : Gt → Nat
  | .seq _ gs => Gt.depths gs + 1
  | _ => 1
def Gt.depths : List Gt → Nat
  | [] => 0
  | g :: r => max g.depth (Gt.depths r)
end
theorem size_pos (g : Gt) : 1 ≤ g.size := by
  cases g <;> simp only [Gt.size] <;> omega
theorem sizes_app : ∀ a b : List Gt, Gt.sizes (a ++ b) = Gt.sizes a + Gt.sizes b
  | [], b => by simp only [List.nil_append, Gt.sizes, Nat.zero_add]
  | g :: r, b => by
    simp only [List.cons_append, Gt.sizes, sizes_app r b]
    omega
theorem sizes_rev : ∀ a : List Gt, Gt.sizes a.reverse = Gt.sizes a
  | [] => rfl
  | g :: r => by
    rw [List.reverse_cons, sizes_app, sizes_rev r]
    simp only [Gt.sizes]
    omega
theorem len_sizes : ∀ a : List Gt, a.length ≤ Gt.sizes a
  | [] => Nat.zero_le _
  | g :: r => by
    have := len_sizes r
    have := size_pos g
    simp only [Gt.sizes, List.length_cons]
    omega
theorem size_mem : ∀ {a : List Gt} {g : Gt}, g ∈ a → g.size ≤ Gt.sizes a
  | x :: r, g, h => by
    simp only [Gt.sizes]
    rcases List.mem_cons.mp h with q | q
    · rw [q]; omega
    · have := size_mem q
      omega
theorem depth_mem : ∀ {a : List Gt} {g : Gt}, g ∈ a → g.depth ≤ Gt.depths a
  | x :: r, g, h => by
    simp only [Gt.depths]
    rcases List.mem_cons.mp h with q | q
    · rw [q]; omega
    · have := depth_mem q
      omega
/-! ### right parts -/
def hd (z : Str) : Gt → Bool
  | .str y => decide (y = z)
  | _ => false
def whole (lo hi : Int) : Gt → Bool
  | .int i => decide (lo ≤ i) && decide (i ≤ hi)
  | _ => false
def seqN (n : Nat) : Gt → Bool
  | .seq _ gs => decide (gs.length = n)
  | _ => false
def isP (l w n : Nat) : Gt → Bool
  | .seq _ [h, a, r] => if hd "read" h = true then whole 0 w a && seqN l r else if hd "tell" h = true then whole 0 2 a else if hd "go" h = true then whole 1 (w + 1) a && whole 0 ((n : Int) - 1) r else false
  | _ => false
def kids : Gt → List Gt
  | .seq _ [h, _, r] => if hd "read" h = true then (match r with
      | .seq _ gs => gs
      | _ => []) else if hd "tell" h = true then [r] else []
  | _ => []
theorem kids_size (g : Gt) : Gt.sizes (kids g) + 1 ≤ g.size := by
  unfold kids
  split
  · rename_i k h a r
    have := size_pos h
    have := size_pos a
    split
    · split
      · simp only [Gt.size, Gt.sizes]
        omega
      · simp only [Gt.size, Gt.sizes]
        omega
    · split
      · simp only [Gt.size, Gt.sizes]
        omega
      · simp only [Gt.size, Gt.sizes]
        omega
  · have := size_pos g
    simp only [Gt.sizes]
    omega
/-! ### the walk -/
def tot (ps : List (Gt × Nat)) : Nat := Gt.sizes (ps.map (·.1))
def fwF (l w n : Nat) : Nat → List (Gt × Nat) → Nat → Bool × Nat
  | 0, _, m => (false, m)
  | _ + 1, [], m => (false, m)
  | f + 1, (g, d) :: r, m => if d > 40 ∨ isP l w n g = false then (true, m) else fwF l w n f ((kids g).map (fun x => (x, d + 1)) ++ r) (m + 1)
theorem fw_nil {l w n f m : Nat} : fwF l w n f [] m = (false, m) := by
  cases f <;> rfl
def cntF : Nat → List Gt → Nat → Nat
  | 0, _, m => m
  | _ + 1, [], m => m
  | f + 1, g :: r, m => cntF f (kids g ++ r) (m + 1)
theorem cnt_nil {f m : Nat} : cntF f [] m = m := by
  cases f <;> rfl
theorem fw_cnt {l w n : Nat} : ∀ {f : Nat} {ps : List (Gt × Nat)} {m N : Nat}, fwF l w n f ps m = (false, N) → cntF f (ps.map (·.1)) m = N
  | 0, _, _, _, h => by cases h; rfl
  | f + 1, [], _, _, h => by cases h; rfl
  | f + 1, (g, d) :: r, m, N, h => by
    unfold fwF at h
    split at h
    · cases h
    · have := fw_cnt h
      rw [List.map_append, List.map_map] at this
      show cntF f (kids g ++ r.map (·.1)) (m + 1) = N
      have e : List.map ((fun x : Gt × Nat => x.1) ∘ fun x => (x, d + 1)) (kids g) = kids g := by
        rw [show ((fun x : Gt × Nat => x.1) ∘ fun x => (x, d + 1)) = (id : Gt → Gt) from rfl, List.map_id]
      rw [e] at this
      exact this
/-- right within so many levels -/
inductive Rt (l w n : Nat) : Nat → Gt → Prop
  | mk {d : Nat} {g : Gt} : isP l w n g = true → (∀ x ∈ kids g, Rt l w n d x) → Rt l w n (d + 1) g
theorem fw_rt {l w n : Nat} : ∀ {f : Nat} {ps : List (Gt × Nat)} {m N : Nat}, fwF l w n f ps m = (false, N) → tot ps ≤ f → ∀ p ∈ ps, Rt l w n (41 - p.2) p.1
  | 0, ps, _, _, _, ht => fun p hp => by
    have : p.1.size ≤ tot ps := size_mem (List.mem_map.mpr ⟨p, hp, rfl⟩)
    have := size_pos p.1
    omega
  | f + 1, [], _, _, _, _ => fun p hp => by cases hp
  | f + 1, (g, d) :: r, m, N, h, ht => by
    unfold fwF at h
    split at h
    · cases h
    · rename_i hc
      have hd : d ≤ 40 := Nat.le_of_not_lt fun z => hc (.inl z)
      have hp : isP l w n g = true := by
        cases q : isP l w n g with
        | true => rfl
        | false => exact absurd (.inr q) hc
      have ks := kids_size g
      have t2 : tot ((kids g).map (fun x => (x, d + 1)) ++ r) ≤ f := by
        unfold tot at ht ⊢
        rw [List.map_append, List.map_map, sizes_app, show ((fun x : Gt × Nat => x.1) ∘ fun x => (x, d + 1)) = (id : Gt → Gt) from rfl, List.map_id]
        simp only [List.map_cons, Gt.sizes] at ht
        omega
      have ih := fw_rt h t2
      intro p hpm
      rcases List.mem_cons.mp hpm with e | e
      · subst e
        show Rt l w n (41 - d) g
        rw [show 41 - d = (40 - d) + 1 by omega]
        refine .mk hp fun x hx => ?_
        have := ih (x, d + 1) (List.mem_append_left _ (List.mem_map.mpr ⟨x, hx, rfl⟩))
        rw [show 40 - d = 41 - (d + 1) by omega]
        exact this
      · exact ih p (List.mem_append_right _ e)
/-! ### the waiting ones, the top at the end -/
inductive Stk (H0 H : Hp) : List V → List (Gt × Nat) → Prop
  | nil : Stk H0 H [] []
  | cons {r : Addr} {v : V} {g : Gt} {d : Nat} {vs : List V} {ps : List (Gt × Nat)} : H r = some (.tup [v, .int (d : Nat)]) → GA H0 v g → Stk H0 H vs ps → Stk H0 H (.ref r :: vs) ((g, d) :: ps)
theorem Stk.ex {H0 H H' : Hp} (e : Ex H H') : ∀ {vs : List V} {ps : List (Gt × Nat)}, Stk H0 H vs ps → Stk H0 H' vs ps
  | _, _, .nil => .nil
  | _, _, .cons h1 h2 r => .cons (e _ _ h1) h2 (Stk.ex e r)
theorem Stk.len {H0 H : Hp} : ∀ {vs : List V} {ps : List (Gt × Nat)}, Stk H0 H vs ps → vs.length = ps.length
  | _, _, .nil => rfl
  | _, _, .cons _ _ r => by rw [List.length_cons, List.length_cons, r.len]
theorem Stk.app {H0 H : Hp} : ∀ {vs : List V} {ps : List (Gt × Nat)} {us : List V} {qs : List (Gt × Nat)}, Stk H0 H vs ps → Stk H0 H us qs → Stk H0 H (vs ++ us) (ps ++ qs)
  | _, _, _, _, .nil, h => h
  | _, _, _, _, .cons h1 h2 r, h => .cons h1 h2 (Stk.app r h)
theorem Stk.upd {H0 H : Hp} {a : Addr} {o : HO} : ∀ {vs : List V} {ps : List (Gt × Nat)}, Stk H0 H vs ps → (∀ xs, H a ≠ some (.tup xs)) → Stk H0 (L2.upd H a o) vs ps
  | _, _, .nil, _ => .nil
  | _, _, .cons (r := r) h1 h2 r1, hn => .cons (by rw [upd_ne (fun q : r = a => hn _ (by rw [← q]; exact h1))]; exact h1) h2 (Stk.upd r1 hn)
theorem Stk.last {H0 H : Hp} : ∀ {vs : List V} {ps : List (Gt × Nat)}, Stk H0 H vs ps → vs ≠ [] →
    ∃ us r v g d qs, vs = us ++ [.ref r] ∧ ps = qs ++ [(g, d)] ∧ Stk H0 H us qs ∧ H r = some (.tup [v, .int (d : Nat)]) ∧ GA H0 v g
  | _, _, .nil, h => absurd rfl h
  | _, _, .cons (r := r) (v := v) (g := g) (d := d) h1 h2 .nil, _ => ⟨[], r, v, g, d, [], rfl, rfl, .nil, h1, h2⟩
  | _, _, .cons (r := r) (v := v) (g := g) (d := d) h1 h2 (.cons a1 a2 a3), _ => by
    obtain ⟨us, r', v', g', d', qs, e1, e2, s, b1, b2⟩ := Stk.last (.cons a1 a2 a3) (by intro q; cases q)
    exact ⟨.ref r :: us, r', v', g', d', (g, d) :: qs, by rw [e1]; rfl, by rw [e2]; rfl, .cons h1 h2 s, b1, b2⟩
theorem tot_app (ps qs : List (Gt × Nat)) : tot (ps ++ qs) = tot ps + tot qs := by
  unfold tot
  rw [List.map_append, sizes_app]
theorem tot_map (gs : List Gt) (d : Nat) : tot (gs.map fun g => (g, d)) = Gt.sizes gs := by
  unfold tot
  rw [List.map_map, show ((fun x : Gt × Nat => x.1) ∘ fun g => (g, d)) = (id : Gt → Gt) from rfl, List.map_id]
theorem len_tot (ps : List (Gt × Nat)) : ps.length ≤ tot ps := by
  have := len_sizes (ps.map (·.1))
  rw [List.length_map] at this
  exact this
/-! ### right trees of the law's own making -/
mutual
def ofT : Tr → Gt
  | .go s q => .seq true [.str "go", .int (s : Nat), .int (q : Nat)]
  | .tell n t => .seq true [.str "tell", .int (n : Nat), ofT t]
  | .read p ts => .seq true [.str "read", .int (p : Nat), .seq true (ofTs ts)]
def ofTs : Trs → List Gt
  | .nil => []
  | .cons t r => ofT t :: ofTs r
end
mutual
theorem TA.ga {H : Hp} : ∀ {t : Tr} {v : V}, TA true H v t → GA H v (ofT t)
  | _, _, .go h => .seq h (.cons (.str _) (.cons (.int _) (.cons (.int _) .nil)))
  | _, _, .tell h r => .seq h (.cons (.str _) (.cons (.int _) (.cons (TA.ga r) .nil)))
  | _, _, .read h hb r => .seq h (.cons (.str _) (.cons (.int _) (.cons (.seq hb (TAs.ga r)) .nil)))
theorem TAs.ga {H : Hp} : ∀ {ts : Trs} {vs : List V}, TAs true H vs ts → GAs H vs (ofTs ts)
  | _, _, .nil => .nil
  | _, _, .cons h r => .cons (TA.ga h) (TAs.ga r)
end
end GX

namespace GD
open PySem PySem.Spec PyProof.Rows L2
/-- a law's promise, where no text of an object is being made -/
structure Gd (P : Program) (w : World) (K : PySem.W.Frag) (mg : Str → Option Value) (base : Heap) (k : Nat) (f : Addr) (fd : FuncData) (ps : List Str) (sp : Sp) : Prop where
  run : ∀ (A : Around) (outer : List Env) (s : Shared) (H : Hp) (args : Args) (us : List Value) (vs : List V) (Q : VK) (E : XK), Room k A → A.guards = some [] → Env0 P w K mg base A outer s H → BindsTo s fd args (ps.zip us) → Vals vs us → sp vs H Q E →
    codeAny (model P w) A (.call (.ref f) args) (CR CX0 outer P w H s Q E) s
section
variable {P : Program} {w : World} {K : PySem.W.Frag} {mg : Str → Option Value} {base : Heap}
theorem deeper_guards {A : Around} {env : Env} (h : A.guards = some []) : (A.deeper env).guards = some [] := h
/-- the rule for a def, once more -/
theorem okG {x qual : Str} {st : Stmt} {f : Addr} {fd : FuncData} {N ps : List Str} {k : Nat} {sp : Sp} (F : Fun K x qual st f fd) (S : FnScope N ps (defScope st)) (len : ∀ vs H Q E, sp vs H Q E → vs.length = ps.length)
    (hbody : ∀ (cdv : Value) (A : Around) (outer : List Env) (s : Shared) (H : Hp) (vs : List V) (Q : VK) (E : XK), Room k (A.deeper (envOfC qual (defScope st) s.heap.objs.size f cdv)) → (A.deeper (envOfC qual (defScope st) s.heap.objs.size f cdv)).guards = some [] → sp vs H Q E →
      ∃ t, PSs (cxOf CX0 P w K mg base N qual (defScope st) f cdv A outer s H E).nox (defBody st) t ∧ t { nx := fun _ H' => Q .non H', rt := Q } (start N vs) H) : Gd P w K mg base (k + 1) f fd ps sp := by
  obtain ⟨oc, od, kV, doc, pm, an, cdv, ct, osl, rfl, lk, hcd⟩ := F.ex
  refine ⟨fun A outer s H args us vs Q E hr hg e0 hb r hsp => ?_⟩
  have kin : K.In s.heap := e0.mod.kin.keeps fun b o e => (e0.bs b o e).1
  have nolim : s.heap.NoLimit := e0.mod.nolimit.keeps fun b o e => (e0.bs b o e).1
  have names : ∀ y ∈ ps.zip us, (defScope st).names.lookup y.1 = some .local ∨ ((defScope st).names.lookup y.1 = some .cell ∧ ((cellsFrom (s.heap.objs.size + 1) (defScope st).names []).lookup y.1).isSome = true) := by
    rintro ⟨n, v⟩ hy
    rcases S.par n (List.of_mem_zip hy).1 with q | q
    · exact .inl q
    · exact .inr ⟨q, PySem.W.cellsFrom_some _ _ _ (.inl q)⟩
  refine codeAny_call_function hr.depth (kin _ _ lk) rfl S.co S.gen rfl (PySem.W.codeRec_of kin hcd) (hb _ _ _ _ (wpAny_newFunctionEnv_cells S.kind names fun env he s1 z => ?_))
  subst he
  refine ⟨nolim.keeps z.toInCall.keep, codeAny_func ?_⟩
  obtain ⟨t, ht, hq⟩ := hbody cdv A outer s H vs Q E (hr.deeper _) (deeper_guards hg) hsp
  have I := inv_start (CX := CX0) (E := E) S hr.hd e0 (len _ _ _ _ hsp) r z
  refine wpAny_mono (ht.nox.run [] s1 (start N vs) H _ I hq) (fun fl s' hs => ?_) fun e s' hs => hs
  cases fl with
  | ret u =>
    obtain ⟨v, σ', H', J, rv, q⟩ := hs
    exact ⟨v, H', J.os, J.bare, J.base, J.hok, rv, q⟩
  | next =>
    obtain ⟨σ', H', J, q⟩ := hs
    exact ⟨V.non, H', J.os, J.bare, J.base, J.hok, rfl, q⟩
  | brk =>
    obtain ⟨_, _, _, q⟩ := hs
    exact q.elim
  | cont =>
    obtain ⟨_, _, _, q⟩ := hs
    exact q.elim
end
/-! ### the end: the law's promise at the heap behind the top -/
/-- the script alone is known -/
def one (a : Addr) (vs : List Value) (ns : List Int) : Hp := fun b => if b = a then some (.frz { cls := .type "list", data := .seq vs.toArray } (.lst (ns.map V.int))) else none
theorem callG {P : Program} {w : World} {K : PySem.W.Frag} {mg mb : Str → Option Value} {k : Nat} {fa a : Addr} {fd : FuncData} {x : Str} {sp : Sp} {s : Shared} {vs : List Value} {ns : List Int}
    (kin : K.In s.heap) (hns : s.heap.Ns mainGlobals mg) (hb : s.heap.Ns builtinsNs mb) (hbb : ∀ x : Str, x ≠ "__name__" → mb x = bootBuiltins x) (nolim : s.heap.NoLimit) (gens : s.gens = #[])
    (ha : s.heap.get? a = some { cls := .type "list", data := .seq vs.toArray }) (hi : IntsAre vs ns) (hl : ns.length ≤ sizeLine) (room : Room k callerA)
    (F : ∀ base : Heap, K.In base → base.Ns mainGlobals mg → Gd P w K mg base k fa fd [x] sp) (binds : ∀ (s : Shared) (u : Value), BindsTo s fd ⟨[u], []⟩ [(x, u)])
    (hsp : ∀ H : Hp, SqL K H a (ns.map V.int) → sp [.ref a] H (fun v _ => v = .bl true) E0) :
    codeAny (model P w) callerA (.call (.ref fa) ⟨[.ref a], []⟩) (fun r s' => r = .ok (.ret (.bool true)) ∧ OldK s.heap s'.heap ∧ s'.os = s.os ∧ AllBare s'.gens) s := by
  have rv := vals_ints hi
  have step : ∀ H : Hp, (∀ b u, H b = some u → b = a ∧ K.lookup a = none ∧ ∃ o xs, u = .frz o (.lst xs)) → HOk P w H s.heap → SqL K H a (ns.map V.int) →
      codeAny (model P w) callerA (.call (.ref fa) ⟨[.ref a], []⟩) (fun r s' => r = .ok (.ret (.bool true)) ∧ OldK s.heap s'.heap ∧ s'.os = s.os ∧ AllBare s'.gens) s := by
    intro H only hok hS
    have free : ∀ {b : Addr}, b ≠ a → H b = none := fun {b} n => by
      cases e : H b with
      | none => rfl
      | some u => exact absurd (only b u e).1 n
    have stays : ∀ {b : Addr} {m : Str → Option Value}, s.heap.Ns b m → (hidT s.heap H).Ns b m := fun {b m} ⟨o, es, ep, e, d, r⟩ => by
      refine ⟨o, es, ep, hidT_get e (free fun z => ?_), d, r⟩
      rw [z, ha] at e
      cases e
      cases (show Data.seq vs.toArray _ = Data.dict es ep from d)
    have kinB : K.In (hidT s.heap H) := fun b o e => hidT_get (kin b o e) (by
      cases q : H b with
      | none => rfl
      | some u =>
        obtain ⟨h1, h2, _⟩ := only b u q
        rw [h1, h2] at e
        cases e)
    have e0 : Env0 P w K mg (hidT s.heap H) callerA [] s H :=
      ⟨rfl, ⟨kinB, stays hns, ⟨mb, stays hb, hbb⟩, let ⟨mc, h1, h2⟩ := nolim; ⟨mc, stays h1, h2⟩⟩, fun b o e => of_hidT e, Nat.le_of_eq (hidT_size _ _), trivial, fun b hb => (nomatch (show b ∈ ([] : List Addr) from hb)), hok, .of_eq gens⟩
    refine codeAny_mono ((F _ kinB (stays hns)).run callerA [] s H ⟨[.ref a], []⟩ [.ref a] [.ref a] _ E0 room rfl e0 (binds s (.ref a)) (.cons rfl .nil) (hsp H hS)) fun r s' h => ?_
    cases r with
    | error e => exact h.elim
    | ok fl =>
      cases fl with
      | ret u =>
        obtain ⟨v, H', os, bare, un, hok', r', q⟩ := h
        obtain rfl : v = .bl true := q
        obtain rfl : u = Value.bool true := r'
        refine ⟨rfl, OldK.of_keep fun b o e => ?_, os, bare⟩
        cases q : H b with
        | none => exact un.keep b o e q (by intro z; exact (nomatch (show b ∈ ([] : List Addr) from z))) (by simp)
        | some u =>
          obtain ⟨_, _, ob, xs, rfl⟩ := only b u q
          obtain ⟨e1, _⟩ := hok b _ q
          obtain ⟨e2, _⟩ := hok' b _ (un.frzs b ob _ q)
          rw [e] at e1
          cases e1
          exact e2
      | next => exact h.elim
      | brk => exact h.elim
      | cont => exact h.elim
  cases hk : K.lookup a with
  | some o =>
    have e := kin a o hk
    rw [ha] at e
    cases e
    refine step (fun _ => none) (fun b u z => by cases z) (fun b u z => by cases z) (.inr ⟨_, vs.toArray, _, hk, rfl, rfl, rfl, ?_, by simpa using rv⟩)
    rw [List.size_toArray, hi.length]
    exact hl
  | none =>
    refine step (one a vs ns) (fun b u z => ?_) (fun b u z => ?_) (.inl (.inr ⟨_, if_pos rfl⟩))
    · unfold one at z
      by_cases q : b = a
      · rw [if_pos q] at z
        cases z
        exact ⟨q, hk, _, _, rfl⟩
      · rw [if_neg q] at z
        cases z
    · unfold one at z
      by_cases q : b = a
      · rw [if_pos q] at z
        cases z
        subst q
        exact ⟨ha, by rw [List.length_map]; exact hl, vs, _, rv, ha⟩
      · rw [if_neg q] at z
        cases z
theorem walkG {l : PySem.W.OpenLaw} {n k : Nat} {q : Program} {loose : List Str} {XP : (Str → Option Value) → Heap → Prop} {YP : World → Heap → Prop} {d : DefRec} {K : Params → PySem.W.Frag} {sp : World → Sp} {x : Str}
    (hn : l.most = some n) (hn2 : n ≤ sizeLine) (hdf : d.params.defaults = []) (hr : Room k callerA) (hY : ∀ (w : World) (h : Heap), YP w h → (K w.params).In h)
    (F : ∀ (w : World) (mg : Str → Option Value) (fa : Addr) (h : Heap), (K w.params).In h → h.Ns mainGlobals mg → mg d.name = some (.ref fa) →
      ∃ fd : FuncData, (∀ (s : Shared) (u : Value), BindsTo s fd ⟨[u], []⟩ [(x, u)]) ∧ ∀ base : Heap, (K w.params).In base → base.Ns mainGlobals mg → Gd l.prog w (K w.params) mg base k fa fd [x] (sp w))
    (hsp : ∀ (w : World) (H : Hp) (a : Addr) (ns : List Int), ns.length ≤ n → SqL (K w.params) H a (ns.map V.int) → sp w [.ref a] H (fun v _ => v = .bl true) E0) :
    PySem.W.WalkO q loose XP YP l.row.toRowW d [] (fun f vs => PySem.call f vs) := by
  refine Att.attach_call hn hdf fun w s₀ s₁ mg mb fa o pm cd doc a vs ns G Y ho hd hcd hmg hobj hints hlen hg => ?_
  have kin := hY w _ Y
  obtain ⟨fd, hb, hF⟩ := F w mg fa _ kin G.T.g hmg
  exact callG kin G.T.g G.T.b G.T.builtins G.T.nolimit hg hobj hints (Nat.le_trans hlen hn2) hr hF hb fun H hS => hsp w H a ns hlen hS
end GD

/-! repr of data with dicts that are empty: only the dicts must stand apart from the modules' table -/
namespace DY
open PySem PySem.Spec PyProof.Rows L2
mutual
/-- v is the data d; a dict is an empty one -/
inductive DE (K : PySem.W.Frag) (H : Hp) : V → PyData → Prop
  | non : DE K H .non .none
  | bl (b : Bool) : DE K H (.bl b) (.bool b)
  | int (i : Int) : DE K H (.int i) (.int i)
  | str (x : Str) : DE K H (.str x) (.str x)
  | lst {a : Addr} {xs : List V} {ds : List PyData} : SqL K H a xs → DEs K H xs ds → DE K H (.ref a) (.list ds)
  | tup {a : Addr} {xs : List V} {ds : List PyData} : SqT K H a xs → DEs K H xs ds → DE K H (.ref a) (.tuple ds)
  | emp {a : Addr} : H a = some (.dK []) → DE K H (.ref a) (.dict [])
  | one {a : Addr} {k : Str} {i : Int} : H a = some (.dK [(.inr k, .int i)]) → DE K H (.ref a) (.dict [(.str k, .int i)])
inductive DEs (K : PySem.W.Frag) (H : Hp) : List V → List PyData → Prop
  | nil : DEs K H [] []
  | cons {v : V} {vs : List V} {d : PyData} {ds : List PyData} : DE K H v d → DEs K H vs ds → DEs K H (v :: vs) (d :: ds)
end
section
variable {X : Cx} {pins : List (Addr × Obj)} {σ : L2.St} {H : Hp} {s : Shared}
theorem emp_at (I : Inv X pins σ H s) {a : Addr} (h : H a = some (.dK [])) : (a == sysModules) = false ∧ ∃ o n, s.heap.get? a = some o ∧ o.cls = .type "dict" ∧ o.data = .dict #[] n := by
  obtain ⟨_, h1, vs, kv, o, es, ep, g, ed, dd, k1, k2, _⟩ := dk_of I.hok h
  cases kv
  have e : es = #[] := by
    cases es with
    | mk l =>
      cases l with
      | nil => rfl
      | cons x r => cases k2
  subst e
  exact ⟨h1, o, ep, g, ed.1, dd⟩
theorem one_at (I : Inv X pins σ H s) {a : Addr} {k : Str} {i : Int} (h : H a = some (.dK [(.inr k, .int i)])) : (a == sysModules) = false ∧ ∃ o n e t1 t2, s.heap.get? a = some o ∧ o.cls = .type "dict" ∧ o.data = .dict #[e] n ∧ e.key = Value.str k t1 ∧ e.val = Value.int i t2 := by
  obtain ⟨_, h1, vs, kv, o, es, ep, g, ed, dd, k1, k2, _⟩ := dk_of I.hok h
  cases kv with
  | cons hp hn =>
    cases hn
    obtain ⟨q1, q2⟩ := hp
    cases es with
    | mk l =>
      cases l with
      | nil => cases k2
      | cons x r =>
        cases k2 with
        | cons r1 r2 r3 =>
          cases r3
          rw [← q1] at r1
          have r1' : keyIs (.inr k) x.key = true := r1
          obtain ⟨i2, t, z, _⟩ | ⟨y, t, z, e1⟩ := keyIs_shape r1'
          · cases z
          · cases z
            obtain ⟨t2, e2⟩ := q2
            exact ⟨h1, o, ep, x, t, t2, g, ed.1, dd, e1, by rw [r2, e2]⟩
/-- how v is read and shown -/
structure Sh (prog : Program) (w : World) (h : Heap) (u : Value) (d : PyData) : Prop where
  r : ∃ as, Reads h u d as
  k : ∃ bs, ReadAtMost h d.depth bs ∧ ReprK prog w bs h d.depth u d.shown
structure Shs (prog : Program) (w : World) (h : Heap) (us : List Value) (ds : List PyData) : Prop where
  r : ∃ as, ReadsAll h us ds as
  k : ∃ bs, ReadAtMost h (PyData.depthAll ds) bs ∧ ReprAllK prog w bs h (PyData.depthAll ds) us (PyData.shownAll ds)
theorem mem_l {t : Str} {ts : List Str} (h : t ∈ ts) : t.length ≤ (listText ts).length := by
  have z := PySem.listText_mem_le h
  exact z
mutual
theorem DE.sh (I : Inv X pins σ H s) : ∀ (d : PyData) (v : V) (u : Value), DE X.K H v d → RelV v u → d.showable = true → d.shown.length ≤ sizeLine → Sh X.prog X.w s.heap u d
  | .none, _, _, h, r, _, _ => by
    cases h
    cases r
    exact ⟨⟨_, Reads.none⟩, [], (fun _ h => nomatch h), by simp only [PyData.shown]; exact .of_is ReprIs.none _ _ _⟩
  | .bool b, _, _, h, r, _, _ => by
    cases h
    cases r
    exact ⟨⟨_, Reads.bool b⟩, [], (fun _ h => nomatch h), by simp only [PyData.shown]; exact .of_is (ReprIs.bool b) _ _ _⟩
  | .int i, _, _, h, r, hs, _ => by
    cases h
    obtain ⟨t, rfl⟩ := r
    exact ⟨⟨_, Reads.int i t⟩, [], (fun _ h => nomatch h), by simp only [PyData.shown]; exact .of_is (ReprIs.int t (by simpa [PyData.showable] using hs)) _ _ _⟩
  | .str x, _, _, h, r, _, hz => by
    cases h
    obtain ⟨t, rfl⟩ := r
    exact ⟨⟨_, Reads.str x t⟩, [], (fun _ h => nomatch h), by simp only [PyData.shown]; exact .of_is (ReprIs.str x t (by simpa only [PyData.shown] using hz)) _ _ _⟩
  | .list ds, _, _, h, r, hs, hz => by
    cases h with
    | lst hq ha =>
      cases r
      obtain ⟨its, rv, ⟨o, n, ho, hc, _, hd⟩, _⟩ := I.list hq
      have hz2 : (listText (PyData.shownAll ds)).length ≤ sizeLine := by simpa only [PyData.shown] using hz
      obtain ⟨⟨as, hr⟩, bs, hb, hk⟩ := DEs.sh I ds _ its ha rv (by simpa [PyData.showable] using hs) fun t ht => Nat.le_trans (listText_mem_le ht) hz2
      have r2 : Reads s.heap _ (.list ds) _ := Reads.list ho hc hd hr
      refine ⟨⟨_, r2⟩, _ :: bs, ReadAtMost.cons r2 (by simp only [PyData.depth]; omega) hb, ?_⟩
      have hna := not_mem_of_deeper r2 (show PyData.depthAll ds < _ by simp only [PyData.depth]; omega) hb
      simp only [PyData.depth, PyData.shown]
      cases its with
      | nil =>
        cases rv
        cases ha
        simp only [PyData.shownAll, listText_nil]
        exact ReprK.listEmpty ho hc hd
      | cons x l => exact ReprK.list ho hc hd hna (by simpa using hk.length_eq) (fun i y e => hk.item i y (by simpa using e))
  | .tuple ds, _, _, h, r, hs, hz => by
    cases h with
    | tup hq ha =>
      cases r
      obtain ⟨its, rv, ⟨o, ho, hc, n, hd⟩, _⟩ := I.tuple hq
      have hz2 : (tupleText (PyData.shownAll ds)).length ≤ sizeLine := by simpa only [PyData.shown] using hz
      obtain ⟨⟨as, hr⟩, bs, hb, hk⟩ := DEs.sh I ds _ its ha rv (by simpa [PyData.showable] using hs) fun t ht => Nat.le_trans (tupleText_mem_le ht) hz2
      have r2 : Reads s.heap _ (.tuple ds) _ := Reads.tuple ho hc hd hr
      refine ⟨⟨_, r2⟩, _ :: bs, ReadAtMost.cons r2 (by simp only [PyData.depth]; omega) hb, ?_⟩
      have hna := not_mem_of_deeper r2 (show PyData.depthAll ds < _ by simp only [PyData.depth]; omega) hb
      simp only [PyData.depth, PyData.shown]
      exact ReprK.tuple ho hc hd hna hk
  | .dict kvs, _, _, h, r, hs, hz => by
    cases h with
    | emp hq =>
      cases r
      obtain ⟨hy, o, n, ho, hc, hd⟩ := emp_at I hq
      have r2 : Reads s.heap _ (.dict []) _ := Reads.dict ho hc hd ReadsAll.nil ReadsAll.nil
      refine ⟨⟨_, r2⟩, [_], ReadAtMost.cons r2 (Nat.le_refl _) (fun _ h => nomatch h), ?_⟩
      simp only [PyData.depth, PyData.shown, PyData.shownKv_eq]
      exact ReprK.dict ho hc hd hy (fun h => nomatch h) (ReprEntriesK.of_two [] _ _ .nil .nil)
    | @one a k i hq =>
      cases r
      obtain ⟨hy, o, n, e, t1, t2, ho, hc, hd, e1, e2⟩ := one_at I hq
      have hs2 : (PyData.int i).showable = true := by
        simp only [PyData.showable, PyData.showableKv, Bool.and_eq_true] at hs ⊢
        first
          | exact hs.1.2
          | exact hs.2.1
          | exact hs.2
          | simpa using hs
      have hz2 : (dictText (PyData.shownKv [(.str k, .int i)])).length ≤ sizeLine := by simpa only [PyData.shown] using hz
      have hk : (PyData.str k).shown.length ≤ sizeLine := by
        have h1 := dictText_mem_le (ps := PyData.shownKv [(.str k, .int i)]) (p := (PyData.str k).shown ++ ": " ++ (PyData.int i).shown) (by simp only [PyData.shownKv]; exact List.mem_cons_self ..)
        rw [Str.length_append, Str.length_append] at h1
        omega
      have rk : Reads s.heap e.key (.str k) [] := by rw [e1]; exact Reads.str k t1
      have rv : Reads s.heap e.val (.int i) [] := by rw [e2]; exact Reads.int i t2
      have r2 : Reads s.heap (.ref a) (.dict [(.str k, .int i)]) _ := Reads.dict ho hc hd (ReadsAll.cons rk ReadsAll.nil) (ReadsAll.cons rv ReadsAll.nil)
      refine ⟨⟨_, r2⟩, [_], ReadAtMost.cons r2 (Nat.le_refl _) (fun _ h => nomatch h), ?_⟩
      simp only [PyData.depth, PyData.shown, PyData.shownKv_eq]
      refine ReprK.dict ho hc hd hy (fun h => nomatch h) (ReprEntriesK.of_two [e] _ _ (.cons ?_ .nil) (.cons ?_ .nil))
      · show ReprK X.prog X.w [] s.heap _ e.key (PyData.str k).shown
        rw [e1]
        simp only [PyData.shown]
        exact .of_is (ReprIs.str k t1 (by simpa only [PyData.shown] using hk)) _ _ _
      · show ReprK X.prog X.w [] s.heap _ e.val (PyData.int i).shown
        rw [e2]
        simp only [PyData.shown]
        exact .of_is (ReprIs.int t2 (by simpa [PyData.showable] using hs2)) _ _ _
theorem DEs.sh (I : Inv X pins σ H s) : ∀ (ds : List PyData) (vs : List V) (us : List Value), DEs X.K H vs ds → Vals vs us → PyData.showableAll ds = true → (∀ t ∈ PyData.shownAll ds, t.length ≤ sizeLine) → Shs X.prog X.w s.heap us ds
  | [], _, _, h, r, _, _ => by
    cases h
    cases r
    exact ⟨⟨_, ReadsAll.nil⟩, [], (fun _ h => nomatch h), by simp only [PyData.shownAll]; exact .nil⟩
  | d :: ds, _, _, h, r, hs, hz => by
    cases h with
    | cons h1 h2 =>
      cases r with
      | cons r1 r2 =>
        have hs2 : d.showable = true ∧ PyData.showableAll ds = true := by simpa [PyData.showableAll] using hs
        obtain ⟨⟨as, q1⟩, b1, hb1, k1⟩ := DE.sh I d _ _ h1 r1 hs2.1 (hz _ (by simp only [PyData.shownAll]; exact List.mem_cons_self ..))
        obtain ⟨⟨bs, q2⟩, b2, hb2, k2⟩ := DEs.sh I ds _ _ h2 r2 hs2.2 fun t ht => hz t (by simp only [PyData.shownAll]; exact List.mem_cons_of_mem _ ht)
        refine ⟨⟨_, ReadsAll.cons q1 q2⟩, b1 ++ b2, fun b hm => ?_, ?_⟩
        · simp only [PyData.depthAll]
          rcases List.mem_append.mp hm with hm | hm
          · obtain ⟨e, ys, y1, y2⟩ := hb1 b hm
            exact ⟨e, ys, y1, Nat.le_trans y2 (Nat.le_max_left _ _)⟩
          · obtain ⟨e, ys, y1, y2⟩ := hb2 b hm
            exact ⟨e, ys, y1, Nat.le_trans y2 (Nat.le_max_right _ _)⟩
        · simp only [PyData.depthAll, PyData.shownAll]
          exact .cons ((k1.more fun b hb => List.mem_append_left _ hb).level_le (Nat.le_max_left _ _)) (k2.more_le (fun b hb => List.mem_append_right _ hb) (Nat.le_max_right _ _))
end
/-- repr of None, or of a tuple of data, where no text is being made -/
structure RX (K : PySem.W.Frag) (xs : List V) (H : Hp) (Q : VK) : Prop where
  ex : (xs = [.non] ∧ Q (.str "None") H) ∨ ∃ a ys ds, xs = [.ref a] ∧ SqT K H a ys ∧ DEs K H ys ds ∧ (PyData.tuple ds).showable = true ∧ (PyData.tuple ds).depth ≤ 64 ∧ (PyData.tuple ds).shown.length ≤ sizeLine ∧ Q (.str (PyData.tuple ds).shown) H
abbrev rRy (K : PySem.W.Frag) : List V → Hp → VK → Prop := fun xs H Q => RX K xs H Q
theorem call_reprY {X : Cx} (hg : X.A.guards = some []) (hu : X.A.units + 70 < cLine) : CallR X (.builtin "repr") (rRy X.K) := by
  intro pins s σ H xs us Q I r h
  rcases h.ex with ⟨rfl, q⟩ | ⟨a, xs, ds, rfl, hq, ha, h1, h3, h4, q⟩
  · obtain ⟨u, rfl, rfl⟩ := vals1 r
    exact PySem.P.repr_of_none ⟨.str _, H, I.tok _, ⟨_, rfl⟩, q⟩
  · obtain ⟨u, rfl, ru⟩ := vals1 r
    have fin : ∀ h' u' tk, (∀ b o, s.heap.get? b = some o → h'.get? b = some o) → EP X pins σ Q (.str (PyData.tuple ds).shown u') { s with heap := h', toks := tk } := fun h' u' tk hk => ⟨.str (PyData.tuple ds).shown, H, I.kept hk, ⟨u', rfl⟩, q⟩
    have un : X.A.units + 1 < cLine := by omega
    cases ru
    obtain ⟨its, rv, ⟨o, ho, hc, n, hd⟩, _⟩ := I.tuple hq
    have hz2 : (tupleText (PyData.shownAll ds)).length ≤ sizeLine := by simpa only [PyData.shown] using h4
    obtain ⟨⟨as, hr⟩, bs, hb, hk⟩ := DEs.sh I ds _ its ha rv (by simpa [PyData.showable] using h1) fun t ht => Nat.le_trans (tupleText_mem_le ht) hz2
    have r2 : Reads s.heap (.ref a) (.tuple ds) _ := Reads.tuple ho hc hd hr
    have hna := not_mem_of_deeper r2 (show PyData.depthAll ds < _ by simp only [PyData.depth]; omega) hb
    simp only [PyData.depth] at h3
    simp only [PyData.shown] at fin
    refine call_repr_slot un ⟨o, ho, hc⟩ F.slot_tuple_repr ?_
    exact call_tuple_reprK ho hc hd hna hk hg (fun b _ => Clear.nil b) (by show X.A.units + 1 + _ < cLine; omega) (fun _ _ e => e) (fun h' u' tk hk' => ⟨_, _, rfl, fin h' u' tk hk'⟩) hz2
end
end DY

/-! own errors over an own base whose __init__ they call; several except clauses with a name -/
namespace EK
open PySem PySem.Spec PyProof.Rows L2
section
variable {X : Cx} {C0 : Addr} {x : Str} {e : Expr} {es : List Expr} {ta : TA} {p1 p2 pos : Pos}
/-- B.__init__(self, ..), B an own class over ValueError without an __init__ of its own -/
theorem pe_skinit {pl : Sem Bool} (hg : Gl X x) (hm : X.mg x = some (.ref C0)) (r : ClX.CRead X.K C0 (.type "type")) (k : PySem.W.findCls X.K (.ref C0) (.type "type") "__init__" = some (.val (.builtin "ValueError.__init__"))) (ha : PA X (e :: es) ta)
    (hc : eval (.Call (.Attribute (.Name x p1) "__init__" p2) (e :: es) [] pos) X.env = (do
      let ov ← eval (.Name x p1) X.env
      standAt p2.atName
      let (f, first) ← holding [ov] (getMethod ov "__init__" pl)
      callWith pos f first (backTo pos (starEach (e :: es) X.env)) (backToKw pos (keywordEach [] X.env))) := by rfl)
    (hdb : (x == ("__debug__" : Str)) = false := by decide)
    (he : starEach (e :: es) X.env = (false, eval e X.env) :: starEach es X.env := by rfl) (hpl : (backTo pos (starEach es X.env)).any (·.1) = false := by rfl) :
    PE X (.Call (.Attribute (.Name x p1) "__init__" p2) (e :: es) [] pos) (tVeI X.K ta) := by
  refine ⟨fun pins s σ H Q I h => ?_⟩
  refine PySem.W.methodCall_KW (ld_glob I hg hm ?_ hdb) hc
  refine PySem.W.method_cls I.kIn r.ga (PySem.W.cls_value I.kIn r.rd k rfl ?_)
  show wpAny _ _ (callWith pos (Value.builtin "ValueError.__init__") [] (backTo pos (starEach (e :: es) X.env)) []) _ _ _
  refine PyProof.Rows.callWith_method1 (thn (ha.run pos pins _ σ H _ (I.tok _) h) fun us s1 ⟨vs, H1, I1, r1, a, C, ws, ev, hl, T, ea, q⟩ => ?_) he hpl
  subst ev
  cases r1 with
  | @cons _ u0 _ ur ra rw' =>
    obtain rfl : u0 = Value.ref a := ra
    have hlen : ur.length ≤ sizeLine := by
      rw [← Paired.length rw', sizeLine_eq]
      omega
    exact oinit_ok T I1 ea hlen fun s' J => ⟨.non, H1, J, rfl, q⟩
end
end EK
/-! ### isinstance of a caught error that has its dict -/
namespace PySem.W
open PySem PySem.Spec PySem.Calls PyProof.Rows
section
variable {prog : Program} {w : World} {A : Around} {E : Value → Shared → Prop} {s : Shared} {K : Frag} {x D : Addr} {ox : Obj} {od : Option Obj}
theorem ek_findObj {C : Addr} {name : Str} {a g : Value} (hc : (clsIn K C).isSome = true) (ha : findIn K (.ref C) name = some (some a)) (hg : specialIn K a "__get__" = some (some g)) (ht : takesIn K a = some true) : findObj K C od name = some (.bind g a) := by
  obtain ⟨cd, hc⟩ := Option.isSome_iff_exists.mp hc
  unfold findObj
  rw [hc, Option.bind_some, ha, Option.bind_some]
  simp [hg, ht]
theorem ek_kin_class {Q : Option Value → Shared → Prop} (hga : findIn K (.ref D) "__getattribute__" = some (some (.builtin "BaseException.__getattribute__"))) (hgt : findIn K (.ref D) "__getattr__" = some none) (hsub : subIn K (.ref D) (.type "BaseException") = some true)
    (hdct : hasDictIn K D = true) (ha : findIn K (.ref D) "__class__" = some (some (.builtin "object.__class__")))
    (hn : specialIn K (.builtin "object.__class__") "__get__" = some (some (.builtin "getset_descriptor.__get__"))) (htk : takesIn K (.builtin "object.__class__") = some true) (hm : mroIn K D (.type "object") = some true)
    (X : K.In s.heap) (I : InstAt s.heap x ox D od) (h : Q (some (.ref D)) { s with toks := s.toks + 1 }) : wpAny (model prog w) A (getAttr? (.ref x) "__class__") Q E s := by
  have hf : findObj K D od "__class__" = some (.bind (.builtin "getset_descriptor.__get__") (.builtin "object.__class__")) := ek_findObj (by obtain ⟨cd, hc, _⟩ := any_some hdct; rw [hc]; rfl) ha hn htk
  obtain ⟨hp, g, d, t, os⟩ := s
  have L0 := I.type (M := model prog w)
  have L1 := looks_findIn (M := model prog w) X hga
  have L2 := looks_findIn (M := model prog w) X hgt
  have L3 := looks_find (M := model prog w) X I hf
  have sub : Looks (model prog w) hp (isInstance (.ref x) (.type "BaseException")) true := L0.andThen (looks_subIn X hsub)
  have hx0 : (false && onTheHeap (Value.builtin "BaseException.__getattribute__")) = false := rfl
  have hx2 : (Value.builtin "BaseException.__getattribute__" == Value.builtin "object.__getattribute__") = false := by decide +kernel
  have hx1 : (onTheHeap (Value.ref D) && Value.builtin "BaseException.__getattribute__" == Value.builtin "object.__getattribute__") = false := by rw [hx2]; rfl
  unfold getAttr? getAttrBy? getAttrBy
  refine wpAny_bind (wpAny_mkText (wpAny_bind (wpAny_attempt (wpAny_holding (wpAny_bind (L0.at (wpAny_bind (L1.at ?_))))))))
  show wpAny _ _ (if (onTheHeap (Value.ref D) && Value.builtin "BaseException.__getattribute__" == Value.builtin "object.__getattribute__") = true then _ else _) _ _ _
  rw [hx1, if_neg Bool.false_ne_true]
  unfold getAttrByItsOwn hookBefore
  refine wpAny_bind ?_
  rw [if_pos (show onTheHeap (Value.ref D) = true from rfl)]
  refine L2.at ?_
  refine wpAny_bind (wpAny_attempt (wpAny_holding ?_))
  unfold callGetattribute
  rw [hx0, if_neg Bool.false_ne_true]
  unfold boundAndCalled
  rw [PySem.F.excAttr_ValueError.ga.bind (.ref x)]
  refine wpAny_bind (wpAny_pure ?_)
  show wpAny _ _ (call (.builtin "BaseException.__getattribute__") [.ref x, .str "__class__" t]) _ _ _
  refine wpAny_call (codeAny_call_builtin PySem.F.excAttr_ValueError.ga.plain PySem.F.entry_bexc_ga ?_)
  refine @check_slot (model prog w) _ _ ⟨hp, g, d, t + 1, os⟩ "BaseException.__getattribute__" "BaseException" "__getattribute__" (.ref x) [.str "__class__" t] [] _ (by decide +kernel) (by decide +kernel) sub (PySem.F.args_bexc_ga (.ref x) (.str "__class__" t)) ?_
  unfold Builtin.«object.__getattribute__»
  refine wpAny_bind (wpAny_of_eq (a := ((Value.ref x : Value), [Value.str "__class__" t])) (by first | rfl | (simp only [slotArgs]; rfl)) ?_)
  refine wpAny_bind (wpAny_pure (wpAny_bind (L0.at (wpAny_bind (L3.at ?_)))))
  show wpAny _ _ (holding [Value.builtin "object.__class__"] (call (.builtin "getset_descriptor.__get__") [.builtin "object.__class__", .ref x, .ref D]) >>= ret) _ _ _
  refine wpAny_bind (wpAny_holding (wpAny_call (class_get (s := ⟨hp, g, d, t + 1, os⟩) (ox := ox) (od := od) X I hm ?_)))
  refine wpAny_pure ?_
  show wpAny _ _ (handedOut (.ref D)) _ _ _
  rw [handedOut_of (v := .ref D) rfl]
  first
    | exact wpAny_pure (wpAny_pure h)
    | exact wpAny_pure h
    | exact wpAny_pure (wpAny_bind (wpAny_pure (wpAny_pure h)))
theorem ek_kitx (hga : findIn K (.ref D) "__getattribute__" = some (some (.builtin "BaseException.__getattribute__"))) (hgt : findIn K (.ref D) "__getattr__" = some none) (hsub : subIn K (.ref D) (.type "BaseException") = some true) (hdct : hasDictIn K D = true) (ha : findIn K (.ref D) "__class__" = some (some (.builtin "object.__class__")))
    (hn : specialIn K (.builtin "object.__class__") "__get__" = some (some (.builtin "getset_descriptor.__get__"))) (htk : takesIn K (.builtin "object.__class__") = some true) (hm : mroIn K D (.type "object") = some true) :
    KitX K (.ref x) (.ref D) (fun h => InstAt h x ox D od) where
  ty := fun _ _ _ I => I.type
  it := fun _ _ X _ => by
    obtain ⟨cdD, hcD, _⟩ := any_some hdct
    unfold clsIn at hcD
    split at hcD
    · rename_i c' d' cd' sl' ho
      intro A' Q' E' s' k q
      unfold isType loadHead
      exact wpAny_bind (wpAny_loadPart (k _ _ (X _ _ ho)) (wpAny_pure q))
    · cases hcD
  ne := fun h tp dd its n sl X htp => by
    obtain ⟨cdD, hcD, _⟩ := any_some hdct
    refine Bool.eq_false_iff.mpr fun q => ?_
    have e : D = tp := Value.ref.inj (beq_iff_eq.mp q)
    subst e
    unfold clsIn at hcD
    split at hcD
    · rename_i c' d' cd' sl' ho
      have z := (X _ _ ho).symm.trans htp
      cases z
    · cases hcD
  ca := fun X I k => ek_kin_class hga hgt hsub hdct ha hn htk hm X I k
end
end PySem.W
namespace EK
open PySem PySem.Spec PyProof.Rows L2
/-- isinstance(e, c), e the exception that the suite holds: its class D, its dict at d -/
def rIsE (K : PySem.W.Frag) (cls : Value) (d : Option Addr) (D a : Addr) : List V → Hp → VK → Prop := fun xs H Q => ∃ (c : V) (cv : Value) (b : Bool), xs = [.ref a, c] ∧ cls = .ref D ∧ (∃ dd fs, d = some dd ∧ H dd = some (.xd fs)) ∧ ClsV c cv ∧ PySem.W.kitOne K (.ref D) cv = some b ∧ Q (.bl b) H
theorem call_isE {X : Cx} {a D : Addr} {cls : Value} {d : Option Addr} {oe : Obj} {pn : List (Addr × Obj)} (C : ExcC X.K D) (hz : Zc cls d oe) (hf : ∃ vs, oe.data = .fields vs) : CallR (X.suite a ((a, oe) :: pn)) (.builtin "isinstance") (rIsE X.K cls d D a) := by
  intro pins s σ H xs us Q I r h
  obtain ⟨c, cv, b, rfl, ec, ⟨dd, fs, ed, hd⟩, k, e, q⟩ := h
  obtain ⟨u1, u2, rfl, r1, r2⟩ := vals2 r
  cases r1
  have e2 := k.eq r2
  subst e2 ec ed
  obtain ⟨hget, _⟩ := I.pin (a, oe) (List.mem_append.mpr (.inl List.mem_cons_self))
  obtain ⟨vs, hv⟩ := hf
  have hx : ObjOk X.prog X.w H s.heap dd (.xd fs) := I.hok dd _ hd
  obtain ⟨mA, hns, _⟩ := hx
  obtain ⟨od, ho, _⟩ := lookIn_ns hns
  have J : PySem.W.InstAt s.heap a oe D (some od) := ⟨hget, hz.1, by unfold PySem.W.notCls; rw [hv] <;> rfl, by rw [hz.2]; exact ho⟩
  exact PySem.W.kia_one (PySem.W.ek_kitx C.hg C.hk C.hs C.hd C.ha C.hn C.ht C.hm) I.kIn J e (fun z => nomatch z) fun tk => ⟨.bl b, H, I.kept (t' := tk) fun _ _ z => z, rfl, q⟩
/-! ### several except clauses, all with one name -/
def endsN (D : Ends) (i : Nat) : Ends := { nx := fun σ' H' => D.nx (σ'.set i none) H', rt := D.rt, bk := fun σ' H' => D.bk (σ'.set i none) H', ct := fun σ' H' => D.ct (σ'.set i none) H' }
def wManyN (K : PySem.W.Frag) (Wout : WX) (D : Ends) (i : Nat) : List (Value × (Addr → Value → Option Addr → TS)) → WX
  | [] => Wout
  | (c, ts) :: r => fun cls d σ H => ∃ b, PySem.W.exmOne K cls c = some b ∧ (b = true → ∀ a, H a = none → ts a cls d (endsN D i) (σ.set i (some (.ref a))) H) ∧ (b = false → wManyN K Wout D i r cls d σ H)
inductive HdsN (X : Cx) (n : Str) : List ExceptHandler → List (Value × (Addr → Value → Option Addr → TS)) → Prop
  | nil : HdsN X n [] []
  | cons {x : Str} {c : Value} {ts : Addr → Value → Option Addr → TS} {b₀ : Stmt} {suite : List Stmt} {np pos' : Pos} {hds : List ExceptHandler} {l : List (Value × (Addr → Value → Option Addr → TS))} (hc : Names X x c)
      (hsu : ∀ (a : Addr) (oe : Obj) (cls : Value) (d : Option Addr) (pn : List (Addr × Obj)), Zc cls d oe → (∃ vs, oe.data = .fields vs) → PSs (X.suite a ((a, oe) :: pn)) (b₀ :: suite) (ts a cls d)) (r : HdsN X n hds l) :
      HdsN X n (.ExceptHandler (some (.Name x np)) (some n) (b₀ :: suite) pos' :: hds) ((c, ts) :: l)
section
variable {X : Cx} {n : Str} {i : Nat} {body : List Stmt} {h₀ : ExceptHandler} {hds : List ExceptHandler} {l : List (Value × (Addr → Value → Option Addr → TS))} {pos : Pos} {tb : WX → TS} {Wout : WX}
theorem ps_tryN (hs : X.stack = X.env :: X.outer) (hf : X.env.frame = some X.env.locals) (hN : X.N.Nodup) (hi : X.N[i]? = some n) (hln : X.env.kindOf n = some .local) (tk : Takes X Wout)
    (hb : ∀ (W : WX) (pn : List (Addr × Obj)) (xe : Value → Shared → Prop), Takes (X.tr pn xe) W → PassesOwn (model X.prog X.w) X.A X.env xe → PSs (X.tr pn xe) body (tb W))
    (hh : HdsN X n (h₀ :: hds) l) : PS X (.Try body (h₀ :: hds) [] [] pos) (fun D σ H => tb (wManyN X.K Wout D i l) D σ H) := by
  refine ⟨fun pins s σ H D I h => ?_⟩
  have ok := I.ok
  have hfr : X.A.frames = some (X.env :: X.outer) := by rw [ok.frames, hs]
  have hloc : Loc X.env.scope n := .inl hln
  refine wpAny_Try_except ?_
  refine wpAny_mono ((hb (wManyN X.K Wout D i l) (X.pn ++ pins) (fun e s₁ => wpAny (model X.prog X.w) X.A (noteFrame e X.env) (fun _ s₂ => wpAny (model X.prog X.w) X.A (setFlight e none) (fun _ s₃ =>
    wpAny (model X.prog X.w) X.A (handleBy e X.env (h₀ :: hds)) (SP X pins D) X.xe s₃) X.xe s₂) X.xe s₁) (fun u s' xx => ?_) PassesOwn.looking).run [] s σ H D (I.toTry _) h) (fun f s1 hsp => ?_) (fun e s1 he => he)
  · -- the catch
    obtain ⟨a, B, sI, pins', σ', H', cls, d, rfl, J', nb, up, sky, na, os, ag, w⟩ := xx
    have J : Inv X pins σ' H' sI := J'.ofTry ok
    have sky' : Sky B (X.env :: X.outer) a (Zc cls d) X.env.locals s'.heap := by rw [← hs]; exact sky
    show wpAny (model X.prog X.w) X.A (noteFrame (.ref a) X.env) _ _ _
    refine Sky.land Zc.steady hfr hf sky' fun h3 fl3 up3 => ?_
    have J3 : Inv X pins σ' H' { s' with heap := h3 } := J.landed nb fl3.1 (up.trans up3) os ag
    obtain ⟨oe3, vs3, he3, hz3, hd3⟩ := fl3.there
    have notFr : ∀ {h : Heap} {o : Obj} {vs : Array Value}, h.FunFrames B (X.env :: X.outer) → h.get? a = some o → o.data = .fields vs → a ∉ frs (X.env :: X.outer) := fun {h o vs} ff e dd hm => by
      obtain ⟨_, o', e', hnf⟩ := ff.mem hm
      rw [e] at e'; cases e'
      exact hnf _ dd
    have nfr := notFr fl3.2.2.1 he3 hd3
    have nL : a ≠ X.env.locals := fun z => nfr (List.mem_filterMap.mpr ⟨X.env, List.mem_cons_self, by rw [hf, z]⟩)
    have nF : a ∉ X.fs := fun hm => by
      obtain ⟨e, he, q⟩ := List.mem_filterMap.mp hm
      exact nfr (List.mem_filterMap.mpr ⟨e, List.mem_cons_of_mem _ he, q⟩)
    have S3 := J3.suite he3 hd3 na nL nF
    have go : ∀ {hds' : List ExceptHandler} {l' : List (Value × (Addr → Value → Option Addr → TS))}, HdsN X n hds' l' → wManyN X.K Wout D i l' cls d σ' H' →
        wpAny (model X.prog X.w) X.A (handleBy (.ref a) X.env hds') (SP X pins D) X.xe { s' with heap := h3 } := by
      intro hds' l' hk
      induction hk with
      | nil =>
        intro w
        refine wpAny_handleBy_nil ?_
        obtain ⟨k1, k2, k3, oe, vs, T, oT, ts', he, hz, hd, h1, hr⟩ := id fl3
        unfold PySem.passOn
        refine wpAny_bind (wpAny_field he hd h1 ?_)
        rw [if_neg (show ¬ ((Value.ref T == Value.none) = true) from by simp)]
        have fin : wpAny (model X.prog X.w) X.A (setFlight (.ref a) X.env.frame) (fun _ s4 => wpAny (model X.prog X.w) X.A (throw (.ref a) : Sem Flow) (SP X pins D) X.xe s4) X.xe { s' with heap := h3 } := by
          rw [hf]
          refine HandSPX.setFlight_upZ fl3 fun h4 hh4 up4 => wpAny_throw (tk _ _ ?_)
          exact ⟨a, B, sI, pins, σ', H', cls, d, rfl, J, nb, (up.trans up3).trans up4, .inr (.inr (by rw [hs]; exact hh4)), na, os, ag, w⟩
        first
          | exact wpAny_bind (wpAny_pure (wpAny_bind fin))
          | exact wpAny_bind fin
      | @cons x c ts b₀ suite np pos' hds2 l2 hc hsu r ih =>
        intro w
        obtain ⟨b, hb1, hyes, hno⟩ := w
        refine wpAny_handleBy_cons (codeAny_handlers_test ?_) (by intro q; cases q)
        have LT : PySem.W.Looks (model X.prog X.w) h3 (typeOf (.ref a)) cls := fun A Q E s k q => wpAny_typeOf_ref (k _ _ he3) (by rw [hz3.1]; exact q)
        have LM := PySem.W.exm_one (M := model X.prog X.w) (J3.kIn) LT hb1
        have test : ∀ {Q : Value → Shared → Prop} {E : Value → Shared → Prop}, Q c { s' with heap := h3 } → wpAny (model X.prog X.w) (X.A.mark (some (.ref a))) (eval (.Name x np) X.env) Q E { s' with heap := h3 } := fun {Q E} q => by
          obtain ⟨hg, hdbg, hm | ⟨hm, hv, hnn⟩⟩ := hc
          · exact ld_glob (X := X.suite a ((a, oe3) :: (X.pn ++ pins))) S3 hg hm q hdbg
          · exact ld_blt (X := X.suite a ((a, oe3) :: (X.pn ++ pins))) S3 hg hm hv q hnn hdbg
        refine test (LM.here ?_)
        cases b with
        | true =>
          refine codeAny_handlers_suite_as ?_
          refine HandSPX.lands_againZ fl3 fun h4 fl4 up4 => ?_
          have J4 : Inv X pins σ' H' { s' with heap := h4 } := J.landed nb fl4.1 ((up.trans up3).trans up4) os ag
          obtain ⟨oe4, vs4, he4, hz4, hd4⟩ := fl4.there
          have S4 := J4.suite he4 hd4 na nL nF
          refine store_ok (X := X.suite a ((a, oe4) :: (X.pn ++ pins))) (v := .ref a) S4 hN hi hloc rfl (fun s5 S5 => ?_) (.inr hln)
          refine wpAny_mono ((hsu a oe4 cls d (X.pn ++ pins) hz4 ⟨_, hd4⟩).run [] s5 _ H' _ S5 (hyes rfl a na)) (fun f s6 hsp => ?_) (fun _ _ z => False.elim z)
          have end_ : ∀ {σ6 : L2.St} {H6 : Hp} {Q : Shared → Prop}, Inv (X.suite a ((a, oe4) :: (X.pn ++ pins))) [] σ6 H6 s6 → (∀ s7, Inv X pins (σ6.set i none) H6 s7 → Q s7) →
              wpAny (model X.prog X.w) X.A (do bindName X.env n .none; unbindBehindTheSuite X.env n pos') (fun _ s7 => Q s7) X.xe s6 := fun {σ6 H6 Q} S6 hq => gone_ok (S6.unsuite ok) hN hi hln hq
          cases f with
          | next =>
            obtain ⟨σ6, H6, S6, q6⟩ := hsp
            exact end_ S6 fun s7 J7 => ⟨_, _, J7, q6⟩
          | brk =>
            obtain ⟨σ6, H6, S6, q6⟩ := hsp
            exact end_ S6 fun s7 J7 => ⟨_, _, J7, q6⟩
          | cont =>
            obtain ⟨σ6, H6, S6, q6⟩ := hsp
            exact end_ S6 fun s7 J7 => ⟨_, _, J7, q6⟩
          | ret u =>
            obtain ⟨v6, σ6, H6, S6, r6, q6⟩ := hsp
            exact end_ S6 fun s7 J7 => ⟨_, _, _, J7, r6, q6⟩
        | false =>
          show wpAny _ X.A (handleBy (.ref a) X.env hds2) _ _ _
          exact ih (hno rfl)
    exact go hh w
  · cases f with
    | next =>
      obtain ⟨σ', H', J', q⟩ := hsp
      exact wpAny_execs_nil ⟨σ', H', J'.ofTry ok, q⟩
    | brk =>
      obtain ⟨σ', H', J', q⟩ := hsp
      exact ⟨σ', H', J'.ofTry ok, q⟩
    | cont =>
      obtain ⟨σ', H', J', q⟩ := hsp
      exact ⟨σ', H', J'.ofTry ok, q⟩
    | ret u =>
      obtain ⟨v, σ', H', J', r, q⟩ := hsp
      exact ⟨v, σ', H', J'.ofTry ok, r, q⟩
end
end EK

/-! exceptions of own classes as values: made by position and by name, their fields, isinstance -/
namespace PySem
namespace ExV
open PySem.Spec PySem.W PySem.Calls PyProof.Rows PySem.HandSPX Builtin Builtin.ObjectAttr
section
variable {M : Model} {prog : Program} {w : World} {A : Around} {E : Value → Shared → Prop} {R : Result → Shared → Prop} {h : Heap} {g : Array GenState} {d : Drawn} {t : Nat} {os : OsState}
variable {nm q : Str} {C N : Addr} {bs bm bmB : List Value} {hdct : Bool} {sn : List Str} {sub : List Value} {ab : Bool} {col : Option Bool} {dd : Option Addr} {k0 k1 k2 k3 k5 : Option Value} {B newId initId : String} {kw : List (Str × Value)} {xs : List Value}
theorem own_check (F : ExcBaseFacts B newId initId bmB) (hT : ∀ X : String, bm.contains (.type X) = bmB.contains (.type X)) {Q : Unit → Shared → Prop}
    (hC : h.get? C = some (excClassObj nm q C N bs bm hdct sn sub ab col dd k0 k1 k2 k3 k5 newId)) (z : Q () ⟨h, g, d, t, os⟩) : wpAny M A (checkBuiltinCall newId ⟨.ref C :: xs, kw⟩) Q E ⟨h, g, d, t, os⟩ := by
  have inB : (Value.ref C :: bm).contains (.type B) = true := by
    rw [List.contains_cons, hT, F.hasB, Bool.or_true]
  have st := F.noStar
  simp only [checkBuiltinCall, F.newKind, F.newSplit, F.newRow]
  repeat (first | refine wpAny_loadPart_at hC ?_ | (refine wpAny_isSubtype_exc hC ?_; rw [inB]) | refine wpAny_staticBase_exc hC ?_ | refine wpAny_madeBy_exc hC ?_ | simp only [bne_self_eq_false, Bool.false_eq_true, if_false] | wp_step)
  exact z
theorem own_new (F : ExcBaseFacts B newId initId bmB) (hT : ∀ X : String, bm.contains (.type X) = bmB.contains (.type X))
    (hC : h.get? C = some (excClassObj nm q C N bs bm hdct sn sub ab col dd k0 k1 k2 k3 k5 newId))
    (z : R (.ok (.ret (.ref (h.objs.size + 1)))) ⟨(h.push (W.kdv_tup xs)).push (excO C h.objs.size), g, d, t, os⟩) (hl : xs.length ≤ sizeLine) :
    codeAny (model prog w) A (.builtin newId ⟨.ref C :: xs, kw⟩) R ⟨h, g, d, t, os⟩ := by
  have en := F.ends
  have inB : (Value.ref C :: bm).contains (.type B) = true := by
    rw [List.contains_cons, hT, F.hasB, Bool.or_true]
  have noA : (Value.ref C :: bm).contains (.type "AttributeError") = false := by
    rw [List.contains_cons, hT, F.noAttr]
    rfl
  have noN : (Value.ref C :: bm).contains (.type "NameError") = false := by
    rw [List.contains_cons, hT, F.noName]
    rfl
  refine codeAny_builtinAt F.entry ?_
  unfold Builtin.«BaseException.__new__»
  refine wpAt_bind ?_
  show wpAt _ _ _ (stack >>= _) _ _ _
  refine wpAt_bind (wpAt_stack fun p below => wpAt_of_wpAny ?_)
  wp_walk
  refine wpAt_of_wpAny ?_
  rw [F.owner]
  repeat (first | with_reducible refine wpAny_madeHere_exc F.canon hC ?_ | with_reducible refine wpAny_loadPart_at hC ?_ | (with_reducible refine wpAny_isSubtype_exc hC ?_; first | rw [inB] | rw [noA] | rw [noN]) | wp_step)
  show R _ _
  rw [Heap.size_push]
  exact z
theorem own_type (F : ExcBaseFacts B newId initId bmB) (hT : ∀ X : String, bm.contains (.type X) = bmB.contains (.type X)) {fv : Value} {Q : Fin → Shared → Prop}
    (hC : h.get? C = some (excClassObj nm q C N bs bm hdct sn sub ab col dd k0 k1 k2 k3 k5 newId))
    (hi : W.Looks (model prog w) h (typeLookup (.ref C) "__init__") (some fv)) (hb : ∀ self, W.Looks (model prog w) h (bindSpecial fv self) (fv, [self])) (hl : xs.length ≤ sizeLine)
    (z : codeAny (model prog w) A (.call fv ⟨.ref (h.objs.size + 1) :: xs, kw⟩) (fun r s' => match r with | .ok (.ret v) => v = .none ∧ Q (.done (.ret (.ref (h.objs.size + 1)))) s' | .ok _ => False | .error e => E e s')
      ⟨(h.push (W.kdv_tup xs)).push (excO C h.objs.size), g, d, t, os⟩) :
    wpAny (model prog w) A (Builtin.«type.__call__» ⟨.ref C :: xs, kw⟩) Q E ⟨h, g, d, t, os⟩ := by
  repeat (first | with_reducible refine wpAny_loadPart_at hC ?_ | with_reducible refine wpAny_madeBy_exc hC ?_ | wp_step)
  refine codeAny_call_builtin_code (Code.quiet_builtin _ F.quiet) (own_check F hT hC ?_)
  refine own_new F hT hC ?_ hl
  show wpAny _ _ _ _ _ _
  have kp : ∀ b o, h.get? b = some o → ((h.push (W.kdv_tup xs)).push (excO C h.objs.size)).get? b = some o := fun b o y => Heap.get?_push_of_some _ (Heap.get?_push_of_some _ y)
  have hC2 := kp _ _ hC
  have he : ((h.push (W.kdv_tup xs)).push (excO C h.objs.size)).get? (h.objs.size + 1) = some (excO C h.objs.size) := by heap_get
  have inC : (Value.ref C :: bm).contains (.ref C) = true := by simp
  have hi2 := hi.keeps kp
  have hb2 := (hb (.ref (h.objs.size + 1))).keeps kp
  unfold isInstance
  repeat (first | with_reducible refine wpAny_loadPart_at he ?_ | (with_reducible refine wpAny_isSubtype_exc hC2 ?_; rw [inC]) | wp_step)
  show wpAny _ _ (typeLookup (.ref C) _) _ _ _
  refine hi2.at ?_
  refine wpAny_holding (wpAny_bind (hb2.at ?_))
  refine wpAny_bind (wpAny_call (codeAny_mono z fun r s' y => ?_))
  rcases r with e | (v | _ | _ | _) <;> first | exact y | exact y.elim | skip
  obtain ⟨rfl, y⟩ := y
  first
    | exact wpAny_pure (wpAny_pure y)
    | (wp_walk; exact y)
theorem own_chk {Q : Unit → Shared → Prop} (hC : h.get? C = some (excClassObj nm q C N bs bm hdct sn sub ab col dd k0 k1 k2 k3 k5 newId))
    (hq : Q () ⟨h, g, d, t, os⟩) : wpAny M A (checkBuiltinCall "type.__call__" ⟨.ref C :: xs, kw⟩) Q E ⟨h, g, d, t, os⟩ := by
  have sb := tc_sub
  have ty : (⟨h, g, d, t, os⟩ : Shared).TypeIs (.ref C) "type" := ⟨_, hC, rfl⟩
  simp only [checkBuiltinCall, tc_kind, tc_split]
  repeat (any_goals (first | assumption | with_reducible refine wpAny_loadPart_at hC ?_ | with_reducible refine wpAny_onRaise ?_ | with_reducible refine wpAny_map ?_ | wp_step))
theorem own_call (F : ExcBaseFacts B newId initId bmB) (hT : ∀ X : String, bm.contains (.type X) = bmB.contains (.type X)) {fv : Value}
    (hC : h.get? C = some (excClassObj nm q C N bs bm hdct sn sub ab col dd k0 k1 k2 k3 k5 newId))
    (hi : W.Looks (model prog w) h (typeLookup (.ref C) "__init__") (some fv)) (hb : ∀ self, W.Looks (model prog w) h (bindSpecial fv self) (fv, [self])) (hl : xs.length ≤ sizeLine)
    (z : codeAny (model prog w) (A.under (.builtin "type.__call__" ⟨.ref C :: xs, kw⟩)) (.call fv ⟨.ref (h.objs.size + 1) :: xs, kw⟩) (W.InitBack (h.objs.size + 1) R)
      ⟨(h.push (W.kdv_tup xs)).push (excO C h.objs.size), g, d, t, os⟩) : codeAny (model prog w) A (.call (.ref C) ⟨xs, kw⟩) R ⟨h, g, d, t, os⟩ := by
  have lk := tc_lookup
  have bd := tc_bind (.ref C)
  have ty : (⟨h, g, d, t, os⟩ : Shared).TypeIs (.ref C) "type" := ⟨_, hC, rfl⟩
  refine codeAny_of_tree ?_
  show wpAny _ _ (callAny (.ref C) _) _ _ _
  repeat (any_goals (first | assumption | with_reducible refine wpAny_loadPart_at hC ?_ | wp_step))
  refine ⟨rfl, ?_⟩
  refine codeAny_call_builtin_at (Code.quiet_builtin _ (by decide +kernel)) entry_typeCall (own_chk hC (own_type F hT hC hi hb hl ?_))
  refine codeAny_mono z fun r s' y => ?_
  rcases r with e | (v | _ | _ | _) <;> exact y
end
end ExV
end PySem
namespace EK
open PySem PySem.Spec PyProof.Rows L2
/-- C(..) kept as a value: __init__ keeps sp -/
def tMkV (C : Addr) (sp : Sp) (ta : TA) : TE := fun σ H Q => ta σ H fun vs H1 => vs.length ≤ 1000 ∧ ∀ a, H1 a = none → sp (.ref a :: vs) (upd H1 a (exo a C none)) (fun v H2 => v = .non ∧ Q (.ref a) H2) (fun _ _ _ => False)
/-- .. by names, put in their order by g -/
def tMkN (C : Addr) (sp : Sp) (n : Nat) (g : List V → List V → List V) (tk : TA) : TE := fun σ H Q => tk σ H fun zs H1 => zs.length = n ∧ ∀ a, H1 a = none → sp (g [.ref a] zs) (upd H1 a (exo a C none)) (fun v H2 => v = .non ∧ Q (.ref a) H2) (fun _ _ _ => False)
section
variable {X : Cx} {CX : CXT} {x : Str} {e : Expr} {es : List Expr} {ta tk : TA} {p pos : Pos} {C fI : Addr} {k : Nat} {fd : FuncData} {ps ks : List Str} {sp : Sp} {kws : List Keyword} {pins : List (Addr × Obj)} {σ : L2.St} {H : Hp} {s : Shared} {Q : VK}
theorem run_mkv (T : OexC X.K C) (iC : PySem.W.findIn X.K (.ref C) "__init__" = some (some (.ref fI))) (tI : PySem.W.typeIn X.K (.ref fI) = some (.type "function")) (F1 : FnOk X.prog X.w X.K X.mg X.base CX k fI fd ps sp) (hr : Room (k + 1) X.A)
    (hx : Passes CX X (fun _ _ _ => False)) (I : Inv X pins σ H s) {us : List Value} {kw : List (Str × Value)} (hl : us.length ≤ sizeLine) {G : Value → List Value} {gv : V → List V} (hb : ∀ (s' : Shared) (u : Value), X.K.In s'.heap → BindsTo s' fd ⟨u :: us, kw⟩ (ps.zip (G u)))
    (r2 : ∀ a : Addr, Vals (gv (.ref a)) (G (.ref a))) (h : ∀ a, H a = none → sp (gv (.ref a)) (upd H a (exo a C none)) (fun v H2 => v = .non ∧ Q (.ref a) H2) (fun _ _ _ => False)) : wpAny (model X.prog X.w) X.A (call (.ref C) us kw) (EP X pins σ Q) X.xe s := by
  obtain ⟨nm, q, N, bs, bm, sn, sub, ab, col, dd, k0, k1, k2, k3, k5, hC, hbm⟩ := T.cls
  obtain ⟨hp, g, dr, tk, os⟩ := s
  have up : hp.objs.size ≤ hp.objs.size + 1 := Nat.le_succ _
  have hq := h (hp.objs.size + 1) (I.hok.fresh up)
  have kk : ∀ b o, hp.get? b = some o → ((hp.push (PySem.W.kdv_tup us)).push (PySem.HandSPX.excO C hp.objs.size)).get? b = some o := fun b o y => Heap.get?_push_of_some _ (Heap.get?_push_of_some _ y)
  have he : ((hp.push (PySem.W.kdv_tup us)).push (PySem.HandSPX.excO C hp.objs.size)).get? (hp.objs.size + 1) = some (PySem.HandSPX.excO C hp.objs.size) := by heap_get
  have I2 : Inv X pins σ (upd H (hp.objs.size + 1) (exo (hp.objs.size + 1) C none)) ⟨(hp.push (PySem.W.kdv_tup us)).push (PySem.HandSPX.excO C hp.objs.size), g, dr, tk, os⟩ :=
    I.laid (t' := tk) (a := hp.objs.size + 1) (o := exo (hp.objs.size + 1) C none) (h' := (hp.push (PySem.W.kdv_tup us)).push (PySem.HandSPX.excO C hp.objs.size)) kk up (exo_ok he)
  refine wpAny_call (PySem.ExV.own_call F.excBase_ValueError (fun Y => PySem.HandSPX.refsVE_contains Y bm hbm) (I.kIn _ _ hC) (PySem.W.looks_findIn I.kIn iC) (fun self => PySem.W.bind_fn I.kIn self tI) hl
    (codeAny_mono (F1.run _ X.stack _ _ ⟨Value.ref (hp.objs.size + 1) :: us, kw⟩ (G (.ref (hp.objs.size + 1))) _ _ (fun _ _ _ => False) (hr.make C us kw) (I2.env0.make C us kw) (hb _ _ I2.kIn) (r2 _) hq) fun r s' hq' => ?_))
  cases r with
  | error er => exact hx pins σ _ _ er s' I2 hq'
  | ok fl =>
    cases fl with
    | ret u =>
      obtain ⟨v, H', I3, rv, ev, q3⟩ := I2.after hq'
      subst ev
      exact ⟨rv, ⟨V.ref (hp.objs.size + 1), H', I3, rfl, q3⟩⟩
    | next => exact False.elim hq'
    | brk => exact False.elim hq'
    | cont => exact False.elim hq'
theorem pe_mkv (T : OexC X.K C) (iC : PySem.W.findIn X.K (.ref C) "__init__" = some (some (.ref fI))) (tI : PySem.W.typeIn X.K (.ref fI) = some (.type "function")) (F1 : FnOk X.prog X.w X.K X.mg X.base CX k fI fd ps sp) (hr : Room (k + 1) X.A) (hb : Binds X.K fd ps [])
    (hx : Passes CX X (fun _ _ _ => False)) (hg : Gl X x) (hm : X.mg x = some (.ref C)) (ha : PA X (e :: es) ta) (hdb : (x == ("__debug__" : Str)) = false := by decide) (he : starEach (e :: es) X.env = (false, eval e X.env) :: starEach es X.env := by rfl)
    (hpl : (backTo pos (starEach es X.env)).any (·.1) = false := by rfl) : PE X (.Call (.Name x p) (e :: es) [] pos) (tMkV C sp ta) := by
  refine ⟨fun pins s σ H Q I h => ?_⟩
  refine wpAny_Call_Name_kw (ld_glob I hg hm ?_ hdb)
  refine PySem.W.callWith_K (h₀ := X.base) I.ok.mod.kin T.kC (thn (ha.run pos pins s σ H _ I h) fun us s1 ⟨vs, H1, I1, r1, hz, q1⟩ => ⟨I1.kIn, ?_⟩) he hpl
  have hus : us.length ≤ sizeLine := by
    rw [← Paired.length r1, sizeLine_eq]
    omega
  show wpAny _ _ (call (.ref C) us) _ _ _
  refine run_mkv (gv := fun v => v :: vs) (G := fun u => u :: us) T iC tI F1 hr hx I1 hus (fun s' u X' => ?_) (fun a => .cons rfl r1) q1
  have y := hb s' (u :: us) X' ?_
  · rw [List.append_nil] at y
    exact y
  have el : (Value.ref 0 :: us).length = ps.length := by
    have z := F1.len _ _ _ _ (q1 _ (I1.hok.fresh (Nat.le_refl _)))
    rw [← z]
    exact (Paired.length (F := RelV) (.cons (a := V.ref 0) (b := Value.ref 0) rfl r1)).symm
  simpa using el
theorem pe_mkn {g : List Value → List Value → List Value} {gV : List V → List V → List V} (T : OexC X.K C) (iC : PySem.W.findIn X.K (.ref C) "__init__" = some (some (.ref fI))) (tI : PySem.W.typeIn X.K (.ref fI) = some (.type "function")) (F1 : FnOk X.prog X.w X.K X.mg X.base CX k fI fd ps sp)
    (hr : Room (k + 1) X.A) (hb : KBn X.K fd ps 1 ks g gV) (hx : Passes CX X (fun _ _ _ => False)) (hg : Gl X x) (hm : X.mg x = some (.ref C)) (hkw : PK X kws tk) (hall : (backToKw pos (keywordEach kws X.env)).all (·.1.isSome) = true := by rfl)
    (hks : (backToKw pos (keywordEach kws X.env)).filterMap (·.1) = ks := by rfl) (hdb : (x == ("__debug__" : Str)) = false := by decide) (hpl : ((backTo pos (starEach [] X.env)).any (·.1) || (backToKw pos (keywordEach kws X.env)).any (·.1.isNone)) = false := by rfl) :
    PE X (.Call (.Name x p) [] kws pos) (tMkN C sp ks.length gV tk) := by
  refine ⟨fun pins s σ H Q I h => ?_⟩
  refine wpAny_Call_Name_kw (ld_glob I hg hm ?_ hdb)
  refine PySem.W.callWith_KW0 (h₀ := X.base) I.ok.mod.kin T.kC hall ?_ hpl
  refine thn (hkw.run pos pins s σ H _ I h) fun ws s2 ⟨zs, H2, I2, rz, l1, q2⟩ => ⟨I2.kIn, ?_⟩
  rw [hks]
  exact run_mkv (gv := fun v => gV [v] zs) (G := fun u => g [u] ws) T iC tI F1 hr hx I2 (Nat.zero_le _) (fun s' u X' => hb.to s' [u] ws X' rfl (rz.length.symm.trans l1)) (fun a => hb.rel (.cons rfl .nil) rz) q2
/-- C(), C without an __init__ of its own -/
def tMk0 (C : Addr) : TE := fun _ H Q => ∀ a, H a = none → Q (.ref a) (upd H a (exo a C none))
theorem pe_mk0 (T : OexC X.K C) (iC : PySem.W.findIn X.K (.ref C) "__init__" = some (some (.builtin "ValueError.__init__"))) (hg : Gl X x) (hm : X.mg x = some (.ref C)) (hdb : (x == ("__debug__" : Str)) = false := by decide) :
    PE X (.Call (.Name x p) [] [] pos) (tMk0 C) := by
  refine ⟨fun pins s σ H Q I h => ?_⟩
  refine wpAny_Call_Name_kw (ld_glob I hg hm ?_ hdb)
  refine PySem.W.callWith_K0 (first := []) I.kIn T.kC ?_
  show wpAny _ _ (call (.ref C) []) _ _ _
  obtain ⟨nm, q, N, bs, bm, sn, sub, ab, col, dd, k0, k1, k2, k3, k5, hC, hbm⟩ := T.cls
  obtain ⟨hp, g, dr, tk, os⟩ := s
  have up : hp.objs.size ≤ hp.objs.size + 1 := Nat.le_succ _
  have kk : ∀ b o, hp.get? b = some o → ((hp.push (PySem.W.kdv_tup [])).push (PySem.HandSPX.excO C hp.objs.size)).get? b = some o := fun b o y => Heap.get?_push_of_some _ (Heap.get?_push_of_some _ y)
  have he : ((hp.push (PySem.W.kdv_tup [])).push (PySem.HandSPX.excO C hp.objs.size)).get? (hp.objs.size + 1) = some (PySem.HandSPX.excO C hp.objs.size) := by heap_get
  have I2 : Inv X pins σ (upd H (hp.objs.size + 1) (exo (hp.objs.size + 1) C none)) ⟨(hp.push (PySem.W.kdv_tup [])).push (PySem.HandSPX.excO C hp.objs.size), g, dr, tk, os⟩ :=
    I.laid (t' := tk) (a := hp.objs.size + 1) (o := exo (hp.objs.size + 1) C none) (h' := (hp.push (PySem.W.kdv_tup [])).push (PySem.HandSPX.excO C hp.objs.size)) kk up (exo_ok he)
  refine wpAny_call (PySem.ExV.own_call (fv := .builtin "ValueError.__init__") F.excBase_ValueError (fun Y => PySem.HandSPX.refsVE_contains Y bm hbm) (I.kIn _ _ hC) (PySem.W.looks_findIn I.kIn iC) (fun self => .of_pure (F.excBase_ValueError.init.bind self)) (Nat.zero_le _)
    (PySem.HandSPX.init_base F.excBase_ValueError (fun Y => PySem.HandSPX.refsVE_contains Y bm hbm) (I2.kIn _ _ hC) he (Nat.zero_le _) fun h' t2 kh hx => ?_))
  have eu : upd (upd H (hp.objs.size + 1) (exo (hp.objs.size + 1) C none)) (hp.objs.size + 1) (exo (hp.objs.size + 1) C none) = upd H (hp.objs.size + 1) (exo (hp.objs.size + 1) C none) := upd_upd
  have J := I2.write (t' := tk) (x := hp.objs.size + 1) (e := hp.objs.size + 1) (o := exo (hp.objs.size + 1) C none) (by rw [upd_same]; exact True.intro) (.inl rfl) kh ⟨_, hx⟩ (exo_ok hx)
  rw [eu] at J
  exact ⟨rfl, V.ref (hp.objs.size + 1), _, J, rfl, h _ (I.hok.fresh up)⟩
/-- e.f, e an exception that stands in the heap -/
def tEf (K : PySem.W.Frag) (f : Str) (te : TE) : TE := fun σ H Q => te σ H fun x H1 => ∃ (a C d : Addr) (fs : List (Str × V)) (v : V), x = .ref a ∧ XfC K C ∧ PySem.W.findIn K (.ref C) f = some none ∧ H1 a = some (exo a C (some d)) ∧ H1 d = some (exd d fs) ∧ fs.lookup f = some v ∧ Q v H1
theorem pe_ef {te : TE} {n : Str} (he : PE X e te) (hb : attributeBase e n X.env (eval e X.env) = eval e X.env := by rfl) : PE X (.Attribute e n pos) (tEf X.K n te) := by
  refine ⟨fun pins s σ H Q I h => ?_⟩
  refine attr_of hb (thn (he.run pins s σ H _ I h) fun u s1 hh => ?_)
  obtain ⟨x, H1, I1, rx, a, C, d, fs, v, ex, T, hno, ha, hd, l, q⟩ := hh
  subst ex
  obtain rfl : u = Value.ref a := rx
  obtain ⟨t1, ho⟩ := exo_at I1.hok ha
  obtain ⟨mA, hns, hr⟩ := exd_at I1.hok hd
  obtain ⟨od, ho2, hl⟩ := lookIn_ns hns
  obtain ⟨u, hu, ru⟩ := RelO.some_of (v := v) (o := mA n) (by rw [← l]; exact hr n)
  have J : PySem.W.InstAt s1.heap a _ C (some od) := ⟨ho, rfl, rfl, ho2⟩
  exact HandSPX.exc_get I1.kIn J T.ga T.gg T.exC (PySem.W.findObj_own T.hdC hno rfl (by rw [hl, hu])) (handed_of ru) ⟨v, H1, I1.tok _, ru, q⟩
/-- isinstance(e, D), e an exception that stands in the heap -/
def rIsX (K : PySem.W.Frag) : List V → Hp → VK → Prop := fun xs H Q => ∃ (a C : Addr) (d : Option Addr) (c : V) (cv : Value) (b : Bool), xs = [.ref a, c] ∧ ExcC K C ∧ H a = some (exo a C d) ∧ (∀ dd, d = some dd → ∃ fs, H dd = some (exd dd fs)) ∧ ClsV c cv ∧ PySem.W.kitOne K (.ref C) cv = some b ∧ Q (.bl b) H
theorem call_isX : CallR X (.builtin "isinstance") (rIsX X.K) := by
  intro pins s σ H xs us Q I r h
  obtain ⟨a, C, d, c, cv, b, rfl, EC, ha, hd, kc, e, q⟩ := h
  obtain ⟨u1, u2, rfl, r1, r2⟩ := vals2 r
  cases r1
  have e2 := kc.eq r2
  subst e2
  obtain ⟨t1, ho⟩ := exo_at I.hok ha
  cases d with
  | none =>
    have J : PySem.W.InstAt s.heap a _ C none := ⟨ho, rfl, rfl, trivial⟩
    exact PySem.W.kia_one (PySem.W.ek_kitx EC.hg EC.hk EC.hs EC.hd EC.ha EC.hn EC.ht EC.hm) I.kIn J e (fun z => nomatch z) fun tk => ⟨.bl b, H, I.kept (t' := tk) fun _ _ z => z, rfl, q⟩
  | some dd =>
    obtain ⟨fs, hx⟩ := hd dd rfl
    obtain ⟨mA, hns, _⟩ := exd_at I.hok hx
    obtain ⟨od, ho2, _⟩ := lookIn_ns hns
    have J : PySem.W.InstAt s.heap a _ C (some od) := ⟨ho, rfl, rfl, ho2⟩
    exact PySem.W.kia_one (PySem.W.ek_kitx EC.hg EC.hk EC.hs EC.hd EC.ha EC.hn EC.ht EC.hm) I.kIn J e (fun z => nomatch z) fun tk => ⟨.bl b, H, I.kept (t' := tk) fun _ _ z => z, rfl, q⟩
end
end EK

namespace Law
open PySem PySem.Spec PyProof.Rows L2 Evl TR GX
/-- the builtin type of what stands there -/
def Tn (T : String) : Gt → Prop
  | .int _ => T = "int"
  | .str _ => T = "str"
  | .bl _ => T = "bool"
  | .oth => T = "NoneType" ∨ T = "dict"
  | .seq k _ => T = if k = true then "tuple" else "list"
theorem GA.ty {K : PySem.W.Frag} {H : Hp} {v : V} {g : Gt} (h : GA H v g) : ∃ T, TyX K H v (.type T) ∧ Tn T g := by
  cases h with
  | int i => exact ⟨_, .base (.int i), rfl⟩
  | str z => exact ⟨_, .base (.str z), rfl⟩
  | bl b => exact ⟨_, .base (.bl b), rfl⟩
  | non => exact ⟨_, .base .non, .inl rfl⟩
  | dct h => exact ⟨_, .base (.dK h), .inr rfl⟩
  | @seq a k vs gs h r =>
    cases k
    · exact ⟨_, .base (.lst h), rfl⟩
    · exact ⟨_, .base (.tup h), rfl⟩
def isSq : Gt → Bool
  | .seq _ _ => true
  | _ => false
def isI : Gt → Bool
  | .int _ => true
  | _ => false
def isS : Gt → Bool
  | .str _ => true
  | _ => false
def isIB : Gt → Bool
  | .int _ => true
  | .bl _ => true
  | _ => false
def isB : Gt → Bool
  | .bl _ => true
  | _ => false
theorem kit_l {K : PySem.W.Frag} {T : String} {g : Gt} (h : Tn T g) : PySem.W.kitAny K (.type T) [.type "list", .type "tuple"] = some (isSq g) := by
  have no : ∀ T : String, PySem.W.kitOne K (.type T) (.type "list") = some false → PySem.W.kitOne K (.type T) (.type "tuple") = some false → PySem.W.kitAny K (.type T) [.type "list", .type "tuple"] = some false := fun T h1 h2 =>
    kitAny_cons (b := false) h1 (fun _ => kitAny_cons (b := false) h2 (fun _ => rfl) fun h => by cases h) fun h => by cases h
  cases g with
  | int i => cases h; exact no _ (kit_ty (by decide +kernel)) (kit_ty (by decide +kernel))
  | str z => cases h; exact no _ (kit_ty (by decide +kernel)) (kit_ty (by decide +kernel))
  | bl b => cases h; exact no _ (kit_ty (by decide +kernel)) (kit_ty (by decide +kernel))
  | oth =>
    rcases h with rfl | rfl
    · exact no _ (kit_ty (by decide +kernel)) (kit_ty (by decide +kernel))
    · exact no _ (kit_ty (by decide +kernel)) (kit_ty (by decide +kernel))
  | seq k gs =>
    cases k
    · cases h; exact kit_lt
    · cases h; exact kit_tt
theorem kit_i {K : PySem.W.Frag} {T : String} {g : Gt} (h : Tn T g) : PySem.W.kitOne K (.type T) (.type "int") = some (isIB g) := by
  cases g with
  | int i => cases h; show PySem.W.kitOne K (.type "int") (.type "int") = some true; exact kit_ty (by decide +kernel)
  | str z => cases h; show PySem.W.kitOne K (.type "str") (.type "int") = some false; exact kit_ty (by decide +kernel)
  | bl b => cases h; show PySem.W.kitOne K (.type "bool") (.type "int") = some true; exact kit_ty (by decide +kernel)
  | oth =>
    rcases h with rfl | rfl
    · show PySem.W.kitOne K (.type "NoneType") (.type "int") = some false; exact kit_ty (by decide +kernel)
    · show PySem.W.kitOne K (.type "dict") (.type "int") = some false; exact kit_ty (by decide +kernel)
  | seq k gs =>
    cases k
    · cases h; show PySem.W.kitOne K (.type "list") (.type "int") = some false; exact kit_ty (by decide +kernel)
    · cases h; show PySem.W.kitOne K (.type "tuple") (.type "int") = some false; exact kit_ty (by decide +kernel)
theorem kit_b {K : PySem.W.Frag} {T : String} {g : Gt} (h : Tn T g) : PySem.W.kitOne K (.type T) (.type "bool") = some (isB g) := by
  cases g with
  | int i => cases h; show PySem.W.kitOne K (.type "int") (.type "bool") = some false; exact kit_ty (by decide +kernel)
  | str z => cases h; show PySem.W.kitOne K (.type "str") (.type "bool") = some false; exact kit_ty (by decide +kernel)
  | bl b => cases h; show PySem.W.kitOne K (.type "bool") (.type "bool") = some true; exact kit_ty (by decide +kernel)
  | oth =>
    rcases h with rfl | rfl
    · show PySem.W.kitOne K (.type "NoneType") (.type "bool") = some false; exact kit_ty (by decide +kernel)
    · show PySem.W.kitOne K (.type "dict") (.type "bool") = some false; exact kit_ty (by decide +kernel)
  | seq k gs =>
    cases k
    · cases h; show PySem.W.kitOne K (.type "list") (.type "bool") = some false; exact kit_ty (by decide +kernel)
    · cases h; show PySem.W.kitOne K (.type "tuple") (.type "bool") = some false; exact kit_ty (by decide +kernel)
theorem kit_s {K : PySem.W.Frag} {T : String} {g : Gt} (h : Tn T g) : PySem.W.kitOne K (.type T) (.type "str") = some (isS g) := by
  cases g with
  | int i => cases h; show PySem.W.kitOne K (.type "int") (.type "str") = some false; exact kit_ty (by decide +kernel)
  | str z => cases h; show PySem.W.kitOne K (.type "str") (.type "str") = some true; exact kit_ty (by decide +kernel)
  | bl b => cases h; show PySem.W.kitOne K (.type "bool") (.type "str") = some false; exact kit_ty (by decide +kernel)
  | oth =>
    rcases h with rfl | rfl
    · show PySem.W.kitOne K (.type "NoneType") (.type "str") = some false; exact kit_ty (by decide +kernel)
    · show PySem.W.kitOne K (.type "dict") (.type "str") = some false; exact kit_ty (by decide +kernel)
  | seq k gs =>
    cases k
    · cases h; show PySem.W.kitOne K (.type "list") (.type "str") = some false; exact kit_ty (by decide +kernel)
    · cases h; show PySem.W.kitOne K (.type "tuple") (.type "str") = some false; exact kit_ty (by decide +kernel)
theorem eqS_of {K : PySem.W.Frag} {H : Hp} {v : V} {g : Gt} {z : Str} {Q : VK} (h : GA H v g) (q : Q (.bl (hd z g)) H) : ES.rEqS K v (.str z) H Q := by
  cases h with
  | int i => exact .inl ⟨rfl, by rw [decide_eq_false (fun z => by cases z)]; exact q⟩
  | str y =>
    refine .inl ⟨rfl, ?_⟩
    have : decide (V.str y = V.str z) = hd z (.str y) := by
      show _ = decide (y = z)
      rw [decide_eq_decide]
      exact ⟨fun h => V.str.inj h, fun h => by rw [h]⟩
    rw [this]
    exact q
  | bl b => exact .inl ⟨rfl, by rw [decide_eq_false (fun z => by cases z)]; exact q⟩
  | non => exact .inl ⟨rfl, by rw [decide_eq_false (fun z => by cases z)]; exact q⟩
  | dct h => exact .inr ⟨_, _, rfl, rfl, .inr (.inr ⟨_, h⟩), q⟩
  | @seq a k vs gs h r =>
    cases k
    · exact .inr ⟨_, _, rfl, rfl, .inl ⟨_, sq_of h⟩, q⟩
    · exact .inr ⟨_, _, rfl, rfl, .inr (.inl ⟨_, st_of h⟩), q⟩
def spIsLG : Sp := fun vs H Q _ => ∃ (v : V) (g : Gt), vs = [v] ∧ GA H v g ∧ ∀ H', Ex H H' → Q (.bl (isSq g)) H'
def spIsIG : Sp := fun vs H Q _ => ∃ (v : V) (g : Gt), vs = [v] ∧ GA H v g ∧ Q (.bl (isI g)) H
def spWhG : Sp := fun vs H Q _ => ∃ (v : V) (g : Gt) (lo hi : Int), vs = [v, .int lo, .int hi] ∧ GA H v g ∧ ∀ H', Ex H H' → Q (.bl (whole lo hi g)) H'
def spPartG : Sp := fun vs H Q _ => ∃ (v : V) (g : Gt) (L : List Nat) (w n : Nat), vs = [v, .str (tx L), .int (w : Int), .int (n : Int)] ∧ GA H v g ∧ L.length ≤ 10 ∧ ∀ H', Ex H H' → Q (.bl (isP L.length w n g)) H'
def spWithG : Sp := fun vs H Q _ => ∃ (v : V) (g : Gt) (l w n : Nat) (H0 : Hp), vs = [v] ∧ GA H0 v g ∧ isP l w n g = true ∧ Ex H0 H ∧ ∀ r H' us, Ex H H' → H r = none → H' r = some (.lst us) → GAs H0 us (kids g) → Q (.ref r) H'
section
variable {P : Program} {w : World} {K : PySem.W.Frag} {mg : Str → Option Value} {base : Heap}
theorem ok_isLG {f : Addr} {fd : FuncData} (F : Fun K "is_list" "is_list" s_is_list f fd) (T : Tx mg) : FnOk P w K mg base CX0 1 f fd ["value"] spIsLG := by
  refine F.ok sc_is_list (fun vs H Q E h => ?_) (fun cdv A outer s H vs Q E hr h => ?_)
  · obtain ⟨v, g, rfl, _⟩ := h
    rfl
  · obtain ⟨v, g, rfl, hg, q⟩ := h
    refine ⟨_, (pss_one (ps_ret (pe_callB call_isiT (by rfl) T.isinstance PyProof.Rows.boot_isinstance (pa_cons (pv 0) (pa_cons (pe_tup (pa_cons (pe_bltn (v := .ty "list") (by rfl) T.list PyProof.Rows.boot_list rfl) (pa_cons (pe_bltn (v := .ty "tuple") (by rfl) T.tuple PyProof.Rows.boot_tuple rfl) pa_nil))) pa_nil))))), ?_⟩
    refine ⟨_, rfl, by show 2 ≤ sizeLine; decide, fun t ht => ?_⟩
    obtain ⟨TT, ty, tn⟩ := GA.ty (K := K) (GA.ex (Ex.new ht) hg)
    exact ⟨_, t, _, _, _, _, rfl, upd_same, .cons (.ty _) (.cons (.ty _) .nil), ty, kit_l tn, q _ (Ex.new ht)⟩
theorem ok_isIG {f : Addr} {fd : FuncData} (F : Fun K "is_integer" "is_integer" s_is_integer f fd) (T : Tx mg) : FnOk P w K mg base CX0 1 f fd ["value"] spIsIG := by
  refine F.ok sc_is_integer (fun vs H Q E h => ?_) (fun cdv A outer s H vs Q E hr h => ?_)
  · obtain ⟨v, g, rfl, _⟩ := h
    rfl
  · obtain ⟨v, g, rfl, hg, q⟩ := h
    obtain ⟨TT, ty, tn⟩ := GA.ty (K := K) hg
    refine ⟨_, (pss_one (ps_ret (pe_and (pe_callB call_isi (by rfl) T.isinstance PyProof.Rows.boot_isinstance (pa_cons (pv 0) (pa_cons (pe_bltn (v := .ty "int") (by rfl) T.int PyProof.Rows.boot_int rfl) pa_nil))) (pe_one (pe_not (pe_callB call_isi (by rfl) T.isinstance PyProof.Rows.boot_isinstance (pa_cons (pv 0) (pa_cons (pe_bltn (v := .ty "bool") (by rfl) T.bool PyProof.Rows.boot_bool rfl) pa_nil)))))))), ?_⟩
    refine ⟨_, rfl, _, _, _, _, _, rfl, .ty _, ty, kit_i tn, _, rfl, ?_⟩
    cases g with
    | int i => exact ⟨_, rfl, _, _, _, _, _, rfl, .ty _, ty, kit_b tn, _, rfl, q⟩
    | bl b => exact ⟨_, rfl, _, _, _, _, _, rfl, .ty _, ty, kit_b tn, _, rfl, q⟩
    | str z => exact q
    | oth => exact q
    | seq k gs => exact q
theorem ok_whG {f : Addr} {fd : FuncData} (F : Fun K "is_whole" "is_whole" s_is_whole f fd) (T : Tx mg) (c_is_integer : Kn P w K mg base "is_integer" ["value"] 1 spIsIG) : FnOk P w K mg base CX0 2 f fd ["value", "low", "high"] spWhG := by
  refine F.ok sc_is_whole (fun vs H Q E h => ?_) (fun cdv A outer s H vs Q E hr h => ?_)
  · obtain ⟨v, g, lo, hi, rfl, _⟩ := h
    rfl
  · obtain ⟨v, g, lo, hi, rfl, hg, q⟩ := h
    refine ⟨_, (pss_one (ps_ret (pe_and (pe_call c_is_integer.ok (hr.mono (by decide)) (by rfl) c_is_integer.g c_is_integer.kp c_is_integer.b .nil pass0 (pa_cons (pv 0) pa_nil)) (pe_one (pe_chain op_le op_le (pv 1) (pv 0) (pv 2)))))), ?_⟩
    have q0 := q H (Ex.refl _)
    refine ⟨_, rfl, v, g, rfl, hg, _, rfl, ?_⟩
    cases hg with
    | int i =>
      refine ⟨_, rfl, _, rfl, _, _, rfl, rfl, _, rfl, ?_⟩
      have e : whole lo hi (.int i) = (decide (lo ≤ i) && decide (i ≤ hi)) := rfl
      rw [e] at q0
      cases hl : decide (lo ≤ i) with
      | true =>
        rw [hl, Bool.true_and] at q0
        exact ⟨_, rfl, _, _, rfl, rfl, q0⟩
      | false =>
        rw [hl, Bool.false_and] at q0
        exact q0
    | str z => exact q0
    | bl b => exact q0
    | non => exact q0
    | dct h => exact q0
    | seq h r => exact q0
end
end Law

/-! a dict comprehension with two fors: one lemma for the rounds of a clause, whatever a round's work is; the outer work is the inner clause -/
namespace D2
open PySem PySem.Spec PyProof.Rows L2
section
variable {Y : Cx} {pins0 : List (Addr × Obj)}
/-- what a round's work leaves: slots that know what the head of the rounds knew -/
def Back (Y : Cx) (pins : List (Addr × Obj)) (σ0 : L2.St) (N : Hp → Prop) (s : Shared) : Prop :=
  ∃ σ' H', Inv Y pins σ' H' s ∧ σ0.length = σ'.length ∧ (∀ (j : Nat) v, σ0[j]? = some (some v) → σ'[j]? = some (some v)) ∧ N H'
/-- the tests of a clause, one after another -/
def tests (ifs : List Expr) (env : Env) : Sem Bool := forIn ifs true fun c r => if r = true then do let ok ← isTrue c env (eval c env); pure (ForInStep.yield ok) else pure (ForInStep.yield r)
/-- one round, the work abstract -/
def round (p : Pos) (tg : Expr) (ifs : List Expr) (it : Value) (env : Env) (work next : Sem Fin) : Sem Fin := do
  standAt p
  let r ← pyNext it
  match r with
  | none => pure (.done .next)
  | some v =>
    letOwnedTupleGo tg it v
    assign tg env v
    let ok ← tests ifs env
    if ok = true then work else next
theorem rounds {e kx vx tg : Expr} {gs : List Comprehension} {scope : Scope} {pos : Pos} {depth : Nat} {ifs : List Expr} {p : Pos} {it : Addr} {acc : Value} {body : Sem Fin} {J : It} {fp : List Addr} {tn : Nat → Heap → Prop} {g : TG} {tt : TT} {σ0 : L2.St} {vs : List Nat} {W : Nat → Nat → Hp → Prop} {S : Hp → Prop} {B : L2.St → Hp → (Hp → Prop) → Prop}
    (he : e = .DictComp kx vx gs scope pos) (hx : Y.xe = fun _ _ => False) (hc : Y.calm = true) (T : Turn Y.prog Y.w Y.K tg J fp it tn) (free : ∀ H', (∀ b ∈ fp, H' b = none) → ∀ b ∈ fp, FpOk Y pins0 H' b)
    (un : compTurn e depth (.ref it) acc Y.env = round p tg ifs (.ref it) Y.env body (again (.compLoop e depth (.ref it) acc Y.env))) (pg : PG Y tg g) (pt : PTs Y ifs tt)
    (steps : ∀ i m H, W i m H → (J.stop i H ∧ S H) ∨ (J.go i H ∧ ∃ N : Hp → Prop, (∀ H', N H' → ∃ m', m' < m ∧ W (i + 1) m' H') ∧
      ∀ x H', J.yld i H x H' → g x (wipe σ0 vs) H' fun σ2 H2 => wipe σ2 vs = wipe σ0 vs ∧ tt σ2 H2 fun b H3 => if b = true then B σ2 H3 N else N H3))
    (work : ∀ pins σ2 H3 s N (Q : Fin → Shared → Prop) (E : Value → Shared → Prop), wipe σ2 vs = wipe σ0 vs → Inv Y pins σ2 H3 s → B σ2 H3 N → (∀ s', Back Y pins (wipe σ0 vs) N s' → Q (.again (.compLoop e depth (.ref it) acc Y.env)) s') → wpAny (model Y.prog Y.w) Y.A body Q E s)
    (m : Nat) (H : Hp) (s : Shared) (I0 : Inv Y pins0 (wipe σ0 vs) H s) (t0 : tn 0 s.heap) (n0 : ∀ b ∈ fp, H b = none) (w0 : W 0 m H) :
    codeAny (model Y.prog Y.w) Y.A (.compLoop e depth (.ref it) acc Y.env) (fun r s' => r = .ok .next ∧ ∃ H', Inv Y pins0 (wipe σ0 vs) H' s' ∧ S H') s := by
  subst he
  refine codeAny_loop rfl (fun m s => ∃ i H, Inv Y pins0 (wipe σ0 vs) H s ∧ tn i s.heap ∧ (∀ b ∈ fp, H b = none) ∧ W i m H) (fun m s hI => ?_) m ⟨0, H, I0, t0, n0, w0⟩
  clear I0 t0 n0 w0
  obtain ⟨i, H1, I1, t1, n1, w1⟩ := hI
  show wpAny _ Y.A ((compTurn (.DictComp kx vx gs scope pos) depth (.ref it) acc Y.env).onRaise (fun x => do noteFrame x Y.env; theTreesLotGoes x)) _ _ s
  refine wpAny_noted ?_
  rw [un]
  refine wpAny_bind (wpAny_standAt (wpAny_bind ?_))
  rcases steps i m H1 w1 with ⟨st, hS⟩ | ⟨go, N, hN, step⟩
  · refine thnF (T.done Y rfl rfl rfl hc i pins0 s _ H1 (fun _ _ => False) I1 (free H1 n1) t1 st) fun r s2 ⟨hr, I2⟩ => ?_
    subst hr
    exact wpAny_pure ⟨rfl, H1, I2, hS⟩
  · refine thnF (T.item Y rfl rfl rfl hc i pins0 s _ H1 (fun _ _ => False) I1 (free H1 n1) t1 go) fun r s2 ⟨u, hr, h2⟩ => ?_
    subst hr
    refine wpAny_bind (thnF h2 fun _ s3 ⟨x, H3, I3, r3, y3, t3, n3⟩ => ?_)
    have I3' := I3.pinned (free H3 n3) (T.obj _ _ t3)
    have key : ∀ s', Back Y (pins0 ++ pinsAt fp s3.heap) (wipe σ0 vs) N s' → ∃ m', m' < m ∧ ∃ i H, Inv Y pins0 (wipe σ0 vs) H s' ∧ tn i s'.heap ∧ (∀ b ∈ fp, H b = none) ∧ W i m' H := by
      rintro s' ⟨σ', H', I', hl, hk, hn⟩
      obtain ⟨m', hm, w'⟩ := hN H' hn
      have stay : ∀ b ∈ fp, ∀ o, s3.heap.get? b = some o → s'.heap.get? b = some o ∧ H' b = none := fun b hb o eo => by
        have q := I'.pin (b, o) (List.mem_append_right _ (List.mem_append_right _ (mem_pinsAt hb eo)))
        exact ⟨q.1, q.2.1⟩
      refine ⟨m', hm, i + 1, H', I'.unpinned.weak hl hk, T.keep _ _ _ t3 fun b hb o eo => (stay b hb o eo).1, fun b hb => ?_, w'⟩
      obtain ⟨o, eo, _⟩ := T.obj _ _ t3 b hb
      exact (stay b hb o eo).2
    have pgr := pg.run _ s3 _ H3 x u _ I3' r3 (step x H3 y3)
    rw [hx] at pgr
    refine wpAny_bind (thnF pgr fun _ s4 ⟨σ4, H4, I4, hw, q4⟩ => ?_)
    have ptr := pt.run _ s4 σ4 H4 _ I4 q4
    rw [hx] at ptr
    have hl4 : (wipe σ0 vs).length = σ4.length := by rw [← hw, wipe_length]
    have hk4 : ∀ (j : Nat) v, (wipe σ0 vs)[j]? = some (some v) → σ4[j]? = some (some v) := fun j v eo => by
      rw [← hw] at eo
      exact (wipe_some eo).1
    refine wpAny_bind (thnF ptr fun b s5 ⟨H5, I5, q5⟩ => ?_)
    cases b with
    | false =>
      simp only [Bool.false_eq_true, if_false] at q5
      exact wpAny_pure ⟨rfl, key s5 ⟨σ4, H5, I5, hl4, hk4, q5⟩⟩
    | true =>
      simp only [if_true] at q5
      exact work _ σ4 H5 s5 N _ _ hw I5 q5 fun s6 b6 => ⟨rfl, key s6 b6⟩
/-- the inner clause begins -/
theorem inner_start {kx vx t0 i0 t1 i1 : Expr} {f0 f1 : List Expr} {scope : Scope} {pos : Pos} {P : Program} {w : World} {A : Around} {it acc : Value} {env : Env} {R : Result → Shared → Prop} {s : Shared}
    (here : codeAny (model P w) A (.compLoop (.DictComp kx vx [⟨t0, i0, f0, 0⟩, ⟨t1, i1, f1, 0⟩] scope pos) 1 it acc env) R s)
    (self : wpAny (model P w) A (pyIter it) (fun u s' => codeAny (model P w) A (.compLoop (.DictComp kx vx [⟨t0, i0, f0, 0⟩, ⟨t1, i1, f1, 0⟩] scope pos) 1 u acc env) R s') (notedBy (model P w) A env fun x s' => R (.error x) s') s) :
    codeAny (model P w) A (.compStart (.DictComp kx vx [⟨t0, i0, f0, 0⟩, ⟨t1, i1, f1, 0⟩] scope pos) 1 it acc env) R s := by
  have again_here : ∀ {E : Value → Shared → Prop}, wpAny (model P w) A (again (.compLoop (.DictComp kx vx [⟨t0, i0, f0, 0⟩, ⟨t1, i1, f1, 0⟩] scope pos) 1 it acc env)) (fun fin s' => match fin with
      | .done f => R (.ok f) s'
      | .again c' => c'.quiet = true ∧ codeAny (model P w) A c' R s') E s := wpAny_pure ⟨rfl, here⟩
  refine codeAny_of_tree ?_
  show wpAny _ A ((compStart (.DictComp kx vx [⟨t0, i0, f0, 0⟩, ⟨t1, i1, f1, 0⟩] scope pos) 1 it acc env).onRaise (fun x => do noteFrame x env; standAt theWindowsPlace)) _ _ s
  refine wpAny_notedAt ?_
  unfold compStart
  show wpAny _ A (ask >>= _) _ _ s
  refine wpAny_bind (wpAny_askSetting ?_)
  refine wpAny_ite ?_
  split
  · first | exact again_here | exact wpAny_bind again_here | exact wpAny_bind (wpAny_pure (wpAny_pure ⟨rfl, here⟩)) | exact wpAny_bind (wpAny_pure ⟨rfl, here⟩)
  · refine wpAny_bind (wpAny_rule ?_)
    show wpAny _ A (standAt i1.pos >>= _) _ _ s
    exact wpAny_bind (wpAny_standAt (wpAny_bind (wpAny_mono self (fun u s' q => wpAny_pure ⟨rfl, q⟩) fun _ _ q => q)))
end
section
variable {X : Cx}
/-- {k: v for a in .. if .. for b in .. if ..}: the reading; vs the block's names, us those of the inner target -/
def tD2 (wi : TI) (g : TG) (tt : TT) (wj : TI) (gj : TG) (tj : TT) (tk tv : TE) (vs us : List Nat) : TE := fun σ H Q => wi σ H fun J H1 => ∀ D, H1 D = none → ∃ W : Nat → Nat → Hp → Prop, (∃ m, W 0 m (upd H1 D (.dK []))) ∧
  ∀ i m H, W i m H → (J.stop i H ∧ Q (.ref D) H) ∨ (J.go i H ∧ ∃ N : Hp → Prop, (∀ H', N H' → ∃ m', m' < m ∧ W (i + 1) m' H') ∧
    ∀ x H', J.yld i H x H' → g x (wipe σ vs) H' fun σ2 H2 => wipe σ2 vs = wipe σ vs ∧ tt σ2 H2 fun b H3 => if b = true then
      wj σ2 H3 (fun J2 H4 => ∃ Z : Nat → Nat → Hp → Prop, (∃ m, Z 0 m H4) ∧ ∀ j k H, Z j k H → (J2.stop j H ∧ N H) ∨ (J2.go j H ∧ ∃ M : Hp → Prop, (∀ H', M H' → ∃ k', k' < k ∧ Z (j + 1) k' H') ∧
        ∀ y H', J2.yld j H y H' → gj y (wipe σ2 us) H' fun σ3 H5 => wipe σ3 us = wipe σ2 us ∧ tj σ3 H5 fun c H6 => if c = true then
          tk σ3 H6 (fun z H7 => tv σ3 H7 fun u H8 => ∃ kvs k, z = kV k ∧ H8 D = some (.dK kvs) ∧ kvs.length < sizeLine ∧ M (upd H8 D (.dK (putK kvs k u)))) else M H6)) else N H3)
theorem core {pins : List (Addr × Obj)} {s : Shared} {σ : L2.St} {H : Hp} {Q : VK} {kx vx t0 i0 t1 i1 : Expr} {f0 f1 : List Expr} {scope : Scope} {own : List (Str × Nat)} {us : List Nat} {pos pos' : Pos} {wi wj : TI} {g gj : TG} {tt tj : TT} {tk tv : TE} {use : Option (Value → Sem Unit)} {F : Value → Shared → Prop}
    (hc : X.calm = true) (hN : X.N.Nodup) (I : Inv X pins σ H s) (hi : PI X t0 i0 wi) (ok : BlkOk X.N X.env.scope scope own) (hu : ∀ i ∈ us, i ∈ own.map (·.2))
    (all : ∀ (s : Shared) (H : Hp) (C : Addr) (cl : List (Str × Addr)) (fp : List Addr), PG (X.blk s H scope (compEnvC scope cl C X.env) fp) t0 g ∧ PTs (X.blk s H scope (compEnvC scope cl C X.env) fp) f0 tt ∧ PI (X.blk s H scope (compEnvC scope cl C X.env) fp) t1 i1 wj ∧
      PG (X.blk s H scope (compEnvC scope cl C X.env) fp) t1 gj ∧ PTs (X.blk s H scope (compEnvC scope cl C X.env) fp) f1 tj ∧ PE (X.blk s H scope (compEnvC scope cl C X.env) fp) kx tk ∧ PE (X.blk s H scope (compEnvC scope cl C X.env) fp) vx tv)
    (hs : ∀ x, foldedSetIterable i0 X.env x = pure x) (hs1 : ∀ env x, foldedSetIterable i1 env x = pure x)
    (h : tD2 wi g tt wj gj tj tk tv (own.map (·.2)) us σ H Q)
    (fin : ∀ D C s' m H', Inv X pins σ H' s' → Q (.ref D) H' → s'.heap.Ns C m → FpOk X pins H' C → compPost (model X.prog X.w) X.A X.xe use F (.ref D) C (.ok .next) s') :
    wpAny (model X.prog X.w) X.A (comprehension (.DictComp kx vx [⟨t0, i0, f0, 0⟩, ⟨t1, i1, f1, 0⟩] scope pos) scope X.env pos' newDict false (eval i0 X.env) use) F X.xe s := by
  have frees : ∀ y ∈ scope.names, y.2 = .free → ∃ c, X.env.cells.lookup y.1 = some c := fun y hy e => (ok.free y hy e).elim (fun k => I.ok.has _ (.inl k)) fun k => I.ok.has _ (.inr k)
  refine wpAny_comprehension_free (use := use) rfl hs (closure_ok frees) ok.kind (fun y hy e => by rw [ok.uniq y hy, e]) (thn (hi.run pins s σ H _ I h) fun _ _ got => thn got fun _ s2 came => ?_)
  obtain ⟨it, fp, tn, J, H2, rfl, I2, T, begun, away, q⟩ := came
  refine wpAny_newObj_type (newEnv_comp ?_)
  obtain ⟨D, hD⟩ : ∃ D, s2.heap.objs.size = D := ⟨_, rfl⟩
  have fresh : H2 D = none := I2.hok.fresh (Nat.le_of_eq hD)
  obtain ⟨W, ⟨m0, w0⟩, steps⟩ := q D fresh
  obtain ⟨s3, hs3⟩ : ∃ s3 : Shared, ({ s2 with heap := s2.heap.push { cls := .type "dict", data := .dict #[] } } : Shared) = s3 := ⟨_, rfl⟩
  rw [hD]
  have I3 : Inv X pins σ (upd H2 D (.dK [])) s3 := by
    subst hs3 hD
    exact I2.laid (t' := s2.toks) (fun b o e => Heap.get?_push_of_some _ e) (Nat.le_refl _) (dk_empty s2.heap I2.big)
  have heap3 : s3.heap = s2.heap.push { cls := .type "dict", data := .dict #[] } := by rw [← hs3]
  have away3 : ∀ b ∈ fp, FpOk X pins (upd H2 D (.dK [])) b ∧ b < s3.heap.objs.size := fun b hb => by
    obtain ⟨o, e, _⟩ := T.obj _ _ begun b hb
    have lt : b < s2.heap.objs.size := Heap.lt_size e
    refine ⟨⟨?_, (away b hb).2⟩, by rw [heap3, Heap.size_push]; exact Nat.lt_succ_of_lt lt⟩
    rw [upd_ne (by rw [← hD]; exact Nat.ne_of_lt lt)]
    exact (away b hb).1
  have I4 := block_start I3 ok hN away3
  obtain ⟨pg0, pt0, pi1, pg1, pt1, pk, pv⟩ := all s3 (upd H2 D (.dK [])) s3.heap.objs.size (cellsFrom (s3.heap.objs.size + 1) scope.names (cloFrom X.env.cells scope.names [])) fp
  rw [hs3]
  show codeAny _ _ (.compStart (.DictComp kx vx [⟨t0, i0, f0, 0⟩, ⟨t1, i1, f1, 0⟩] scope pos) 0 (.ref it) (.ref D) (compEnvC scope (cellsFrom (s3.heap.objs.size + 1) scope.names (cloFrom X.env.cells scope.names [])) s3.heap.objs.size X.env)) (compPost (model X.prog X.w) X.A X.xe use F (.ref D) s3.heap.objs.size) { s3 with heap := pushCells (s3.heap.push { cls := .type "dict", data := .dict #[] }) scope.names }
  have nfp : ∀ b ∈ fp, (upd H2 D (.dK [])) b = none := fun b hb => (away3 b hb).1.1
  obtain ⟨ce, hce⟩ : ∃ ce, compEnvC scope (cellsFrom (s3.heap.objs.size + 1) scope.names (cloFrom X.env.cells scope.names [])) s3.heap.objs.size X.env = ce := ⟨_, rfl⟩
  have cL : ce.locals = s3.heap.objs.size := by rw [← hce]; rfl
  rw [hce] at I4 pg0 pt0 pi1 pg1 pt1 pk pv ⊢
  obtain ⟨H3, hH3⟩ : ∃ H3, upd H2 D (.dK []) = H3 := ⟨_, rfl⟩
  rw [hH3] at I3 I4 pg0 pt0 pi1 pg1 pt1 pk pv w0 nfp away3
  obtain ⟨s4, hs4⟩ : ∃ s4 : Shared, ({ s3 with heap := pushCells (s3.heap.push { cls := .type "dict", data := .dict #[] }) scope.names } : Shared) = s4 := ⟨_, rfl⟩
  rw [hs4] at I4 ⊢
  have begun4 : tn 0 s4.heap := T.keep _ _ _ begun fun b _ o e => by
    rw [← hs4]
    exact pushCells_keeps _ _ _ _ (Heap.get?_push_of_some _ (by rw [heap3]; exact Heap.get?_push_of_some _ e))
  have far : ∀ H', (∀ b ∈ fp, H' b = none) → ∀ b ∈ fp, FpOk (X.blk s3 H3 scope ce fp) [] H' b := fun H' hn b hb =>
    ⟨hn b hb, (I4.ok.exf b hb).1, I4.ok.exfs b hb, .inl hb, fun x c e => (I4.ok.exf b hb).2 x c e, fun p hp => absurd (show p ∈ ([] : List (Addr × Obj)) ++ [] from hp) (by simp)⟩
  have loop := rounds (Y := X.blk s3 H3 scope ce fp) (pins0 := []) (e := .DictComp kx vx [⟨t0, i0, f0, 0⟩, ⟨t1, i1, f1, 0⟩] scope pos) (depth := 0) (acc := .ref D) (σ0 := σ) (vs := own.map (·.2)) (p := i0.pos) (S := Q (.ref D))
    (body := do
      let x ← eval i1 ce
      standAt i1.pos
      let x ← foldedSetIterable i1 ce x
      let _ ← runOwn (.compStart (.DictComp kx vx [⟨t0, i0, f0, 0⟩, ⟨t1, i1, f1, 0⟩] scope pos) 1 (← holding [x] (pyIter x)) (.ref D) ce) ce
      again (.compLoop (.DictComp kx vx [⟨t0, i0, f0, 0⟩, ⟨t1, i1, f1, 0⟩] scope pos) 0 (.ref it) (.ref D) ce))
    rfl rfl hc T far rfl pg0 pt0 steps ?_ m0 H3 s4 I4 begun4 nfp w0
  · refine codeAny_compStart_dict (codeAny_mono loop fun r s' got => ?_) (T.self X.A 0 _ _ _ begun4 (codeAny_mono loop fun r s' got => ?_))
    all_goals
      obtain ⟨rfl, H5, I5, qq⟩ := got
      have I7 : Inv X pins σ H5 s' := I3.call' (ch := fp) I5.os I5.base I5.hok I5.bare fun b hb => ⟨(away3 b hb).1.2.2.2.1, (away3 b hb).1.2.1, (away3 b hb).1.2.2.2.2.1, (away3 b hb).1.2.2.2.2.2⟩
      have nC : H5 s3.heap.objs.size = none := cL ▸ I5.free
      obtain ⟨m, hn, _⟩ := I5.loc
      have hn : s'.heap.Ns ce.locals m := hn
      rw [cL] at hn
      exact fin D s3.heap.objs.size s' m H5 I7 qq hn (I3.fpOk (Nat.le_refl _) nC)
  · intro pins2 σ2 H5 s5 N QQ EE hw I5 q5 done
    refine wpAny_bind (thnF (pi1.run pins2 s5 σ2 H5 _ I5 q5) fun x s6 got => ?_)
    refine wpAny_bind (wpAny_standAt (wpAny_bind (wpAny_of_eq (hs1 ce x) (wpAny_bind (wpAny_holding (thnF got fun _ s7 came => ?_))))))
    obtain ⟨it2, fp2, tn2, J2, H7, rfl, I7, T2, begun2, away2, Z, ⟨k0, z0⟩, steps2⟩ := came
    have hl2 : (wipe σ (own.map (·.2))).length = (wipe σ2 us).length := by rw [← hw, wipe_length, wipe_length]
    have hk2 : ∀ (j : Nat) v, (wipe σ (own.map (·.2)))[j]? = some (some v) → (wipe σ2 us)[j]? = some (some v) := fun j v e => by
      rw [← hw] at e
      obtain ⟨e1, e2⟩ := wipe_some e
      rw [wipe_out fun z => e2 (hu j z)]
      exact e1
    have loop2 := rounds (Y := X.blk s3 H3 scope ce fp) (pins0 := pins2) (e := .DictComp kx vx [⟨t0, i0, f0, 0⟩, ⟨t1, i1, f1, 0⟩] scope pos) (depth := 1) (acc := .ref D) (σ0 := σ2) (vs := us) (p := i1.pos) (S := N)
      (body := do
        (do
          let kv ← eval kx ce
          let vv ← holding [kv] (eval vx ce)
          standAt { kx.pos with endLine := vx.pos.endLine, endCol := vx.pos.endCol }
          holding [kv, vv] (dictSet D kv vv))
        again (.compLoop (.DictComp kx vx [⟨t0, i0, f0, 0⟩, ⟨t1, i1, f1, 0⟩] scope pos) 1 (.ref it2) (.ref D) ce))
      rfl rfl hc T2 (fun H' hn b hb => ⟨hn b hb, (away2 b hb).2⟩) rfl pg1 pt1 steps2 ?_ k0 H7 s7 (I7.weak (wipe_length _ _) fun j v e => (wipe_some e).1) begun2 (fun b hb => (away2 b hb).1) z0
    · refine wpAny_bind (wpAny_runOwn ?_)
      rw [Around.mark_none]
      have both : codeAny (model X.prog X.w) X.A (.compStart (.DictComp kx vx [⟨t0, i0, f0, 0⟩, ⟨t1, i1, f1, 0⟩] scope pos) 1 (.ref it2) (.ref D) ce) (fun r s' => r = .ok .next ∧ Back (X.blk s3 H3 scope ce fp) pins2 (wipe σ (own.map (·.2))) N s') s7 := by
        refine inner_start (codeAny_mono loop2 fun r s' ⟨e, H8, I8, n8⟩ => ⟨e, _, H8, I8, hl2, hk2, n8⟩) (T2.self X.A 0 _ _ _ begun2 (codeAny_mono loop2 fun r s' ⟨e, H8, I8, n8⟩ => ⟨e, _, H8, I8, hl2, hk2, n8⟩))
      refine codeAny_mono both fun r s' ⟨e, b⟩ => ?_
      subst e
      exact wpAny_pure (done _ b)
    · intro pins3 σ3 H8 s8 M QQ2 EE2 hw3 I8 q8 done2
      refine wpAny_bind (wpAny_bind (thnF (pk.run pins3 s8 σ3 H8 _ I8 q8) fun z s9 ⟨yk, H9, I9, r9, q9⟩ => ?_))
      refine wpAny_bind (wpAny_holding (thnF (pv.run pins3 s9 σ3 H9 _ I9 q9) fun u s10 ⟨yv, H10, I10, r10, kvs, k, ek, hD10, hz, mm⟩ => ?_))
      subst ek
      refine wpAny_bind (wpAny_standAt (wpAny_holding (d_dictSet (X := X.blk s3 H3 scope ce fp) I10 hD10 hz r9 r10 fun s11 I11 => wpAny_pure (done2 _ ⟨σ3, _, I11, by rw [← hw3, wipe_length], fun j v e => ?_, mm⟩))))
      rw [← hw3] at e
      exact (wipe_some e).1
/-- y = {k: v for a in .. for b in ..} -/
theorem ps_setD2 {i : Nat} {y : Str} {py : Pos} {kx vx t0 i0 t1 i1 : Expr} {f0 f1 : List Expr} {scope : Scope} {own : List (Str × Nat)} {us : List Nat} {pos spos : Pos} {wi wj : TI} {g gj : TG} {tt tj : TT} {tk tv : TE}
    (hc : X.calm = true) (hN : X.N.Nodup) (hy : X.N[i]? = some y) (hyl : X.env.scope.names.lookup y = some .local)
    (hsw : swapsWith (.DictComp kx vx [⟨t0, i0, f0, 0⟩, ⟨t1, i1, f1, 0⟩] scope pos) (some (.Name y py)) spos.line X.env = pure true) (hi : PI X t0 i0 wi) (ok : BlkOk X.N X.env.scope scope own) (hu : ∀ i ∈ us, i ∈ own.map (·.2))
    (all : ∀ (s : Shared) (H : Hp) (C : Addr) (cl : List (Str × Addr)) (fp : List Addr), PG (X.blk s H scope (compEnvC scope cl C X.env) fp) t0 g ∧ PTs (X.blk s H scope (compEnvC scope cl C X.env) fp) f0 tt ∧ PI (X.blk s H scope (compEnvC scope cl C X.env) fp) t1 i1 wj ∧
      PG (X.blk s H scope (compEnvC scope cl C X.env) fp) t1 gj ∧ PTs (X.blk s H scope (compEnvC scope cl C X.env) fp) f1 tj ∧ PE (X.blk s H scope (compEnvC scope cl C X.env) fp) kx tk ∧ PE (X.blk s H scope (compEnvC scope cl C X.env) fp) vx tv)
    (hs : ∀ x, foldedSetIterable i0 X.env x = pure x := by intro _; rfl) (hs1 : ∀ env x, foldedSetIterable i1 env x = pure x := by intro _ _; rfl) :
    PS X (.Assign [.Name y py] (.DictComp kx vx [⟨t0, i0, f0, 0⟩, ⟨t1, i1, f1, 0⟩] scope pos) spos) (tAsg (tD2 wi g tt wj gj tj tk tv (own.map (·.2)) us) (gName i)) := by
  refine ⟨fun pins s σ H D I told => ?_⟩
  rw [exec_Assign_Name_used _ _ _ _ hsw]
  refine wpAny_bind (wpAny_standAt (wpAny_bind ?_))
  have told2 : tD2 wi g tt wj gj tj tk tv (own.map (·.2)) us σ H (fun x H1 => gName i x σ H1 D.nx) := told
  refine wpAny_bind (thn (core (F := fun _ s' => SP X pins D .next s') hc hN I hi ok hu all hs hs1 told2 fun A C s' m H' I' q hn f => ?_) fun _ s' hq => wpAny_pure (wpAny_pure hq))
  refine wpAny_assign_Name (store_ok2 (v := V.ref A) I' hN hy (.inl hyl) rfl (fun s2 I2 ⟨a, sb, ha⟩ => ?_) (.inr hyl))
  obtain ⟨f0, f1, f2, f3, f4, f5⟩ := f
  have ne : C ≠ a := ha.elim (fun z => z ▸ f1) fun z e => f4 y a z e.symm
  exact ⟨m, hn.sameBut sb ne, fun h3 sb3 => ⟨_, H', I2.turned (t' := s2.toks) (fun b o hb e => (sb3.2 b hb).trans e) f0 f1 f3 f4 f5, q⟩⟩
theorem sw2 {kx vx : Expr} {gs : List Comprehension} {scope : Scope} {pos py : Pos} {y : Str} {l : Nat} {env : Env} (kind : env.scope.kind = .function) (loc : env.scope.names.lookup y = some .local) (line : (py.line == pos.line) = true)
    (none : (scope.names.any fun (n, k) => n == y && (k == .local || k == .cell)) = false) : swapsWith (.DictComp kx vx gs scope pos) (some (.Name y py)) l env = pure true := by
  have a : env.kindOf y = some .local := loc
  have b : env.blockKind = .function := by
    unfold Env.blockKind
    rw [kind]
    rfl
  unfold swapsWith
  simp only [a, b, none, Expr.pos, line]
  rfl
/-- as a value -/
theorem pe_d2 {kx vx t0 i0 t1 i1 : Expr} {f0 f1 : List Expr} {scope : Scope} {own : List (Str × Nat)} {us : List Nat} {pos : Pos} {wi wj : TI} {g gj : TG} {tt tj : TT} {tk tv : TE}
    (hc : X.calm = true) (hN : X.N.Nodup) (hi : PI X t0 i0 wi) (ok : BlkOk X.N X.env.scope scope own) (hu : ∀ i ∈ us, i ∈ own.map (·.2))
    (all : ∀ (s : Shared) (H : Hp) (C : Addr) (cl : List (Str × Addr)) (fp : List Addr), PG (X.blk s H scope (compEnvC scope cl C X.env) fp) t0 g ∧ PTs (X.blk s H scope (compEnvC scope cl C X.env) fp) f0 tt ∧ PI (X.blk s H scope (compEnvC scope cl C X.env) fp) t1 i1 wj ∧
      PG (X.blk s H scope (compEnvC scope cl C X.env) fp) t1 gj ∧ PTs (X.blk s H scope (compEnvC scope cl C X.env) fp) f1 tj ∧ PE (X.blk s H scope (compEnvC scope cl C X.env) fp) kx tk ∧ PE (X.blk s H scope (compEnvC scope cl C X.env) fp) vx tv)
    (hs : ∀ x, foldedSetIterable i0 X.env x = pure x := by intro _; rfl) (hs1 : ∀ env x, foldedSetIterable i1 env x = pure x := by intro _ _; rfl) :
    PE X (.DictComp kx vx [⟨t0, i0, f0, 0⟩, ⟨t1, i1, f1, 0⟩] scope pos) (tD2 wi g tt wj gj tj tk tv (own.map (·.2)) us) := by
  refine ⟨fun pins s σ H Q I told => ?_⟩
  rw [arm_eval_DictComp]
  refine core hc hN I hi ok hu all hs hs1 told fun A C s' m H' I' q hn f => ⟨m, hn, fun _ sb => ?_⟩
  obtain ⟨f0, f1, f2, f3, f4, f5⟩ := f
  exact ⟨.ref A, H', I'.turned (t' := s'.toks) (fun b o hb e => (sb.2 b hb).trans e) f0 f1 f3 f4 f5, rfl, q⟩
end
end D2

namespace TR
open PySem PySem.Spec L2 Evl
def rLenQ (K : PySem.W.Frag) : List V → Hp → VK → Prop := fun xs H Q => ∃ p ys, xs = [.ref p] ∧ (SqL K H p ys ∨ SqT K H p ys) ∧ Q (.int ys.length) H
end TR
namespace Law
open PySem PySem.Spec PyProof.Rows L2 Evl TR GX
abbrev lcR (g : TG) (tt : TT) (tl : TE) (vs : List Nat) (σ : L2.St) (Q : Addr → Hp → Prop) : It → Hp → Prop := fun J H1 => ∀ D, H1 D = none → ∃ W : Nat → Nat → Hp → Prop, (∃ m, W 0 m (upd H1 D (.lst []))) ∧ ∀ i m H, W i m H →
  (J.stop i H ∧ Q D H) ∨ (J.go i H ∧ ∃ Nx : Hp → Prop, (∀ H', Nx H' → ∃ m', m' < m ∧ W (i + 1) m' H') ∧ ∀ x H', J.yld i H x H' → g x (wipe σ vs) H' fun σ2 H2 => wipe σ2 vs = wipe σ vs ∧ tt σ2 H2 fun b H3 =>
    if b = true then tl σ2 H3 fun y H4 => ∃ acc, H4 D = some (.lst acc) ∧ acc.length < sizeLine ∧ Nx (upd H4 D (.lst (acc ++ [y]))) else Nx H3)
theorem lcq {K : PySem.W.Frag} {te tl : TE} {g : TG} {tt : TT} {vs : List Nat} {σ : L2.St} {H : Hp} {Q : Addr → Hp → Prop} {a : Addr} {k : Bool} {xs : List V} (h : H a = some (ob k xs)) (hv : ∀ R : VK, R (.ref a) H → te σ H R) (Pv : Addr → Nat → Hp → Prop)
    (h0 : ∀ D, H D = none → Pv D 0 (upd H D (.lst []))) (hk : ∀ D i H', H D = none → Pv D i H' → Ex H H')
    (hs : ∀ D i x H', H D = none → xs[i]? = some x → Pv D i H' → g x (wipe σ vs) H' fun σ2 H2 => wipe σ2 vs = wipe σ vs ∧ tt σ2 H2 fun b H3 =>
      if b = true then tl σ2 H3 fun y H4 => ∃ acc, H4 D = some (.lst acc) ∧ acc.length < sizeLine ∧ Pv D (i + 1) (upd H4 D (.lst (acc ++ [y]))) else Pv D (i + 1) H3)
    (hd : ∀ D H', H D = none → Pv D xs.length H' → Q D H') : iList K te σ H (lcR g tt tl vs σ Q) ∨ iTup K te σ H (lcR g tt tl vs σ Q) := by
  cases k
  · exact .inl (hv _ ⟨a, rfl, ⟨xs, sq_of h⟩, fun D hD => lc_list (Pv D) (h0 D hD) (fun i H' _ p => sq_of (hk D i H' hD p _ _ h)) (fun i x H' hx p => hs D i x H' hD hx p) (fun H' p => hd D H' hD p)⟩)
  · exact .inr (hv _ ⟨a, rfl, ⟨xs, st_of h⟩, fun D hD => lc_tup (Pv D) (h0 D hD) (fun i H' _ p => st_of (hk D i H' hD p _ _ h)) (fun i x H' hx p => hs D i x H' hD hx p) (fun H' p => hd D H' hD p)⟩)
/-! ### names, parts, rules -/
def isNm (t : List Nat) : Bool := decide (1 ≤ t.length ∧ t.length ≤ 8) && t.all fun c => decide (65 ≤ c) && decide (c ≤ 90)
theorem le_A (c : Nat) : (!decide ((sg c).cps.toList < (Str.ofString "A").cps.toList)) = decide (65 ≤ c) := by
  rw [show (Str.ofString "A").cps.toList = [65] by decide +kernel, show (sg c).cps.toList = [c] from rfl, ← decide_not, decide_eq_decide, List.cons_lt_cons_iff]
  constructor
  · intro h
    refine Nat.le_of_not_lt fun q => h (.inl q)
  · rintro h (q | ⟨_, q⟩)
    · omega
    · exact absurd q (by simp)
theorem le_Z (c : Nat) : (!decide ((Str.ofString "Z").cps.toList < (sg c).cps.toList)) = decide (c ≤ 90) := by
  rw [show (Str.ofString "Z").cps.toList = [90] by decide +kernel, show (sg c).cps.toList = [c] from rfl, ← decide_not, decide_eq_decide, List.cons_lt_cons_iff]
  constructor
  · intro h
    refine Nat.le_of_not_lt fun q => h (.inl q)
  · rintro h (q | ⟨_, q⟩)
    · omega
    · exact absurd q (by simp)
/-- rows of a rule: parts and their counts -/
abbrev Rows := List (List Nat × Nat)
abbrev Ru := List (List Nat × Rows)
def PrA (H : Hp) (v : V) (pc : List Nat × Nat) : Prop := ∃ (b : Addr) (k : Bool), v = .ref b ∧ H b = some (ob k [.str (tx pc.1), .int (pc.2 : Nat)])
def RwA (H : Hp) (v : V) (rows : Rows) : Prop := ∃ (a : Addr) (k : Bool) (xs : List V), v = .ref a ∧ H a = some (ob k xs) ∧ Paired (PrA H) xs rows
theorem paired_mono {α β : Type} {F G : α → β → Prop} (h : ∀ a b, F a b → G a b) : ∀ {l : List α} {m : List β}, Paired F l m → Paired G l m
  | _, _, .nil => .nil
  | _, _, .cons q r => .cons (h _ _ q) (paired_mono h r)
theorem PrA.ex {H H' : Hp} (e : Ex H H') {v : V} {pc : List Nat × Nat} (h : PrA H v pc) : PrA H' v pc := by
  obtain ⟨b, k, rfl, h⟩ := h
  exact ⟨b, k, rfl, e _ _ h⟩
theorem RwA.ex {H H' : Hp} (e : Ex H H') {v : V} {rows : Rows} (h : RwA H v rows) : RwA H' v rows := by
  obtain ⟨a, k, xs, rfl, h, p⟩ := h
  exact ⟨a, k, xs, rfl, e _ _ h, paired_mono (fun _ _ q => q.ex e) p⟩
def PtOk (L : List Nat) (kvs : List (Key × V)) (t : List Nat) : Prop := (isNm t = true ∧ (valV kvs (.inr (tx t))).isSome = true) ∨ (isNm t = false ∧ 1 ≤ t.length ∧ t.length ≤ 60 ∧ ∀ c ∈ t, c ∈ L)
def spWSign : Sp := fun vs H Q _ => ∃ L t : List Nat, vs = [.str (tx L), .str (tx t)] ∧ L.length < 500 ∧ t.length < 500 ∧ (∀ c ∈ t, c ∈ L) ∧ ∀ H', Ex H H' → Q .non H'
def spNm : Sp := fun vs H Q _ => ∃ t : List Nat, vs = [.str (tx t)] ∧ t.length < 500 ∧ ∀ H', Ex H H' → Q (.bl (isNm t)) H'
def spPartW : Sp := fun vs H Q _ => ∃ (L t : List Nat) (d : Addr) (kvs : List (Key × V)), vs = [.str (tx L), .ref d, .str (tx t)] ∧ Rd H d (.dK kvs) ∧ L.length < 500 ∧ t.length < 500 ∧ PtOk L kvs t ∧ ∀ H', Ex H H' → Q (.bl true) H'
def spRuleW : Sp := fun vs H Q _ => ∃ (L : List Nat) (d : Addr) (kvs : List (Key × V)) (v : V) (rows : Rows), vs = [.str (tx L), .ref d, v] ∧ Rd H d (.dK kvs) ∧ L.length < 500 ∧ RwA H v rows ∧ 1 ≤ rows.length ∧ rows.length ≤ 8 ∧
  (∀ pc ∈ rows, pc.1.length < 500 ∧ PtOk L kvs pc.1 ∧ 1 ≤ pc.2 ∧ pc.2 ≤ 1000000000000000000000000000000) ∧ ∀ H', Ex H H' → Q (.bl true) H'
theorem rd_ex {H H' : Hp} {d : Addr} {u : HO} (e : Ex H H') (h : Rd H d u) : Rd H' d u := by
  rcases h with h | ⟨o, h⟩
  · exact .inl (e _ _ h)
  · exact .inr ⟨o, e _ _ h⟩
section
variable {P : Program} {w : World} {K : PySem.W.Frag} {mg : Str → Option Value} {base : Heap}
theorem ok_wsign {f : Addr} {fd : FuncData} (F : Fun K "wrong_sign" "wrong_sign" s_wrong_sign f fd) (T : Tx mg) : FnOk P w K mg base CX0 1 f fd ["letters", "text"] spWSign := by
  refine F.ok sc_wrong_sign (fun vs H Q E h => ?_) (fun cdv A outer s H vs Q E hr h => ?_)
  · obtain ⟨L, t, rfl, _⟩ := h
    rfl
  · obtain ⟨L, t, rfl, hL, ht, hc, q⟩ := h
    refine ⟨_, (pss_cons (ps_if (pt_not (pt_val (pe_callB call_isi (by rfl) T.isinstance PyProof.Rows.boot_isinstance (pa_cons (pv 1) (pa_cons (pe_bltn (v := .ty "str") (by rfl) T.str PyProof.Rows.boot_str rfl) pa_nil))))) (pss_one (ps_ret pe_int)) pss_nil)
      (pss_cons (ps_for PassesOwn.never rfl (EN.pi_enumS (by rfl) T.enumerate (pa_cons (pv 1) pa_nil)) (pg_tup (by rfl) (pgs_cons (pg_name (i := 2) sc_wrong_sign.nd rfl (Or.inl rfl)) (pgs_cons (pg_name (i := 3) sc_wrong_sign.nd rfl (Or.inl rfl)) pgs_nil))) (pss_one (ps_if (pt_cmpR op_notIn_sign (pv 3) (pv 0) rfl) (pss_one (ps_ret (pv 2))) pss_nil)))
      (pss_one (ps_ret pe_non)))), ?_⟩
    refine ⟨_, rfl, _, _, _, _, true, rfl, .ty _, .base (.str _), kit_ss, true, rfl, ?_⟩
    refine ⟨_, rfl, _, rfl, ?_⟩
    refine EN.for_enumS (x := tx t) (fun i σ H' => ∃ y2 y3 : Option V, σ = [some (.str (tx L)), some (.str (tx t)), y2, y3] ∧ Ex H H') ⟨none, none, rfl, Ex.refl _⟩ (fun i c T' σ H' hic hw hT => ?_) (fun σ H' hw => ?_)
    · obtain ⟨y2, y3, rfl, e⟩ := hw
      have hm : c ∈ L := hc c (List.mem_of_getElem? (tx_at hic))
      refine ⟨T', _, rfl, .inl (.inl upd_same), rfl, _, _, rfl, _, _, rfl, rfl, ?_⟩
      refine ⟨_, rfl, _, rfl, c, _, rfl, rfl, _, rfl, ?_⟩
      rw [show (tx L).cps.toList = L from rfl, decide_eq_true hm]
      exact ⟨_, _, rfl, e.trans (Ex.new hT)⟩
    · obtain ⟨y2, y3, rfl, e⟩ := hw
      exact q _ e
theorem ok_nm {f : Addr} {fd : FuncData} (F : Fun K "_is_name" "_is_name" s_is_name f fd) (T : Tx mg) : FnOk P w K mg base CX0 1 f fd ["value"] spNm := by
  refine F.ok sc_is_name (fun vs H Q E h => ?_) (fun cdv A outer s H vs Q E hr h => ?_)
  · obtain ⟨t, rfl, _⟩ := h
    rfl
  · obtain ⟨t, rfl, hl, q⟩ := h
    refine ⟨_, (pss_one (ps_ret (pe_and (pe_callB call_isi (by rfl) T.isinstance PyProof.Rows.boot_isinstance (pa_cons (pv 0) (pa_cons (pe_bltn (v := .ty "str") (by rfl) T.str PyProof.Rows.boot_str rfl) pa_nil))) (pe_and (pe_chain op_le op_le pe_int (pe_callB call_len_str (by rfl) T.len PySem.boot_len (pa_cons (pv 0) pa_nil)) pe_int) (pe_one (pe_callB (cr_all rfl) (by rfl) T.all PyProof.Rows.boot_all (pa_cons (pe_lc (own := [("sign", 1)]) (g := gName 1) (tt := tYes) rfl sc_is_name.nd (pi_str (pv 0)) (blkOk_by (N := N_is_name) (sc := defScope s_is_name) (by decide +kernel)) (fun _ _ _ _ _ => (pg_name (i := 1) sc_is_name.nd rfl (Or.inl rfl))) (fun _ _ _ _ _ => pts_nil) (fun _ _ _ _ _ => (pe_chain op_le_str op_le_str pe_str (pv 1) pe_str))) pa_nil))))))), ?_⟩
    refine ⟨_, rfl, _, _, _, _, true, rfl, .ty _, .base (.str _), kit_ss, true, rfl, ?_⟩
    refine ⟨_, rfl, _, rfl, tx_le (by omega), _, _, rfl, rfl, _, rfl, ite2 (fun h1 => ?_) (fun h1 => ?_)⟩
    · refine ⟨_, _, rfl, rfl, _, rfl, ite2 (fun h2 => ?_) (fun h2 => ?_)⟩
      · have h1' := of_decide_eq_true h1
        have h2' := of_decide_eq_true h2
        rw [tx_len] at h1' h2'
        refine ⟨_, rfl, _, rfl, fun D hD => ?_⟩
        refine lc_str (x := tx t) (fun i H' => Ex H H' ∧ H' D = some (.lst (((t.take i).map fun c => decide (65 ≤ c) && decide (c ≤ 90)).map V.bl))) ⟨Ex.new hD, upd_same⟩ (fun i c H' hic hw => ?_) (fun H' hw => ?_)
        · obtain ⟨e, hz⟩ := hw
          have hc := tx_at hic
          have hi := (List.getElem?_eq_some_iff.mp hc).1
          have fin : ∀ b, b = (decide (65 ≤ c) && decide (c ≤ 90)) → ∃ acc, H' D = some (.lst acc) ∧ acc.length < sizeLine ∧ (Ex H (upd H' D (.lst (acc ++ [V.bl b]))) ∧ (upd H' D (.lst (acc ++ [V.bl b]))) D = some (.lst (((t.take (i + 1)).map fun c => decide (65 ≤ c) && decide (c ≤ 90)).map V.bl))) := fun b hb => by
            refine ⟨_, hz, ?_, e.mut hD, ?_⟩
            · rw [List.length_map, List.length_map, List.length_take]
              exact sz_lt (by omega)
            · rw [upd_same, List.take_add_one, hc, hb]
              simp only [Option.toList, List.map_append, List.map_cons, List.map_nil]
          refine ⟨rfl, _, rfl, _, _, rfl, rfl, _, rfl, ?_⟩
          rw [show (decide ((⟨#[c]⟩ : Str).cps.toList < (Str.ofString "A").cps.toList)) = decide ((sg c).cps.toList < (Str.ofString "A").cps.toList) from rfl, le_A]
          by_cases ha : 65 ≤ c
          · refine iteD ha ⟨_, _, rfl, rfl, fin _ ?_⟩
            show (!decide ((Str.ofString "Z").cps.toList < (sg c).cps.toList)) = _
            rw [le_Z, decide_eq_true ha, Bool.true_and]
          · refine iteDn ha (fin _ ?_)
            rw [decide_eq_false ha, Bool.false_and]
        · obtain ⟨e, hz⟩ := hw
          rw [show (tx t).cps.size = t.length from tx_size t, List.take_length] at hz
          refine ⟨D, _, rfl, sq_of hz, ?_⟩
          have eb : isNm t = ((t.map fun c => decide (65 ≤ c) && decide (c ≤ 90)).all id) := by
            unfold isNm
            rw [decide_eq_true (by omega), Bool.true_and, List.all_map]
            rfl
          rw [← eb]
          exact q _ e
      · have h2' : ¬ t.length ≤ 8 := fun z => h2 (decide_eq_true (by rw [tx_len]; omega))
        have eb : isNm t = false := by
          unfold isNm
          rw [decide_eq_false (by omega), Bool.false_and]
        rw [eb] at q
        exact q _ (Ex.refl _)
    · have h1' : ¬ 1 ≤ t.length := fun z => h1 (decide_eq_true (by rw [tx_len]; omega))
      have eb : isNm t = false := by
        unfold isNm
        rw [decide_eq_false (by omega), Bool.false_and]
      rw [eb] at q
      exact ⟨_, rfl, iteF (q _ (Ex.refl _))⟩
theorem ok_partW {f : Addr} {fd : FuncData} (F : Fun K "_is_part" "_is_part" s_is_part f fd) (T : Tx mg) (c_is_name : Kn P w K mg base "_is_name" ["value"] 1 spNm) (c_wrong_sign : Kn P w K mg base "wrong_sign" ["letters", "text"] 1 spWSign) :
    FnOk P w K mg base CX0 2 f fd ["letters", "rules", "value"] spPartW := by
  refine F.ok sc_is_part (fun vs H Q E h => ?_) (fun cdv A outer s H vs Q E hr h => ?_)
  · obtain ⟨L, t, d, kvs, rfl, _⟩ := h
    rfl
  · obtain ⟨L, t, d, kvs, rfl, hd, hL, ht, hp, q⟩ := h
    refine ⟨_, (pss_cons (ps_if (pt_not (pt_val (pe_callB call_isi (by rfl) T.isinstance PyProof.Rows.boot_isinstance (pa_cons (pv 2) (pa_cons (pe_bltn (v := .ty "str") (by rfl) T.str PyProof.Rows.boot_str rfl) pa_nil))))) (pss_one (ps_ret pe_bl)) pss_nil)
      (pss_cons (ps_if (pt_val (pe_call c_is_name.ok (hr.mono (by decide)) (by rfl) c_is_name.g c_is_name.kp c_is_name.b .nil pass0 (pa_cons (pv 2) pa_nil))) (pss_one (ps_ret (pe_cmp (pc_din (hu_of hr) (pv 2) (pv 1)) rfl))) pss_nil)
      (pss_one (ps_ret (pe_and (pe_chain op_le op_le pe_int (pe_callB call_len_str (by rfl) T.len PySem.boot_len (pa_cons (pv 2) pa_nil)) (pe_glob (v := .int 60) rfl T.m_LONGEST_STRING ⟨_, rfl⟩)) (pe_one (pe_cmpR op_isN (pe_call c_wrong_sign.ok (hr.mono (by decide)) (by rfl) c_wrong_sign.g c_wrong_sign.kp c_wrong_sign.b .nil pass0 (pa_cons (pv 0) (pa_cons (pv 2) pa_nil))) pe_non (nomark _)))))))), ?_⟩
    refine ⟨_, rfl, _, _, _, _, true, rfl, .ty _, .base (.str _), kit_ss, true, rfl, ?_⟩
    refine ⟨_, rfl, t, rfl, ht, fun H1 e1 => ⟨_, rfl, ?_⟩⟩
    rcases hp with ⟨h1, h2⟩ | ⟨h1, h2, h3, h4⟩
    · rw [h1]
      refine iteT ⟨_, rfl, _, rfl, d, _, rfl, .inl ⟨kvs, .inr (tx t), rd_ex e1 hd, rfl, rfl⟩, ?_⟩
      rw [h2]
      exact q _ e1
    · rw [h1]
      refine iteF ?_
      refine ⟨_, rfl, _, rfl, tx_le (by omega), _, _, rfl, rfl, _, rfl, ite2 (fun _ => ?_) (fun z => absurd (decide_eq_true (by rw [tx_len]; omega)) z)⟩
      refine ⟨_, _, rfl, rfl, _, rfl, ite2 (fun _ => ?_) (fun z => absurd (decide_eq_true (by rw [tx_len]; omega)) z)⟩
      exact ⟨_, rfl, _, rfl, L, t, rfl, hL, ht, h4, fun H' e => ⟨rfl, q _ (e1.trans e)⟩⟩
theorem ok_ruleW {f : Addr} {fd : FuncData} (F : Fun K "_is_rule" "_is_rule" s_is_rule f fd) (T : Tx mg) (c_is_list : Kn P w K mg base "is_list" ["value"] 1 spIsQ) (c_is_part : Kn P w K mg base "_is_part" ["letters", "rules", "value"] 2 spPartW)
    (c_is_whole : Kn P w K mg base "is_whole" ["value", "low", "high"] 2 spWhole) : FnOk P w K mg base CX0 3 f fd ["letters", "rules", "value"] spRuleW := by
  refine F.ok sc_is_rule (fun vs H Q E h => ?_) (fun cdv A outer s H vs Q E hr h => ?_)
  · obtain ⟨L, d, kvs, v, rows, rfl, _⟩ := h
    rfl
  · obtain ⟨L, d, kvs, v, rows, rfl, hd, hL, ⟨a, k, xs, rfl, ha, hx⟩, l1, l8, hp, q⟩ := h
    have hlen : xs.length = rows.length := hx.length
    refine ⟨_, (pss_cons (ps_if (PW.pt (pw_or (pt_not (pt_val (pe_call c_is_list.ok (hr.mono (by decide)) (by rfl) c_is_list.g c_is_list.kp c_is_list.b .nil pass0 (pa_cons (pv 2) pa_nil)))) (pw_or1 (pt_not (pt_chain op_le op_le pe_int (pe_callB call_len_seq (by rfl) T.len PySem.boot_len (pa_cons (pv 2) pa_nil)) (pe_glob (v := .int 8) rfl T.m_MOST_PAIRS ⟨_, rfl⟩)))))) (pss_one (ps_ret pe_bl)) pss_nil)
      (pss_one (ps_ret (pe_callB (cr_all rfl) (by rfl) T.all PyProof.Rows.boot_all (pa_cons (pe_lc (own := [("pair", 3)]) (g := gName 3) (tt := tYes) rfl sc_is_rule.nd (TR.pi_seq (pv 2)) (blkOk_by (N := N_is_rule) (sc := defScope s_is_rule) (by decide +kernel)) (fun _ _ _ _ _ => (pg_name (i := 3) sc_is_rule.nd rfl (Or.inl rfl))) (fun _ _ _ _ _ => pts_nil) (fun _ _ _ _ _ => (pe_and (pe_call c_is_list.ok (hr.mono (by decide)) (by rfl) c_is_list.g c_is_list.kp c_is_list.b .nil pass0 (pa_cons (pv 3) pa_nil)) (pe_and (pe_cmpR op_eq (pe_callB (show CallR _ _ (TR.rLenQ K) from call_len_seq) (by rfl) T.len PySem.boot_len (pa_cons (pv 3) pa_nil)) pe_int (nomark _)) (pe_and (pe_call c_is_part.ok (hr.mono (by decide)) (by rfl) c_is_part.g c_is_part.kp c_is_part.b .nil pass0 (pa_cons (pv 0) (pa_cons (pv 1) (pa_cons (pe_ix (show IxR _ (rIx K) from ix_seq) (pv 3) pe_int (fun _ _ => rfl)) pa_nil)))) (pe_one (pe_call c_is_whole.ok (hr.mono (by decide)) (by rfl) c_is_whole.g c_is_whole.kp c_is_whole.b .nil pass0 (pa_cons (pe_ix (show IxR _ (rIx K) from ix_seq) (pv 3) pe_int (fun _ _ => rfl)) (pa_cons pe_int (pa_cons (pe_glob (v := .int 1000000000000000000000000000000) rfl T.m_MOST_COUNT ⟨_, rfl⟩) pa_nil)))))))))) pa_nil))))), ?_⟩
    refine ⟨_, rfl, a, k, xs, rfl, ha, fun H1 e1 => ⟨_, rfl, ?_⟩⟩
    refine ⟨_, rfl, a, xs, rfl, ob_seq (e1 _ _ ha), _, _, rfl, rfl, _, rfl, ite2 (fun _ => ?_) (fun z => absurd (decide_eq_true (by omega)) z)⟩
    refine ⟨_, _, rfl, rfl, _, rfl, ite2 (fun z => ?_) (fun _ => ?_)⟩
    · rw [decide_eq_true (by omega)] at z
      cases z
    refine lcq (e1 _ _ ha) (fun R h => ⟨_, rfl, h⟩) (fun D i H' => Ex H1 H' ∧ H' D = some (.lst ((List.replicate i true).map V.bl))) (fun D hD => ⟨Ex.new hD, upd_same⟩) (fun D i H' _ p => p.1) (fun D i x H' hD hi p => ?_) (fun D H' hD p => ?_)
    · obtain ⟨e2, hz⟩ := p
      obtain ⟨pc, hpc, b, kb, rfl, hb⟩ := paired_get hx hi
      obtain ⟨g1, g2, g3, g4⟩ := hp pc (List.mem_of_getElem? hpc)
      have hi2 := (List.getElem?_eq_some_iff.mp hi).1
      have hb2 := (e1.trans e2) _ _ hb
      refine ⟨rfl, _, rfl, b, kb, _, rfl, hb2, fun H3 e3 => ⟨_, rfl, ?_⟩⟩
      refine ⟨_, rfl, b, _, rfl, ob_seq (e3 _ _ hb2), rfl, _, rfl, ?_⟩
      refine ⟨_, rfl, _, rfl, _, rfl, ix_at (e3 _ _ hb2) rfl ?_⟩
      refine ⟨L, pc.1, d, kvs, rfl, rd_ex (e1.trans (e2.trans e3)) hd, hL, g1, g2, fun H4 e4 => ⟨_, rfl, ?_⟩⟩
      refine ⟨_, rfl, ix_at (e4 _ _ (e3 _ _ hb2)) rfl ?_⟩
      refine ⟨_, _, _, rfl, by omega, by omega, fun H5 e5 => ?_⟩
      have e25 := e2.trans (e3.trans (e4.trans e5))
      refine ⟨_, (e3.trans (e4.trans e5)) _ _ hz, ?_, e25.mut hD, ?_⟩
      · rw [List.length_map, List.length_replicate]
        exact sz_lt (by omega)
      · rw [upd_same, bl_snoc', List.replicate_succ']
    · obtain ⟨e2, hz⟩ := p
      refine ⟨D, _, rfl, sq_of hz, ?_⟩
      rw [all_yes]
      exact q _ (e1.trans e2)
end
end Law

/-! texts that rules tell, without any program -/
namespace WV
open PySem PySem.Spec PyProof.Rows L2 Evl
abbrev T := List Nat
def rep (n : Nat) (t : T) : T := (List.replicate n t).flatten
def txt (W : T → T) (rows : Law.Rows) : T := (rows.map fun pc => rep pc.2 (W pc.1)).flatten
/-- the rules: names that stand for texts, each one told by lesser ones -/
structure Wv (R : Law.Ru) (L : T) (W : T → T) (rk : T → Nat) : Prop where
  nd : (R.map (·.1)).Nodup
  lo : 1 ≤ R.length
  hi : R.length ≤ 40
  nm : ∀ r ∈ R, Law.isNm r.1 = true
  rows : ∀ r ∈ R, 1 ≤ r.2.length ∧ r.2.length ≤ 8
  cnt : ∀ r ∈ R, ∀ pc ∈ r.2, pc.1.length < 500 ∧ 1 ≤ pc.2 ∧ pc.2 ≤ 1000000000000000000000000000000 ∧ ((W pc.1).length < 18446744073709551616 ∨ pc.2 < 18446744073709551616)
  part : ∀ r ∈ R, ∀ pc ∈ r.2, (pc.1 ∈ R.map (·.1) ∧ rk pc.1 < rk r.1) ∨ (Law.isNm pc.1 = false ∧ 1 ≤ pc.1.length ∧ pc.1.length ≤ 60 ∧ (∀ c ∈ pc.1, c ∈ L) ∧ W pc.1 = pc.1)
  text : ∀ r ∈ R, W r.1 = txt W r.2
  pos : ∀ r ∈ R, ∀ pc ∈ r.2, 1 ≤ (W pc.1).length
theorem rep_len (n : Nat) (t : T) : (rep n t).length = n * t.length := by
  unfold rep
  induction n with
  | zero => simp
  | succ n ih => rw [List.replicate_succ, List.flatten_cons, List.length_append, ih, Nat.succ_mul, Nat.add_comm]
theorem nm_ne {R : Law.Ru} {L : T} {W : T → T} {rk : T → Nat} (w : Wv R L W rk) {t : T} (h : Law.isNm t = false) : t ∉ R.map (·.1) := fun z => by
  obtain ⟨r, hr, e⟩ := List.mem_map.mp z
  rw [← e, w.nm r hr] at h
  cases h
/-- how many names lack in a dict -/
def lack (R : Law.Ru) (kvs : List (Key × V)) : Nat := R.countP fun r => (valV kvs (.inr (Law.tx r.1))).isNone
theorem countP_le {α : Type} {p q : α → Bool} : ∀ {l : List α}, (∀ x ∈ l, q x = true → p x = true) → l.countP q ≤ l.countP p
  | [], _ => Nat.le_refl _
  | x :: l, h => by
    have ih := countP_le (p := p) (q := q) (l := l) fun y hy => h y (List.mem_cons_of_mem _ hy)
    have hx := h x List.mem_cons_self
    rw [List.countP_cons, List.countP_cons]
    cases e : q x with
    | false => simp; omega
    | true =>
      rw [hx e]
      simp
      omega
theorem countP_lt {α : Type} {p q : α → Bool} : ∀ {l : List α}, (∀ x ∈ l, q x = true → p x = true) → ∀ x ∈ l, p x = true → q x = false → l.countP q + 1 ≤ l.countP p
  | [], _, x, hx, _, _ => nomatch hx
  | y :: l, h, x, hx, hp, hq => by
    have hy := h y List.mem_cons_self
    rw [List.countP_cons, List.countP_cons]
    rcases List.mem_cons.mp hx with rfl | hx
    · have ih := countP_le (p := p) (q := q) (l := l) fun z hz => h z (List.mem_cons_of_mem _ hz)
      rw [hp, hq]
      simp
      omega
    · have ih := countP_lt (p := p) (q := q) (l := l) (fun z hz => h z (List.mem_cons_of_mem _ hz)) x hx hp hq
      cases e : q y with
      | false => simp; omega
      | true =>
        rw [hy e]
        simp
        omega
theorem val_put {kvs : List (Key × V)} {k k' : Key} {v : V} : valV (putK kvs k v) k' = if k' = k then some v else valV kvs k' := by
  exact valV_put kvs k k' v
theorem key_inj {a b : T} (h : (Sum.inr (Law.tx a) : Key) = .inr (Law.tx b)) : a = b := by
  have h2 : Law.tx a = Law.tx b := Sum.inr.inj h
  have h3 : (Law.tx a).cps.toList = (Law.tx b).cps.toList := by rw [h2]
  exact h3
theorem lack_put {R : Law.Ru} {kvs : List (Key × V)} {t : T} {v : V} : lack R (putK kvs (.inr (Law.tx t)) v) ≤ lack R kvs := by
  refine countP_le fun r _ h => ?_
  rw [val_put] at h
  by_cases e : (.inr (Law.tx r.1) : Key) = .inr (Law.tx t)
  · rw [if_pos e] at h
    cases h
  · rw [if_neg e] at h
    exact h
theorem lack_lt {R : Law.Ru} {kvs : List (Key × V)} {t : T} {v : V} (hm : t ∈ R.map (·.1)) (hn : valV kvs (.inr (Law.tx t)) = none) : lack R (putK kvs (.inr (Law.tx t)) v) + 1 ≤ lack R kvs := by
  obtain ⟨r, hr, e⟩ := List.mem_map.mp hm
  refine countP_lt (fun r _ h => ?_) r hr ?_ ?_
  · rw [val_put] at h
    by_cases e : (.inr (Law.tx r.1) : Key) = .inr (Law.tx t)
    · rw [if_pos e] at h
      cases h
    · rw [if_neg e] at h
      exact h
  · rw [e, hn]
    rfl
  · rw [val_put, if_pos (by rw [e])]
    rfl
theorem lack_all (R : Law.Ru) (kvs : List (Key × V)) : lack R kvs ≤ R.length := List.countP_le_length
theorem len_put (kvs : List (Key × V)) (k : Key) (v : V) : (putK kvs k v).length ≤ kvs.length + 1 := by
  have := length_putK kvs k v
  omega
end WV
namespace Law
open PySem PySem.Spec PyProof.Rows L2 Evl TR GX WV
/-- the dict of rules as it stands -/
def RuK (H : Hp) (kvs : List (Key × V)) (R : Ru) : Prop := Paired (fun kv r => kv.1 = .inr (tx r.1) ∧ RwA H kv.2 r.2) kvs R
theorem RuK.ex {H H' : Hp} (e : Ex H H') {kvs : List (Key × V)} {R : Ru} (h : RuK H kvs R) : RuK H' kvs R := paired_mono (fun _ _ q => ⟨q.1, q.2.ex e⟩) h
theorem RuK.get {H : Hp} : ∀ {kvs : List (Key × V)} {R : Ru}, RuK H kvs R → (R.map (·.1)).Nodup → ∀ r ∈ R, ∃ v, valV kvs (.inr (tx r.1)) = some v ∧ RwA H v r.2
  | _, _, .nil, _, r, hr => nomatch hr
  | kv :: kvs, r0 :: R, .cons h t, nd, r, hr => by
    rw [List.map_cons] at nd
    obtain ⟨n1, n2⟩ := List.nodup_cons.mp nd
    rcases List.mem_cons.mp hr with rfl | hr
    · exact ⟨kv.2, valV_pos h.1, h.2⟩
    · obtain ⟨v, e, a⟩ := RuK.get t n2 r hr
      refine ⟨v, ?_, a⟩
      rw [valV_neg]
      · exact e
      · rw [h.1]
        intro z
        rw [key_inj z] at n1
        exact n1 (List.mem_map_of_mem hr)
theorem RuK.non {H : Hp} : ∀ {kvs : List (Key × V)} {R : Ru}, RuK H kvs R → ∀ t, t ∉ R.map (·.1) → valV kvs (.inr (tx t)) = none
  | _, _, .nil, _, _ => rfl
  | kv :: kvs, r0 :: R, .cons h q, t, ht => by
    rw [List.map_cons, List.mem_cons, not_or] at ht
    rw [valV_neg]
    · exact RuK.non q t ht.2
    · rw [h.1]
      exact fun z => ht.1 (key_inj z).symm
theorem forS {K : PySem.W.Frag} {te : TE} {g : TG} {tb : TS} {D : Ends} {σ : L2.St} {H : Hp} {a : Addr} {k : Bool} {xs : List V} (h : H a = some (ob k xs)) (hv : ∀ R : VK, R (.ref a) H → te σ H R) (Pv : Nat → L2.St → Hp → Prop) (h0 : Pv 0 σ H)
    (hk : ∀ i σ H', Pv i σ H' → H' a = some (ob k xs)) (hs : ∀ (i : Nat) (x : V) (σ : L2.St) (H : Hp), xs[i]? = some x → Pv i σ H → g x σ H fun σ2 H2 => tb { D with nx := Pv (i + 1), ct := Pv (i + 1), bk := D.nx } σ2 H2)
    (hd : ∀ σ H, Pv xs.length σ H → D.nx σ H) : tFor (iSeq K te) g tb D σ H := by
  cases k
  · exact .inl (hv _ ⟨a, rfl, ⟨xs, sq_of h⟩, for_list Pv h0 (fun i σ H' _ p => sq_of (hk i σ H' p)) hs hd⟩)
  · exact .inr (hv _ ⟨a, rfl, ⟨xs, st_of h⟩, for_tup Pv h0 (fun i σ H' _ p => st_of (hk i σ H' p)) hs hd⟩)
theorem pop_last {α : Type} (us : List α) (x : α) : (us ++ [x])[(us ++ [x]).length - 1]? = some x := by
  rw [List.length_append]
  simp
theorem st_eq {t : L2.St → Hp → Prop} {σ σ' : L2.St} {H : Hp} (e : σ = σ') (h : t σ' H) : t σ H := e ▸ h
def spWithinW : Sp := fun vs H Q _ => ∃ (R : Ru) (L : List Nat) (W : List Nat → List Nat) (rk : List Nat → Nat) (d : Addr) (kvs : List (Key × V)) (t : List Nat), vs = [.ref d, .str (tx t)] ∧ Rd H d (.dK kvs) ∧ RuK H kvs R ∧ Wv R L W rk ∧ t ∈ R.map (·.1) ∧
  ∀ H' r ks, Ex H H' → H' r = some (.dK ks) → valV ks (.inr (tx t)) = none → Q (.ref r) H'
section
variable {P : Program} {w : World} {K : PySem.W.Frag} {mg : Str → Option Value} {base : Heap}
theorem ok_withinW {f : Addr} {fd : FuncData} (F : Fun K "_within" "_within" s_within f fd) (T : Tx mg) : FnOk P w K mg base CX0 1 f fd ["rules", "name"] spWithinW := by
  refine F.ok sc_within (fun vs H Q E h => ?_) (fun cdv A outer s H vs Q E hr h => ?_)
  · obtain ⟨R, L, W, rk, d, kvs, t, rfl, _⟩ := h
    rfl
  · obtain ⟨R, L, W, rk, d, kvs, t, rfl, hd, hR, wv, ht, q⟩ := h
    refine ⟨_, (pss_cons (ps_set (i := 2) sc_within.nd rfl (Or.inl rfl) pe_dnewK)
      (pss_cons (ps_set (i := 3) sc_within.nd rfl (Or.inl rfl) (pe_lst (pa_cons (pv 1) pa_nil)))
      (pss_cons (ps_while PassesOwn.never (pt_truth (pv 3) (by intro _; rfl)) (pss_cons (ps_set (i := 4) sc_within.nd rfl (Or.inl rfl) (pe_bm0 PySem.F.plainAttrs_list PySem.F.slot_list_pop PySem.F.type_list_pop mt_pop (pv 3)))
      (pss_one (ps_for PassesOwn.never rfl (TR.pi_seq (pe_dget (hu_of hr) (pv 0) (pv 4) (fun _ _ => rfl))) (TR.pg_seq (by rfl) (pgs_cons (pg_name (i := 5) sc_within.nd rfl (Or.inl rfl)) (pgs_cons (pg_name (i := 6) sc_within.nd rfl (Or.inl rfl)) pgs_nil))) (pss_one (ps_if (pt_cmp (pc_dnotin (hu_of hr) (pv 5) (pv 2))) (pss_cons (ps_dput (hu_of hr) (pv 2) (pv 5) pe_bl rfl)
      (pss_one (ps_if (pt_cmp (pc_din (hu_of hr) (pv 5) (pv 0))) (pss_one (ps_expr (pe_bm PySem.F.plainAttrs_list PySem.F.slot_list_append PySem.F.type_list_append mt_append (pv 3) (pa_cons (pv 5) pa_nil)))) pss_nil))) pss_nil))))))
      (pss_one (ps_ret (pv 2)))))), ?_⟩
    intro fd hfd
    have e1 : Ex H (upd H fd (.dK [])) := Ex.new hfd
    refine ⟨_, rfl, by show 1 ≤ sizeLine; decide, fun wl hwl => ?_⟩
    have hwl0 : H wl = none := fresh_back e1 hwl
    have nwf : wl ≠ fd := fun z => by rw [z, upd_same] at hwl; cases hwl
    have rlen := wv.hi
    obtain ⟨tv, htv⟩ : ∃ f : List Nat → V, f = fun n => V.str (tx n) := ⟨_, rfl⟩
    refine ⟨fun m σ H' => ∃ (ks : List (Key × V)) (ns : List (List Nat)) (y4 y5 y6 : Option V), σ = [some (.ref d), some (.str (tx t)), some (.ref fd), some (.ref wl), y4, y5, y6] ∧ Ex H H' ∧ H' fd = some (.dK ks) ∧ H' wl = some (.lst (ns.map tv)) ∧
        (∀ n ∈ ns, n ∈ R.map (·.1) ∧ rk n ≤ rk t) ∧ (∀ p, valV ks (.inr (tx p)) ≠ none → p ∈ R.map (·.1) → rk p < rk t) ∧ ns.length + lack R ks ≤ m ∧ ks.length + 8 * m ≤ 400,
      ⟨1 + R.length, [], [t], none, none, none, rfl, e1.trans (Ex.new hwl), by rw [upd_ne nwf.symm]; exact upd_same, by rw [htv]; exact upd_same, fun n hn => ?_, fun p hp => absurd rfl hp, Nat.add_le_add_left (lack_all R []) 1, (by show 0 + 8 * (1 + R.length) ≤ 400; omega)⟩, fun m σ H' hw => ?_⟩
    · rw [List.mem_singleton.mp hn]
      exact ⟨ht, Nat.le_refl _⟩
    obtain ⟨ks, ns, y4, y5, y6, rfl, e2, hf, hl, hn, hk, hm, hz⟩ := hw
    refine ⟨_, rfl, !(ns.map tv).isEmpty, .inl ⟨_, sq_of hl, rfl⟩, ?_⟩
    rcases List.eq_nil_or_concat ns with rfl | ⟨ms, o, rfl⟩
    · refine iteF ?_
      refine ⟨_, rfl, q _ fd ks e2 hf ?_⟩
      cases hv : valV ks (.inr (tx t)) with
      | none => rfl
      | some v =>
        have := hk t (by rw [hv]; intro z; cases z) ht
        omega
    rw [show (!((ms.concat o).map tv).isEmpty) = true by rw [List.concat_eq_append, List.map_append]; cases ms <;> rfl]
    refine iteT ?_
    rw [List.concat_eq_append] at hl hn hm
    obtain ⟨ho, hro⟩ := hn o (List.mem_append_right _ List.mem_cons_self)
    obtain ⟨r, hr', rfl⟩ := List.mem_map.mp ho
    rw [List.map_append, List.map_cons, List.map_nil, show tv r.1 = V.str (tx r.1) by rw [htv]] at hl
    rw [List.length_append] at hm
    obtain ⟨v, hv, a, k, xs, rfl, ha, hx⟩ := hR.get wv.nd r hr'
    obtain ⟨m', rfl⟩ : ∃ m', m = m' + 1 := ⟨m - 1, by have : [r.1].length = 1 := rfl; omega⟩
    refine ⟨fun σ2 H2 => ∃ m2, m2 < m' + 1 ∧ ∃ (ks : List (Key × V)) (ns : List (List Nat)) (y4 y5 y6 : Option V), σ2 = [some (.ref d), some (.str (tx t)), some (.ref fd), some (.ref wl), y4, y5, y6] ∧ Ex H H2 ∧ H2 fd = some (.dK ks) ∧ H2 wl = some (.lst (ns.map tv)) ∧
        (∀ n ∈ ns, n ∈ R.map (·.1) ∧ rk n ≤ rk t) ∧ (∀ p, valV ks (.inr (tx p)) ≠ none → p ∈ R.map (·.1) → rk p < rk t) ∧ ns.length + lack R ks ≤ m2 ∧ ks.length + 8 * m2 ≤ 400, fun σ2 H2 h => h, ?_⟩
    refine ⟨_, rfl, .inl ⟨rfl, _, sq_of hl⟩, wl, _, _, rfl, rfl, hl, pop_last _ _, ?_⟩
    rw [List.dropLast_concat]
    have e3 : Ex H (upd H' wl (.lst (ms.map tv))) := e2.mut hwl0
    have hf3 : (upd H' wl (.lst (ms.map tv))) fd = some (.dK ks) := by rw [upd_ne nwf.symm]; exact hf
    have hl3 : (upd H' wl (.lst (ms.map tv))) wl = some (.lst (ms.map tv)) := upd_same
    generalize (upd H' wl (.lst (ms.map tv))) = H3 at e3 hf3 hl3 ⊢
    have hrows := (wv.rows r hr').2
    have hxl : xs.length = r.2.length := hx.length
    dsimp only [gName]
    refine' st_eq (σ' := [some (.ref d), some (.str (tx t)), some (.ref fd), some (.ref wl), some (.str (tx r.1)), y5, y6]) rfl ?_
    refine forS (e3 _ _ ha) (fun R' hR' => ⟨_, rfl, _, rfl, d, _, rfl, .inl ⟨kvs, .inr (tx r.1), rd_ex e3 hd, rfl, hv.symm⟩, hR'⟩)
      (fun j σ H4 => ∃ (ks : List (Key × V)) (ns : List (List Nat)) (y5 y6 : Option V), σ = [some (.ref d), some (.str (tx t)), some (.ref fd), some (.ref wl), some (.str (tx r.1)), y5, y6] ∧ Ex H H4 ∧ H4 fd = some (.dK ks) ∧ H4 wl = some (.lst (ns.map tv)) ∧
        (∀ n ∈ ns, n ∈ R.map (·.1) ∧ rk n ≤ rk t) ∧ (∀ p, valV ks (.inr (tx p)) ≠ none → p ∈ R.map (·.1) → rk p < rk t) ∧ ns.length + lack R ks ≤ m' ∧ ks.length + 8 * m' ≤ 392 + j)
      ⟨ks, ms, y5, y6, rfl, e3, hf3, hl3, fun n hn' => hn n (List.mem_append_left _ hn'), hk, by have : [r.1].length = 1 := rfl; omega, by omega⟩ (fun j σ H4 p => p.choose_spec.choose_spec.choose_spec.choose_spec.2.1 _ _ ha) (fun j x σ H4 hj p => ?_) (fun σ H4 p => ?_)
    · obtain ⟨ks4, ns4, y5, y6, rfl, e4, hf4, hl4, hn4, hk4, hm4, hz4⟩ := p
      obtain ⟨pc, hpc, b, kb, rfl, hb⟩ := paired_get hx hj
      have hpm := List.mem_of_getElem? hpc
      have hjl := (List.getElem?_eq_some_iff.mp hpc).1
      refine gSeq_of (e4 _ _ hb) rfl ⟨_, _, rfl, _, _, rfl, rfl, ?_⟩
      refine ⟨_, rfl, _, rfl, fd, _, rfl, DGet.k (k := .inr (tx pc.1)) hf4, _, rfl, ?_⟩
      cases hv4 : valV ks4 (.inr (tx pc.1)) with
      | some v =>
        exact ⟨ks4, ns4, _, _, rfl, e4, hf4, hl4, hn4, hk4, hm4, by omega⟩
      | none =>
        have klen := len_put ks4 (.inr (tx pc.1)) (.bl true)
        refine ⟨_, rfl, _, rfl, fd, _, rfl, DPut.k (k := .inr (tx pc.1)) hf4 (sz_lt (by omega)), ?_⟩
        have e5 : Ex H (upd H4 fd (.dK (putK ks4 (.inr (tx pc.1)) (.bl true)))) := e4.mut hfd
        have hf5 : (upd H4 fd (.dK (putK ks4 (.inr (tx pc.1)) (.bl true)))) fd = some (.dK (putK ks4 (.inr (tx pc.1)) (.bl true))) := upd_same
        have hl5 : (upd H4 fd (.dK (putK ks4 (.inr (tx pc.1)) (.bl true)))) wl = some (.lst (ns4.map tv)) := by rw [upd_ne nwf]; exact hl4
        have hk5 : ∀ p, valV (putK ks4 (.inr (tx pc.1)) (.bl true)) (.inr (tx p)) ≠ none → p ∈ R.map (·.1) → rk p < rk t := fun p hp hpk => by
          rw [val_put] at hp
          by_cases z : (.inr (tx p) : Key) = .inr (tx pc.1)
          · rcases wv.part r hr' pc hpm with ⟨_, h2⟩ | ⟨h1, _⟩
            · rw [key_inj z]
              omega
            · rw [key_inj z] at hpk
              exact absurd hpk (nm_ne wv h1)
          · rw [if_neg z] at hp
            exact hk4 p hp hpk
        have lk := lack_put (R := R) (kvs := ks4) (t := pc.1) (v := .bl true)
        refine ⟨_, rfl, _, rfl, d, _, rfl, .inl ⟨kvs, .inr (tx pc.1), rd_ex e5 hd, rfl, rfl⟩, _, rfl, ?_⟩
        rcases wv.part r hr' pc hpm with ⟨h1, h2⟩ | ⟨h1, _⟩
        · obtain ⟨rp, hrp, ep⟩ := List.mem_map.mp h1
          obtain ⟨vp, hvp, _⟩ := hR.get wv.nd rp hrp
          rw [ep] at hvp
          have lt := lack_lt (R := R) (kvs := ks4) (t := pc.1) (v := .bl true) h1 hv4
          rw [hvp]
          refine iteT ?_
          refine ⟨_, rfl, .inl ⟨rfl, _, sq_of hl5⟩, _, rfl, wl, _, _, rfl, rfl, hl5, ?_, ?_⟩
          · rw [List.length_map]
            exact sz_lt (by omega)
          · refine ⟨_, ns4 ++ [pc.1], _, _, rfl, e5.mut hwl0, by rw [upd_ne nwf.symm]; exact hf5, by rw [upd_same, htv, List.map_append]; rfl, fun n hn' => ?_, hk5, ?_, by omega⟩
            · rcases List.mem_append.mp hn' with z | z
              · exact hn4 n z
              · rw [List.mem_singleton.mp z]
                exact ⟨h1, by omega⟩
            · rw [List.length_append]
              show ns4.length + 1 + _ ≤ _
              omega
        · rw [hR.non _ (nm_ne wv h1)]
          refine iteF ?_
          exact ⟨_, ns4, _, _, rfl, e5, hf5, hl5, hn4, hk5, by omega, by omega⟩
    · obtain ⟨ks4, ns4, y5, y6, rfl, e4, hf4, hl4, hn4, hk4, hm4, hz4⟩ := p
      exact ⟨m', by omega, ks4, ns4, _, _, _, rfl, e4, hf4, hl4, hn4, hk4, hm4, by omega⟩
end
end Law

namespace WV
open PySem PySem.Spec PyProof.Rows L2 Evl
/-- what a dict of sizes tells is right -/
def Good (W : T → T) (ks : List (Key × V)) : Prop := ∀ p v, valV ks (.inr (Law.tx p)) = some v → v = .int ((W p).length : Nat)
theorem Good.put {W : T → T} {ks : List (Key × V)} (h : Good W ks) {p : T} {n : Int} (e : n = ((W p).length : Nat)) : Good W (putK ks (.inr (Law.tx p)) (.int n)) := fun q v hv => by
  rw [val_put] at hv
  by_cases z : (.inr (Law.tx q) : Key) = .inr (Law.tx p)
  · rw [if_pos z] at hv
    rw [key_inj z, ← e]
    exact (Option.some.inj hv).symm
  · rw [if_neg z] at hv
    exact h q v hv
theorem some_put {ks : List (Key × V)} {k : Key} {v : V} {k' : Key} (h : (valV ks k').isSome = true) : (valV (putK ks k v) k').isSome = true := by
  rw [val_put]
  by_cases z : k' = k
  · rw [if_pos z]
    rfl
  · rw [if_neg z]
    exact h
theorem some_new {ks : List (Key × V)} {k : Key} {v : V} : (valV (putK ks k v) k).isSome = true := by
  rw [val_put, if_pos rfl]
  rfl
theorem least_of {rk : T → Nat} : ∀ {l : List T}, l ≠ [] → ∃ x ∈ l, ∀ y ∈ l, rk x ≤ rk y
  | [x], _ => ⟨x, List.mem_cons_self, fun y hy => by rw [List.mem_singleton.mp hy]; exact Nat.le_refl _⟩
  | x :: y :: l, _ => by
    obtain ⟨z, hz, h⟩ := least_of (rk := rk) (l := y :: l) (by simp)
    by_cases q : rk x ≤ rk z
    · refine ⟨x, List.mem_cons_self, fun u hu => ?_⟩
      rcases List.mem_cons.mp hu with rfl | hu
      · exact Nat.le_refl _
      · exact Nat.le_trans q (h u hu)
    · refine ⟨z, List.mem_cons_of_mem _ hz, fun u hu => ?_⟩
      rcases List.mem_cons.mp hu with rfl | hu
      · omega
      · exact h u hu
theorem txt_len (W : T → T) : ∀ rows : Law.Rows, ((txt W rows).length : Int) = (rows.map fun pc => ((W pc.1).length : Int) * (pc.2 : Int)).sum
  | [] => rfl
  | pc :: rows => by
    have ih := txt_len W rows
    unfold txt at ih ⊢
    rw [List.map_cons, List.flatten_cons, List.length_append, List.map_cons, List.sum_cons, ← ih, rep_len, Nat.mul_comm]
    simp only [Int.natCast_add, Int.natCast_mul]
end WV
namespace Law
open PySem PySem.Spec PyProof.Rows L2 Evl TR GX WV
/-- rounds of a walk, whatever a round is -/
theorem out_it {J : It} {n : Nat} {G : Hp → Prop} {Y : Nat → Hp → V → Hp → Prop} (w : Walk J n G Y) {Body : V → Hp → (Hp → Prop) → Prop} {S : Hp → Prop} {H0 : Hp} (Pv : Nat → Hp → Prop) (h0 : Pv 0 H0) (hG : ∀ i H, i ≤ n → Pv i H → G H)
    (hs : ∀ i x H H', i < n → Pv i H → Y i H x H' → Body x H' (Pv (i + 1))) (hd : ∀ H, Pv n H → S H) :
    ∃ W : Nat → Nat → Hp → Prop, (∃ m, W 0 m H0) ∧ ∀ i m H, W i m H → (J.stop i H ∧ S H) ∨ (J.go i H ∧ ∃ N : Hp → Prop, (∀ H', N H' → ∃ m', m' < m ∧ W (i + 1) m' H') ∧ ∀ x H', J.yld i H x H' → Body x H' N) := by
  refine ⟨fun i m H => m = n - i ∧ i ≤ n ∧ Pv i H, ⟨n, by simp, Nat.zero_le _, h0⟩, ?_⟩
  rintro i m H ⟨rfl, hi, p⟩
  have q := hG i H hi p
  by_cases hlt : i < n
  · exact .inr ⟨w.goes i H hlt q, Pv (i + 1), fun H' p' => ⟨n - (i + 1), by omega, rfl, hlt, p'⟩, fun x H' y => hs i x H H' hlt p (w.yields i H x H' hlt q y)⟩
  · have e : i = n := by omega
    subst e
    exact .inl ⟨w.stops H q, hd H p⟩
theorem inS {K : PySem.W.Frag} {te : TE} {R : It → Hp → Prop} {σ : L2.St} {H : Hp} {a : Addr} {k : Bool} {xs : List V} (h : H a = some (ob k xs)) (hv : ∀ Q : VK, Q (.ref a) H → te σ H Q)
    (r : ∀ (J : It), Walk J xs.length (fun H' => H' a = some (ob k xs)) (YAt xs) → R J H) : iSeq K te σ H R := by
  cases k
  · exact .inl (hv _ ⟨a, rfl, ⟨xs, sq_of h⟩, r _ (walk_list.mono (fun _ h => sq_of h) (fun _ _ _ _ _ _ y => y))⟩)
  · exact .inr (hv _ ⟨a, rfl, ⟨xs, st_of h⟩, r _ (walk_tup.mono (fun _ h => st_of h) (fun _ _ _ _ _ _ y => y))⟩)
theorem rd_ne {H : Hp} {d b : Addr} {u : HO} {kvs : List (Key × V)} {k : Bool} {xs : List V} (h : H d = some (.dK kvs)) (hb : H b = some (ob k xs)) : b ≠ d := fun z => by
  rw [z, h] at hb
  cases k <;> cases hb
theorem RwA.frz {H : Hp} {d : Addr} {o : HO} {kvs : List (Key × V)} (hd : H d = some (.dK kvs)) {v : V} {rows : Rows} (h : RwA H v rows) : RwA (upd H d o) v rows := by
  have ne : ∀ {b : Addr} {k : Bool} {xs : List V}, H b = some (ob k xs) → upd H d o b = some (ob k xs) := fun {b k xs} hb => by
    rw [upd_ne]
    · exact hb
    · intro z
      rw [z, hd] at hb
      cases k <;> cases hb
  obtain ⟨a, k, xs, rfl, ha, p⟩ := h
  refine ⟨a, k, xs, rfl, ne ha, paired_mono (fun v pc q => ?_) p⟩
  obtain ⟨b, kb, rfl, hb⟩ := q
  exact ⟨b, kb, rfl, ne hb⟩
theorem RuK.frz {H : Hp} {d : Addr} {o : HO} {kvs ks : List (Key × V)} (hd : H d = some (.dK kvs)) {R : Ru} (h : RuK H ks R) : RuK (upd H d o) ks R := paired_mono (fun _ _ q => ⟨q.1, q.2.frz hd⟩) h
/-- behind the lock -/
theorem ex_unlock {H H' : Hp} {d : Addr} {od : Obj} {u : HO} (hd : H d = some u) (e : Ex (upd H d (.frz od u)) H') : Ex H (upd H' d u) := fun b o hb => by
  by_cases z : b = d
  · subst z
    rw [upd_same]
    rw [hd] at hb
    exact hb
  · rw [upd_ne z]
    exact e b o (by rw [upd_ne z]; exact hb)
def SzOk (R : Ru) (W : List Nat → List Nat) (ks : List (Key × V)) : Prop := ∀ r ∈ R, valV ks (.inr (tx r.1)) = some (.int ((W r.1).length : Nat)) ∧ ∀ pc ∈ r.2, valV ks (.inr (tx pc.1)) = some (.int ((W pc.1).length : Nat))
def spSizes : Sp := fun vs H Q _ => ∃ (R : Ru) (L : List Nat) (W : List Nat → List Nat) (rk : List Nat → Nat) (d : Addr) (kvs : List (Key × V)), vs = [.ref d] ∧ H d = some (.dK kvs) ∧ RuK H kvs R ∧ Wv R L W rk ∧
  ∀ H' r ks, Ex H H' → H r = none → H' r = some (.dK ks) → SzOk R W ks → Q (.ref r) H'
theorem nodup_same : ∀ {R : Ru}, (R.map fun r => r.1).Nodup → ∀ {r r' : List Nat × Rows}, r' ∈ R → r ∈ R → r'.1 = r.1 → r' = r
  | r0 :: R, nd, r, r', h', h, e => by
    rw [List.map_cons] at nd
    obtain ⟨n1, n2⟩ := List.nodup_cons.mp nd
    rcases List.mem_cons.mp h' with q1 | q1
    · rcases List.mem_cons.mp h with q2 | q2
      · rw [q1, q2]
      · exact absurd (by rw [← q1, e]; exact List.mem_map_of_mem q2) n1
    · rcases List.mem_cons.mp h with q2 | q2
      · exact absurd (by rw [← q2, ← e]; exact List.mem_map_of_mem q1) n1
      · exact nodup_same n2 q1 q2 e
theorem RuK.at {H : Hp} {kvs : List (Key × V)} {R : Ru} (h : RuK H kvs R) {i : Nat} {k : Key} {v : V} (e : kvs[i]? = some (k, v)) : ∃ r, R[i]? = some r ∧ k = .inr (tx r.1) ∧ RwA H v r.2 := by
  obtain ⟨r, hr, h1, h2⟩ := paired_get h e
  exact ⟨r, hr, h1, h2⟩
theorem RuK.names {H : Hp} : ∀ {kvs : List (Key × V)} {R : Ru}, RuK H kvs R → kvs.map (fun kv => kV kv.1) = R.map fun r => V.str (tx r.1)
  | _, _, .nil => rfl
  | kv :: kvs, r :: R, .cons h t => by
    rw [List.map_cons, List.map_cons, RuK.names t, h.1]
    rfl
section
variable {P : Program} {w : World} {K : PySem.W.Frag} {mg : Str → Option Value} {base : Heap}
theorem ok_sizes {f : Addr} {fd : FuncData} (F : Fun K "_sizes" "_sizes" s_sizes f fd) (T : Tx mg) : FnOk P w K mg base CX0 1 f fd ["rules"] spSizes := by
  refine F.ok sc_sizes (fun vs H Q E h => ?_) (fun cdv A outer s H vs Q E hr h => ?_)
  · obtain ⟨R, L, W, rk, d, kvs, rfl, _⟩ := h
    rfl
  · obtain ⟨R, L, W, rk, d, kvs, rfl, hd, hR, wv, q⟩ := h
    have rlen := wv.hi
    have klen : kvs.length = R.length := hR.length
    refine ⟨_, (pss_cons (ps_set (i := 1) sc_sizes.nd rfl (Or.inr rfl) (pe_lock (D2.pe_d2 (own := [("name", 2), ("part", 3), ("_", 4)]) (us := [3, 4]) (g := (gName 2)) (gj := (TR.gSeq K 2 (gCons (gName 3) (gCons (gName 4) gNil)))) (wj := TR.iSeq K _) (tt := tYes) rfl sc_sizes.nd (pi_keys (pv 0)) (blkOk_by (N := N_sizes) (sc := defScope s_sizes) (by decide +kernel)) (by decide) (fun _ _ _ _ _ => ⟨(pg_name (i := 2) sc_sizes.nd rfl (Or.inl rfl)), pts_nil, (TR.pi_seq (pe_dget (hu_of hr) (pv 0) (pv 2) (fun _ _ => rfl))), (TR.pg_seq (by rfl) (pgs_cons (pg_name (i := 3) sc_sizes.nd rfl (Or.inl rfl)) (pgs_cons (pg_name (i := 4) sc_sizes.nd rfl (Or.inl rfl)) pgs_nil))), (pts_one (pt_cmp (pc_dnotin (hu_of hr) (pv 3) (pv 0)))), (pv 3), (pe_callB call_len_str (by rfl) T.len PySem.boot_len (pa_cons (pv 3) pa_nil))⟩))))
      (pss_cons (ps_set (i := 5) sc_sizes.nd rfl (Or.inl rfl) (pe_callTy (call_listD rfl) (by rfl) T.list PyProof.Rows.boot_list (pa_cons (pv 0) pa_nil)))
      (pss_cons (ps_while PassesOwn.never (pt_truth (pv 5) (by intro _; rfl)) (pss_cons (ps_for PassesOwn.never rfl (pi_list (pv 5)) (pg_name (i := 2) sc_sizes.nd rfl (Or.inl rfl)) (pss_one (ps_if (pt_val (pe_callB (cr_all rfl) (by rfl) T.all PyProof.Rows.boot_all (pa_cons (pe_lc (own := [("part", 3), ("_", 4)]) (g := TR.gSeq K 2 (gCons (gName 3) (gCons (gName 4) gNil))) (tt := tYes) rfl sc_sizes.nd (TR.pi_seq (pe_dget (hu_of hr) (pv 0) (pv 2) (fun _ _ => rfl))) (blkOk_by (N := N_sizes) (sc := defScope s_sizes) (by decide +kernel)) (fun _ _ _ _ _ => (TR.pg_seq (by rfl) (pgs_cons (pg_name (i := 3) sc_sizes.nd rfl (Or.inl rfl)) (pgs_cons (pg_name (i := 4) sc_sizes.nd rfl (Or.inl rfl)) pgs_nil)))) (fun _ _ _ _ _ => pts_nil) (fun _ _ _ _ _ => (pe_cmp (pc_din (hu_of hr) (pv 3) (pv 1)) rfl))) pa_nil))) (pss_one (ps_dput (hu_of hr) (pv 1) (pv 2) (pe_callB (cr_sum rfl) (by rfl) T.sum (by decide +kernel) (pa_cons (pe_lc (own := [("part", 3), ("count", 6)]) (g := TR.gSeq K 2 (gCons (gName 3) (gCons (gName 6) gNil))) (tt := tYes) rfl sc_sizes.nd (TR.pi_seq (pe_dget (hu_of hr) (pv 0) (pv 2) (fun _ _ => rfl))) (blkOk_by (N := N_sizes) (sc := defScope s_sizes) (by decide +kernel)) (fun _ _ _ _ _ => (TR.pg_seq (by rfl) (pgs_cons (pg_name (i := 3) sc_sizes.nd rfl (Or.inl rfl)) (pgs_cons (pg_name (i := 6) sc_sizes.nd rfl (Or.inl rfl)) pgs_nil)))) (fun _ _ _ _ _ => pts_nil) (fun _ _ _ _ _ => (pe_op op_mul (pe_dget (hu_of hr) (pv 1) (pv 3) (fun _ _ => rfl)) (pv 6)))) pa_nil)) rfl)) pss_nil)))
      (pss_one (ps_setLc (i := 5) (own := [("name", 2)]) (g := gName 2) rfl sc_sizes.nd rfl rfl (sw_true rfl rfl rfl (by decide +kernel)) (pi_list (pv 5)) (blkOk_by (N := N_sizes) (sc := defScope s_sizes) (by decide +kernel)) (fun _ _ _ _ _ => (pg_name (i := 2) sc_sizes.nd rfl (Or.inl rfl))) (fun _ _ _ _ _ => (pts_one (pt_cmp (pc_dnotin (hu_of hr) (pv 2) (pv 1))))) (fun _ _ _ _ _ => (pv 2))))))
      (pss_one (ps_ret (pv 1)))))), ?_⟩
    refine ⟨d, _, hd, trivial, fun od => ?_⟩
    have hRf := hR.frz (o := .frz od (.dK kvs)) hd
    obtain ⟨Hf, hHf⟩ : ∃ Hf, upd H d (.frz od (.dK kvs)) = Hf := ⟨_, rfl⟩
    have hdf : Hf d = some (.frz od (.dK kvs)) := by rw [← hHf]; exact upd_same
    rw [hHf] at hRf ⊢
    refine ⟨_, rfl, d, od, rfl, .inl ⟨kvs, hdf, fun D hD => ?_⟩⟩
    have hD0 : H D = none := by
      rw [← hHf] at hD
      by_cases z : D = d
      · rw [z, upd_same] at hD
        cases hD
      · rw [upd_ne z] at hD
        exact hD
    have nDd : D ≠ d := fun z => by rw [z, hd] at hD0; cases hD0
    have nonp : ∀ r ∈ R, ∀ pc ∈ r.2, pc.1 ∉ R.map (fun r => r.1) → W pc.1 = pc.1 := fun r hr pc hpc hn => by
      rcases wv.part r hr pc hpc with ⟨h, _⟩ | ⟨_, _, _, _, h⟩
      · exact absurd h hn
      · exact h
    refine out_it (walk_keys (d := d) (o := od) (kvs := kvs)) (fun i H' => ∃ ks, Ex Hf H' ∧ H' D = some (.dK ks) ∧ WV.Good W ks ∧ (∀ r ∈ R.take i, ∀ pc ∈ r.2, pc.1 ∉ R.map (fun r => r.1) → (valV ks (.inr (tx pc.1))).isSome = true) ∧ ks.length ≤ 8 * i)
      ⟨[], Ex.new hD, upd_same, (fun p v hv => nomatch hv), (fun r hr => nomatch hr), Nat.le_refl _⟩ (fun i H' _ p => p.choose_spec.1 _ _ hdf) (fun i x H' H2 hi p hy => ?_) (fun H' p => ?_)
    · obtain ⟨ks, e, hk, hg, hc, hl⟩ := p
      obtain ⟨rfl, k, v, hkv, rfl⟩ := hy
      obtain ⟨r, hr, rfl, hrw⟩ := hRf.at hkv
      have hrm := List.mem_of_getElem? hr
      obtain ⟨v2, hval, a, kb, xs, rfl, ha, hx⟩ := hRf.get wv.nd r hrm
      have hxl : xs.length = r.2.length := hx.length
      have hrows := (wv.rows r hrm).2
      refine ⟨rfl, ?_⟩
      refine inS (e _ _ ha) (fun Q' hQ => ⟨_, rfl, _, rfl, d, _, rfl, .inl ⟨kvs, .inr (tx r.1), .inr ⟨od, e _ _ hdf⟩, rfl, hval.symm⟩, hQ⟩) (fun J2 w2 => ?_)
      refine out_it w2 (fun j H3 => ∃ ks, Ex Hf H3 ∧ H3 D = some (.dK ks) ∧ WV.Good W ks ∧ (∀ r ∈ R.take i, ∀ pc ∈ r.2, pc.1 ∉ R.map (fun r => r.1) → (valV ks (.inr (tx pc.1))).isSome = true) ∧ (∀ pc ∈ r.2.take j, pc.1 ∉ R.map (fun r => r.1) → (valV ks (.inr (tx pc.1))).isSome = true) ∧ ks.length ≤ 8 * i + j)
        ⟨ks, e, hk, hg, hc, (fun pc hpc => nomatch hpc), hl⟩ (fun j H3 _ p => p.choose_spec.1 _ _ ha) (fun j y H3 H4 hj p hy => ?_) (fun H3 p => ?_)
      · obtain ⟨ks3, e3, hk3, hg3, hc3, hp3, hl3⟩ := p
        obtain ⟨rfl, hy⟩ := hy
        obtain ⟨pc, hpc, b, kb2, rfl, hb⟩ := paired_get hx hy
        have hpm := List.mem_of_getElem? hpc
        refine gSeq_of (e3 _ _ hb) rfl ⟨_, _, rfl, _, _, rfl, rfl, rfl, ?_⟩
        refine ⟨_, rfl, _, rfl, d, _, rfl, .inl ⟨kvs, .inr (tx pc.1), .inr ⟨od, e3 _ _ hdf⟩, rfl, rfl⟩, _, rfl, ?_⟩
        have tk : r.2.take (j + 1) = r.2.take j ++ [pc] := by rw [List.take_add_one, hpc]; rfl
        by_cases hin : pc.1 ∈ R.map (fun r => r.1)
        · obtain ⟨rp, hrp, ep⟩ := List.mem_map.mp hin
          obtain ⟨vp, hvp, _⟩ := hRf.get wv.nd rp hrp
          rw [ep] at hvp
          rw [hvp]
          refine iteF ⟨ks3, e3, hk3, hg3, hc3, fun pc2 h2 hn => ?_, by omega⟩
          rw [tk] at h2
          rcases List.mem_append.mp h2 with z | z
          · exact hp3 pc2 z hn
          · rw [List.mem_singleton.mp z] at hn
            exact absurd hin hn
        · rw [hRf.non _ hin]
          refine iteT ?_
          have hpl := (wv.cnt r hrm pc hpm).1
          have hln := len_put ks3 (.inr (tx pc.1)) (.int ((tx pc.1).length : Nat))
          refine ⟨_, rfl, _, rfl, _, rfl, tx_le (by omega), ks3, .inr (tx pc.1), rfl, hk3, sz_lt (by omega), _, e3.mut hD, upd_same, hg3.put ?_, fun r2 h2 pc2 hp2 hn => some_put (hc3 r2 h2 pc2 hp2 hn), fun pc2 h2 hn => ?_, by omega⟩
          · rw [tx_len, nonp r hrm pc hpm hin]
          · rw [tk] at h2
            rcases List.mem_append.mp h2 with z | z
            · exact some_put (hp3 pc2 z hn)
            · rw [List.mem_singleton.mp z]
              exact some_new
      · obtain ⟨ks3, e3, hk3, hg3, hc3, hp3, hl3⟩ := p
        refine ⟨ks3, e3, hk3, hg3, fun r2 h2 => ?_, by omega⟩
        rw [show R.take (i + 1) = R.take i ++ [r] by rw [List.take_add_one, hr]; rfl] at h2
        rcases List.mem_append.mp h2 with z | z
        · exact hc3 r2 z
        · rw [List.mem_singleton.mp z]
          rw [hxl, List.take_length] at hp3
          exact hp3
    · obtain ⟨ks0, e, hk, hg, hc, hl⟩ := p
      rw [klen, List.take_length] at hc
      rw [← hHf] at e
      refine ⟨e _ _ upd_same, ?_⟩
      have eH := ex_unlock hd e
      have hkU : (upd H' d (.dK kvs)) D = some (.dK ks0) := by rw [upd_ne nDd]; exact hk
      generalize (upd H' d (.dK kvs)) = H1 at eH hkU ⊢
      dsimp only [gName]
      refine ⟨_, rfl, d, kvs, rfl, .inl (eH _ _ hd), fun ml hml => ?_⟩
      have hml0 : H ml = none := fresh_back eH hml
      rw [hR.names]
      obtain ⟨tv, htv⟩ : ∃ f : List Nat → V, f = fun n => V.str (tx n) := ⟨_, rfl⟩
      have ens : (R.map fun r => V.str (tx r.1)) = (R.map fun r => r.1).map tv := by
        rw [List.map_map, htv]
        rfl
      rw [ens]
      have e2 : Ex H (upd H1 ml (.lst ((R.map fun r => r.1).map tv))) := eH.trans (Ex.new hml)
      have nmD : D ≠ ml := fun z => by rw [← z, hkU] at hml; cases hml
      refine ⟨fun m σ H' => ∃ (ks : List (Key × V)) (ns : List (List Nat)) (ml : Addr) (y2 y3 y4 y6 : Option V), σ = [some (.ref d), some (.ref D), y2, y3, y4, some (.ref ml), y6] ∧ Ex H H' ∧ H' D = some (.dK ks) ∧ H' ml = some (.lst (ns.map tv)) ∧ WV.Good W ks ∧
          (∀ r ∈ R, ∀ pc ∈ r.2, pc.1 ∉ R.map (fun r => r.1) → (valV ks (.inr (tx pc.1))).isSome = true) ∧ (∀ n ∈ ns, n ∈ R.map (fun r => r.1)) ∧ (∀ r ∈ R, (valV ks (.inr (tx r.1))).isSome = true ∨ r.1 ∈ ns) ∧ ns.length ≤ m ∧ m ≤ 40 ∧ ks.length + 64 * m ≤ 3000,
        ⟨R.length, ks0, R.map (fun r => r.1), ml, none, none, none, none, rfl, e2, by rw [upd_ne nmD]; exact hkU, upd_same, hg, hc, fun n hn => hn, fun r hr => .inr (List.mem_map_of_mem hr), by rw [List.length_map]; exact Nat.le_refl _, rlen, by omega⟩, fun m σ H' hw => ?_⟩
      clear hml0 nmD hml ens
      obtain ⟨ks, ns, ml, y2, y3, y4, y6, rfl, e3, hk, hl2, hg, hc, hns, hall, hm, hm40, hz⟩ := hw
      refine ⟨_, rfl, !(ns.map tv).isEmpty, .inl ⟨_, sq_of hl2, rfl⟩, ?_⟩
      cases hcs : ns with
      | nil =>
        refine iteF ?_
        rw [hcs] at hall
        have got : ∀ p, (valV ks (.inr (tx p))).isSome = true → valV ks (.inr (tx p)) = some (.int ((W p).length : Nat)) := fun p hp => by
          obtain ⟨v, hv⟩ := Option.isSome_iff_exists.mp hp
          rw [hv, hg p v hv]
        have key : ∀ r ∈ R, (valV ks (.inr (tx r.1))).isSome = true := fun r hr => (hall r hr).elim id fun z => nomatch z
        refine ⟨_, rfl, q _ D ks e3 hD0 hk fun r hr => ⟨got _ (key r hr), fun pc hpc => ?_⟩⟩
        by_cases hin : pc.1 ∈ R.map (fun r => r.1)
        · obtain ⟨rp, hrp, ep⟩ := List.mem_map.mp hin
          rw [← ep]
          exact got _ (key rp hrp)
        · exact got _ (hc r hr pc hpc hin)
      | cons n0 nr =>
        have hne : ns ≠ [] := by rw [hcs]; simp
        refine iteT ?_
        clear hcs
        refine ⟨fun σ2 H2 => ∃ m2, m2 < m ∧ ∃ (ks : List (Key × V)) (ns : List (List Nat)) (ml : Addr) (y2 y3 y4 y6 : Option V), σ2 = [some (.ref d), some (.ref D), y2, y3, y4, some (.ref ml), y6] ∧ Ex H H2 ∧ H2 D = some (.dK ks) ∧ H2 ml = some (.lst (ns.map tv)) ∧ WV.Good W ks ∧
          (∀ r ∈ R, ∀ pc ∈ r.2, pc.1 ∉ R.map (fun r => r.1) → (valV ks (.inr (tx pc.1))).isSome = true) ∧ (∀ n ∈ ns, n ∈ R.map (fun r => r.1)) ∧ (∀ r ∈ R, (valV ks (.inr (tx r.1))).isSome = true ∨ r.1 ∈ ns) ∧ ns.length ≤ m2 ∧ m2 ≤ 40 ∧ ks.length + 64 * m2 ≤ 3000, fun σ2 H2 h => h, ?_⟩
        have nmD : ml ≠ D := fun z => by rw [z, hk] at hl2; cases hl2
        refine ⟨_, rfl, ml, rfl, ⟨_, sq_of hl2⟩, ?_⟩
        refine for_list (xs := ns.map tv) (fun j σ H4 => ∃ (ks4 : List (Key × V)) (y2 y3 y4 y6 : Option V), σ = [some (.ref d), some (.ref D), y2, y3, y4, some (.ref ml), y6] ∧ Ex H H4 ∧ H4 D = some (.dK ks4) ∧ H4 ml = some (.lst (ns.map tv)) ∧ WV.Good W ks4 ∧
            (∀ k, (valV ks k).isSome = true → (valV ks4 k).isSome = true) ∧ (∀ r ∈ R, r.1 ∈ ns.take j → (∀ pc ∈ r.2, (valV ks (.inr (tx pc.1))).isSome = true) → (valV ks4 (.inr (tx r.1))).isSome = true) ∧ ks4.length ≤ ks.length + j)
          ⟨ks, y2, y3, y4, y6, rfl, e3, hk, hl2, hg, fun k h => h, (fun r _ z => nomatch z), Nat.le_refl _⟩ (fun j σ H4 _ p => sq_of p.choose_spec.choose_spec.choose_spec.choose_spec.choose_spec.2.2.2.1) (fun j x σ H4 hj p => ?_) (fun σ H4 p => ?_)
        · obtain ⟨ks4, y2, y3, y4, y6, rfl, e4, hk4, hl4, hg4, hmono, hdone, hlen⟩ := p
          rw [List.getElem?_map] at hj
          obtain ⟨n, hn, rfl⟩ := Option.map_eq_some_iff.mp hj
          have hjl := (List.getElem?_eq_some_iff.mp hn).1
          obtain ⟨r, hrm, rfl⟩ := List.mem_map.mp (hns n (List.mem_of_getElem? hn))
          have tkn : ns.take (j + 1) = ns.take j ++ [r.1] := by rw [List.take_add_one, hn]; rfl
          obtain ⟨v2, hval, a, kb, xs, rfl, ha, hx⟩ := hR.get wv.nd r hrm
          have hxl : xs.length = r.2.length := hx.length
          have hrows := (wv.rows r hrm).2
          rw [show tv r.1 = V.str (tx r.1) by rw [htv]]
          have rule : ∀ {H5 : Hp}, Ex H H5 → DGet H5 d (.str (tx r.1)) (some (.ref a)) := fun {H5} e5 => .inl ⟨kvs, .inr (tx r.1), .inl (e5 _ _ hd), rfl, hval.symm⟩
          have same : ∀ r' ∈ R, r'.1 = r.1 → r' = r := fun r' h' e' => nodup_same wv.nd h' hrm e'
          refine lcq (e4 _ _ ha) (fun R' hR' => ⟨_, rfl, _, rfl, d, _, rfl, rule e4, hR'⟩) (fun D2 i H5 => Ex H4 H5 ∧ H5 D2 = some (.lst (((r.2.take i).map fun pc => (valV ks4 (.inr (tx pc.1))).isSome).map V.bl))) (fun D2 hD2 => ⟨Ex.new hD2, upd_same⟩) (fun D2 i H5 _ p => p.1) (fun D2 i x H5 hD2 hi p => ?_) (fun D2 H5 hD2 p => ?_)
          · obtain ⟨e5, hz5⟩ := p
            obtain ⟨pc, hpc, b, kb2, rfl, hb⟩ := paired_get hx hi
            have hil := (List.getElem?_eq_some_iff.mp hi).1
            refine gSeq_of ((e4.trans e5) _ _ hb) rfl ⟨_, _, rfl, _, _, rfl, rfl, rfl, ?_⟩
            refine ⟨_, rfl, _, rfl, D, _, rfl, DGet.k (k := .inr (tx pc.1)) (e5 _ _ hk4), _, hz5, ?_, e5.mut hD2, ?_⟩
            · rw [List.length_map, List.length_map, List.length_take]
              exact sz_lt (by omega)
            · rw [upd_same, List.take_add_one, hpc]
              simp only [Option.toList, List.map_append, List.map_cons, List.map_nil]
          · obtain ⟨e5, hz5⟩ := p
            rw [hxl, List.take_length] at hz5
            refine ⟨D2, _, rfl, sq_of hz5, _, rfl, ?_⟩
            have e45 := e4.trans e5
            cases hb : ((r.2.map fun pc => (valV ks4 (.inr (tx pc.1))).isSome).all id) with
            | false =>
              refine iteF ⟨ks4, _, _, _, _, rfl, e45, e5 _ _ hk4, e5 _ _ hl4, hg4, hmono, fun r' h' ht' hp' => ?_, by omega⟩
              rw [tkn] at ht'
              rcases List.mem_append.mp ht' with z | z
              · exact hdone r' h' z hp'
              · have er := same r' h' (List.mem_singleton.mp z)
                subst er
                rw [List.all_map, List.all_eq_false] at hb
                obtain ⟨pc, hpc, hn'⟩ := hb
                exact absurd (hmono _ (hp' pc hpc)) hn'
            | true =>
              refine iteT ?_
              have hin : ∀ pc ∈ r.2, valV ks4 (.inr (tx pc.1)) = some (.int ((W pc.1).length : Nat)) := fun pc hpc => by
                rw [List.all_map, List.all_eq_true] at hb
                obtain ⟨v, hv⟩ := Option.isSome_iff_exists.mp (hb pc hpc)
                rw [hv, hg4 _ v hv]
              have hk5 := e5 _ _ hk4
              have hl5 := e5 _ _ hl4
              refine lcq (e45 _ _ ha) (fun R' hR' => ⟨_, rfl, _, rfl, d, _, rfl, rule e45, hR'⟩) (fun D3 i H6 => Ex H5 H6 ∧ H6 D3 = some (.lst (((r.2.take i).map fun pc => ((W pc.1).length : Int) * (pc.2 : Int)).map V.int))) (fun D3 hD3 => ⟨Ex.new hD3, upd_same⟩) (fun D3 i H6 _ p => p.1) (fun D3 i x H6 hD3 hi p => ?_) (fun D3 H6 hD3 p => ?_)
              · obtain ⟨e6, hz6⟩ := p
                obtain ⟨pc, hpc, b, kb2, rfl, hb⟩ := paired_get hx hi
                have hil := (List.getElem?_eq_some_iff.mp hi).1
                have hpm := List.mem_of_getElem? hpc
                refine gSeq_of ((e45.trans e6) _ _ hb) rfl ⟨_, _, rfl, _, _, rfl, rfl, rfl, ?_⟩
                have hget : DGet H6 D (.str (tx pc.1)) (some (.int ((W pc.1).length : Nat))) := by
                  rw [← hin pc hpm]
                  exact DGet.k (k := .inr (tx pc.1)) (e6 _ _ hk5)
                refine ⟨_, rfl, _, rfl, D, _, rfl, hget, _, rfl, _, _, rfl, rfl, ?_, _, hz6, ?_, e6.mut hD3, ?_⟩
                · rcases (wv.cnt r hrm pc hpm).2.2.2 with z | z
                  · exact .inl ⟨by omega, by omega⟩
                  · exact .inr ⟨by omega, by omega⟩
                · rw [List.length_map, List.length_map, List.length_take]
                  exact sz_lt (by omega)
                · rw [upd_same, List.take_add_one, hpc]
                  simp only [Option.toList, List.map_append, List.map_cons, List.map_nil]
              · obtain ⟨e6, hz6⟩ := p
                rw [hxl, List.take_length] at hz6
                have hk6 := e6 _ _ hk5
                have hln := len_put ks4 (.inr (tx r.1)) (.int (r.2.map fun pc => ((W pc.1).length : Int) * (pc.2 : Int)).sum)
                refine ⟨D3, _, rfl, sq_of hz6, _, rfl, _, rfl, D, _, rfl, DPut.k (k := .inr (tx r.1)) hk6 (sz_lt (by omega)), ?_⟩
                refine ⟨_, _, _, _, _, rfl, (e45.trans e6).mut hD0, upd_same, by rw [upd_ne nmD]; exact e6 _ _ hl5, hg4.put ?_, fun k h => some_put (hmono k h), fun r' h' ht' hp' => ?_, by omega⟩
                · rw [wv.text r hrm, txt_len]
                · rw [tkn] at ht'
                  rcases List.mem_append.mp ht' with z | z
                  · exact some_put (hdone r' h' z hp')
                  · rw [List.mem_singleton.mp z]
                    exact some_new
        · obtain ⟨ks4, y2, y3, y4, y6, rfl, e4, hk4, hl4, hg4, hmono, hdone, hlen⟩ := p
          rw [List.length_map] at hlen
          rw [List.length_map, List.take_length] at hdone
          refine ⟨_, rfl, ml, rfl, ⟨_, sq_of hl4⟩, fun D4 hD4 => ?_⟩
          refine lc_list (xs := ns.map tv) (fun i H5 => Ex H4 H5 ∧ H5 D4 = some (.lst (((ns.take i).filter fun n => !(valV ks4 (.inr (tx n))).isSome).map tv))) ⟨Ex.new hD4, upd_same⟩ (fun i H5 _ p => sq_of (p.1 _ _ hl4)) (fun i x H5 hi p => ?_) (fun H5 p => ?_)
          · obtain ⟨e5, hz5⟩ := p
            rw [List.getElem?_map] at hi
            obtain ⟨n, hn, rfl⟩ := Option.map_eq_some_iff.mp hi
            have hil := (List.getElem?_eq_some_iff.mp hn).1
            rw [show tv n = V.str (tx n) by rw [htv]]
            have tkn : ns.take (i + 1) = ns.take i ++ [n] := by rw [List.take_add_one, hn]; rfl
            refine ⟨rfl, _, rfl, _, rfl, D, _, rfl, DGet.k (k := .inr (tx n)) (e5 _ _ hk4), _, rfl, ?_⟩
            cases hb : (valV ks4 (.inr (tx n))).isSome with
            | true =>
              refine iteF ⟨e5, ?_⟩
              rw [hz5, tkn, List.filter_append, List.filter_cons, hb]
              simp
            | false =>
              refine iteT ⟨_, rfl, _, hz5, ?_, e5.mut hD4, ?_⟩
              · rw [List.length_map]
                have := List.length_filter_le (fun n => !(valV ks4 (.inr (tx n))).isSome) (ns.take i)
                rw [List.length_take] at this
                exact sz_lt (by omega)
              · rw [upd_same, tkn, List.filter_append, List.filter_cons, hb, List.map_append]
                simp [htv]
          · obtain ⟨e5, hz5⟩ := p
            rw [List.length_map, List.take_length] at hz5
            obtain ⟨x, hx, hmin⟩ := least_of (rk := rk) hne
            obtain ⟨rx, hrx, erx⟩ := List.mem_map.mp (hns x hx)
            have hxs : (valV ks4 (.inr (tx x))).isSome = true := by
              rw [← erx]
              refine hdone rx hrx (by rw [erx]; exact hx) fun pc hpc => ?_
              rcases wv.part rx hrx pc hpc with ⟨h1, h2⟩ | ⟨h1, _⟩
              · obtain ⟨rp, hrp, ep⟩ := List.mem_map.mp h1
                rcases hall rp hrp with z | z
                · rw [← ep]
                  exact z
                · have := hmin rp.1 z
                  rw [ep, ← erx] at this
                  omega
              · exact hc rx hrx pc hpc (nm_ne wv h1)
            have hlt : (ns.filter fun n => !(valV ks4 (.inr (tx n))).isSome).length < ns.length := by
              rw [List.length_filter_lt_length_iff_exists]
              exact ⟨x, hx, by rw [hxs]; simp⟩
            refine ⟨m - 1, by omega, ks4, _, D4, _, _, _, _, rfl, e4.trans e5, e5 _ _ hk4, hz5, hg4, fun r hr pc hpc hn => hmono _ (hc r hr pc hpc hn), fun n hn => hns n (List.mem_filter.mp hn).1, fun r hr => ?_, by omega, by omega, by omega⟩
            cases hb : (valV ks4 (.inr (tx r.1))).isSome with
            | true => exact .inl rfl
            | false =>
              refine .inr (List.mem_filter.mpr ⟨?_, by rw [hb]; rfl⟩)
              rcases hall r hr with z | z
              · rw [hmono _ z] at hb
                cases hb
              · exact z
end
end Law

namespace TR
open PySem PySem.Spec L2 Evl
def rTupOf (K : PySem.W.Frag) : List V → Hp → VK → Prop := fun xs H Q =>
  ∃ p ys, xs = [.ref p] ∧ ((SqL K H p ys ∧ ∀ l, H l = none → Q (.ref l) (upd H l (.tup ys))) ∨ (SqT K H p ys ∧ Q (.ref p) H))
end TR
namespace Law
open PySem PySem.Spec PyProof.Rows L2 Evl TR GX WV
/-- the scope of the rules' comprehension, as the def has it -/
def scK : Scope := { kind := ScopeKind.function, names := [(".0", NameKind.local), ("name", NameKind.local), ("tuple", NameKind.globalImplicit), ("rules", NameKind.cell)], isGenerator := false, isCoroutine := false }
structure WC (K : PySem.W.Frag) (C : Addr) : Prop where
  cl : Cls K C
  nr : NoAttr K C "_rules"
  ns : NoAttr K C "_sizes"
  no : NoAttr K C "_root"
  nl : NoAttr K C "letters"
  nz : NoAttr K C "size"
def wFs (r s o l z : V) : List (Str × V) := [("_rules", r), ("_sizes", s), ("_root", o), ("letters", l), ("size", z)]
theorem putF5 (r s o l z : V) : putF "size" z (putF "letters" l (putF "_root" o (putF "_sizes" s (putF "_rules" r [])))) = wFs r s o l z := by
  have a1 : ¬ (("_rules" : Str) = "_sizes") := by decide +kernel
  have a2 : ¬ (("_rules" : Str) = "_root") := by decide +kernel
  have a3 : ¬ (("_rules" : Str) = "letters") := by decide +kernel
  have a4 : ¬ (("_rules" : Str) = "size") := by decide +kernel
  have a5 : ¬ (("_sizes" : Str) = "_root") := by decide +kernel
  have a6 : ¬ (("_sizes" : Str) = "letters") := by decide +kernel
  have a7 : ¬ (("_sizes" : Str) = "size") := by decide +kernel
  have a8 : ¬ (("_root" : Str) = "letters") := by decide +kernel
  have a9 : ¬ (("_root" : Str) = "size") := by decide +kernel
  have b1 : ¬ (("letters" : Str) = "size") := by decide +kernel
  simp [putF, wFs, a1, a2, a3, a4, a5, a6, a7, a8, a9, b1]
/-- a weave -/
structure WObj (C : Addr) (H : Hp) (o : Addr) (R : Ru) (L : List Nat) (W : List Nat → List Nat) (root : List Nat) : Prop where
  ex : ∃ (dx d1 d2 : Addr) (kvs ks : List (Key × V)), H o = some (.ins C dx (wFs (.ref d1) (.ref d2) (.str (tx root)) (.str (tx L)) (.int ((W root).length : Nat)))) ∧ H d1 = some (.dK kvs) ∧ RuK H kvs R ∧ H d2 = some (.dK ks) ∧ SzOk R W ks
theorem WObj.mono {C : Addr} {H H' : Hp} (e : Ex H H') {o : Addr} {R : Ru} {L : List Nat} {W : List Nat → List Nat} {root : List Nat} (h : WObj C H o R L W root) : WObj C H' o R L W root := by
  obtain ⟨dx, d1, d2, kvs, ks, h1, h2, h3, h4, h5⟩ := h.ex
  exact ⟨dx, d1, d2, kvs, ks, e _ _ h1, e _ _ h2, h3.ex e, e _ _ h4, h5⟩
def PrT (H : Hp) (v : V) (pc : List Nat × Nat) : Prop := ∃ b : Addr, v = .ref b ∧ H b = some (.tup [.str (tx pc.1), .int (pc.2 : Nat)])
theorem PrT.upd {H : Hp} {D : Addr} {xs ys : List V} (h : H D = some (.lst xs)) {v : V} {pc : List Nat × Nat} (q : PrT H v pc) : PrT (upd H D (.lst ys)) v pc := by
  obtain ⟨b, rfl, hb⟩ := q
  refine ⟨b, rfl, ?_⟩
  rw [upd_ne]
  · exact hb
  · intro z
    rw [z, h] at hb
    cases hb
theorem PrT.ex {H H' : Hp} (e : Ex H H') {v : V} {pc : List Nat × Nat} (q : PrT H v pc) : PrT H' v pc := by
  obtain ⟨b, rfl, hb⟩ := q
  exact ⟨b, rfl, e _ _ hb⟩
theorem PrT.pr {H : Hp} {v : V} {pc : List Nat × Nat} (q : PrT H v pc) : PrA H v pc := by
  obtain ⟨b, rfl, hb⟩ := q
  exact ⟨b, true, rfl, hb⟩
/-- rules of tuples of tuples -/
def RwT (H : Hp) (v : V) (rows : Rows) : Prop := ∃ (a : Addr) (xs : List V), v = .ref a ∧ H a = some (.tup xs) ∧ Paired (PrT H) xs rows
def RuT (H : Hp) (kvs : List (Key × V)) (R : Ru) : Prop := Paired (fun kv r => kv.1 = .inr (tx r.1) ∧ RwT H kv.2 r.2) kvs R
theorem RwT.to {H H' : Hp} (k : ∀ b xs, H b = some (.tup xs) → H' b = some (.tup xs)) {v : V} {rows : Rows} (h : RwT H v rows) : RwT H' v rows := by
  obtain ⟨a, xs, rfl, ha, p⟩ := h
  refine ⟨a, xs, rfl, k _ _ ha, paired_mono (fun v pc q => ?_) p⟩
  obtain ⟨b, rfl, hb⟩ := q
  exact ⟨b, rfl, k _ _ hb⟩
theorem RuT.to {H H' : Hp} (k : ∀ b xs, H b = some (.tup xs) → H' b = some (.tup xs)) {kvs : List (Key × V)} {R : Ru} (h : RuT H kvs R) : RuT H' kvs R := paired_mono (fun _ _ q => ⟨q.1, q.2.to k⟩) h
theorem RuT.ex {H H' : Hp} (e : Ex H H') {kvs : List (Key × V)} {R : Ru} (h : RuT H kvs R) : RuT H' kvs R := h.to fun b _ hb => e _ _ hb
theorem RuT.frz {H : Hp} {d : Addr} {o : HO} {ks : List (Key × V)} (hd : H d = some (.dK ks)) {kvs : List (Key × V)} {R : Ru} (h : RuT H kvs R) : RuT (upd H d o) kvs R := h.to fun b _ hb => by
  rw [upd_ne (fun z => by rw [z, hd] at hb; cases hb)]
  exact hb
theorem RuT.ruk {H : Hp} {kvs : List (Key × V)} {R : Ru} (h : RuT H kvs R) : RuK H kvs R := paired_mono (fun _ _ q => by
  obtain ⟨q1, a, xs, q2, q3, q4⟩ := q
  exact ⟨q1, a, true, xs, q2, q3, paired_mono (fun _ _ z => z.pr) q4⟩) h
/-- a weave, with its dicts -/
structure WOb (C : Addr) (H : Hp) (o d1 d2 : Addr) (R : Ru) (L : List Nat) (W : List Nat → List Nat) (root : List Nat) : Prop where
  ex : ∃ (dx : Addr) (kvs ks : List (Key × V)), H o = some (.ins C dx (wFs (.ref d1) (.ref d2) (.str (tx root)) (.str (tx L)) (.int ((W root).length : Nat)))) ∧ H d1 = some (.dK kvs) ∧ RuT H kvs R ∧ H d2 = some (.dK ks) ∧ SzOk R W ks
theorem WOb.obj {C : Addr} {H : Hp} {o d1 d2 : Addr} {R : Ru} {L : List Nat} {W : List Nat → List Nat} {root : List Nat} (h : WOb C H o d1 d2 R L W root) : WObj C H o R L W root := by
  obtain ⟨dx, kvs, ks, h1, h2, h3, h4, h5⟩ := h.ex
  exact ⟨dx, d1, d2, kvs, ks, h1, h2, h3.ruk, h4, h5⟩
theorem WOb.keep {C : Addr} {H H' : Hp} {o d1 d2 : Addr} {R : Ru} {L : List Nat} {W : List Nat → List Nat} {root : List Nat} (h : WOb C H o d1 d2 R L W root) (k1 : ∀ b xs, H b = some (.tup xs) → H' b = some (.tup xs)) (k2 : ∀ b c dx fs, H b = some (.ins c dx fs) → H' b = some (.ins c dx fs))
    (k3 : H' d1 = H d1) (k4 : H' d2 = H d2) : WOb C H' o d1 d2 R L W root := by
  obtain ⟨dx, kvs, ks, h1, h2, h3, h4, h5⟩ := h.ex
  exact ⟨dx, kvs, ks, k2 _ _ _ _ h1, k3.trans h2, h3.to k1, k4.trans h4, h5⟩
theorem kit_dd {K : PySem.W.Frag} : PySem.W.kitOne K (.type "dict") (.type "dict") = some true := kit_ty (by decide +kernel)
def spInitW (C : Addr) : Sp := fun vs H Q _ => ∃ (o dx d : Addr) (L : List Nat) (R : Ru) (W : List Nat → List Nat) (rk : List Nat → Nat) (kvs : List (Key × V)) (root : List Nat) (H0 : Hp), vs = [.ref o, .str (tx L), .ref d, .str (tx root)] ∧ Ex H0 H ∧ H0 o = none ∧ H o = some (.ins C dx []) ∧
  H0 d = some (.dK kvs) ∧ RuK H0 kvs R ∧ LG L ∧ Wv R L W rk ∧ root ∈ R.map (fun r => r.1) ∧ ∀ H' d1 d2, Ex H0 H' → H0 d1 = none → H0 d2 = none → WOb C H' o d1 d2 R L W root → Q .non H'
section
variable {P : Program} {w : World} {K : PySem.W.Frag} {mg : Str → Option Value} {base : Heap}
theorem ok_initW {f C : Addr} {fd : FuncData} (F : Fun K "__init__" "Weave.__init__" s_Weave_init f fd) (T : Tx mg) (S : WC K C) (c_are_letters : Kn P w K mg base "are_letters" ["value"] 1 spAreL) (c_is_name : Kn P w K mg base "_is_name" ["value"] 1 spNm)
    (c_is_rule : Kn P w K mg base "_is_rule" ["letters", "rules", "value"] 3 spRuleW) (c_within : Kn P w K mg base "_within" ["rules", "name"] 1 spWithinW) (c_sizes : Kn P w K mg base "_sizes" ["rules"] 1 spSizes) :
    FnOk P w K mg base CX0 4 f fd ["self", "letters", "rules", "root"] (spInitW C) := by
  refine F.ok sc_Weave_init (fun vs H Q E h => ?_) (fun cdv A outer s H vs Q E hr h => ?_)
  · obtain ⟨o, dx, d, L, R, W, rk, kvs, root, H0, rfl, _⟩ := h
    rfl
  · obtain ⟨o, dx, d, L, R, W, rk, kvs, root, H0, rfl, e0, ho0, ho, hd0, hR0, hL, wv, hroot, q⟩ := h
    have L4 := hL.hi
    have rlo := wv.lo
    have rhi := wv.hi
    have klen : kvs.length = R.length := hR0.length
    refine ⟨_, (pss_cons (ps_if (pt_not (pt_val (pe_call c_are_letters.ok (hr.mono (by decide)) (by rfl) c_are_letters.g c_are_letters.kp c_are_letters.b .nil pass0 (pa_cons (pv 1) pa_nil)))) (pss_one ps_never) pss_nil)
      (pss_cons (ps_set (i := 4) sc_Weave_init.nd rfl (Or.inl rfl) (pe_ifExp (pt_val (pe_callB call_isi (by rfl) T.isinstance PyProof.Rows.boot_isinstance (pa_cons (pv 2) (pa_cons (pe_bltn (v := .ty "dict") (by rfl) T.dict PyProof.Rows.boot_dict rfl) pa_nil)))) (pe_callB call_lenD (by rfl) T.len PySem.boot_len (pa_cons (pv 2) pa_nil)) pe_int))
      (pss_cons (ps_if (pt_not (pt_chain op_le op_le pe_int (pv 4) (pe_glob (v := .int 40) rfl T.m_MOST_RULES ⟨_, rfl⟩))) (pss_one ps_never) pss_nil)
      (pss_cons (ps_lock (ps_for PassesOwn.never rfl (pi_keys (pv 2)) (pg_name (i := 5) sc_Weave_init.nd rfl (Or.inl rfl)) (pss_one (ps_if (PW.pt (pw_or (pt_not (pt_val (pe_call c_is_name.ok (hr.mono (by decide)) (by rfl) c_is_name.g c_is_name.kp c_is_name.b .nil pass0 (pa_cons (pv 5) pa_nil)))) (pw_or1 (pt_not (pt_val (pe_call c_is_rule.ok (hr.mono (by decide)) (by rfl) c_is_rule.g c_is_rule.kp c_is_rule.b .nil pass0 (pa_cons (pv 1) (pa_cons (pv 2) (pa_cons (pe_dget (hu_of hr) (pv 2) (pv 5) (fun _ _ => rfl)) pa_nil))))))))) (pss_one ps_never) pss_nil))))
      (pss_cons (ps_for PassesOwn.never rfl (pi_list (pe_callB (call_sortedD rfl) (by rfl) T.sorted PyProof.Rows.boot_sorted (pa_cons (pv 2) pa_nil))) (pg_name (i := 5) sc_Weave_init.nd rfl (Or.inl rfl)) (pss_one (ps_if (pt_cmp (pc_din (hu_of hr) (pv 5) (pe_call c_within.ok (hr.mono (by decide)) (by rfl) c_within.g c_within.kp c_within.b .nil pass0 (pa_cons (pv 2) (pa_cons (pv 5) pa_nil))))) (pss_one ps_never) pss_nil)))
      (pss_cons (ps_if (PW.pt (pw_or (pt_not (pt_val (pe_callB call_isi (by rfl) T.isinstance PyProof.Rows.boot_isinstance (pa_cons (pv 3) (pa_cons (pe_bltn (v := .ty "str") (by rfl) T.str PyProof.Rows.boot_str rfl) pa_nil))))) (pw_or1 (pt_cmp (pc_dnotin (hu_of hr) (pv 3) (pv 2)))))) (pss_one ps_never) pss_nil)
      (pss_cons (ps_fld (pv 0) (pe_lock (pe_dc (own := [("name", 5)]) (g := gName 5) (tt := tYes) rfl sc_Weave_init.nd (pi_keys (pv 2)) (blkOk_by (N := N_Weave_init) (sc := defScope s_Weave_init) (by decide +kernel)) (fun _ _ _ _ _ => (pg_name (i := 5) sc_Weave_init.nd rfl (Or.inl rfl))) (fun _ _ _ _ _ => pts_nil) (fun _ _ _ _ _ => (pv 5)) (fun _ _ _ _ _ => (pe_callTy (show CallR _ _ (TR.rTupOf K) from call_tuple_of) (by rfl) T.tuple PyProof.Rows.boot_tuple (pa_cons (pe_lc (own := [("part", 6), ("count", 7)]) (wi := TR.iSeq K _) (g := TR.gSeq K 2 (gCons (gName 6) (gCons (gName 7) gNil))) (tt := tYes) rfl sc_Weave_init.nd (TR.pi_seq (pe_dget (hu_of hr) (pv 2) (pv 5) (fun _ _ => rfl))) (blkOk_by (N := N_Weave_init) (sc := scK) (by decide +kernel)) (fun _ _ _ _ _ => (TR.pg_seq (by rfl) (pgs_cons (pg_name (i := 6) sc_Weave_init.nd rfl (Or.inl rfl)) (pgs_cons (pg_name (i := 7) sc_Weave_init.nd rfl (Or.inl rfl)) pgs_nil)))) (fun _ _ _ _ _ => pts_nil) (fun _ _ _ _ _ => (pe_tup (pa_cons (pv 6) (pa_cons (pv 7) pa_nil))))) pa_nil))))) rfl)
      (pss_cons (ps_fld (pv 0) (pe_call c_sizes.ok (hr.mono (by decide)) (by rfl) c_sizes.g c_sizes.kp c_sizes.b .nil pass0 (pa_cons (pe_fld (pv 0) rfl) pa_nil)) rfl)
      (pss_cons (ps_fld (pv 0) (pv 3) rfl)
      (pss_cons (ps_fld (pv 0) (pv 1) rfl)
      (pss_one (ps_fld (pv 0) (pe_dget (hu_of hr) (pe_fld (pv 0) rfl) (pv 3) (fun _ _ => rfl)) rfl)))))))))))), ?_⟩
    refine ⟨_, rfl, L, rfl, hL, fun H1 e1 => ⟨_, rfl, ?_⟩⟩
    refine iteF ?_
    have hd1 := e1 _ _ (e0 _ _ hd0)
    refine ⟨_, rfl, _, _, _, _, true, rfl, .ty _, .base (.dK hd1), kit_dd, true, rfl, iteT ?_⟩
    refine ⟨_, rfl, d, kvs, rfl, hd1, ?_⟩
    refine ⟨_, rfl, _, _, rfl, rfl, _, rfl, ite2 (fun _ => ?_) (fun z => absurd (decide_eq_true (by omega)) z)⟩
    refine ⟨_, _, rfl, rfl, _, rfl, ite2 (fun z => ?_) (fun _ => ?_)⟩
    · rw [decide_eq_true (by omega)] at z
      cases z
    -- names and rules
    refine ⟨d, _, hd1, trivial, fun od => ?_⟩
    have e01 := e0.trans e1
    have hR1 := (hR0.ex e01)
    have hRf := hR1.frz (o := .frz od (.dK kvs)) hd1
    obtain ⟨Hf, hHf⟩ : ∃ Hf, upd H1 d (.frz od (.dK kvs)) = Hf := ⟨_, rfl⟩
    have hdf : Hf d = some (.frz od (.dK kvs)) := by rw [← hHf]; exact upd_same
    rw [hHf] at hRf ⊢
    refine ⟨_, rfl, d, od, rfl, .inl ⟨kvs, hdf, ?_⟩⟩
    refine for_it (walk_keys (d := d) (o := od) (kvs := kvs)) (fun i σ H' => ∃ y5 y6 y7 : Option V, σ = [some (.ref o), some (.str (tx L)), some (.ref d), some (.str (tx root)), some (.int (kvs.length : Nat)), y5, y6, y7] ∧ Ex Hf H') ⟨none, none, none, rfl, Ex.refl _⟩ (fun i σ H' _ p => p.choose_spec.choose_spec.choose_spec.2 _ _ hdf)
      (fun i x σ H' H2 hi p hy => ?_) (fun σ H' p => ?_)
    · obtain ⟨y5, y6, y7, rfl, e⟩ := p
      obtain ⟨rfl, k, v, hkv, rfl⟩ := hy
      obtain ⟨r, hr', rfl, hrw⟩ := hRf.at hkv
      have hrm := List.mem_of_getElem? hr'
      obtain ⟨v2, hval, hrw2⟩ := hRf.get wv.nd r hrm
      have hnm := wv.nm r hrm
      have hrl : r.1.length < 500 := by
        unfold isNm at hnm
        rw [Bool.and_eq_true] at hnm
        have := of_decide_eq_true hnm.1
        omega
      have hrows := wv.rows r hrm
      refine ⟨_, rfl, r.1, rfl, hrl, fun H3 e3 => ⟨_, rfl, ?_⟩⟩
      rw [hnm]
      refine iteF ?_
      have e4 := e.trans e3
      refine ⟨_, rfl, _, rfl, _, rfl, _, rfl, d, _, rfl, .inl ⟨kvs, .inr (tx r.1), .inr ⟨od, e4 _ _ hdf⟩, rfl, hval.symm⟩, ?_⟩
      refine ⟨L, d, kvs, v2, r.2, rfl, .inr ⟨od, e4 _ _ hdf⟩, by omega, hrw2.ex e4, hrows.1, hrows.2, fun pc hpc => ?_, fun H5 e5 => ⟨_, rfl, iteF ⟨_, _, _, rfl, e4.trans e5⟩⟩⟩
      obtain ⟨g1, g2, g3, _⟩ := wv.cnt r hrm pc hpc
      refine ⟨g1, ?_, g2, g3⟩
      rcases wv.part r hrm pc hpc with ⟨h1, _⟩ | ⟨h1, h2, h3, h4, _⟩
      · obtain ⟨rp, hrp, ep⟩ := List.mem_map.mp h1
        obtain ⟨vp, hvp, _⟩ := hRf.get wv.nd rp hrp
        refine .inl ⟨by rw [← ep]; exact wv.nm rp hrp, ?_⟩
        rw [← ep, hvp]
        rfl
      · exact .inr ⟨h1, h2, h3, h4⟩
    obtain ⟨y5, y6, y7, rfl, e⟩ := p
    rw [← hHf] at e
    refine ⟨e _ _ upd_same, ?_⟩
    have e2 := e01.trans (ex_unlock hd1 e)
    have hoU : (upd H' d (.dK kvs)) o = some (.ins C dx []) := by
      have := (ex_unlock hd1 e) _ _ (e1 _ _ ho)
      exact this
    clear hRf hHf hdf
    generalize (upd H' d (.dK kvs)) = H2 at e2 hoU ⊢
    clear e hd1 e01 hR1 Hf od
    -- rings
    have hd2 := e2 _ _ hd0
    have hR2 := hR0.ex e2
    refine ⟨_, rfl, d, kvs, R.map (fun r => tx r.1), rfl, .inl hd2, ?_, by rw [List.length_map]; omega, fun ys p hper hsrt hp => ?_⟩
    · have : ∀ {kvs : List (Key × V)} {R : Ru}, RuK H2 kvs R → kvs.map (fun x => x.1) = (R.map fun r => tx r.1).map Sum.inr := by
        intro kvs R h
        induction h with
        | nil => rfl
        | cons q t ih => rw [List.map_cons, List.map_cons, List.map_cons, ih, q.1]
      exact this hR2
    refine ⟨p, rfl, ⟨_, sq_of upd_same⟩, ?_⟩
    have e3 := e2.trans (Ex.new (o := .lst (ys.map V.str)) hp)
    have hoS := (Ex.new (o := .lst (ys.map V.str)) hp) _ _ hoU
    have hpS : (upd H2 p (.lst (ys.map V.str))) p = some (.lst (ys.map V.str)) := upd_same
    obtain ⟨H3, hH3⟩ : ∃ H3, upd H2 p (.lst (ys.map V.str)) = H3 := ⟨_, rfl⟩
    rw [hH3] at e3 hoS hpS ⊢
    refine for_list (xs := ys.map V.str) (fun i σ H' => ∃ y5 y6 y7 : Option V, σ = [some (.ref o), some (.str (tx L)), some (.ref d), some (.str (tx root)), some (.int (kvs.length : Nat)), y5, y6, y7] ∧ Ex H3 H') ⟨y5, y6, y7, rfl, Ex.refl _⟩
      (fun i σ H' _ p => sq_of (p.choose_spec.choose_spec.choose_spec.2 _ _ hpS)) (fun i x σ H' hi p => ?_) (fun σ H' p => ?_)
    · obtain ⟨y5, y6, y7, rfl, e⟩ := p
      rw [List.getElem?_map] at hi
      obtain ⟨z, hz, rfl⟩ := Option.map_eq_some_iff.mp hi
      obtain ⟨r, hrm, rfl⟩ := List.mem_map.mp (hper.mem_iff.mp (List.mem_of_getElem? hz))
      have e4 := e3.trans e
      refine ⟨_, rfl, _, rfl, _, rfl, R, L, W, rk, d, kvs, r.1, rfl, .inl (e4 _ _ hd0), hR0.ex e4, wv, List.mem_map_of_mem hrm, fun H5 r2 ks e5 h2 hn => ?_⟩
      refine ⟨r2, _, rfl, DGet.k (k := .inr (tx r.1)) h2, _, rfl, ?_⟩
      rw [hn]
      exact iteF ⟨_, _, _, rfl, e.trans e5⟩
    obtain ⟨z5, z6, z7, rfl, e⟩ := p
    have e4 := e3.trans e
    have hoT := e _ _ hoS
    clear hH3 hpS hoS hoU e e3 e2 hR2 hd2 hp hper hsrt
    have hd4 := e4 _ _ hd0
    have hR4 := hR0.ex e4
    obtain ⟨rr, hrr, err⟩ := List.mem_map.mp hroot
    obtain ⟨vr, hvr, _⟩ := hR4.get wv.nd rr hrr
    rw [err] at hvr
    refine ⟨_, rfl, _, _, _, _, true, rfl, .ty _, .base (.str _), kit_ss, true, rfl, ?_⟩
    refine ⟨_, rfl, _, rfl, d, _, rfl, .inl ⟨kvs, .inr (tx root), .inl hd4, rfl, hvr.symm⟩, _, rfl, iteF ?_⟩
    -- the rules
    refine ⟨d, _, hd4, trivial, fun od => ?_⟩
    have hRf := hR4.frz (o := .frz od (.dK kvs)) hd4
    have nod : o ≠ d := ne_of hoT hd4 (by intro z; cases z)
    have hoF : (upd H' d (.frz od (.dK kvs))) o = some (.ins C dx []) := by rw [upd_ne nod]; exact hoT
    obtain ⟨Hf, hHf⟩ : ∃ Hf, upd H' d (.frz od (.dK kvs)) = Hf := ⟨_, rfl⟩
    have hdf : Hf d = some (.frz od (.dK kvs)) := by rw [← hHf]; exact upd_same
    rw [hHf] at hRf hoF ⊢
    refine ⟨_, rfl, d, od, rfl, .inl ⟨kvs, hdf, fun D hD => ?_⟩⟩
    refine out_it (walk_keys (d := d) (o := od) (kvs := kvs)) (fun i H5 => ∃ ks, Ex Hf H5 ∧ H5 D = some (.dK ks) ∧ RuT H5 ks (R.take i)) ⟨[], Ex.new hD, upd_same, .nil⟩ (fun i H5 _ p => p.choose_spec.1 _ _ hdf) (fun i x H5 H6 hi p hy => ?_) (fun H5 p => ?_)
    · obtain ⟨ks, e5, hk, hks⟩ := p
      obtain ⟨rfl, k, v, hkv, rfl⟩ := hy
      obtain ⟨r, hr', rfl, _⟩ := hRf.at hkv
      have hrm := List.mem_of_getElem? hr'
      obtain ⟨v2, hval, a, kb, xs, rfl, ha, hx⟩ := hRf.get wv.nd r hrm
      have hxl : xs.length = r.2.length := hx.length
      have hrows := (wv.rows r hrm).2
      have kslen : ks.length = (R.take i).length := hks.length
      rw [List.length_take] at kslen
      refine ⟨rfl, _, rfl, ?_⟩
      refine lcq (e5 _ _ ha) (fun R' hR' => ⟨_, rfl, _, rfl, d, _, rfl, .inl ⟨kvs, .inr (tx r.1), .inr ⟨od, e5 _ _ hdf⟩, rfl, hval.symm⟩, hR'⟩) (fun D2 j H7 => Ex H6 H7 ∧ ∃ zs, H7 D2 = some (.lst zs) ∧ Paired (PrT H7) zs (r.2.take j)) (fun D2 hD2 => ⟨Ex.new hD2, [], upd_same, .nil⟩) (fun D2 j H7 _ p => p.1) (fun D2 j x H7 hD2 hj p => ?_) (fun D2 H7 hD2 p => ?_)
      · obtain ⟨e6, zs, hz, hp⟩ := p
        obtain ⟨pc, hpc, b, kb2, rfl, hb⟩ := paired_get hx hj
        have hjl := (List.getElem?_eq_some_iff.mp hj).1
        have zl : zs.length = (r.2.take j).length := hp.length
        rw [List.length_take] at zl
        refine gSeq_of ((e5.trans e6) _ _ hb) rfl ⟨_, _, rfl, _, _, rfl, rfl, rfl, ?_⟩
        refine ⟨_, rfl, _, rfl, by show 2 ≤ sizeLine; decide, fun t ht => ?_⟩
        have hz7 : (upd H7 t (.tup [.str (tx pc.1), .int (pc.2 : Nat)])) D2 = some (.lst zs) := Ex.new ht _ _ hz
        refine ⟨zs, hz7, sz_lt (by omega), (e6.trans (Ex.new ht)).mut hD2, zs ++ [.ref t], upd_same, ?_⟩
        rw [show r.2.take (j + 1) = r.2.take j ++ [pc] by rw [List.take_add_one, hpc]; rfl]
        exact (paired_mono (fun _ _ q => (q.ex (Ex.new ht)).upd hz7) hp).snoc ⟨t, rfl, by rw [upd_ne (fun z => by rw [z, hz] at ht; cases ht)]; exact upd_same⟩
      · obtain ⟨e6, zs, hz, hp⟩ := p
        rw [hxl, List.take_length] at hp
        refine ⟨D2, zs, rfl, .inl ⟨sq_of hz, fun t ht => ?_⟩⟩
        have e7 := e6.trans (Ex.new (o := .tup zs) ht)
        have hk7 := e7 _ _ hk
        have fresh : valV ks (.inr (tx r.1)) = none := hks.ruk.non _ fun z => by
          have e1 : (R.map fun r => r.1).take i ++ (R.map fun r => r.1).drop i = R.map fun r => r.1 := List.take_append_drop _ _
          have nd := wv.nd
          rw [← e1] at nd
          have hil : i < R.length := by omega
          refine (List.nodup_append.mp nd).2.2 r.1 (by rw [← List.map_take]; exact z) r.1 ?_ rfl
          rw [← List.map_drop]
          refine List.mem_map_of_mem (List.mem_of_getElem? (i := 0) ?_)
          rw [List.getElem?_drop, Nat.add_zero]
          exact hr'
        refine ⟨ks, .inr (tx r.1), rfl, hk7, sz_lt (by omega), _, (e5.trans e7).mut hD, upd_same, ?_⟩
        rw [putK_new _ fresh, show R.take (i + 1) = R.take i ++ [r] by rw [List.take_add_one, hr']; rfl]
        refine RuT.frz hk7 (Paired.snoc (hks.ex e7) ⟨rfl, t, zs, rfl, upd_same, paired_mono (fun _ _ q => q.ex (Ex.new ht)) hp⟩)
    obtain ⟨ks, e5, hk, hks⟩ := p
    rw [klen, List.take_length] at hks
    rw [← hHf] at e5
    refine ⟨e5 _ _ upd_same, ?_⟩
    have e6 := e4.trans (ex_unlock hd4 e5)
    have hoU : (upd H5 d (.dK kvs)) o = some (.ins C dx []) := (ex_unlock hd4 e5) _ _ hoT
    have nDd : D ≠ d := fun z => by rw [z, hdf] at hD; cases hD
    have hkU : (upd H5 d (.dK kvs)) D = some (.dK ks) := by rw [upd_ne nDd]; exact hk
    have hksU : RuT (upd H5 d (.dK kvs)) ks R := hks.to fun b xs hb => by
      rw [upd_ne (fun z => by rw [z, e5 _ _ upd_same] at hb; cases hb)]
      exact hb
    have hD0 : H0 D = none := by
      cases z : H0 D with
      | none => rfl
      | some u =>
        have z2 := e4 _ _ z
        rw [← hHf, upd_ne nDd] at hD
        rw [z2] at hD
        cases hD
    generalize (upd H5 d (.dK kvs)) = H6 at e6 hoU hkU hksU ⊢
    clear hoF hRf hHf hdf e5 hk hks hd4 hR4 e4 hoT
    refine ⟨_, rfl, o, C, dx, _, rfl, hoU, S.cl, S.nr, by show 0 < 1000; decide, ?_⟩
    obtain ⟨f1, hf1⟩ : ∃ f, putF "_rules" (.ref D) ([] : List (Str × V)) = f := ⟨_, rfl⟩
    have nDo : D ≠ o := ne_of hkU hoU (by intro z; cases z)
    have e7 : Ex H0 (upd H6 o (.ins C dx f1)) := e6.mut ho0
    have hk7 : (upd H6 o (.ins C dx f1)) D = some (.dK ks) := by rw [upd_ne nDo]; exact hkU
    have hR7 : RuT (upd H6 o (.ins C dx f1)) ks R := hksU.to fun b xs hb => by
      rw [upd_ne (fun z => by rw [z, hoU] at hb; cases hb)]
      exact hb
    have ho7 : (upd H6 o (.ins C dx f1)) o = some (.ins C dx f1) := upd_same
    rw [hf1]
    generalize (upd H6 o (.ins C dx f1)) = H7 at e7 hk7 hR7 ho7 ⊢
    clear e6 hoU hkU hksU
    refine ⟨_, rfl, o, C, dx, f1, _, rfl, ho7, S.cl, S.nr, by rw [← hf1]; rfl, ?_⟩
    refine ⟨R, L, W, rk, D, ks, rfl, hk7, hR7.ruk, wv, fun H8 r8 ss e8 h80 h8 hss => ?_⟩
    have ho8 := e8 _ _ ho7
    have hk8 := e8 _ _ hk7
    have hR8 := hR7.ex e8
    have nro : r8 ≠ o := ne_of h8 ho8 (by intro z; cases z)
    have e9 := e7.trans e8
    have h00 : H0 r8 = none := fresh_back e7 h80
    clear e7 hk7 hR7 ho7 e8 h80
    refine ⟨_, rfl, o, C, dx, f1, rfl, ho8, S.cl, S.ns, by rw [← hf1]; show 1 < 1000; decide, ?_⟩
    refine ⟨_, rfl, _, rfl, o, C, dx, _, rfl, upd_same, S.cl, S.no, by rw [← hf1]; show 2 < 1000; decide, ?_⟩
    refine ⟨_, rfl, _, rfl, o, C, dx, _, rfl, upd_same, S.cl, S.nl, by rw [← hf1]; show 3 < 1000; decide, ?_⟩
    obtain ⟨f4, hf4⟩ : ∃ f, putF "letters" (.str (tx L)) (putF "_root" (.str (tx root)) (putF "_sizes" (.ref r8) f1)) = f := ⟨_, rfl⟩
    rw [hf4]
    have hx : ∀ {u1 u2 : HO} {b : Addr}, b ≠ o → upd (upd (upd H8 o u1) o u2) o (.ins C dx f4) b = H8 b := fun {u1 u2 b} z => by rw [upd_ne z, upd_ne z, upd_ne z]
    obtain ⟨H9, hH9⟩ : ∃ H9, upd (upd (upd H8 o (.ins C dx (putF "_sizes" (.ref r8) f1))) o (.ins C dx (putF "_root" (.str (tx root)) (putF "_sizes" (.ref r8) f1)))) o (.ins C dx f4) = H9 := ⟨_, rfl⟩
    have ho9 : H9 o = some (.ins C dx f4) := by rw [← hH9]; exact upd_same
    have hb9 : ∀ {b : Addr}, b ≠ o → H9 b = H8 b := fun {b} z => by rw [← hH9]; exact hx z
    have ex9 : Ex H0 H9 := fun b u hb => by
      have nb : b ≠ o := fun z => by rw [z, ho0] at hb; cases hb
      rw [hb9 nb]
      exact e9 _ _ hb
    rw [hH9]
    have hlook : f4.lookup ("_sizes" : Str) = some (V.ref r8) := by rw [← hf4, ← hf1]; rfl
    have hs9 : H9 r8 = some (.dK ss) := by rw [hb9 nro]; exact h8
    have hroot9 : valV ss (.inr (tx root)) = some (.int ((W root).length : Nat)) := by
      have := (hss rr hrr).1
      rw [err] at this
      exact this
    refine ⟨_, rfl, o, C, dx, f4, _, rfl, ho9, S.cl, S.ns, hlook, ?_⟩
    refine ⟨_, rfl, r8, _, rfl, by rw [← hroot9]; exact DGet.k (k := .inr (tx root)) hs9, ?_⟩
    refine ⟨_, rfl, o, C, dx, f4, rfl, ho9, S.cl, S.nz, by rw [← hf4, ← hf1]; show 4 < 1000; decide, ?_⟩
    have hfin : putF "size" (.int ((W root).length : Nat)) f4 = wFs (.ref D) (.ref r8) (.str (tx root)) (.str (tx L)) (.int ((W root).length : Nat)) := by
      rw [← hf4, ← hf1, putF5]
    rw [hfin]
    have hR9 : ∀ u : HO, RuT (upd H9 o u) ks R := fun u => hR8.to fun b xs hb => by
      have nb : b ≠ o := fun z => by rw [z, ho8] at hb; cases hb
      rw [upd_ne nb, hb9 nb]
      exact hb
    exact q _ D r8 (ex9.mut ho0) hD0 h00 ⟨dx, ks, ss, upd_same, by rw [upd_ne nDo, hb9 nDo]; exact hk8, hR9 _, by rw [upd_ne nro]; exact hs9, hss⟩
end
end Law

namespace WV
theorem rep_succ (n : Nat) (w : T) : rep (n + 1) w = w ++ rep n w := by
  unfold rep
  rw [List.replicate_succ, List.flatten_cons]
theorem rep_drop (w rest : T) : ∀ (c f : Nat), f < w.length * c → ∃ r, (rep c w ++ rest).drop f = w.drop (f % w.length) ++ r
  | 0, f, h => by simp at h
  | c + 1, f, h => by
    rw [rep_succ, List.append_assoc]
    by_cases q : f < w.length
    · rw [Nat.mod_eq_of_lt q, List.drop_append_of_le_length (Nat.le_of_lt q)]
      exact ⟨_, rfl⟩
    · have h2 : f - w.length < w.length * c := by
        rw [Nat.mul_succ] at h
        omega
      obtain ⟨r, hr⟩ := rep_drop w rest c (f - w.length) h2
      refine ⟨r, ?_⟩
      rw [Nat.mod_eq_sub_mod (by omega), ← hr]
      rw [List.drop_append]
      rw [List.drop_eq_nil_of_le (by omega), List.nil_append]
theorem take_two {α : Type} (x : List α) {n s : Nat} (h : n ≤ s) : x.take s = x.take n ++ (x.drop n).take (s - n) := by
  have e : s = n + (s - n) := by omega
  rw [e, List.take_add, Nat.add_sub_cancel_left]
/-- one piece of a text told by a rule -/
theorem piece {w rest : T} {c f s : Nat} (h : f < w.length * c) (hs : 1 ≤ s) : 1 ≤ ((w.drop (f % w.length)).take s).length ∧ ((w.drop (f % w.length)).take s).length ≤ s ∧
    ((rep c w ++ rest).drop f).take s = (w.drop (f % w.length)).take s ++ ((rep c w ++ rest).drop (f + ((w.drop (f % w.length)).take s).length)).take (s - ((w.drop (f % w.length)).take s).length) := by
  obtain ⟨r, hr⟩ := rep_drop w rest c f h
  have wp : 0 < w.length := by
    rcases Nat.eq_zero_or_pos w.length with z | z
    · rw [z, Nat.zero_mul] at h
      omega
    · exact z
  have hm := Nat.mod_lt f wp
  have hl : ((w.drop (f % w.length)).take s).length = min s (w.length - f % w.length) := by rw [List.length_take, List.length_drop]
  refine ⟨by rw [hl]; omega, by rw [hl]; omega, ?_⟩
  have hle : ((w.drop (f % w.length)).take s).length ≤ s := by rw [hl]; omega
  rw [take_two _ hle, ← List.drop_drop]
  congr 1
  rw [hr, List.take_append_of_le_length (by rw [hl, List.length_drop]; omega), hl]
  rw [List.take_eq_take_iff, List.length_drop]
  omega
theorem rep_past {w rest : T} {c f : Nat} (h : w.length * c ≤ f) : (rep c w ++ rest).drop f = rest.drop (f - w.length * c) := by
  rw [List.drop_append, List.drop_eq_nil_of_le (by rw [rep_len, Nat.mul_comm]; exact h), List.nil_append, rep_len, Nat.mul_comm]
end WV
namespace Law
open PySem PySem.Spec PyProof.Rows L2 Evl TR GX WV
def tv (u : List Nat) : V := .str (tx u)
theorem joinL_flat : ∀ us : List (List Nat), TL.joinL [] us = us.flatten
  | [] => rfl
  | [u] => by
    show u = [u].flatten
    simp
  | u :: v :: r => by
    show u ++ ([] ++ TL.joinL [] (v :: r)) = _
    rw [joinL_flat (v :: r), List.nil_append, ← List.flatten_cons]
theorem join_tx (us : List (List Nat)) : Txt.join (Str.ofString "") (us.map tx) = tx us.flatten := by
  refine TL.ext_tl ?_
  rw [TL.join_eq, TL.tl_join, List.map_map, show TL.tl (Str.ofString "") = [] by decide +kernel]
  have : us.map (TL.tl ∘ tx) = us := by
    induction us with
    | nil => rfl
    | cons u r ih =>
      rw [List.map_cons, ih]
      rfl
  rw [this, joinL_flat]
  rfl
theorem tx_sum : ∀ us : List (List Nat), ((us.map tx).map (·.length)).sum = us.flatten.length
  | [] => rfl
  | u :: r => by
    rw [List.map_cons, List.map_cons, List.sum_cons, tx_sum r, List.flatten_cons, List.length_append, tx_len]
theorem join_tv {K : PySem.W.Frag} {H : Hp} {D : Addr} {us : List (List Nat)} {Q : VK} (hD : H D = some (.lst (us.map tv))) (hl : us.flatten.length ≤ 1000000) (q : Q (.str (tx us.flatten)) H) :
    ∃ (a : Str) (p : Addr), ∃ ys : List Str, V.str (Str.ofString "") = .str a ∧ [V.ref D] = [.ref p] ∧ (SqL K H p (ys.map V.str) ∨ SqT K H p (ys.map V.str)) ∧ (ys.map (·.length)).sum + ys.length * a.length ≤ 16777216 ∧ Q (.str (Txt.join a ys)) H := by
  refine ⟨_, D, us.map tx, rfl, rfl, .inl (sq_of (by rw [hD, List.map_map]; rfl)), ?_, ?_⟩
  · rw [tx_sum, show (Str.ofString "").length = 0 from rfl]
    omega
  · rw [join_tx]
    exact q
/-- how deep a part stands -/
def dep (R : Ru) (rk : List Nat → Nat) (p : List Nat) : Nat := if p ∈ R.map (fun r => r.1) then rk p + 1 else 0
def spCut (C : Addr) (n : Nat) : Sp := fun vs H Q _ => ∃ (o : Addr) (R : Ru) (L : List Nat) (W : List Nat → List Nat) (rk : List Nat → Nat) (root p : List Nat) (first size : Nat), vs = [.ref o, .str (tx p), .int (first : Nat), .int (size : Nat)] ∧ WObj C H o R L W root ∧ Wv R L W rk ∧
  dep R rk p < n ∧ (p ∉ R.map (fun r => r.1) → W p = p ∧ p.length ≤ 60 ∧ first < 100000) ∧ size ≤ 2000 ∧ ∀ H', Ex H H' → Q (.str (tx (((W p).drop first).take size))) H'
theorem wl_rules (r s o l z : V) : (wFs r s o l z).lookup ("_rules" : Str) = some r := rfl
theorem wl_sizes (r s o l z : V) : (wFs r s o l z).lookup ("_sizes" : Str) = some s := rfl
theorem wl_root (r s o l z : V) : (wFs r s o l z).lookup ("_root" : Str) = some o := rfl
theorem wl_letters (r s o l z : V) : (wFs r s o l z).lookup ("letters" : Str) = some l := rfl
theorem wl_size (r s o l z : V) : (wFs r s o l z).lookup ("size" : Str) = some z := rfl
theorem wl_cut (r s o l z : V) : (wFs r s o l z).lookup ("_cut" : Str) = none := rfl
theorem txt_drop {W : List Nat → List Nat} {rows : Rows} {j : Nat} {pc : List Nat × Nat} (h : rows[j]? = some pc) : txt W (rows.drop j) = rep pc.2 (W pc.1) ++ txt W (rows.drop (j + 1)) := by
  obtain ⟨hl, he⟩ := List.getElem?_eq_some_iff.mp h
  rw [List.drop_eq_getElem_cons hl, he]
  rfl
section
variable {P : Program} {w : World} {K : PySem.W.Frag} {mg : Str → Option Value} {base : Heap}
theorem ok_cut {f C : Addr} {fd : FuncData} (F : Fun K "_cut" "Weave._cut" s_Weave__cut f fd) (T : Tx mg) (S : WC K C) (Me__cut : Meth K C "_cut" f) (b__cut : Binds K fd ["self", "name", "first", "size"] []) : ∀ n : Nat, FnOk P w K mg base CX0 (n + 1) f fd ["self", "name", "first", "size"] (spCut C n)
  | 0 => by
    refine F.ok sc_Weave__cut (fun vs H Q E h => ?_) (fun cdv A outer s H vs Q E hr h => ?_)
    · obtain ⟨o, R, L, W, rk, root, p, first, size, rfl, _⟩ := h
      rfl
    · obtain ⟨o, R, L, W, rk, root, p, first, size, rfl, hO, wv, hd, _⟩ := h
      omega
  | n + 1 => by
    have F__cut : FnOk P w K mg base CX0 (n + 1) f fd ["self", "name", "first", "size"] (spCut C n) := ok_cut F T S Me__cut b__cut n
    refine F.ok sc_Weave__cut (fun vs H Q E h => ?_) (fun cdv A outer s H vs Q E hr h => ?_)
    · obtain ⟨o, R, L, W, rk, root, p, first, size, rfl, _⟩ := h
      rfl
    · obtain ⟨o, R, L, W, rk, root, p, first, size, rfl, hO, wv, hd, hs, hz, q⟩ := h
      obtain ⟨dx, d1, d2, kvs, ks, ho, h1, hR, h2, hss⟩ := hO.ex
      refine ⟨_, (pss_cons (ps_if (pt_cmp (pc_dnotin (hu_of hr) (pv 1) (pe_fld (pv 0) rfl))) (pss_one (ps_ret (pe_slice sl_str (pv 1) (po_some (pv 2)) (po_some (pe_op op_add (pv 2) (pv 3)))))) pss_nil)
      (pss_cons (ps_set (i := 4) sc_Weave__cut.nd rfl (Or.inl rfl) (pe_lst pa_nil))
      (pss_cons (ps_for PassesOwn.never rfl (TR.pi_seq (pe_dget (hu_of hr) (pe_fld (pv 0) rfl) (pv 1) (fun _ _ => rfl))) (TR.pg_seq (by rfl) (pgs_cons (pg_name (i := 5) sc_Weave__cut.nd rfl (Or.inl rfl)) (pgs_cons (pg_name (i := 6) sc_Weave__cut.nd rfl (Or.inl rfl)) pgs_nil))) (pss_cons (ps_set (i := 7) sc_Weave__cut.nd rfl (Or.inl rfl) (pe_dget (hu_of hr) (pe_fld (pv 0) rfl) (pv 5) (fun _ _ => rfl)))
      (pss_cons (ps_while PassesOwn.never (PW.pt (pw_and (pt_cmpR op_gt (pv 3) pe_int (nomark _)) (pw_and1 (pt_cmpR op_lt (pv 2) (pe_op op_mul (pv 7) (pv 6)) (nomark _))))) (pss_cons (ps_set (i := 8) sc_Weave__cut.nd rfl (Or.inl rfl) (pe_meth (pv 0) S.cl Me__cut F__cut (hr.mono (by omega)) b__cut .nil pass0 (pa_cons (pv 5) (pa_cons (pe_op op_mod (pv 2) (pv 7)) (pa_cons (pv 3) pa_nil)))))
      (pss_cons (ps_expr (pe_bm PySem.F.plainAttrs_list PySem.F.slot_list_append PySem.F.type_list_append mt_append (pv 4) (pa_cons (pv 8) pa_nil)))
      (pss_cons (ps_aug (i := 2) sc_Weave__cut.nd rfl (Or.inl rfl) (pe_callB call_len_str (by rfl) T.len PySem.boot_len (pa_cons (pv 8) pa_nil)) ip_add)
      (pss_one (ps_aug (i := 3) sc_Weave__cut.nd rfl (Or.inl rfl) (pe_callB call_len_str (by rfl) T.len PySem.boot_len (pa_cons (pv 8) pa_nil)) ip_sub))))))
      (pss_one (ps_aug (i := 2) sc_Weave__cut.nd rfl (Or.inl rfl) (pe_op op_mul (pv 7) (pv 6)) ip_sub)))))
      (pss_one (ps_ret (pe_join pe_str (pv 4))))))), ?_⟩
      refine ⟨_, rfl, _, rfl, o, C, dx, _, _, rfl, ho, S.cl, S.nr, wl_rules .., ?_⟩
      refine ⟨d1, _, rfl, DGet.k (k := .inr (tx p)) h1, _, rfl, ?_⟩
      by_cases hp : p ∈ R.map (fun r => r.1)
      · obtain ⟨r, hrm, rfl⟩ := List.mem_map.mp hp
        obtain ⟨v2, hval, a, kb, xs, rfl, ha, hx⟩ := hR.get wv.nd r hrm
        rw [hval]
        refine iteF ?_
        have hxl : xs.length = r.2.length := hx.length
        have hrk : rk r.1 + 1 < n + 1 := by
          have := hd
          unfold dep at this
          rw [if_pos hp] at this
          exact this
        refine ⟨Nat.zero_le _, fun l hl => ?_⟩
        have e1 : Ex H (upd H l (.lst [])) := Ex.new hl
        obtain ⟨tg, htg⟩ : ∃ tg, ((W r.1).drop first).take size = tg := ⟨_, rfl⟩
        rw [htg] at q
        rw [wv.text r hrm] at htg
        dsimp only [gName]
        refine' st_eq (σ' := [some (.ref o), some (.str (tx r.1)), some (.int (first : Nat)), some (.int (size : Nat)), some (.ref l), none, none, none, none]) rfl ?_
        refine forS (e1 _ _ ha) (fun R' hR' => ⟨_, rfl, o, C, dx, _, _, rfl, e1 _ _ ho, S.cl, S.nr, wl_rules .., _, rfl, d1, _, rfl, by rw [← hval]; exact DGet.k (k := .inr (tx r.1)) (e1 _ _ h1), hR'⟩)
          (fun j σ H' => ∃ (fi : Int) (s : Nat) (us : List (List Nat)) (y5 y6 y7 y8 : Option V), σ = [some (.ref o), some (.str (tx r.1)), some (.int fi), some (.int (s : Nat)), some (.ref l), y5, y6, y7, y8] ∧ Ex H H' ∧ H' l = some (.lst (us.map tv)) ∧
            us.length + s ≤ size ∧ us.flatten.length + s ≤ size ∧ ((s = 0 ∧ us.flatten = tg) ∨ ∃ f : Nat, fi = (f : Int) ∧ us.flatten ++ ((txt W (r.2.drop j)).drop f).take s = tg))
          ⟨first, size, [], none, none, none, none, rfl, e1, upd_same, by show 0 + size ≤ size; omega, by show 0 + size ≤ size; omega, .inr ⟨first, rfl, htg⟩⟩ (fun j σ H' p => p.choose_spec.choose_spec.choose_spec.choose_spec.choose_spec.choose_spec.choose_spec.2.1 _ _ ha) (fun j x σ H' hj p => ?_) (fun σ H' p => ?_)
        · obtain ⟨fi, s0, us, y5, y6, y7, y8, rfl, e2, hl2, hn1, hn2, hinv⟩ := p
          obtain ⟨pc, hpc, b, kb2, rfl, hb⟩ := paired_get hx hj
          have hpm := List.mem_of_getElem? hpc
          have hpos := wv.pos r hrm pc hpm
          have hcnt := wv.cnt r hrm pc hpm
          refine gSeq_of (e2 _ _ hb) rfl ⟨_, _, rfl, _, _, rfl, rfl, ?_⟩
          refine ⟨_, rfl, o, C, dx, _, _, rfl, e2 _ _ ho, S.cl, S.ns, wl_sizes .., _, rfl, d2, _, rfl, by rw [← (hss r hrm).2 pc hpm]; exact DGet.k (k := .inr (tx pc.1)) (e2 _ _ h2), ?_⟩
          rw [txt_drop hpc] at hinv
          dsimp only [gName]
          refine' st_eq (σ' := [some (.ref o), some (.str (tx r.1)), some (.int fi), some (.int (s0 : Nat)), some (.ref l), some (.str (tx pc.1)), some (.int (pc.2 : Nat)), some (.int ((W pc.1).length : Nat)), y8]) rfl ?_
          obtain ⟨rest, hrest⟩ : ∃ rest, txt W (r.2.drop (j + 1)) = rest := ⟨_, rfl⟩
          rw [hrest] at hinv
          refine ⟨fun m σ H2 => ∃ (fi : Int) (s : Nat) (us : List (List Nat)) (y8 : Option V), σ = [some (.ref o), some (.str (tx r.1)), some (.int fi), some (.int (s : Nat)), some (.ref l), some (.str (tx pc.1)), some (.int (pc.2 : Nat)), some (.int ((W pc.1).length : Nat)), y8] ∧ Ex H H2 ∧ H2 l = some (.lst (us.map tv)) ∧
            us.length + s ≤ size ∧ us.flatten.length + s ≤ size ∧ ((s = 0 ∧ us.flatten = tg) ∨ ∃ f : Nat, fi = (f : Int) ∧ us.flatten ++ ((rep pc.2 (W pc.1) ++ rest).drop f).take s = tg) ∧ s ≤ m, ⟨s0, fi, s0, us, y8, rfl, e2, hl2, hn1, hn2, hinv, Nat.le_refl _⟩, fun m σ H2 hw => ?_⟩
          obtain ⟨fi, s, us, y8, rfl, e3, hl3, hn1, hn2, hinv, hsm⟩ := hw
          have cmul : CMul (((W pc.1).length : Nat) : Int) ((pc.2 : Nat) : Int) := by
            rcases hcnt.2.2.2 with z | z
            · exact .inl ⟨by omega, by omega⟩
            · exact .inr ⟨by omega, by omega⟩
          have emul : (((W pc.1).length : Nat) : Int) * ((pc.2 : Nat) : Int) = (((W pc.1).length * pc.2 : Nat) : Int) := by rw [Int.natCast_mul]
          refine ⟨_, rfl, _, _, rfl, rfl, _, rfl, ?_⟩
          by_cases hs0 : s = 0
          · subst hs0
            have etg : us.flatten = tg := by
              rcases hinv with ⟨_, h⟩ | ⟨f, _, h⟩
              · exact h
              · rw [List.take_zero, List.append_nil] at h
                exact h
            refine iteDn (by omega) (iteF ?_)
            exact ⟨_, rfl, _, rfl, _, rfl, _, _, rfl, rfl, cmul, _, _, rfl, rfl, _, 0, us, _, _, _, _, rfl, e3, hl3, hn1, hn2, .inl ⟨rfl, etg⟩⟩
          · obtain ⟨f, rfl, hf⟩ : ∃ f : Nat, fi = (f : Int) ∧ us.flatten ++ ((rep pc.2 (W pc.1) ++ rest).drop f).take s = tg := by
              rcases hinv with ⟨h, _⟩ | h
              · exact absurd h hs0
              · exact h
            refine iteD (by omega) ?_
            refine ⟨_, rfl, _, rfl, _, rfl, _, _, rfl, rfl, cmul, _, _, rfl, rfl, _, rfl, ?_⟩
            rw [emul]
            by_cases hlt : f < (W pc.1).length * pc.2
            · rw [decide_eq_true (by exact_mod_cast hlt)]
              refine iteT ?_
              obtain ⟨g1, g2, g3⟩ := piece (rest := rest) hlt (show 1 ≤ s by omega)
              obtain ⟨pl, hpl⟩ : ∃ pl, ((W pc.1).drop (f % (W pc.1).length)).take s = pl := ⟨_, rfl⟩
              rw [hpl] at g1 g2 g3
              refine ⟨fun σ H2 => ∃ m', m' < m ∧ ∃ (fi : Int) (s : Nat) (us : List (List Nat)) (y8 : Option V), σ = [some (.ref o), some (.str (tx r.1)), some (.int fi), some (.int (s : Nat)), some (.ref l), some (.str (tx pc.1)), some (.int (pc.2 : Nat)), some (.int ((W pc.1).length : Nat)), y8] ∧ Ex H H2 ∧ H2 l = some (.lst (us.map tv)) ∧
                us.length + s ≤ size ∧ us.flatten.length + s ≤ size ∧ ((s = 0 ∧ us.flatten = tg) ∨ ∃ f : Nat, fi = (f : Int) ∧ us.flatten ++ ((rep pc.2 (W pc.1) ++ rest).drop f).take s = tg) ∧ s ≤ m', fun σ2 H2 h => h, ?_⟩
              have hdep : dep R rk pc.1 < n := by
                unfold dep
                rcases wv.part r hrm pc hpm with ⟨h1, h2⟩ | ⟨h1, _⟩
                · rw [if_pos h1]
                  omega
                · rw [if_neg (nm_ne wv h1)]
                  omega
              have hstr : pc.1 ∉ R.map (fun r => r.1) → W pc.1 = pc.1 ∧ pc.1.length ≤ 60 ∧ f % (W pc.1).length < 100000 := fun hn => by
                rcases wv.part r hrm pc hpm with ⟨h1, _⟩ | ⟨_, _, h3, _, h5⟩
                · exact absurd h1 hn
                · refine ⟨h5, h3, ?_⟩
                  have := Nat.mod_lt f hpos
                  rw [h5] at this ⊢
                  omega
              refine ⟨_, rfl, o, dx, _, rfl, e3 _ _ ho, wl_cut .., _, rfl, _, rfl, _, rfl, _, _, rfl, rfl, by omega, _, rfl, ?_⟩
              refine ⟨o, R, L, W, rk, root, pc.1, f % (W pc.1).length, s, rfl, hO.mono e3, wv, hdep, hstr, by omega, fun H4 e4 => ?_⟩
              rw [hpl]
              have hl4 := e4 _ _ hl3
              dsimp only [gName]
              refine' st_eq (σ' := [some (.ref o), some (.str (tx r.1)), some (.int (f : Nat)), some (.int (s : Nat)), some (.ref l), some (.str (tx pc.1)), some (.int (pc.2 : Nat)), some (.int ((W pc.1).length : Nat)), some (.str (tx pl))]) rfl ?_
              have hszl : (tx pl).length ≤ sizeLine := by
                rw [tx_len]
                exact Nat.le_trans (show pl.length ≤ 2000 by omega) (by decide)
              refine ⟨_, rfl, .inl ⟨rfl, _, sq_of hl4⟩, _, rfl, l, _, _, rfl, rfl, hl4, ?_, ?_⟩
              · rw [List.length_map]
                exact sz_lt (by omega)
              refine ⟨_, rfl, _, rfl, _, rfl, hszl, _, _, rfl, rfl, ?_⟩
              refine ⟨_, rfl, _, rfl, _, rfl, hszl, _, _, rfl, rfl, ?_⟩
              have hfl : (us ++ [pl]).flatten = us.flatten ++ pl := by rw [List.flatten_append, List.flatten_cons, List.flatten_nil, List.append_nil]
              refine ⟨m - 1, (by omega : m - 1 < m), ((f + pl.length : Nat) : Int), s - pl.length, us ++ [pl], some (.str (tx pl)), ?_, (e3.trans e4).mut hl, ?_, ?_, ?_, Or.inr ⟨f + pl.length, rfl, ?_⟩, (by omega : s - pl.length ≤ m - 1)⟩
              · have a1 : (f : Int) + (((tx pl).length : Nat) : Int) = ((f + pl.length : Nat) : Int) := by rw [tx_len]; omega
                have a2 : (s : Int) - (((tx pl).length : Nat) : Int) = ((s - pl.length : Nat) : Int) := by rw [tx_len]; omega
                rw [← a1, ← a2]
                rfl
              · rw [upd_same, List.map_append]
                rfl
              · rw [List.length_append]
                show us.length + 1 + _ ≤ _
                omega
              · rw [hfl, List.length_append]
                omega
              · rw [hfl, List.append_assoc, ← g3]
                exact hf
            · rw [decide_eq_false (fun z => hlt (by exact_mod_cast z))]
              refine iteF ?_
              refine ⟨_, rfl, _, rfl, _, rfl, _, _, rfl, rfl, cmul, _, _, rfl, rfl, _, s, us, _, _, _, _, rfl, e3, hl3, hn1, hn2, .inr ⟨f - (W pc.1).length * pc.2, ?_, ?_⟩⟩
              · dsimp only
                rw [emul]
                omega
              · rw [rep_past (by omega)] at hf
                rw [hrest]
                exact hf
        · obtain ⟨fi, s, us, y5, y6, y7, y8, rfl, e2, hl2, hn1, hn2, hinv⟩ := p
          refine ⟨⟨_, rfl⟩, _, rfl, join_tv hl2 (by omega) ?_⟩
          have etg : us.flatten = tg := by
            rcases hinv with ⟨_, h⟩ | ⟨f, _, h⟩
            · exact h
            · rw [hxl, List.drop_length] at h
              have e0 : ((txt W []).drop f).take s = [] := by
                show (([] : List Nat).drop f).take s = []
                rw [List.drop_nil, List.take_nil]
              rw [e0, List.append_nil] at h
              exact h
          rw [etg]
          exact q _ e2
      · rw [hR.non _ hp]
        refine iteT ?_
        obtain ⟨g1, g2, g3⟩ := hs hp
        refine ⟨_, rfl, _, rfl, _, rfl, _, rfl, _, rfl, _, _, rfl, rfl, _, rfl, _, rfl, tx_le (by omega), ?_⟩
        rw [cut_mid]
        have q2 := q H (Ex.refl _)
        rw [g1] at q2
        exact q2
end
end Law

namespace Law
open PySem PySem.Spec PyProof.Rows L2 Evl EK
/-- a value without parts, as data -/
inductive Fl : V → PyData → Prop
  | non : Fl .non .none
  | bl (b : Bool) : Fl (.bl b) (.bool b)
  | int (i : Int) : Fl (.int i) (.int i)
  | str (z : Str) : Fl (.str z) (.str z)
inductive Fls : List V → List PyData → Prop
  | nil : Fls [] []
  | cons {v : V} {d : PyData} {vs : List V} {ds : List PyData} : Fl v d → Fls vs ds → Fls (v :: vs) (d :: ds)
theorem Fls.get {vs : List V} {ds : List PyData} (h : Fls vs ds) : ∀ {i : Nat} {v : V}, vs[i]? = some v → ∃ d, Fl v d := by
  induction h with
  | nil => intro i v h; cases h
  | @cons v d vs ds h1 _ ih =>
    intro i u hu
    cases i with
    | zero => cases hu; exact ⟨d, h1⟩
    | succ i => exact ih hu
/-- the values that errors keep -/
inductive AV (H : Hp) : V → PyData → Prop
  | flat {v : V} {d : PyData} : Fl v d → AV H v d
  | tup {a : Addr} {vs : List V} {ds : List PyData} : H a = some (.tup vs) → Fls vs ds → vs.length ≤ 50 → AV H (.ref a) (.tuple ds)
  | lst {a : Addr} {vs : List V} {ds : List PyData} : H a = some (.lst vs) → Fls vs ds → vs.length ≤ 50 → AV H (.ref a) (.list ds)
  | emp {a : Addr} : H a = some (.dK []) → AV H (.ref a) (.dict [])
  | one {a : Addr} {k : Str} {i : Int} : H a = some (.dK [(.inr k, .int i)]) → AV H (.ref a) (.dict [(.str k, .int i)])
theorem AV.ex {H H' : Hp} {v : V} {d : PyData} (h : AV H v d) (e : Ex H H') : AV H' v d := by
  cases h with
  | flat f => exact .flat f
  | tup h f l => exact .tup (e _ _ h) f l
  | lst h f l => exact .lst (e _ _ h) f l
  | emp h => exact .emp (e _ _ h)
  | one h => exact .one (e _ _ h)
theorem Fl.de {K : PySem.W.Frag} {H : Hp} {v : V} {d : PyData} (h : Fl v d) : DY.DE K H v d := by
  cases h with
  | non => exact .non
  | bl b => exact .bl b
  | int i => exact .int i
  | str z => exact .str z
theorem Fls.de {K : PySem.W.Frag} {H : Hp} {vs : List V} {ds : List PyData} (h : Fls vs ds) : DY.DEs K H vs ds := by
  induction h with
  | nil => exact .nil
  | cons h1 _ ih => exact .cons h1.de ih
theorem AV.de {K : PySem.W.Frag} {H : Hp} {v : V} {d : PyData} (h : AV H v d) : DY.DE K H v d := by
  cases h with
  | flat f => exact f.de
  | tup h f l => exact .tup (st_of h) f.de
  | lst h f l => exact .lst (sq_of h) f.de
  | emp h => exact .emp h
  | one h => exact .one h
theorem Fl.kinds {K : PySem.W.Frag} {v : V} {d : PyData} (h : Fl v d) (H : Hp) : ∃ t, TyX K H v t ∧ PySem.W.kitOne K t (.type "list") = some false ∧ PySem.W.kitOne K t (.type "tuple") = some false ∧ PySem.W.kitOne K t (.type "dict") = some false := by
  cases h with
  | non => exact ⟨_, .base .non, kit_ty (by decide +kernel), kit_ty (by decide +kernel), kit_ty (by decide +kernel)⟩
  | bl b => exact ⟨_, .base (.bl b), kit_ty (by decide +kernel), kit_ty (by decide +kernel), kit_ty (by decide +kernel)⟩
  | int n => exact ⟨_, .base (.int n), kit_ty (by decide +kernel), kit_ty (by decide +kernel), kit_ty (by decide +kernel)⟩
  | str z => exact ⟨_, .base (.str z), kit_ty (by decide +kernel), kit_ty (by decide +kernel), kit_ty (by decide +kernel)⟩
theorem kl_l {K : PySem.W.Frag} : PySem.W.kitOne K (.type "list") (.type "list") = some true := kit_ty (by decide +kernel)
theorem kt_l {K : PySem.W.Frag} : PySem.W.kitOne K (.type "tuple") (.type "list") = some false := kit_ty (by decide +kernel)
theorem kt_t {K : PySem.W.Frag} : PySem.W.kitOne K (.type "tuple") (.type "tuple") = some true := kit_ty (by decide +kernel)
theorem kd_l {K : PySem.W.Frag} : PySem.W.kitOne K (.type "dict") (.type "list") = some false := kit_ty (by decide +kernel)
theorem kd_t {K : PySem.W.Frag} : PySem.W.kitOne K (.type "dict") (.type "tuple") = some false := kit_ty (by decide +kernel)
theorem kd_d {K : PySem.W.Frag} : PySem.W.kitOne K (.type "dict") (.type "dict") = some true := kit_ty (by decide +kernel)
def spKf : Sp := fun vs H Q _ => ∃ v d, vs = [v] ∧ Fl v d ∧ Q v H
def spKept : Sp := fun vs H Q _ => ∃ v d, vs = [v] ∧ AV H v d ∧ ∀ v' H', Ex H H' → AV H' v' d → Q v' H'
section
variable {P : Program} {w : World} {K : PySem.W.Frag} {mg : Str → Option Value} {base : Heap}
theorem ok_kf {f : Addr} {fd : FuncData} (F : Fun K "_kept" "_kept" s_kept f fd) (T : Tx mg) : FnOk P w K mg base CX0 1 f fd ["value"] spKf := by
  refine F.ok sc_kept (fun vs H Q E h => ?_) (fun cdv A outer s H vs Q E hr h => ?_)
  · obtain ⟨v, d, rfl, _⟩ := h
    rfl
  · obtain ⟨v, d, rfl, hv, q⟩ := h
    refine ⟨_, (pss_cons (ps_if (pt_val (pe_callB call_isi (by rfl) T.isinstance PyProof.Rows.boot_isinstance (pa_cons (pv 0) (pa_cons (pe_bltn (v := .ty "list") (by rfl) T.list PyProof.Rows.boot_list rfl) pa_nil)))) (pss_one ps_never) pss_nil)
      (pss_cons (ps_if (pt_val (pe_callB call_isi (by rfl) T.isinstance PyProof.Rows.boot_isinstance (pa_cons (pv 0) (pa_cons (pe_bltn (v := .ty "tuple") (by rfl) T.tuple PyProof.Rows.boot_tuple rfl) pa_nil)))) (pss_one ps_never) pss_nil)
      (pss_cons (ps_if (pt_val (pe_callB call_isi (by rfl) T.isinstance PyProof.Rows.boot_isinstance (pa_cons (pv 0) (pa_cons (pe_bltn (v := .ty "dict") (by rfl) T.dict PyProof.Rows.boot_dict rfl) pa_nil)))) (pss_one ps_never) pss_nil)
      (pss_one (ps_ret (pv 0)))))), ?_⟩
    obtain ⟨t, ty, k1, k2, k3⟩ := hv.kinds (K := K) H
    refine ⟨_, rfl, _, _, _, _, false, rfl, .ty _, ty, k1, false, rfl, iteF ?_⟩
    refine ⟨_, rfl, _, _, _, _, false, rfl, .ty _, ty, k2, false, rfl, iteF ?_⟩
    refine ⟨_, rfl, _, _, _, _, false, rfl, .ty _, ty, k3, false, rfl, iteF ?_⟩
    exact ⟨_, rfl, q⟩
theorem ok_kept {f : Addr} {fd : FuncData} (F : Fun K "_kept" "_kept" s_kept f fd) (T : Tx mg) (c_kept : Kn P w K mg base "_kept" ["value"] 1 spKf) : FnOk P w K mg base CX0 2 f fd ["value"] spKept := by
  refine F.ok sc_kept (fun vs H Q E h => ?_) (fun cdv A outer s H vs Q E hr h => ?_)
  · obtain ⟨v, d, rfl, _⟩ := h
    rfl
  · obtain ⟨v, d, rfl, hv, q⟩ := h
    refine ⟨_, (pss_cons (ps_if (pt_val (pe_callB call_isi (by rfl) T.isinstance PyProof.Rows.boot_isinstance (pa_cons (pv 0) (pa_cons (pe_bltn (v := .ty "list") (by rfl) T.list PyProof.Rows.boot_list rfl) pa_nil)))) (pss_one (ps_ret (pe_lc (own := [("part", 1)]) (g := gName 1) (tt := tYes) rfl sc_kept.nd (pi_list (pv 0)) (blkOk_by (N := N_kept) (sc := defScope s_kept) (by decide +kernel)) (fun _ _ _ _ _ => (pg_name (i := 1) sc_kept.nd rfl (Or.inl rfl))) (fun _ _ _ _ _ => pts_nil) (fun _ _ _ _ _ => (pe_call c_kept.ok (hr.mono (by decide)) (by rfl) c_kept.g c_kept.kp c_kept.b .nil pass0 (pa_cons (pv 1) pa_nil)))))) pss_nil)
      (pss_cons (ps_if (pt_val (pe_callB call_isi (by rfl) T.isinstance PyProof.Rows.boot_isinstance (pa_cons (pv 0) (pa_cons (pe_bltn (v := .ty "tuple") (by rfl) T.tuple PyProof.Rows.boot_tuple rfl) pa_nil)))) (pss_one (ps_ret (pe_callTy call_tuple_of (by rfl) T.tuple PyProof.Rows.boot_tuple (pa_cons (pe_lc (own := [("part", 1)]) (g := gName 1) (tt := tYes) rfl sc_kept.nd (pi_tup (pv 0)) (blkOk_by (N := N_kept) (sc := defScope s_kept) (by decide +kernel)) (fun _ _ _ _ _ => (pg_name (i := 1) sc_kept.nd rfl (Or.inl rfl))) (fun _ _ _ _ _ => pts_nil) (fun _ _ _ _ _ => (pe_call c_kept.ok (hr.mono (by decide)) (by rfl) c_kept.g c_kept.kp c_kept.b .nil pass0 (pa_cons (pv 1) pa_nil)))) pa_nil)))) pss_nil)
      (pss_cons (ps_if (pt_val (pe_callB call_isi (by rfl) T.isinstance PyProof.Rows.boot_isinstance (pa_cons (pv 0) (pa_cons (pe_bltn (v := .ty "dict") (by rfl) T.dict PyProof.Rows.boot_dict rfl) pa_nil)))) (pss_one (ps_ret (pe_lock (pe_dc (own := [("key", 2)]) (g := gName 2) (tt := tYes) rfl sc_kept.nd (pi_keys (pv 0)) (blkOk_by (N := N_kept) (sc := defScope s_kept) (by decide +kernel)) (fun _ _ _ _ _ => (pg_name (i := 2) sc_kept.nd rfl (Or.inl rfl))) (fun _ _ _ _ _ => pts_nil) (fun _ _ _ _ _ => (pv 2)) (fun _ _ _ _ _ => (pe_call c_kept.ok (hr.mono (by decide)) (by rfl) c_kept.g c_kept.kp c_kept.b .nil pass0 (pa_cons (pe_dget (hu_of hr) (pv 0) (pv 2) (fun _ _ => rfl)) pa_nil))))))) pss_nil)
      (pss_one (ps_ret (pv 0)))))), ?_⟩
    cases hv with
    | flat hv =>
      obtain ⟨t, ty, k1, k2, k3⟩ := hv.kinds (K := K) H
      refine ⟨_, rfl, _, _, _, _, false, rfl, .ty _, ty, k1, false, rfl, iteF ?_⟩
      refine ⟨_, rfl, _, _, _, _, false, rfl, .ty _, ty, k2, false, rfl, iteF ?_⟩
      refine ⟨_, rfl, _, _, _, _, false, rfl, .ty _, ty, k3, false, rfl, iteF ?_⟩
      exact ⟨_, rfl, q _ _ (Ex.refl _) (.flat hv)⟩
    | @lst a xs ds ha fx hl =>
      refine ⟨_, rfl, _, _, _, _, true, rfl, .ty _, .base (.lst ha), kl_l, true, rfl, iteT ?_⟩
      refine ⟨_, rfl, a, rfl, ⟨_, sq_of ha⟩, fun D hD => ?_⟩
      refine lc_list (fun i H' => Ex H H' ∧ H D = none ∧ H' D = some (.lst (xs.take i))) ⟨Ex.new hD, hD, upd_same⟩ (fun i H' _ p => sq_of (p.1 _ _ ha)) (fun i x H' hx p => ?_) (fun H' p => ?_)
      · obtain ⟨e, h0, hz⟩ := p
        obtain ⟨d, fd⟩ := fx.get hx
        refine ⟨rfl, ?_⟩
        refine ⟨_, rfl, _, _, rfl, fd, _, hz, ?_, e.mut h0, h0, ?_⟩
        · rw [List.length_take]
          exact Nat.lt_of_le_of_lt (Nat.min_le_right _ _) (Nat.lt_of_le_of_lt hl (by decide))
        · rw [upd_same, List.take_add_one, hx]
          rfl
      · obtain ⟨e, h0, hz⟩ := p
        rw [List.take_length] at hz
        exact q _ _ e (.lst hz fx hl)
    | @tup a xs ds ha fx hl =>
      refine ⟨_, rfl, _, _, _, _, false, rfl, .ty _, .base (.tup ha), kt_l, false, rfl, iteF ?_⟩
      refine ⟨_, rfl, _, _, _, _, true, rfl, .ty _, .base (.tup ha), kt_t, true, rfl, iteT ?_⟩
      refine ⟨_, rfl, a, rfl, ⟨_, st_of ha⟩, fun D hD => ?_⟩
      refine lc_tup (fun i H' => Ex H H' ∧ H D = none ∧ H' D = some (.lst (xs.take i))) ⟨Ex.new hD, hD, upd_same⟩ (fun i H' _ p => st_of (p.1 _ _ ha)) (fun i x H' hx p => ?_) (fun H' p => ?_)
      · obtain ⟨e, h0, hz⟩ := p
        obtain ⟨d, fd⟩ := fx.get hx
        refine ⟨rfl, ?_⟩
        refine ⟨_, rfl, _, _, rfl, fd, _, hz, ?_, e.mut h0, h0, ?_⟩
        · rw [List.length_take]
          exact Nat.lt_of_le_of_lt (Nat.min_le_right _ _) (Nat.lt_of_le_of_lt hl (by decide))
        · rw [upd_same, List.take_add_one, hx]
          rfl
      · obtain ⟨e, h0, hz⟩ := p
        rw [List.take_length] at hz
        refine ⟨D, _, rfl, .inl ⟨sq_of hz, fun p hp => ?_⟩⟩
        exact q _ _ (e.trans (Ex.new hp)) (.tup upd_same fx hl)
    | @emp a ha =>
      refine ⟨_, rfl, _, _, _, _, false, rfl, .ty _, .base (.dK ha), kd_l, false, rfl, iteF ?_⟩
      refine ⟨_, rfl, _, _, _, _, false, rfl, .ty _, .base (.dK ha), kd_t, false, rfl, iteF ?_⟩
      refine ⟨_, rfl, _, _, _, _, true, rfl, .ty _, .base (.dK ha), kd_d, true, rfl, iteT ?_⟩
      refine ⟨a, _, ha, True.intro, fun od => ?_⟩
      refine ⟨_, rfl, a, od, rfl, .inl ⟨[], upd_same, fun D hD => ⟨fun i m H' => i = 0 ∧ H' = upd (upd H a (.frz od (.dK []))) D (.dK []), ⟨0, rfl, rfl⟩, ?_⟩⟩⟩
      rintro i m H' ⟨rfl, rfl⟩
      have ne : D ≠ a := fun z => by
        rw [z, upd_same] at hD
        cases hD
      have hD2 : H D = none := by
        rw [upd_ne ne] at hD
        exact hD
      have hfz : (upd (upd H a (.frz od (.dK []))) D (.dK [])) a = some (.frz od (.dK [])) := by
        rw [upd_ne ne.symm, upd_same]
      refine .inl ⟨⟨hfz, Nat.le_refl _⟩, hfz, ?_⟩
      refine q _ _ (fun b o e => ?_) (.emp (by rw [upd_ne ne, upd_same]))
      by_cases hb : b = a
      · subst hb
        rw [upd_same, ← ha, e]
      · rw [upd_ne hb, upd_ne (fun z => by rw [z, hD2] at e; cases e), upd_ne hb]
        exact e
    | @one a k n ha =>
      refine ⟨_, rfl, _, _, _, _, false, rfl, .ty _, .base (.dK ha), kd_l, false, rfl, iteF ?_⟩
      refine ⟨_, rfl, _, _, _, _, false, rfl, .ty _, .base (.dK ha), kd_t, false, rfl, iteF ?_⟩
      refine ⟨_, rfl, _, _, _, _, true, rfl, .ty _, .base (.dK ha), kd_d, true, rfl, iteT ?_⟩
      refine ⟨a, _, ha, True.intro, fun od => ?_⟩
      refine ⟨_, rfl, a, od, rfl, .inl ⟨[(.inr k, .int n)], upd_same, fun D hD => ⟨fun i m H' => (i = 0 ∧ m = 1 ∧ H' = upd (upd H a (.frz od (.dK [(.inr k, .int n)]))) D (.dK [])) ∨ (i = 1 ∧ m = 0 ∧ H' = upd (upd H a (.frz od (.dK [(.inr k, .int n)]))) D (.dK [(.inr k, .int n)])), ⟨1, .inl ⟨rfl, rfl, rfl⟩⟩, ?_⟩⟩⟩
      have ne : D ≠ a := fun z => by
        rw [z, upd_same] at hD
        cases hD
      have hD2 : H D = none := by
        rw [upd_ne ne] at hD
        exact hD
      have hfz : ∀ o, (upd (upd H a (.frz od (.dK [(.inr k, .int n)]))) D o) a = some (.frz od (.dK [(.inr k, .int n)])) := fun o => by
        rw [upd_ne ne.symm, upd_same]
      rintro i m H' (⟨rfl, rfl, rfl⟩ | ⟨rfl, rfl, rfl⟩)
      · refine .inr ⟨⟨hfz _, by show 0 < 1; decide⟩, fun H' => H' = upd (upd H a (.frz od (.dK [(.inr k, .int n)]))) D (.dK [(.inr k, .int n)]), fun H' h => ⟨0, by omega, .inr ⟨rfl, rfl, h⟩⟩, ?_⟩
        rintro x H' ⟨rfl, kk, vv, hkv, rfl⟩
        cases hkv
        refine ⟨rfl, ?_⟩
        refine ⟨_, rfl, _, rfl, _, rfl, a, .int n, rfl, .inl ⟨_, .inr k, .inr ⟨od, hfz _⟩, rfl, ?_⟩, _, _, rfl, .int n, [], .inr k, rfl, upd_same, by show 0 < sizeLine; decide, ?_⟩
        · simp [valV]
        · rw [upd_upd]
          rfl
      · refine .inl ⟨⟨hfz _, Nat.le_refl _⟩, hfz _, ?_⟩
        refine q _ _ (fun b o e => ?_) (.one (by rw [upd_ne ne, upd_same]))
        by_cases hb : b = a
        · subst hb
          rw [upd_same, ← ha, e]
        · rw [upd_ne hb, upd_ne (fun z => by rw [z, hD2] at e; cases e), upd_ne hb]
          exact e
end
/-- what the __init__ of an error leaves -/
def ErE (H : Hp) (a C : Addr) (fs : List (Str × V)) (H' : Hp) : Prop := ∃ dx, H' a = some (exo a C (some dx)) ∧ H' dx = some (exd dx fs) ∧ H dx = none ∧ dx ≠ a ∧ ∀ b o, H b = some o → b ≠ a → H' b = some o
/-- the error stands -/
structure Ers (H : Hp) (a C dx : Addr) (fs : List (Str × V)) (H' : Hp) : Prop where
  o : H' a = some (exo a C (some dx))
  x : H' dx = some (exd dx fs)
  n : H dx = none
  ne : dx ≠ a
  k : ∀ b o, H b = some o → b ≠ a → H' b = some o
theorem AV.keep {H H' : Hp} {a C : Addr} {d : Option Addr} {v : V} {x : PyData} (h : AV H v x) (ha : H a = some (exo a C d)) (k : ∀ b o, H b = some o → b ≠ a → H' b = some o) : AV H' v x := by
  cases h with
  | flat f => exact .flat f
  | tup h f l => exact .tup (k _ _ h (fun z => by rw [z, ha] at h; cases h)) f l
  | lst h f l => exact .lst (k _ _ h (fun z => by rw [z, ha] at h; cases h)) f l
  | emp h => exact .emp (k _ _ h (fun z => by rw [z, ha] at h; cases h))
  | one h => exact .one (k _ _ h (fun z => by rw [z, ha] at h; cases h))
theorem ers_new {H H1 : Hp} {a C dx : Addr} {f : Str} {v : V} (ha : H a = some (exo a C none)) (e : Ex H H1) (hd : H1 dx = none) (hne : dx ≠ a) : Ers H a C dx [(f, v)] (upd (upd H1 dx (exd dx [(f, v)])) a (exo a C (some dx))) where
  o := upd_same
  x := by rw [upd_ne hne, upd_same]
  n := by
    cases q : H dx with
    | none => rfl
    | some o =>
      have := e _ _ q
      rw [hd] at this
      cases this
  ne := hne
  k := fun b o z nb => by
    have z1 := e _ _ z
    rw [upd_ne nb, upd_ne (fun y => by rw [y, hd] at z1; cases z1)]
    exact z1
theorem ers_put {H H1 H2 : Hp} {a C dx : Addr} {f : Str} {v : V} {fs : List (Str × V)} (E : Ers H a C dx fs H1) (e : Ex H1 H2) : Ers H a C dx ((f, v) :: fs) (upd H2 dx (exd dx ((f, v) :: fs))) where
  o := by rw [upd_ne E.ne.symm]; exact e _ _ E.o
  x := upd_same
  n := E.n
  ne := E.ne
  k := fun b o z nb => by
    rw [upd_ne (fun y => by rw [y, E.n] at z; cases z)]
    exact e _ _ (E.k b o z nb)
/-- a value that stood when the first field was stored -/
theorem AV.over {H : Hp} {dx : Addr} {x : PyData} {fs gs : List (Str × V)} {v : V} (h : AV H v x) (hd : H dx = some (exd dx gs)) : AV (upd H dx (exd dx fs)) v x := by
  have ne : ∀ {b : Addr} {o : HO}, H b = some o → (∀ z : exd dx gs = o, False) → b ≠ dx := fun hb hn z => by
    rw [z, hd] at hb
    exact hn (Option.some.inj hb)
  cases h with
  | flat f => exact .flat f
  | tup h f l => exact .tup (by rw [upd_ne (ne h (fun z => by cases z))]; exact h) f l
  | lst h f l => exact .lst (by rw [upd_ne (ne h (fun z => by cases z))]; exact h) f l
  | emp h => exact .emp (by rw [upd_ne (ne h (fun z => by cases z))]; exact h)
  | one h => exact .one (by rw [upd_ne (ne h (fun z => by cases z))]; exact h)
theorem AV.newx {H : Hp} {a C dx : Addr} {fs : List (Str × V)} {v : V} {x : PyData} (h : AV H v x) (ha : H a = some (exo a C none)) (hd : H dx = none) : AV (upd (upd H dx (exd dx fs)) a (exo a C (some dx))) v x :=
  h.keep ha fun b o z nb => by
    rw [upd_ne nb, upd_ne (fun y => by rw [y, hd] at z; cases z)]
    exact z
def spE1 (C : Addr) (f : Str) : Sp := fun vs H Q _ => ∃ a v d, vs = [.ref a, v] ∧ H a = some (exo a C none) ∧ AV H v d ∧ ∀ dx v' H', Ers H a C dx [(f, v')] H' → AV H' v' d → Q .non H'
def spE2 (C : Addr) (f g : Str) : Sp := fun vs H Q _ => ∃ a v d u e, vs = [.ref a, v, u] ∧ H a = some (exo a C none) ∧ AV H v d ∧ AV H u e ∧ ∀ dx v' u' H', Ers H a C dx [(g, u'), (f, v')] H' → AV H' v' d → AV H' u' e → Q .non H'
def spE3 (C : Addr) (f g h : Str) : Sp := fun vs H Q _ => ∃ a v d u e w b, vs = [.ref a, v, u, w] ∧ H a = some (exo a C none) ∧ AV H v d ∧ AV H u e ∧ AV H w b ∧ ∀ dx v' u' w' H', Ers H a C dx [(h, w'), (g, u'), (f, v')] H' → AV H' v' d → AV H' u' e → AV H' w' b → Q .non H'
/-- the base -/
structure BaseC (K : PySem.W.Frag) (mg : Str → Option Value) (C0 : Addr) : Prop where
  g : mg "SkipsError" = some (.ref C0)
  r : ClX.CRead K C0 (.type "type")
  v : PySem.W.findCls K (.ref C0) (.type "type") "__init__" = some (.val (.builtin "ValueError.__init__"))
section
variable {P : Program} {w : World} {K : PySem.W.Frag} {mg : Str → Option Value} {base : Heap}
theorem ok_BadPlace {f C C0 : Addr} {fd : FuncData} (F : Fun K "__init__" "BadPlace.__init__" s_BadPlace_init f fd) (T : Tx mg) (B0 : BaseC K mg C0) (O : OexC K C) (N : PySem.W.findIn K (.ref C) "number" = some none) (c_kept : Kn P w K mg base "_kept" ["value"] 2 spKept) :
    FnOk P w K mg base CX0 3 f fd ["self", "number"] (spE1 C "number") := by
  refine F.ok sc_BadPlace_init (fun vs H Q E h => ?_) (fun cdv A outer s H vs Q E hr h => ?_)
  · obtain ⟨a, v, d, rfl, _⟩ := h
    rfl
  · obtain ⟨a, v, d, rfl, ha, hv, q⟩ := h
    obtain ⟨g_SkipsError, R_SkipsError, V_SkipsError⟩ := B0
    refine ⟨_, (pss_cons (ps_expr (EK.pe_skinit (by rfl) g_SkipsError R_SkipsError V_SkipsError (pa_cons (pv 0) (pa_cons pe_str pa_nil))))
      (pss_one (ps_ost (pv 0) (pe_call c_kept.ok (hr.mono (by decide)) (by rfl) c_kept.g c_kept.kp c_kept.b .nil pass0 (pa_cons (pv 1) pa_nil))))), ?_⟩
    refine ⟨_, rfl, a, C, _, rfl, by show 1 ≤ 1000; decide, O, ha, ?_⟩
    refine ⟨_, rfl, v, d, rfl, hv, fun v' H1 e1 hv1 => ⟨_, rfl, a, C, rfl, O, N, .inl ⟨e1 _ _ ha, fun dx hd hne => ?_⟩⟩⟩
    exact q dx v' _ (ers_new ha e1 hd hne) (hv1.newx (e1 _ _ ha) hd)
theorem ok_TooMany {f C C0 : Addr} {fd : FuncData} (F : Fun K "__init__" "TooMany.__init__" s_TooMany_init f fd) (T : Tx mg) (B0 : BaseC K mg C0) (O : OexC K C) (N1 : PySem.W.findIn K (.ref C) "what" = some none) (N2 : PySem.W.findIn K (.ref C) "many" = some none) (N3 : PySem.W.findIn K (.ref C) "most" = some none)
    (c_kept : Kn P w K mg base "_kept" ["value"] 2 spKept) : FnOk P w K mg base CX0 3 f fd ["self", "what", "many", "most"] (spE3 C "what" "many" "most") := by
  refine F.ok sc_TooMany_init (fun vs H Q E h => ?_) (fun cdv A outer s H vs Q E hr h => ?_)
  · obtain ⟨a, v, d, u, e, z, b, rfl, _⟩ := h
    rfl
  · obtain ⟨a, v, d, u, e, z, b, rfl, ha, hv, hu, hz, q⟩ := h
    obtain ⟨g_SkipsError, R_SkipsError, V_SkipsError⟩ := B0
    refine ⟨_, (pss_cons (ps_expr (EK.pe_skinit (by rfl) g_SkipsError R_SkipsError V_SkipsError (pa_cons (pv 0) (pa_cons pe_str pa_nil))))
      (pss_cons (ps_ost (pv 0) (pe_call c_kept.ok (hr.mono (by decide)) (by rfl) c_kept.g c_kept.kp c_kept.b .nil pass0 (pa_cons (pv 1) pa_nil)))
      (pss_cons (ps_ost (pv 0) (pe_call c_kept.ok (hr.mono (by decide)) (by rfl) c_kept.g c_kept.kp c_kept.b .nil pass0 (pa_cons (pv 2) pa_nil)))
      (pss_one (ps_ost (pv 0) (pe_call c_kept.ok (hr.mono (by decide)) (by rfl) c_kept.g c_kept.kp c_kept.b .nil pass0 (pa_cons (pv 3) pa_nil))))))), ?_⟩
    refine ⟨_, rfl, a, C, _, rfl, by show 1 ≤ 1000; decide, O, ha, ?_⟩
    refine ⟨_, rfl, v, d, rfl, hv, fun v' H1 e1 hv1 => ⟨_, rfl, a, C, rfl, O, N1, .inl ⟨e1 _ _ ha, fun dx hd hne => ?_⟩⟩⟩
    have E1 := ers_new (f := "what") (v := v') ha e1 hd hne
    have hv2 := hv1.newx (fs := [("what", v')]) (e1 _ _ ha) hd
    refine ⟨_, rfl, u, e, rfl, hu.keep ha E1.k, fun u' H3 e3 hu3 => ⟨_, rfl, a, C, rfl, O, N2, .inr ⟨dx, _, e3 _ _ E1.o, e3 _ _ E1.x, by show 1 ≤ 900; decide, ?_⟩⟩⟩
    have E2 := ers_put (f := "many") (v := u') E1 e3
    have hv4 := (hv2.ex e3).over (fs := [("many", u'), ("what", v')]) (e3 _ _ E1.x)
    have hu4 := hu3.over (fs := [("many", u'), ("what", v')]) (e3 _ _ E1.x)
    refine ⟨_, rfl, z, b, rfl, hz.keep ha E2.k, fun z' H5 e5 hz5 => ⟨_, rfl, a, C, rfl, O, N3, .inr ⟨dx, _, e5 _ _ E2.o, e5 _ _ E2.x, by show 2 ≤ 900; decide, ?_⟩⟩⟩
    exact q dx v' u' z' _ (ers_put E2 e5) ((hv4.ex e5).over (e5 _ _ E2.x)) ((hu4.ex e5).over (e5 _ _ E2.x)) (hz5.over (e5 _ _ E2.x))
end
theorem AV.via {H H' : Hp} {v : V} {x : PyData} (h : AV H v x) (k : ∀ b o, H b = some o → (∀ xs, o = .tup xs → H' b = some o) ∧ (∀ xs, o = .lst xs → H' b = some o) ∧ (∀ xs, o = .dK xs → H' b = some o)) : AV H' v x := by
  cases h with
  | flat f => exact .flat f
  | tup h f l => exact .tup ((k _ _ h).1 _ rfl) f l
  | lst h f l => exact .lst ((k _ _ h).2.1 _ rfl) f l
  | emp h => exact .emp ((k _ _ h).2.2 _ rfl)
  | one h => exact .one ((k _ _ h).2.2 _ rfl)
theorem raise_endN {H1 H2 : Hp} {a C dx : Addr} {fs : List (Str × V)} {E : XK} (ha : H1 a = none) (e : Ers (upd H1 a (exo a C none)) a C dx fs H2)
    (q : ∀ d H', Ex H1 H' → H1 d = none → H' d = some (.xd fs) → (∀ v x, AV H2 v x → AV H' v x) → E (.ref C) (some d) H') :
    V.non = .non ∧ ∃ (d : Addr) (fs' : List (Str × V)), H2 a = some (exo a C (some d)) ∧ H2 d = some (exd d fs') ∧ H1 d = none ∧ E (.ref C) (some d) (upd (del H2 a) d (.xd fs')) := by
  have hd : H1 dx = none := by
    have := e.n
    rw [upd_ne e.ne] at this
    exact this
  have keep : ∀ b o, H2 b = some o → b ≠ a → b ≠ dx → (upd (del H2 a) dx (.xd fs)) b = some o := fun b o h n1 n2 => by
    rw [upd_ne n2, del_ne n1]
    exact h
  refine ⟨rfl, dx, _, e.o, e.x, hd, q dx _ (fun b o h => ?_) hd upd_same fun v x hv => ?_⟩
  · have nb : b ≠ a := fun z => by rw [z, ha] at h; cases h
    have nx : b ≠ dx := fun z => by rw [z, hd] at h; cases h
    exact keep b o (e.k b o (by rw [upd_ne nb]; exact h) nb) nb nx
  · refine hv.via fun b o h => ?_
    have go : (∀ z : exo a C (some dx) = o, False) → (∀ z : exd dx fs = o, False) → (upd (del H2 a) dx (.xd fs)) b = some o := fun h1 h2 => by
      refine keep b o h (fun z => ?_) (fun z => ?_)
      · rw [z, e.o] at h
        exact h1 (Option.some.inj h)
      · rw [z, e.x] at h
        exact h2 (Option.some.inj h)
    refine ⟨fun xs z => ?_, fun xs z => ?_, fun xs z => ?_⟩ <;> subst z <;> exact go (fun z => by cases z) (fun z => by cases z)
structure ErrC (K : PySem.W.Frag) (C f C0 : Addr) : Prop where
  o : OexC K C
  i : PySem.W.findIn K (.ref C) "__init__" = some (some (.ref f))
  t : PySem.W.typeIn K (.ref f) = some (.type "function")
  x : XfC K C
  e : ExcC K C
  s : PySem.W.kitOne K (.ref C) (.ref C0) = some true
structure Kn' (P : Program) (w : World) (K : PySem.W.Frag) (mg : Str → Option Value) (base : Heap) (CX : CXT) (x : Str) (ps : List Str) (k : Nat) (sp : Sp) where
  f : Addr
  fd : FuncData
  ok : FnOk P w K mg base CX k f fd ps sp
  g : mg x = some (.ref f)
  kp : PySem.W.keepIn K (.ref f) = true
  b : Binds K fd ps []
theorem av_int {H : Hp} {v : V} {i : Int} (h : AV H v (.int i)) : v = .int i := by
  cases h with
  | flat f => cases f; rfl
theorem av_str {H : Hp} {v : V} {z : Str} (h : AV H v (.str z)) : v = .str z := by
  cases h with
  | flat f => cases f; rfl
/-- an error with one field, whose value is the data x -/
def RzD (E : XK) (H : Hp) (C : Addr) (f : Str) (x : PyData) : Prop := ∀ d v' H', Ex H H' → H d = none → H' d = some (.xd [(f, v')]) → AV H' v' x → E (.ref C) (some d) H'
theorem RzD.ex {E : XK} {H H' : Hp} {C : Addr} {f : Str} {x : PyData} (h : RzD E H C f x) (e : Ex H H') : RzD E H' C f x := fun d v' H2 e2 hd hx hv => h d v' H2 (e.trans e2) (fresh_back e hd) hx hv
/-- an error with its fields -/
def RzF (E : XK) (H : Hp) (C : Addr) (fs : List (Str × V)) : Prop := ∀ d H', Ex H H' → H d = none → H' d = some (.xd fs) → E (.ref C) (some d) H'
theorem RzF.ex {E : XK} {H H' : Hp} {C : Addr} {fs : List (Str × V)} (h : RzF E H C fs) (e : Ex H H') : RzF E H' C fs := fun d H2 e2 hd hx => h d H2 (e.trans e2) (fresh_back e hd) hx
end Law

namespace Law
open PySem PySem.Spec PyProof.Rows L2 Evl TR GX WV EK
/-- a weave, whole -/
structure WAll (C : Addr) (H : Hp) (o : Addr) (R : Ru) (L : List Nat) (W : List Nat → List Nat) (rk : List Nat → Nat) (root : List Nat) : Prop where
  o : WObj C H o R L W root
  w : Wv R L W rk
  r : root ∈ R.map (fun r => r.1)
  d : ∀ r ∈ R, rk r.1 ≤ 5
theorem WAll.mono {C : Addr} {H H' : Hp} (e : Ex H H') {o : Addr} {R : Ru} {L : List Nat} {W : List Nat → List Nat} {rk : List Nat → Nat} {root : List Nat} (h : WAll C H o R L W rk root) : WAll C H' o R L W rk root := ⟨h.o.mono e, h.w, h.r, h.d⟩
def spLetter (C CB : Addr) : Sp := fun vs H Q E => ∃ (o : Addr) (R : Ru) (L : List Nat) (W : List Nat → List Nat) (rk : List Nat → Nat) (root : List Nat) (v : V) (g : Gt) (d : PyData), vs = [.ref o, v] ∧ WAll C H o R L W rk root ∧ GA H v g ∧ AV H v d ∧
  ∀ H', Ex H H' → (∀ i : Nat, v = .int (i : Nat) → i < (W root).length → Q (.str (tx (((W root).drop i).take 1))) H') ∧ (whole 0 (((W root).length : Nat) - 1) g = false → RzD E H' CB "number" d)
def spPart (C CB CT : Addr) : Sp := fun vs H Q E => ∃ (o : Addr) (R : Ru) (L : List Nat) (W : List Nat → List Nat) (rk : List Nat → Nat) (root : List Nat) (v : V) (g : Gt) (d : PyData) (s : Nat), vs = [.ref o, v, .int (s : Nat)] ∧ WAll C H o R L W rk root ∧ GA H v g ∧ AV H v d ∧
  ∀ H', Ex H H' → (2000 < s → RzF E H' CT [("most", .int 2000), ("many", .int (s : Nat)), ("what", .str "letters")]) ∧
    (s ≤ 2000 → (∀ i : Nat, v = .int (i : Nat) → i + s ≤ (W root).length → Q (.str (tx (((W root).drop i).take s))) H') ∧ (whole 0 (((W root).length : Int) - (s : Nat)) g = false → RzD E H' CB "number" d))
theorem whole_int {lo hi : Int} {v : V} {g : Gt} {H : Hp} (ga : GA H v g) (h : whole lo hi g = true) : ∃ i : Int, v = .int i ∧ lo ≤ i ∧ i ≤ hi := by
  cases ga with
  | int i =>
    have e : whole lo hi (.int i) = (decide (lo ≤ i) && decide (i ≤ hi)) := rfl
    rw [e, Bool.and_eq_true] at h
    exact ⟨i, rfl, of_decide_eq_true h.1, of_decide_eq_true h.2⟩
  | str z => cases h
  | bl b => cases h
  | non => cases h
  | dct h2 => cases h
  | seq h1 r => cases h
section
variable {P : Program} {w : World} {K : PySem.W.Frag} {mg : Str → Option Value} {base : Heap} {C C_BadPlace C_TooMany fB fT C0 fcut : Addr} {fdB fdT fdcut : FuncData}
theorem ok_letter {f : Addr} {fd : FuncData} (F : Fun K "letter" "Weave.letter" s_Weave_letter f fd) (T : Tx mg) (S : WC K C) (E1 : ErrC K C_BadPlace fB C0) (g_BadPlace : mg "BadPlace" = some (.ref C_BadPlace))
    (I_BadPlace : FnOk P w K mg base CX0 3 fB fdB ["self", "number"] (spE1 C_BadPlace "number")) (B_BadPlace : Binds K fdB ["self", "number"] []) (c_is_whole : Kn P w K mg base "is_whole" ["value", "low", "high"] 2 spWhG)
    (Me__cut : Meth K C "_cut" fcut) (F__cut : FnOk P w K mg base CX0 8 fcut fdcut ["self", "name", "first", "size"] (spCut C 7)) (b__cut : Binds K fdcut ["self", "name", "first", "size"] []) :
    FnOk P w K mg base (L2.CX P w) 9 f fd ["self", "number"] (spLetter C C_BadPlace) := by
  refine F.okX sc_Weave_letter (fun vs H Q E h => ?_) (fun cdv A outer s H vs Q E hr h => ?_)
  · obtain ⟨o, R, L, W, rk, root, v, g, d, rfl, _⟩ := h
    rfl
  · obtain ⟨o, R, L, W, rk, root, v, g, d, rfl, hA, hg, hv, q⟩ := h
    obtain ⟨O_BadPlace, i_BadPlace, t_BadPlace, _, _, _⟩ := E1
    obtain ⟨dx, d1, d2, kvs, ks, ho, h1, hR, h2, hss⟩ := hA.o.ex
    refine ⟨_, (pss_cons (ps_if (pt_not (pt_val (pe_call c_is_whole.ok (hr.mono (by decide)) (by rfl) c_is_whole.g c_is_whole.kp c_is_whole.b .nil pass0 (pa_cons (pv 1) (pa_cons pe_int (pa_cons (pe_op op_sub (pe_fld (pv 0) rfl) pe_int) pa_nil)))))) (pss_one (ps_raise rfl (takes_of rfl rfl rfl rfl) (pmk_oex O_BadPlace i_BadPlace t_BadPlace I_BadPlace (hr.mono (by decide)) B_BadPlace .nil pass0 (by rfl) g_BadPlace (pa_cons (pv 1) pa_nil)))) pss_nil)
      (pss_one (ps_ret (pe_meth (pv 0) S.cl Me__cut F__cut (hr.mono (by decide)) b__cut .nil pass0 (pa_cons (pe_fld (pv 0) rfl) (pa_cons (pv 1) (pa_cons pe_int pa_nil))))))), ?_⟩
    refine ⟨_, rfl, _, rfl, o, C, dx, _, _, rfl, ho, S.cl, S.nz, wl_size .., _, _, rfl, rfl, ?_⟩
    refine ⟨v, g, _, _, rfl, hg, fun H1 e1 => ⟨_, rfl, ?_⟩⟩
    cases hb : whole 0 (((W root).length : Nat) - 1) g with
    | false =>
      refine iteT ?_
      exact ⟨_, rfl, by show 1 ≤ 1000; decide, fun a ha => ⟨a, _, d, rfl, upd_same, (hv.ex e1).ex (Ex.new ha), fun dx v' H3 er av => raise_endN ha er fun d3 H4 e4 hd hx tr => (q H1 e1).2 hb d3 v' H4 e4 hd hx (tr _ _ av)⟩⟩
    | true =>
      refine iteF ?_
      obtain ⟨i, rfl, i0, i1⟩ := whole_int hg hb
      obtain ⟨j, rfl⟩ : ∃ j : Nat, i = (j : Int) := ⟨i.toNat, (Int.toNat_of_nonneg i0).symm⟩
      refine ⟨_, rfl, o, dx, _, rfl, e1 _ _ ho, rfl, _, rfl, o, C, dx, _, _, rfl, e1 _ _ ho, S.cl, S.no, wl_root .., _, rfl, ?_⟩
      have hd : dep R rk root < 7 := by
        unfold dep
        rw [if_pos hA.r]
        obtain ⟨r, hr, er⟩ := List.mem_map.mp hA.r
        have := hA.d r hr
        rw [er] at this
        omega
      exact ⟨o, R, L, W, rk, root, root, j, 1, rfl, hA.o.mono e1, hA.w, hd, fun z => absurd hA.r z, by omega, fun H2 e2 => (q H2 (e1.trans e2)).1 j rfl (by omega)⟩
theorem ok_part {f : Addr} {fd : FuncData} (F : Fun K "part" "Weave.part" s_Weave_part f fd) (T : Tx mg) (S : WC K C) (E1 : ErrC K C_BadPlace fB C0) (E2 : ErrC K C_TooMany fT C0) (g_BadPlace : mg "BadPlace" = some (.ref C_BadPlace)) (g_TooMany : mg "TooMany" = some (.ref C_TooMany))
    (I_BadPlace : FnOk P w K mg base CX0 3 fB fdB ["self", "number"] (spE1 C_BadPlace "number")) (B_BadPlace : Binds K fdB ["self", "number"] []) (I_TooMany : FnOk P w K mg base CX0 3 fT fdT ["self", "what", "many", "most"] (spE3 C_TooMany "what" "many" "most")) (B_TooMany : Binds K fdT ["self", "what", "many", "most"] [])
    (c_is_whole : Kn P w K mg base "is_whole" ["value", "low", "high"] 2 spWhG) (Me__cut : Meth K C "_cut" fcut) (F__cut : FnOk P w K mg base CX0 8 fcut fdcut ["self", "name", "first", "size"] (spCut C 7)) (b__cut : Binds K fdcut ["self", "name", "first", "size"] []) :
    FnOk P w K mg base (L2.CX P w) 9 f fd ["self", "first", "size"] (spPart C C_BadPlace C_TooMany) := by
  refine F.okX sc_Weave_part (fun vs H Q E h => ?_) (fun cdv A outer s H vs Q E hr h => ?_)
  · obtain ⟨o, R, L, W, rk, root, v, g, d, sz, rfl, _⟩ := h
    rfl
  · obtain ⟨o, R, L, W, rk, root, v, g, d, sz, rfl, hA, hg, hv, q⟩ := h
    obtain ⟨O_BadPlace, i_BadPlace, t_BadPlace, _, _, _⟩ := E1
    obtain ⟨O_TooMany, i_TooMany, t_TooMany, _, _, _⟩ := E2
    obtain ⟨dx, d1, d2, kvs, ks, ho, h1, hR, h2, hss⟩ := hA.o.ex
    refine ⟨_, (pss_cons (ps_if (pt_not (pt_val (pe_call c_is_whole.ok (hr.mono (by decide)) (by rfl) c_is_whole.g c_is_whole.kp c_is_whole.b .nil pass0 (pa_cons (pv 2) (pa_cons pe_int (pa_cons (pe_glob (v := .int 2000) rfl T.m_LONGEST_PART ⟨_, rfl⟩) pa_nil)))))) (pss_one (ps_raise rfl (takes_of rfl rfl rfl rfl) (pmk_oex O_TooMany i_TooMany t_TooMany I_TooMany (hr.mono (by decide)) B_TooMany .nil pass0 (by rfl) g_TooMany (pa_cons pe_str (pa_cons (pv 2) (pa_cons (pe_glob (v := .int 2000) rfl T.m_LONGEST_PART ⟨_, rfl⟩) pa_nil)))))) pss_nil)
      (pss_cons (ps_if (pt_not (pt_val (pe_call c_is_whole.ok (hr.mono (by decide)) (by rfl) c_is_whole.g c_is_whole.kp c_is_whole.b .nil pass0 (pa_cons (pv 1) (pa_cons pe_int (pa_cons (pe_op op_sub (pe_fld (pv 0) rfl) (pv 2)) pa_nil)))))) (pss_one (ps_raise rfl (takes_of rfl rfl rfl rfl) (pmk_oex O_BadPlace i_BadPlace t_BadPlace I_BadPlace (hr.mono (by decide)) B_BadPlace .nil pass0 (by rfl) g_BadPlace (pa_cons (pv 1) pa_nil)))) pss_nil)
      (pss_one (ps_ret (pe_meth (pv 0) S.cl Me__cut F__cut (hr.mono (by decide)) b__cut .nil pass0 (pa_cons (pe_fld (pv 0) rfl) (pa_cons (pv 1) (pa_cons (pv 2) pa_nil)))))))), ?_⟩
    refine ⟨_, rfl, _, .int (sz : Nat), _, _, rfl, .int _, fun H1 e1 => ⟨_, rfl, ?_⟩⟩
    by_cases hsz : sz ≤ 2000
    · rw [show whole 0 2000 (.int (sz : Nat)) = true from by
        show (decide ((0 : Int) ≤ (sz : Nat)) && decide (((sz : Nat) : Int) ≤ 2000)) = true
        rw [decide_eq_true (by omega), decide_eq_true (by omega)]
        rfl]
      refine iteF ?_
      refine ⟨_, rfl, _, rfl, o, C, dx, _, _, rfl, e1 _ _ ho, S.cl, S.nz, wl_size .., _, rfl, _, _, rfl, rfl, ?_⟩
      refine ⟨v, g, _, _, rfl, GA.ex e1 hg, fun H2 e2 => ⟨_, rfl, ?_⟩⟩
      have e12 := e1.trans e2
      cases hb : whole 0 (((W root).length : Int) - (sz : Nat)) g with
      | false =>
        refine iteT ?_
        exact ⟨_, rfl, by show 1 ≤ 1000; decide, fun a ha => ⟨a, _, d, rfl, upd_same, (hv.ex e12).ex (Ex.new ha), fun dx v' H3 er av => raise_endN ha er fun d3 H4 e4 hd hx tr => ((q H2 e12).2 hsz).2 hb d3 v' H4 e4 hd hx (tr _ _ av)⟩⟩
      | true =>
        refine iteF ?_
        obtain ⟨i, rfl, i0, i1⟩ := whole_int hg hb
        obtain ⟨j, rfl⟩ : ∃ j : Nat, i = (j : Int) := ⟨i.toNat, (Int.toNat_of_nonneg i0).symm⟩
        refine ⟨_, rfl, o, dx, _, rfl, e12 _ _ ho, rfl, _, rfl, o, C, dx, _, _, rfl, e12 _ _ ho, S.cl, S.no, wl_root .., _, rfl, _, rfl, ?_⟩
        have hd : dep R rk root < 7 := by
          unfold dep
          rw [if_pos hA.r]
          obtain ⟨r, hr, er⟩ := List.mem_map.mp hA.r
          have := hA.d r hr
          rw [er] at this
          omega
        exact ⟨o, R, L, W, rk, root, root, j, sz, rfl, hA.o.mono e12, hA.w, hd, fun z => absurd hA.r z, hsz, fun H3 e3 => ((q H3 (e12.trans e3)).2 hsz).1 j rfl (by omega)⟩
    · rw [show whole 0 2000 (.int (sz : Nat)) = false from by
        show (decide ((0 : Int) ≤ (sz : Nat)) && decide (((sz : Nat) : Int) ≤ 2000)) = false
        rw [decide_eq_false (p := ((sz : Nat) : Int) ≤ 2000) (by omega), Bool.and_false]]
      refine iteT ?_
      exact ⟨_, rfl, by show 3 ≤ 1000; decide, fun a ha => ⟨a, _, _, _, _, _, _, rfl, upd_same, .flat (.str _), .flat (.int _), .flat (.int _), fun dx v' u' w' H3 er av au aw => raise_endN ha er fun d3 H4 e4 hd hx tr => by
        have x1 := av_str av
        have x2 := av_int au
        have x3 := av_int aw
        subst x1 x2 x3
        exact (q H1 e1).1 (by omega) d3 H4 e4 hd hx⟩⟩
end
end Law

/-! xs == [] and xs != [], whatever stands in xs -/
namespace NL
open PySem PySem.Spec PyProof.Rows L2
def rEqNil (K : PySem.W.Frag) : R2 := fun x y H Q => ∃ a b xs, x = .ref a ∧ y = .ref b ∧ SqL K H a xs ∧ SqL K H b [] ∧ Q (.bl (decide (xs.length = 0))) H
def rNeNil (K : PySem.W.Frag) : R2 := fun x y H Q => ∃ a b xs, x = .ref a ∧ y = .ref b ∧ SqL K H a xs ∧ SqL K H b [] ∧ Q (.bl (!decide (xs.length = 0))) H
section
variable {X : Cx}
theorem op_eqNil (hu : X.A.units + 64 < cLine) : OpR X (compareOp .Eq) (rEqNil X.K) := by
  intro pins s σ H x y v u Q I rx ry h
  obtain ⟨a, b, xs, rfl, rfl, ha, hb, q⟩ := h
  cases (show v = Value.ref a from rx)
  cases (show u = Value.ref b from ry)
  obtain ⟨us, r1, p1, _⟩ := I.list ha
  obtain ⟨ws, r2, p2, _⟩ := I.list hb
  cases r2
  have l1 := r1.length
  have un : X.A.units < cLine := by omega
  show wpAny _ _ (richCompare .Eq _ _) _ _ _
  by_cases hx : xs.length = 0
  · rw [decide_eq_true hx] at q
    have hz : us.toArray.size = ([] : List Value).toArray.size := by rw [List.size_toArray, List.size_toArray, ← l1, hx]; rfl
    refine (SeqAt.RcAt.lists (e := fun _ => true) p1.isList p2.isList hz un fun j h1 h2 => absurd h2 (Nat.not_lt_zero j)) X.prog X.w _ _ ?_
    refine ⟨.bl true, H, I, ?_, q⟩
    show Value.bool _ = Value.bool true
    rw [show ((List.range us.toArray.size).all fun _ => true) = true from List.all_eq_true.mpr fun _ _ => rfl]
  · rw [decide_eq_false hx] at q
    refine (SeqAt.RcAt.lists_lengths p1.isList p2.isList ?_ un) X.prog X.w _ _ ⟨.bl false, H, I, rfl, q⟩
    rw [bne_iff_ne, List.size_toArray, List.size_toArray, ← l1]
    exact hx
theorem op_neNil (hu : X.A.units + 64 < cLine) : OpR X (compareOp .NotEq) (rNeNil X.K) := by
  intro pins s σ H x y v u Q I rx ry h
  obtain ⟨a, b, xs, rfl, rfl, ha, hb, q⟩ := h
  cases (show v = Value.ref a from rx)
  cases (show u = Value.ref b from ry)
  obtain ⟨us, r1, p1, _⟩ := I.list ha
  obtain ⟨ws, r2, p2, _⟩ := I.list hb
  cases r2
  have l1 := r1.length
  have un : X.A.units < cLine := by omega
  show wpAny _ _ (richCompare .NotEq _ _) _ _ _
  by_cases hx : xs.length = 0
  · rw [decide_eq_true hx] at q
    have hz : us.toArray.size = ([] : List Value).toArray.size := by rw [List.size_toArray, List.size_toArray, ← l1, hx]; rfl
    refine (SeqAt.RcNeAt.lists (e := fun _ => true) p1.isList p2.isList hz un fun j h1 h2 => absurd h2 (Nat.not_lt_zero j)) X.prog X.w _ _ ?_
    refine ⟨.bl false, H, I, ?_, q⟩
    show Value.bool _ = Value.bool false
    rw [show ((List.range us.toArray.size).all fun _ => true) = true from List.all_eq_true.mpr fun _ _ => rfl]
    rfl
  · rw [decide_eq_false hx] at q
    refine (SeqAt.RcNeAt.lists_lengths p1.isList p2.isList ?_ un) X.prog X.w _ _ ⟨.bl true, H, I, rfl, q⟩
    rw [bne_iff_ne, List.size_toArray, List.size_toArray, ← l1]
    exact hx
end
end NL

namespace Law
open PySem PySem.Spec PyProof.Rows L2 Evl TR GX WV
theorem PenAt.both {p : PenI} {H0 H : Hp} {a : Addr} {n : Nat} {o : HO} (P : PenAt p H0 H n) (hd : a ≠ p.d) (hc : a ≠ p.c) : PenAt p (L2.upd H0 a o) (L2.upd H a o) n := by
  obtain ⟨e, h0, hc0, hl, op, lf, ho, hdk⟩ := P
  refine ⟨fun b u h => ?_, (upd_ne hd.symm).trans h0, (upd_ne hc.symm).trans hc0, hl, op, lf, ho, (upd_ne hd.symm).trans hdk⟩
  by_cases q : b = a
  · subst q
    rw [upd_same] at h ⊢
    exact h
  · rw [upd_ne q] at h ⊢
    exact e b u h
theorem fresh_nc {p : PenI} {H0 H : Hp} {n : Nat} {a : Addr} (P : PenAt p H0 H n) (h : H a = none) : a ≠ p.c := fun e => by
  rw [e, P.1 _ _ P.2.2.1] at h
  cases h
/-- one more object made -/
theorem iteN {c A B : Prop} [Decidable c] (hc : ¬ c) (h : A) : if (!decide c) = true then A else B := by
  rw [decide_eq_false hc]
  exact (if_pos rfl).mpr h
theorem iteNn {c A B : Prop} [Decidable c] (hc : c) (h : B) : if (!decide c) = true then A else B := by
  rw [decide_eq_true hc]
  exact (if_neg (by decide)).mpr h
/-- signs picked one by one -/
def Picks (p : PenI) (H0 : Hp) (n : Nat) (z : Str) (D : Addr) (i : Nat) (H : Hp) : Prop := PenAt p H0 H (n + i) ∧ ∃ cs : List Nat, cs.length = i ∧ (∀ c ∈ cs, c ∈ z.cps.toList) ∧ H D = some (.lst ((cs.map sg).map V.str))
def spPiece : Sp := fun vs H Q _ => ∃ (p : PenI) (H0 : Hp) (n m : Nat) (L : List Nat), vs = [.ref p.d, .str (tx L), .int (m : Nat)] ∧ PenAt p H0 H n ∧ n < 800000 ∧ 0 < L.length ∧ L.length < 900 ∧ 1 ≤ m ∧ m ≤ 20 ∧
  ∀ H' u, PenAt p H0 H' (n + 1 + m) → 1 ≤ u.length → u.length ≤ m → (∀ c ∈ u, c ∈ L) → Q (.str (tx u)) H'
def spShuf : Sp := fun vs H Q _ => ∃ (p : PenI) (H0 : Hp) (n : Nat) (a : Addr) (us : List (List Nat)), vs = [.ref p.d, .ref a] ∧ PenAt p H0 H n ∧ n < 800000 ∧ H a = some (.lst (us.map tv)) ∧ us.length ≤ 100 ∧
  ∀ (H1 H' : Hp) (r : Addr) (ws : List (List Nat)), Ex H0 H1 → PenAt p H1 H' (n + us.length) → H0 r = none → H1 r = some (.lst (ws.map tv)) → ws.Perm us → Q (.ref r) H'
theorem erase_tv : ∀ (m : List (List Nat)) (k : Nat), (m.map tv).eraseIdx k = (m.eraseIdx k).map tv
  | [], k => by simp
  | x :: r, 0 => rfl
  | x :: r, k + 1 => by
    show tv x :: (r.map tv).eraseIdx k = tv x :: (r.eraseIdx k).map tv
    rw [erase_tv r k]
theorem perm_erase : ∀ {m : List (List Nat)} {k : Nat} {x : List Nat}, m[k]? = some x → (x :: m.eraseIdx k).Perm m
  | y :: r, 0, x, h => by
    cases h
    exact List.Perm.refl _
  | y :: r, k + 1, x, h => by
    have h2 := perm_erase (m := r) (k := k) h
    exact (List.Perm.swap _ _ _).trans (h2.cons y)
  | [], _, _, h => by simp at h
section
variable {P : Program} {w : World} {K : PySem.W.Frag} {mg : Str → Option Value} {base : Heap}
theorem ok_piece {f : Addr} {fd : FuncData} (F : Fun K "_law_piece" "_law_piece" s_lpiece f fd) (T : Tx mg) (c_ldraw : Kn P w K mg base "_law_draw" ["_law_pen_here", "_law_many"] 1 spDraw)
    (c_pickS : Kn P w K mg base "_law_pick" ["_law_pen_here", "_law_some"] 2 spPickS) : FnOk P w K mg base CX0 3 f fd ["_law_pen_here", "_law_letters_here", "_law_most"] spPiece := by
  refine F.ok sc_lpiece (fun vs H Q E h => ?_) (fun cdv A outer s H vs Q E hr h => ?_)
  · obtain ⟨p, H0, n, m, L, rfl, _⟩ := h
    rfl
  · obtain ⟨p, H0, n, mm, L, rfl, P0, hn, hz0, hz1, m1, m20, q⟩ := h
    refine ⟨_, (pss_one (ps_ret (pe_join pe_str (pe_lc (own := [("_law_k", 3)]) (g := gName 3) (tt := tYes) rfl sc_lpiece.nd (pi_range1 (by rfl) T.range (pa_cons (pe_op op_add pe_int (pe_call c_ldraw.ok (hr.mono (by decide)) (by rfl) c_ldraw.g c_ldraw.kp c_ldraw.b .nil pass0 (pa_cons (pv 0) (pa_cons (pv 2) pa_nil)))) pa_nil)) (blkOk_by (N := N_lpiece) (sc := defScope s_lpiece) (by decide +kernel)) (fun _ _ _ _ _ => (pg_name (i := 3) sc_lpiece.nd rfl (Or.inl rfl))) (fun _ _ _ _ _ => pts_nil) (fun _ _ _ _ _ => (pe_call c_pickS.ok (hr.mono (by decide)) (by rfl) c_pickS.g c_pickS.kp c_pickS.b .nil pass0 (pa_cons (pv 0) (pa_cons (pv 1) pa_nil)))))))), ?_⟩
    refine ⟨⟨_, rfl⟩, _, rfl, _, rfl, p, H0, n, mm, rfl, P0, by omega, by omega, by omega, fun H3 r3 P3 r30 r31 => ⟨_, _, rfl, rfl, _, rfl, by omega, by omega, fun D hD => ?_⟩⟩
    obtain ⟨m, hm⟩ : ∃ m : Nat, (1 + r3).toNat = m := ⟨_, rfl⟩
    rw [hm]
    have d0 := fresh0 P3 hD
    have d1 := fresh_ne P3 hD
    refine lc_range (lo := 0) (n := m) (Picks p H0 (n + 1) (tx L) D) ⟨P3.upd d0 d1, [], rfl, (fun c h => nomatch h), upd_same⟩ (fun i H hi hw => ?_) (fun H hw => ?_)
    · obtain ⟨Q1, cs, hcs, hcz, hL⟩ := hw
      refine ⟨rfl, _, rfl, _, rfl, p, upd H0 D (.lst ((cs.map sg).map V.str)), n + 1 + i, tx L, rfl, Q1.keep hL d1, by omega, by rw [tx_len]; exact hz0, by rw [tx_len]; omega, fun H5 c P5 hc => ?_⟩
      have hL5 := P5.1 _ _ upd_same
      refine ⟨_, hL5, ?_, (Q1.drop hL P5).upd d0 d1, cs ++ [c], by rw [List.length_append, hcs]; rfl, fun x hx => ?_, ?_⟩
      · rw [List.length_map, List.length_map, hcs]
        exact sz_lt (by omega)
      · rcases List.mem_append.mp hx with h | h
        · exact hcz x h
        · rw [List.mem_singleton.mp h]
          exact hc
      · rw [upd_same, ← sg_snoc]
        rfl
    · obtain ⟨Q1, cs, hcs, hcz, hL⟩ := hw
      refine ⟨_, D, cs.map sg, rfl, rfl, .inl (sq_of hL), join_bound cs (by omega), ?_⟩
      rw [join_sg]
      exact q _ cs (Q1.le (by omega)) (by omega) (by omega) hcz
theorem ok_shuf {f : Addr} {fd : FuncData} (F : Fun K "_law_shuffled" "_law_shuffled" s_lshuffled f fd) (T : Tx mg) (c_ldraw : Kn P w K mg base "_law_draw" ["_law_pen_here", "_law_many"] 1 spDraw) : FnOk P w K mg base CX0 2 f fd ["_law_pen_here", "_law_some"] spShuf := by
  refine F.ok sc_lshuffled (fun vs H Q E h => ?_) (fun cdv A outer s H vs Q E hr h => ?_)
  · obtain ⟨p, H0, n, a, ns, rfl, _⟩ := h
    rfl
  · obtain ⟨p, H0, n, a, ns, rfl, P0, hn, ha, hl, q⟩ := h
    refine ⟨_, (pss_cons (ps_par (i := 2) (j := 3) (by rfl) sc_lshuffled.nd rfl rfl (by decide) rfl rfl (pa_cons (pe_callTy call_list_of (by rfl) T.list PyProof.Rows.boot_list (pa_cons (pv 1) pa_nil)) (pa_cons (pe_lst pa_nil) pa_nil)) (by rfl))
      (pss_cons (ps_while PassesOwn.never (pt_cmpR (NL.op_neNil hr.units) (pv 2) (pe_lst pa_nil) (nomark _)) (pss_one (ps_expr (pe_bm PySem.F.plainAttrs_list PySem.F.slot_list_append PySem.F.type_list_append mt_append (pv 3) (pa_cons (pe_bm PySem.F.plainAttrs_list PySem.F.slot_list_pop PySem.F.type_list_pop mt_popAt (pv 2) (pa_cons (pe_call c_ldraw.ok (hr.mono (by decide)) (by rfl) c_ldraw.g c_ldraw.kp c_ldraw.b .nil pass0 (pa_cons (pv 0) (pa_cons (pe_callB call_len_seq (by rfl) T.len PySem.boot_len (pa_cons (pv 2) pa_nil)) pa_nil))) pa_nil)) pa_nil)))))
      (pss_one (ps_ret (pv 3))))), ?_⟩
    refine ⟨_, rfl, a, _, rfl, .inl (sq_of ha), fun l hl0 => ⟨by show 0 ≤ sizeLine; decide, fun r hr0 => ?_⟩⟩
    have l0 := fresh0 P0 hl0
    have l1 := fresh_ne P0 hl0
    have l2 := fresh_nc P0 hl0
    have P1 := P0.both (o := .lst (ns.map tv)) l1 l2
    have r0' := fresh0 P1 hr0
    have r1 := fresh_ne P1 hr0
    have r2 := fresh_nc P1 hr0
    have P2 := P1.both (o := .lst []) r1 r2
    have nlr : l ≠ r := fun z => by rw [z, upd_same] at r0'; cases r0'
    have r0 : H0 r = none := by rwa [upd_ne nlr.symm] at r0'
    refine ⟨_, _, rfl, ?_⟩
    refine ⟨fun m σ H' => ∃ (Hb : Hp) (left found : List (List Nat)), σ = [some (.ref p.d), some (.ref a), some (.ref l), some (.ref r)] ∧ Ex H0 Hb ∧ PenAt p Hb H' (n + found.length) ∧ Hb l = some (.lst (left.map tv)) ∧ Hb r = some (.lst (found.map tv)) ∧ (left ++ found).Perm ns ∧ m = left.length,
      ⟨ns.length, _, ns, [], rfl, (Ex.new l0).trans (Ex.new r0'), P2, by rw [upd_ne nlr]; exact upd_same, upd_same, by simp, rfl⟩, fun m σ H' hw => ?_⟩
    obtain ⟨Hb, left, found, rfl, e, Pb, hL, hF, perm, hm⟩ := hw
    have plen := perm.length_eq
    rw [List.length_append] at plen
    refine ⟨_, rfl, by show 0 ≤ sizeLine; decide, fun e0 he0 => ?_⟩
    have Pc := Pb.ex (Ex.new (o := .lst []) he0)
    have he1 : (L2.upd H' e0 (.lst [])) e0 = some (.lst []) := upd_same
    generalize (L2.upd H' e0 (.lst [])) = H2 at Pc he1 ⊢
    refine ⟨l, e0, _, rfl, rfl, sq_of (Pc.1 _ _ hL), sq_of he1, _, rfl, ?_⟩
    rw [List.length_map]
    by_cases hz : left.length = 0
    · refine iteNn hz ?_
      have hle : left = [] := List.length_eq_zero_iff.mp hz
      rw [hle] at perm
      exact ⟨_, rfl, q Hb H2 r found e (Pc.le (by omega)) r0 hF perm⟩
    · refine iteN hz ?_
      refine ⟨fun σ2 H3 => ∃ m', m' < m ∧ ∃ (Hb : Hp) (left found : List (List Nat)), σ2 = [some (.ref p.d), some (.ref a), some (.ref l), some (.ref r)] ∧ Ex H0 Hb ∧ PenAt p Hb H3 (n + found.length) ∧ Hb l = some (.lst (left.map tv)) ∧ Hb r = some (.lst (found.map tv)) ∧ (left ++ found).Perm ns ∧ m' = left.length, fun σ2 H2 h => h, ?_⟩
      refine ⟨_, rfl, .inl ⟨rfl, _, sq_of (Pc.1 _ _ hF)⟩, _, rfl, .inl ⟨rfl, _, sq_of (Pc.1 _ _ hL)⟩, _, rfl, _, rfl, l, _, rfl, .inl (sq_of (Pc.1 _ _ hL)), ?_⟩
      refine ⟨p, Hb, n + found.length, _, rfl, Pc, by omega, by rw [List.length_map]; omega, by rw [List.length_map]; omega, fun H4 dr P4 dr0 dr1 => ?_⟩
      rw [List.length_map] at dr1
      obtain ⟨k, rfl⟩ : ∃ k : Nat, dr = (k : Int) := ⟨dr.toNat, (Int.toNat_of_nonneg dr0).symm⟩
      have hk : k < left.length := by omega
      have hx : left[k]? = some left[k] := List.getElem?_eq_getElem hk
      obtain ⟨x, hxx⟩ : ∃ x, left[k] = x := ⟨_, rfl⟩
      rw [hxx] at hx
      have pe := perm_erase hx
      have le := pe.length_eq
      rw [List.length_cons] at le
      refine ⟨l, _, _, k, tv x, rfl, rfl, P4.1 _ _ hL, by omega, by omega, ?_, by rw [List.getElem?_map, hx]; rfl, ?_⟩
      · unfold seqIndex?
        rw [List.length_map]
        simp only []
        split <;> simp_all <;> omega
      rw [erase_tv]
      have P5 := P4.both (o := .lst ((left.eraseIdx k).map tv)) l1 l2
      have e5 : Ex H0 (L2.upd Hb l (.lst ((left.eraseIdx k).map tv))) := e.mut l0
      have hL5 : (L2.upd Hb l (.lst ((left.eraseIdx k).map tv))) l = some (.lst ((left.eraseIdx k).map tv)) := upd_same
      have hF5 : (L2.upd Hb l (.lst ((left.eraseIdx k).map tv))) r = some (.lst (found.map tv)) := by
        rw [upd_ne nlr.symm]
        exact hF
      generalize (L2.upd Hb l (.lst ((left.eraseIdx k).map tv))) = Hc at P5 e5 hL5 hF5
      have P6 := P5.both (o := .lst (found.map tv ++ [tv x])) r1 r2
      refine ⟨r, _, _, rfl, rfl, P5.1 _ _ hF5, sz_lt (by rw [List.length_map]; omega), ?_⟩
      refine ⟨m - 1, by omega, _, left.eraseIdx k, found ++ [x], rfl, e5.mut r0, by rw [List.length_append]; exact P6, by rw [upd_ne nlr]; exact hL5, ?_, ?_, by omega⟩
      · rw [upd_same, List.map_append]
        rfl
      · refine List.Perm.trans ?_ perm
        rw [← List.append_assoc]
        refine List.perm_append_comm.trans ?_
        show (x :: (left.eraseIdx k ++ found)).Perm _
        rw [← List.cons_append]
        exact pe.append_right found
end
end Law

/-! rules that are made one behind the other -/
namespace WV
open PySem PySem.Spec PyProof.Rows L2 Evl
def nmO (c f i : Nat) : T := List.replicate c (65 + (f + 5 * i) % 26)
theorem nmO_nm {c f i : Nat} (h1 : 1 ≤ c) (h3 : c ≤ 3) : Law.isNm (nmO c f i) = true := by
  unfold Law.isNm nmO
  rw [Bool.and_eq_true]
  constructor
  · rw [List.length_replicate]
    exact decide_eq_true (by omega)
  · rw [List.all_eq_true]
    intro x hx
    rw [List.eq_of_mem_replicate hx, Bool.and_eq_true]
    exact ⟨decide_eq_true (by omega), decide_eq_true (by omega)⟩
theorem nmO_ne {c d f i j : Nat} (h1 : 1 ≤ c) (h2 : 1 ≤ d) (hij : j < i) (hi : i ≤ 4) : nmO c f i ≠ nmO d f j := fun z => by
  unfold nmO at z
  obtain ⟨c', rfl⟩ : ∃ c', c = c' + 1 := ⟨c - 1, by omega⟩
  obtain ⟨d', rfl⟩ : ∃ d', d = d' + 1 := ⟨d - 1, by omega⟩
  rw [List.replicate_succ, List.replicate_succ] at z
  have := (List.cons.inj z).1
  omega
/-- rules made so far: i of them -/
structure Wq (R : Law.Ru) (L : T) (W : T → T) (rk : T → Nat) (i f : Nat) : Prop where
  len : R.length = i
  hd : ∀ r ∈ R, ∃ j c, j < i ∧ 1 ≤ c ∧ c ≤ 3 ∧ r.1 = nmO c f j
  nd : (R.map fun r => r.1).Nodup
  rb : ∀ r ∈ R, rk r.1 < i
  rows : ∀ r ∈ R, 1 ≤ r.2.length ∧ r.2.length ≤ 3
  cnt : ∀ r ∈ R, ∀ pc ∈ r.2, pc.1.length ≤ 20 ∧ 1 ≤ pc.2 ∧ pc.2 ≤ 4
  part : ∀ r ∈ R, ∀ pc ∈ r.2, (pc.1 ∈ R.map (fun r => r.1) ∧ rk pc.1 < rk r.1) ∨ (Law.isNm pc.1 = false ∧ 1 ≤ pc.1.length ∧ pc.1.length ≤ 60 ∧ ∀ c ∈ pc.1, c ∈ L)
  text : ∀ r ∈ R, W r.1 = txt W r.2
  own : ∀ u, Law.isNm u = false → W u = u
  wl : ∀ r ∈ R, 1 ≤ (W r.1).length ∧ (W r.1).length ≤ 400
theorem Wq.none (L : T) (f : Nat) : Wq [] L (fun u => u) (fun _ => 0) 0 f where
  len := rfl
  hd := fun _ h => nomatch h
  nd := List.Pairwise.nil
  rb := fun _ h => nomatch h
  rows := fun _ h => nomatch h
  cnt := fun _ h => nomatch h
  part := fun _ h => nomatch h
  text := fun _ h => nomatch h
  own := fun _ _ => rfl
  wl := fun _ h => nomatch h
def setW {α : Type} (W : T → α) (n : T) (t : α) : T → α := fun u => if u = n then t else W u
theorem setW_same {α : Type} {W : T → α} {n : T} {t : α} : setW W n t n = t := if_pos rfl
theorem setW_ne {α : Type} {W : T → α} {n u : T} {t : α} (h : u ≠ n) : setW W n t u = W u := if_neg h
theorem txt_congr {W W' : T → T} : ∀ {rows : Law.Rows}, (∀ pc ∈ rows, W' pc.1 = W pc.1) → txt W' rows = txt W rows
  | [], _ => rfl
  | pc :: rows, h => by
    have ih := txt_congr (rows := rows) fun q hq => h q (List.mem_cons_of_mem _ hq)
    unfold txt at ih ⊢
    rw [List.map_cons, List.map_cons, List.flatten_cons, List.flatten_cons, ih, h pc List.mem_cons_self]
/-- one more rule -/
theorem Wq.add {R : Law.Ru} {L : T} {W : T → T} {rk : T → Nat} {i f c : Nat} {rows : Law.Rows} (w : Wq R L W rk i f) (hi : i ≤ 4) (h1 : 1 ≤ c) (h3 : c ≤ 3) (r1 : 1 ≤ rows.length) (r3 : rows.length ≤ 3)
    (hc : ∀ pc ∈ rows, pc.1.length ≤ 20 ∧ 1 ≤ pc.2 ∧ pc.2 ≤ 4) (hp : ∀ pc ∈ rows, pc.1 ∈ R.map (fun r => r.1) ∨ (Law.isNm pc.1 = false ∧ 1 ≤ pc.1.length ∧ ∀ c ∈ pc.1, c ∈ L)) (t1 : 1 ≤ (txt W rows).length) (t4 : (txt W rows).length ≤ 400) :
    Wq (R ++ [(nmO c f i, rows)]) L (setW W (nmO c f i) (txt W rows)) (setW rk (nmO c f i) i) (i + 1) f := by
  obtain ⟨nm, hnm⟩ : ∃ nm, nmO c f i = nm := ⟨_, rfl⟩
  have nisn : Law.isNm nm = true := by rw [← hnm]; exact nmO_nm h1 h3
  have notin : nm ∉ R.map fun r => r.1 := fun z => by
    obtain ⟨r, hr, e⟩ := List.mem_map.mp z
    obtain ⟨j, d, hj, d1, d3, er⟩ := w.hd r hr
    rw [er, ← hnm] at e
    exact nmO_ne h1 d1 hj hi e.symm
  have neK : ∀ {u}, u ∈ R.map (fun r => r.1) → u ≠ nm := fun h z => notin (z ▸ h)
  have neS : ∀ {u}, Law.isNm u = false → u ≠ nm := fun h z => by rw [z, nisn] at h; cases h
  have neR : ∀ r ∈ R, ∀ pc ∈ r.2, pc.1 ≠ nm := fun r hr pc hpc => by
    rcases w.part r hr pc hpc with ⟨h, _⟩ | ⟨h, _⟩
    · exact neK h
    · exact neS h
  have neN : ∀ pc ∈ rows, pc.1 ≠ nm := fun pc hpc => by
    rcases hp pc hpc with h | ⟨h, _⟩
    · exact neK h
    · exact neS h
  rw [hnm]
  have split : ∀ {q : (T × Law.Rows) → Prop}, (∀ r ∈ R, q r) → q (nm, rows) → ∀ r ∈ R ++ [(nm, rows)], q r := fun hR hN r hr => by
    rcases List.mem_append.mp hr with z | z
    · exact hR r z
    · rw [List.mem_singleton.mp z]
      exact hN
  have inR : ∀ r ∈ R, r.1 ≠ nm := fun r hr => neK (List.mem_map_of_mem hr)
  refine ⟨by rw [List.length_append, w.len]; rfl, split (fun r hr => ?_) ⟨i, c, by omega, h1, h3, hnm.symm⟩, ?_, split (fun r hr => ?_) ?_, split w.rows ⟨r1, r3⟩, split w.cnt hc, split (fun r hr pc hpc => ?_) (fun pc hpc => ?_), split (fun r hr => ?_) ?_, fun u hu => ?_, split (fun r hr => ?_) ?_⟩
  · obtain ⟨j, d, hj, q⟩ := w.hd r hr
    exact ⟨j, d, by omega, q⟩
  · rw [List.map_append]
    refine List.nodup_append.mpr ⟨w.nd, (by show [nm].Nodup; simp), fun a ha b hb => ?_⟩
    have e : b = nm := List.mem_singleton.mp hb
    rw [e]
    exact neK ha
  · rw [setW_ne (inR r hr)]
    have := w.rb r hr
    omega
  · show setW rk nm i nm < i + 1
    rw [setW_same]
    omega
  · rcases w.part r hr pc hpc with ⟨q1, q2⟩ | q
    · refine .inl ⟨?_, ?_⟩
      · rw [List.map_append]
        exact List.mem_append_left _ q1
      · rw [setW_ne (inR r hr), setW_ne (neK q1)]
        exact q2
    · exact .inr q
  · rcases hp pc hpc with q | ⟨q1, q2, q3⟩
    · refine .inl ⟨?_, ?_⟩
      · rw [List.map_append]
        exact List.mem_append_left _ q
      · show setW rk nm i pc.1 < setW rk nm i nm
        rw [setW_same, setW_ne (neK q)]
        obtain ⟨r, hr, e⟩ := List.mem_map.mp q
        rw [← e]
        exact w.rb r hr
    · exact .inr ⟨q1, q2, by have := (hc pc hpc).1; omega, q3⟩
  · rw [setW_ne (inR r hr), w.text r hr]
    exact (txt_congr fun pc hpc => setW_ne (neR r hr pc hpc)).symm
  · show setW W nm (txt W rows) nm = _
    rw [setW_same]
    exact (txt_congr fun pc hpc => setW_ne (neN pc hpc)).symm
  · rw [setW_ne (neS hu)]
    exact w.own u hu
  · rw [setW_ne (inR r hr)]
    exact w.wl r hr
  · show 1 ≤ (setW W nm (txt W rows) nm).length ∧ _
    rw [setW_same]
    exact ⟨t1, t4⟩
theorem nm_len {u : T} (h : Law.isNm u = true) : 1 ≤ u.length ∧ u.length ≤ 8 := by
  unfold Law.isNm at h
  rw [Bool.and_eq_true] at h
  exact of_decide_eq_true h.1
/-- the rules made, whole -/
theorem Wq.all {R : Law.Ru} {L : T} {W : T → T} {rk : T → Nat} {i f : Nat} (w : Wq R L W rk i f) (h1 : 1 ≤ i) (h5 : i ≤ 5) : Wv R L W rk ∧ ∀ r ∈ R, rk r.1 ≤ 5 := by
  have nms : ∀ r ∈ R, Law.isNm r.1 = true := fun r hr => by
    obtain ⟨j, c, _, c1, c3, e⟩ := w.hd r hr
    rw [e]
    exact nmO_nm c1 c3
  have wlen : ∀ r ∈ R, ∀ pc ∈ r.2, 1 ≤ (W pc.1).length ∧ (W pc.1).length ≤ 400 := fun r hr pc hpc => by
    rcases w.part r hr pc hpc with ⟨q, _⟩ | ⟨q1, q2, q3, _⟩
    · obtain ⟨s, hs, e⟩ := List.mem_map.mp q
      rw [← e]
      exact w.wl s hs
    · rw [w.own _ q1]
      omega
  refine ⟨⟨w.nd, by rw [w.len]; exact h1, by rw [w.len]; omega, nms, fun r hr => ⟨(w.rows r hr).1, by have := (w.rows r hr).2; omega⟩, fun r hr pc hpc => ?_, fun r hr pc hpc => ?_, w.text, fun r hr pc hpc => (wlen r hr pc hpc).1⟩, fun r hr => by have := w.rb r hr; omega⟩
  · have := w.cnt r hr pc hpc
    exact ⟨by omega, by omega, by omega, .inr (by omega)⟩
  · rcases w.part r hr pc hpc with q | ⟨q1, q2, q3, q4⟩
    · exact .inl q
    · exact .inr ⟨q1, q2, q3, q4, w.own _ q1⟩
/-- the dict of texts -/
def tks (R : Law.Ru) (W : T → T) : List (Key × V) := R.map fun r => (.inr (Law.tx r.1), .str (Law.tx (W r.1)))
theorem tks_get {W : T → T} {u : T} : ∀ {R : Law.Ru}, valV (tks R W) (.inr (Law.tx u)) = if u ∈ R.map (fun r => r.1) then some (.str (Law.tx (W u))) else none
  | [] => rfl
  | r :: R => by
    have ih := tks_get (W := W) (u := u) (R := R)
    unfold tks at ih ⊢
    rw [List.map_cons]
    by_cases e : r.1 = u
    · rw [valV_pos (by show (.inr (Law.tx r.1) : Key) = _; rw [e]), if_pos (by rw [List.map_cons, e]; exact List.mem_cons_self)]
      show some (V.str (Law.tx (W r.1))) = _
      rw [e]
    · rw [valV_neg (fun z => e (key_inj z)), ih]
      by_cases q : u ∈ R.map (fun r => r.1)
      · rw [if_pos q, if_pos (by rw [List.map_cons]; exact List.mem_cons_of_mem _ q)]
      · rw [if_neg q, if_neg (by rw [List.map_cons, List.mem_cons]; exact fun z => z.elim (fun z => e z.symm) q)]
theorem rep_one (u : T) : rep 1 u = u := by
  show (List.replicate 1 u).flatten = u
  simp
theorem txt_snoc (W : T → T) (rows : Law.Rows) (pc : T × Nat) : txt W (rows ++ [pc]) = txt W rows ++ rep pc.2 (W pc.1) := by
  unfold txt
  rw [List.map_append, List.flatten_append, List.map_cons, List.map_nil, List.flatten_cons, List.flatten_nil, List.append_nil]
end WV

namespace Law
open PySem PySem.Spec PyProof.Rows L2 Evl TR GX WV
theorem ABC_at (r : Int) : ∃ c, atI (Str.ofString "ABCDEFGHIJKLMNOPQRSTUVWXYZ").cps.toList (r % 26) = some c ∧ c = 65 + (r % 26).toNat := by
  have h0 : 0 ≤ r % 26 := Int.emod_nonneg _ (by decide)
  have h1 : r % 26 < 26 := Int.emod_lt_of_pos _ (by decide)
  obtain ⟨j, hj⟩ : ∃ j : Nat, r % 26 = (j : Int) := ⟨(r % 26).toNat, (Int.toNat_of_nonneg h0).symm⟩
  have key : ∀ j : Nat, j < 26 → (Str.ofString "ABCDEFGHIJKLMNOPQRSTUVWXYZ").cps.toList[j]? = some (65 + j) := by decide +kernel
  refine ⟨65 + j, ?_, by rw [hj]; rfl⟩
  rw [hj]
  exact atI_nat (key j (by omega))
def spRules : Sp := fun vs H Q _ => ∃ (p : PenI) (H0 : Hp) (n : Nat) (L : List Nat), vs = [.ref p.d, .str (tx L), .int 400, .int 4] ∧ PenAt p H0 H n ∧ n < 700000 ∧ LG L ∧
  ∀ (Hb H' : Hp) (t d1 d2 l : Addr) (R : Ru) (W : List Nat → List Nat) (rk : List Nat → Nat) (i f : Nat) (kvs : List (Key × V)), Ex H0 Hb → PenAt p Hb H' (n + 200) → H0 d1 = none → Hb t = some (.tup [.ref d1, .ref d2, .ref l]) → Hb d1 = some (.dK kvs) → RuK Hb kvs R → Hb d2 = some (.dK (tks R W)) →
    Hb l = some (.lst ((R.map fun r => r.1).map tv)) → Wq R L W rk i f → 1 ≤ i → i ≤ 5 → Q (.ref t) H'
/-- what stands while rules are made -/
structure RuW (Hb : Hp) (d1 d2 l : Addr) (R : Ru) (W : List Nat → List Nat) (kvs : List (Key × V)) : Prop where
  d1 : Hb d1 = some (.dK kvs)
  r : RuK Hb kvs R
  d2 : Hb d2 = some (.dK (tks R W))
  l : Hb l = some (.lst ((R.map fun r => r.1).map tv))
theorem RuW.ex {Hb Hc : Hp} (e : Ex Hb Hc) {d1 d2 l : Addr} {R : Ru} {W : List Nat → List Nat} {kvs : List (Key × V)} (h : RuW Hb d1 d2 l R W kvs) : RuW Hc d1 d2 l R W kvs := ⟨e _ _ h.d1, h.r.ex e, e _ _ h.d2, e _ _ h.l⟩
theorem cut2 {A : Prop} {N : L2.St → Hp → Prop} (Pv : L2.St → Hp → Prop) (hA : (∀ σ' H', Pv σ' H' → N σ' H') → A) (rest : ∀ σ' H', Pv σ' H' → N σ' H') : A := hA rest
theorem rep_sing (n c : Nat) : (List.replicate n [c]).flatten = List.replicate n c := by
  induction n with
  | zero => rfl
  | succ n ih => rw [List.replicate_succ, List.flatten_cons, ih, List.replicate_succ]; rfl
theorem PrT.to {H H' : Hp} (k : ∀ b xs, H b = some (.tup xs) → H' b = some (.tup xs)) {v : V} {pc : List Nat × Nat} (q : PrT H v pc) : PrT H' v pc := by
  obtain ⟨b, rfl, hb⟩ := q
  exact ⟨b, rfl, k _ _ hb⟩
/-- rows stand when dicts and a list of names change -/
theorem RwA.other {H H' : Hp} {d1 d2 l : Addr} {ks1 ks2 : List (Key × V)} {us : List (List Nat)} (h1 : H d1 = some (.dK ks1)) (h2 : H d2 = some (.dK ks2)) (hl : H l = some (.lst (us.map tv))) (k : ∀ b, b ≠ d1 → b ≠ d2 → b ≠ l → H' b = H b) {v : V} {rows : Rows} (h : RwA H v rows) (hr : rows ≠ []) : RwA H' v rows := by
  have keep : ∀ {b : Addr} {kb : Bool} {xs : List V}, H b = some (ob kb xs) → (∀ us : List (List Nat), ob kb xs ≠ .lst (us.map tv)) → H' b = some (ob kb xs) := fun {b kb xs} hb hn => by
    rw [k b, hb]
    · intro z
      rw [z, h1] at hb
      cases kb <;> cases hb
    · intro z
      rw [z, h2] at hb
      cases kb <;> cases hb
    · intro z
      rw [z, hl] at hb
      exact hn us (Option.some.inj hb).symm
  obtain ⟨a, kb, xs, rfl, ha, p⟩ := h
  refine ⟨a, kb, xs, rfl, keep ha fun us z => ?_, paired_mono (fun v pc q => ?_) p⟩
  · cases p with
    | nil => exact hr rfl
    | cons q _ =>
      obtain ⟨b, k2, rfl, _⟩ := q
      cases kb
      · cases us with
        | nil => cases z
        | cons u r => cases z
      · cases z
  · obtain ⟨b, k2, rfl, hb⟩ := q
    refine ⟨b, k2, rfl, keep hb fun us z => ?_⟩
    cases k2
    · match us, z with
      | [], z => cases z
      | [u], z => cases z
      | u :: v :: r, z =>
        have := HO.lst.inj z
        rw [List.map_cons, List.map_cons] at this
        have := (List.cons.inj (List.cons.inj this).2).1
        cases this
    · cases z
theorem tks_congr {R : Ru} {W W' : List Nat → List Nat} (h : ∀ r ∈ R, W' r.1 = W r.1) : tks R W' = tks R W := by
  unfold tks
  exact List.map_congr_left fun r hr => by rw [h r hr]
theorem RuW.add {H H' : Hp} {d1 d2 l pl : Addr} {R : Ru} {W W' : List Nat → List Nat} {kvs : List (Key × V)} {nm : List Nat} {rows : Rows} {zs : List V} (h : RuW H d1 d2 l R W kvs) (hR : ∀ r ∈ R, r.2 ≠ []) (hr : rows ≠ []) (hpl : H pl = some (.lst zs)) (hp : Paired (PrT H) zs rows)
    (npl : pl ≠ l) (n21 : d2 ≠ d1) (nin : nm ∉ R.map (fun r => r.1)) (hW : ∀ r ∈ R, W' r.1 = W r.1) (k : ∀ b, b ≠ d1 → b ≠ d2 → b ≠ l → H' b = H b)
    (g1 : H' d1 = some (.dK (putK kvs (.inr (tx nm)) (.ref pl)))) (g2 : H' d2 = some (.dK (putK (tks R W) (.inr (tx nm)) (.str (tx (W' nm)))))) (g3 : H' l = some (.lst ((R.map fun r => r.1).map tv ++ [tv nm]))) :
    RuW H' d1 d2 l (R ++ [(nm, rows)]) W' (putK kvs (.inr (tx nm)) (.ref pl)) := by
  have e1 : putK kvs (.inr (tx nm)) (.ref pl) = kvs ++ [(.inr (tx nm), .ref pl)] := putK_new _ (h.r.non _ nin)
  have e2 : putK (tks R W) (.inr (tx nm)) (.str (tx (W' nm))) = tks (R ++ [(nm, rows)]) W' := by
    rw [putK_new _ (by rw [tks_get, if_neg nin]), ← tks_congr hW]
    unfold tks
    rw [List.map_append]
    rfl
  have stand : ∀ {v : V} {rs : Rows}, RwA H v rs → rs ≠ [] → RwA H' v rs := fun q hn => q.other h.d1 h.d2 h.l k hn
  have all : ∀ {ks : List (Key × V)} {S : Ru}, RuK H ks S → (∀ r ∈ S, r.2 ≠ []) → RuK H' ks S := by
    intro ks S q
    induction q with
    | nil => exact fun _ => .nil
    | cons q1 q2 ih => exact fun hn => .cons ⟨q1.1, stand q1.2 (hn _ List.mem_cons_self)⟩ (ih fun r hr => hn r (List.mem_cons_of_mem _ hr))
  refine ⟨g1, ?_, by rw [g2, e2], by rw [g3, List.map_append, List.map_append]; rfl⟩
  rw [e1]
  refine Paired.snoc (all h.r hR) ⟨rfl, stand ⟨pl, false, zs, rfl, hpl, paired_mono (fun _ _ q => q.pr) hp⟩ hr⟩
section
variable {P : Program} {w : World} {K : PySem.W.Frag} {mg : Str → Option Value} {base : Heap}
theorem ok_rules {f : Addr} {fd : FuncData} (F : Fun K "_law_rules" "_law_rules" s_lrules f fd) (T : Tx mg) (c_ldraw : Kn P w K mg base "_law_draw" ["_law_pen_here", "_law_many"] 1 spDraw) (c_pickL : Kn P w K mg base "_law_pick" ["_law_pen_here", "_law_some"] 2 spPickL)
    (c_lpiece : Kn P w K mg base "_law_piece" ["_law_pen_here", "_law_letters_here", "_law_most"] 3 spPiece) : FnOk P w K mg base CX0 4 f fd ["_law_pen_here", "_law_letters_here", "_law_most", "_law_counts"] spRules := by
  refine F.ok sc_lrules (fun vs H Q E h => ?_) (fun cdv A outer s H vs Q E hr h => ?_)
  · obtain ⟨p, H0, n, L, rfl, _⟩ := h
    rfl
  · obtain ⟨p, H0, n, L, rfl, P0, hn, hLG, q⟩ := h
    have L2' := hLG.lo
    have L4 := hLG.hi
    refine ⟨_, (pss_cons (ps_asg (pe_tup (pa_cons (pe_call c_ldraw.ok (hr.mono (by decide)) (by rfl) c_ldraw.g c_ldraw.kp c_ldraw.b .nil pass0 (pa_cons (pv 0) (pa_cons pe_int pa_nil))) (pa_cons pe_dnewK (pa_cons pe_dnewK (pa_cons (pe_lst pa_nil) pa_nil))))) (pg_tup (by rfl) (pgs_cons (pg_name (i := 4) sc_lrules.nd rfl (Or.inl rfl)) (pgs_cons (pg_name (i := 5) sc_lrules.nd rfl (Or.inl rfl)) (pgs_cons (pg_name (i := 6) sc_lrules.nd rfl (Or.inl rfl)) (pgs_cons (pg_name (i := 7) sc_lrules.nd rfl (Or.inl rfl)) pgs_nil))))))
      (pss_cons (ps_for PassesOwn.never rfl (pi_range1 (by rfl) T.range (pa_cons (pe_op op_add pe_int (pe_call c_ldraw.ok (hr.mono (by decide)) (by rfl) c_ldraw.g c_ldraw.kp c_ldraw.b .nil pass0 (pa_cons (pv 0) (pa_cons pe_int pa_nil)))) pa_nil)) (pg_name (i := 8) sc_lrules.nd rfl (Or.inl rfl)) (pss_cons (ps_set (i := 9) sc_lrules.nd rfl (Or.inl rfl) (pe_op ZS.op_mulS (pe_ix ix_str pe_str (pe_op op_mod (pe_callTy call_int1 (by rfl) T.int PyProof.Rows.boot_int (pa_cons (pe_op op_add (pv 4) (pe_op op_mul pe_int (pv 8))) pa_nil)) pe_int) (fun _ _ => rfl)) (pe_op op_add pe_int (pe_call c_ldraw.ok (hr.mono (by decide)) (by rfl) c_ldraw.g c_ldraw.kp c_ldraw.b .nil pass0 (pa_cons (pv 0) (pa_cons pe_int pa_nil))))))
      (pss_cons (ps_par (i := 10) (j := 11) (by rfl) sc_lrules.nd rfl rfl (by decide) rfl rfl (pa_cons (pe_lst pa_nil) (pa_cons pe_str pa_nil)) (by rfl))
      (pss_cons (ps_for PassesOwn.never rfl (pi_range1 (by rfl) T.range (pa_cons (pe_op op_add pe_int (pe_call c_ldraw.ok (hr.mono (by decide)) (by rfl) c_ldraw.g c_ldraw.kp c_ldraw.b .nil pass0 (pa_cons (pv 0) (pa_cons pe_int pa_nil)))) pa_nil)) (pg_name (i := 12) sc_lrules.nd rfl (Or.inl rfl)) (pss_cons (ps_set (i := 13) sc_lrules.nd rfl (Or.inl rfl) (pe_call c_pickL.ok (hr.mono (by decide)) (by rfl) c_pickL.g c_pickL.kp c_pickL.b .nil pass0 (pa_cons (pv 0) (pa_cons (pe_op op_cat (pv 7) (pe_lst (pa_cons (pe_call c_lpiece.ok (hr.mono (by decide)) (by rfl) c_lpiece.g c_lpiece.kp c_lpiece.b .nil pass0 (pa_cons (pv 0) (pa_cons (pv 1) (pa_cons pe_int pa_nil)))) pa_nil))) pa_nil))))
      (pss_cons (ps_set (i := 14) sc_lrules.nd rfl (Or.inl rfl) (pe_op op_add pe_int (pe_call c_ldraw.ok (hr.mono (by decide)) (by rfl) c_ldraw.g c_ldraw.kp c_ldraw.b .nil pass0 (pa_cons (pv 0) (pa_cons (pv 3) pa_nil)))))
      (pss_cons (ps_expr (pe_bm PySem.F.plainAttrs_list PySem.F.slot_list_append PySem.F.type_list_append mt_append (pv 10) (pa_cons (pe_tup (pa_cons (pv 13) (pa_cons (pv 14) pa_nil))) pa_nil)))
      (pss_one (ps_set (i := 11) sc_lrules.nd rfl (Or.inl rfl) (pe_op op_add_str (pv 11) (pe_op ZS.op_mulS (pe_dget2 (hu_of hr) (pv 6) (pv 13) (pv 13) ⟨rfl, rfl, rfl, rfl⟩) (pv 14)))))))))
      (pss_cons (ps_if (pt_cmpR op_gt (pe_callB call_len_str (by rfl) T.len PySem.boot_len (pa_cons (pv 11) pa_nil)) (pv 2) (nomark _)) (pss_cons (ps_set (i := 10) sc_lrules.nd rfl (Or.inl rfl) (pe_lst (pa_cons (pe_tup (pa_cons (pe_call c_lpiece.ok (hr.mono (by decide)) (by rfl) c_lpiece.g c_lpiece.kp c_lpiece.b .nil pass0 (pa_cons (pv 0) (pa_cons (pv 1) (pa_cons pe_int pa_nil)))) (pa_cons pe_int pa_nil))) pa_nil)))
      (pss_one (ps_set (i := 11) sc_lrules.nd rfl (Or.inl rfl) (pe_ix ix_tup (pe_ix ix_list (pv 10) pe_int (fun _ _ => rfl)) pe_int (fun _ _ => rfl))))) pss_nil)
      (pss_cons (ps_asg (pe_tup (pa_cons (pv 10) (pa_cons (pv 11) pa_nil))) (pg_tup (by rfl) (pgs_cons (pg_sub (pv 5) (pv 9) (set_dict (hu_of hr))) (pgs_cons (pg_sub (pv 6) (pv 9) (set_dict (hu_of hr))) pgs_nil))))
      (pss_one (ps_expr (pe_bm PySem.F.plainAttrs_list PySem.F.slot_list_append PySem.F.type_list_append mt_append (pv 7) (pa_cons (pv 9) pa_nil))))))))))
      (pss_one (ps_ret (pe_tup (pa_cons (pv 5) (pa_cons (pv 6) (pa_cons (pv 7) pa_nil)))))))), ?_⟩
    refine ⟨_, rfl, p, H0, n, 26, rfl, P0, by omega, by decide, by decide, fun H1 fr P1 f0 f1 => ?_⟩
    obtain ⟨ff, rfl⟩ : ∃ k : Nat, fr = (k : Int) := ⟨fr.toNat, (Int.toNat_of_nonneg f0).symm⟩
    intro d1 hd1
    have a0 := fresh0 P1 hd1
    have a1 := fresh_ne P1 hd1
    have a2 := fresh_nc P1 hd1
    have P2 := P1.both (o := .dK []) a1 a2
    intro d2 hd2
    have b0' := fresh0 P2 hd2
    have b1 := fresh_ne P2 hd2
    have b2 := fresh_nc P2 hd2
    have P3 := P2.both (o := .dK []) b1 b2
    have n21 : d2 ≠ d1 := fun z => by rw [z, upd_same] at b0'; cases b0'
    have b0 : H0 d2 = none := by rwa [upd_ne n21] at b0'
    refine ⟨Nat.zero_le _, fun l hl => ?_⟩
    have c0' := fresh0 P3 hl
    have c1 := fresh_ne P3 hl
    have c2 := fresh_nc P3 hl
    have P4 := P3.both (o := .lst []) c1 c2
    have nl2 : l ≠ d2 := fun z => by rw [z, upd_same] at c0'; cases c0'
    have nl1 : l ≠ d1 := fun z => by rw [z, upd_ne n21.symm, upd_same] at c0'; cases c0'
    have c0 : H0 l = none := by rwa [upd_ne nl2, upd_ne nl1] at c0'
    refine ⟨by show 4 ≤ sizeLine; decide, fun t ht => ?_⟩
    have P5 := P4.ex (Ex.new (o := .tup [V.int (ff : Nat), .ref d1, .ref d2, .ref l]) ht)
    refine ⟨t, _, rfl, .inl (.inl upd_same), rfl, _, _, rfl, _, _, rfl, _, _, rfl, _, _, rfl, rfl, ?_⟩
    generalize (upd (upd (upd (upd H1 d1 (.dK [])) d2 (.dK [])) l (.lst [])) t (.tup [V.int (ff : Nat), .ref d1, .ref d2, .ref l])) = H5 at P5 ⊢
    have e5 : Ex H0 (upd (upd (upd H0 d1 (.dK [])) d2 (.dK [])) l (.lst [])) := ((Ex.new a0).trans (Ex.new b0')).trans (Ex.new c0')
    have w5 : RuW (upd (upd (upd H0 d1 (.dK [])) d2 (.dK [])) l (.lst [])) d1 d2 l [] (fun u => u) [] := by
      refine ⟨?_, .nil, ?_, upd_same⟩
      · rw [upd_ne nl1.symm, upd_ne n21.symm]
        exact upd_same
      · rw [upd_ne nl2.symm]
        exact upd_same
    generalize (upd (upd (upd H0 d1 (.dK [])) d2 (.dK [])) l (.lst [])) = Hb5 at P5 e5 w5
    dsimp only [gName]
    refine' st_eq (σ' := [some (.ref p.d), some (.str (tx L)), some (.int 400), some (.int 4), some (.int (ff : Nat)), some (.ref d1), some (.ref d2), some (.ref l), none, none, none, none, none, none, none]) rfl ?_
    refine ⟨_, rfl, p, Hb5, n + 1, 5, rfl, P5, by omega, by decide, by decide, fun H6 r6 P6 r60 r61 => ⟨_, _, rfl, rfl, _, rfl, by omega, by omega, ?_⟩⟩
    obtain ⟨m, hm⟩ : ∃ m : Nat, (1 + r6).toNat = m := ⟨_, rfl⟩
    rw [hm]
    refine for_range (lo := 0) (n := m) (fun i σ H' => ∃ (Hb : Hp) (R : Ru) (W : List Nat → List Nat) (rk : List Nat → Nat) (kvs : List (Key × V)) (y8 y9 y10 y11 y12 y13 y14 : Option V), σ = [some (.ref p.d), some (.str (tx L)), some (.int 400), some (.int 4), some (.int (ff : Nat)), some (.ref d1), some (.ref d2), some (.ref l), y8, y9, y10, y11, y12, y13, y14] ∧
        Ex H0 Hb ∧ PenAt p Hb H' (n + 2 + 38 * i) ∧ RuW Hb d1 d2 l R W kvs ∧ Wq R L W rk i ff)
      ⟨Hb5, [], fun u => u, fun _ => 0, [], none, none, none, none, none, none, none, rfl, e5, P6, w5, Wq.none L ff⟩ (fun i σ H' hi hw => ?_) (fun σ H' hw => ?_)
    · obtain ⟨Hb, R, W, rk, kvs, y8, y9, y10, y11, y12, y13, y14, rfl, e, Pb, rw_, wq⟩ := hw
      refine ⟨_, rfl, _, rfl, _, _, rfl, rfl, .inl ⟨by decide, by decide⟩, _, _, rfl, rfl, .inl ⟨_, rfl, _, _, rfl, rfl, (by show (0 : Int) < 26; decide), ?_⟩⟩
      obtain ⟨c, hc1, hc2⟩ := ABC_at ((ff : Int) + 5 * ((0 : Int) + (i : Int)))
      refine ⟨_, _, c, rfl, rfl, by decide +kernel, hc1, ?_⟩
      refine ⟨_, rfl, p, Hb, n + 2 + 38 * i, 3, rfl, Pb, by omega, by decide, by decide, fun H7 r7 P7 r70 r71 => ⟨_, _, rfl, rfl, ?_⟩⟩
      obtain ⟨cc, hcc⟩ : ∃ k : Nat, 1 + r7 = (k : Int) := ⟨(1 + r7).toNat, (Int.toNat_of_nonneg (by omega)).symm⟩
      refine ⟨_, _, rfl, rfl, mulOk_of 16 16 (by show 1 ≤ 16; decide) (by omega) (by omega) (by decide) (by decide), ?_⟩
      have enm : Txt.mul (⟨#[c]⟩ : Str) (1 + r7) = tx (nmO cc ff i) := by
        rw [show (⟨#[c]⟩ : Str) = tx [c] from rfl, mul_tx [c] (by omega), rep_sing, hcc]
        unfold nmO
        rw [show ((cc : Int)).toNat = cc by omega, hc2]
        congr 2
        omega
      rw [enm]
      have nin : nmO cc ff i ∉ R.map fun r => r.1 := fun z => by
        obtain ⟨r, hr, e⟩ := List.mem_map.mp z
        obtain ⟨j, d, hj, d1', d3, er⟩ := wq.hd r hr
        rw [er] at e
        exact nmO_ne (by omega) d1' hj (by omega) e.symm
      obtain ⟨nm, hnm⟩ : ∃ nm, nmO cc ff i = nm := ⟨_, rfl⟩
      rw [hnm] at nin ⊢
      refine ⟨Nat.zero_le _, fun pl hpl => ⟨_, _, rfl, ?_⟩⟩
      have p0 := fresh0 P7 hpl
      have p1 := fresh_ne P7 hpl
      have p2 := fresh_nc P7 hpl
      have P8 := P7.both (o := .lst []) p1 p2
      have npl : pl ≠ l := fun z => by rw [z, rw_.l] at p0; cases p0
      dsimp only [gName]
      refine' st_eq (σ' := [some (.ref p.d), some (.str (tx L)), some (.int 400), some (.int 4), some (.int (ff : Nat)), some (.ref d1), some (.ref d2), some (.ref l), some (.int (0 + (i : Int))), some (.str (tx nm)), some (.ref pl), some (.str (Str.ofString "")), y12, y13, y14]) rfl ?_
      refine ⟨_, rfl, p, _, n + 2 + 38 * i + 1, 3, rfl, P8, by omega, by decide, by decide, fun H9 r9 P9 r90 r91 => ⟨_, _, rfl, rfl, _, rfl, by omega, by omega, ?_⟩⟩
      obtain ⟨mj, hmj⟩ : ∃ m : Nat, (1 + r9).toNat = m := ⟨_, rfl⟩
      rw [hmj]
      refine for_range (lo := 0) (n := mj) (fun j σ H' => ∃ (Hc : Hp) (rows : Rows) (zs : List V) (y12 y13 y14 : Option V), σ = [some (.ref p.d), some (.str (tx L)), some (.int 400), some (.int 4), some (.int (ff : Nat)), some (.ref d1), some (.ref d2), some (.ref l), some (.int (0 + (i : Int))), some (.str (tx nm)), some (.ref pl), some (.str (tx (txt W rows))), y12, y13, y14] ∧
          Ex Hb Hc ∧ PenAt p Hc H' (n + 2 + 38 * i + 2 + 8 * j) ∧ Hc pl = some (.lst zs) ∧ Paired (PrT Hc) zs rows ∧ rows.length = j ∧ (∀ pc ∈ rows, pc.1.length ≤ 20 ∧ 1 ≤ pc.2 ∧ pc.2 ≤ 4) ∧ (∀ pc ∈ rows, pc.1 ∈ R.map (fun r => r.1) ∨ (isNm pc.1 = false ∧ 1 ≤ pc.1.length ∧ ∀ c ∈ pc.1, c ∈ L)) ∧ (txt W rows).length ≤ 1600 * j ∧ (1 ≤ j → 1 ≤ (txt W rows).length))
        ⟨_, [], [], y12, y13, y14, by rw [show tx (txt W []) = Str.ofString "" from (show tx [] = Str.ofString "" by decide +kernel)], Ex.new p0, P9, upd_same, .nil, rfl, (fun _ h => nomatch h), (fun _ h => nomatch h), Nat.le_refl _, (fun z => absurd z (by omega))⟩ (fun j σ H' hj hw => ?_) (fun σ H' hw => ?_)
      · obtain ⟨Hc, rows, zs, y12, y13, y14, rfl, ec, Pc, hz, hp, hrl, hrc, hrp, ht1, ht2⟩ := hw
        have rwc := rw_.ex ec
        have zl : zs.length = rows.length := hp.length
        refine ⟨_, rfl, _, rfl, _, rfl, _, rfl, p, Hc, _, 5, L, rfl, Pc, by omega, by omega, by omega, by decide, by decide, fun H10 u P10 u1 u5 uL => ⟨by show 1 ≤ sizeLine; decide, fun ql hql => ?_⟩⟩
        have P11 := P10.ex (Ex.new (o := .lst [.str (tx u)]) hql)
        have hq1 : (upd H10 ql (.lst [.str (tx u)])) ql = some (.lst [.str (tx u)]) := upd_same
        generalize (upd H10 ql (.lst [.str (tx u)])) = H11 at P11 hq1 ⊢
        refine ⟨l, ql, _, _, rfl, rfl, P11.1 _ _ rwc.l, hq1, ?_, fun cl hcl => ?_⟩
        · rw [List.length_map, List.length_map, wq.len]
          exact Nat.le_of_lt (sz_lt (show i + 1 < 100000 by omega))
        have P12 := P11.ex (Ex.new (o := .lst ((R.map fun r => r.1).map tv ++ [.str (tx u)])) hcl)
        refine ⟨p, Hc, cl, _, _, rfl, P12, by omega, upd_same, ?_, ?_, fun H13 v P13 hv => ?_⟩
        · rw [List.length_append]
          show 0 < _ + 1
          omega
        · rw [List.length_append, List.length_map, List.length_map, wq.len]
          show i + 1 < 1000
          omega
        obtain ⟨x, rfl, hx, hxl⟩ : ∃ x : List Nat, v = .str (tx x) ∧ (x ∈ R.map (fun r => r.1) ∨ (isNm x = false ∧ 1 ≤ x.length ∧ ∀ c ∈ x, c ∈ L)) ∧ x.length ≤ 20 := by
          rcases List.mem_append.mp hv with z | z
          · obtain ⟨x, hx, e⟩ := List.mem_map.mp z
            refine ⟨x, e.symm, .inl hx, ?_⟩
            obtain ⟨r, hr, e2⟩ := List.mem_map.mp hx
            obtain ⟨j2, d, hj2, d1', d3, er⟩ := wq.hd r hr
            have := (nm_len (nmO_nm (c := d) (f := ff) (i := j2) d1' d3)).2
            rw [← er, e2] at this
            omega
          · refine ⟨u, List.mem_singleton.mp z, .inr ⟨?_, u1, uL⟩, by omega⟩
            unfold isNm
            rw [Bool.and_eq_false_iff]
            refine .inr ?_
            rw [List.all_eq_false]
            obtain ⟨c, ur, rfl⟩ : ∃ c ur, u = c :: ur := by
              cases u with
              | nil => simp at u1
              | cons c ur => exact ⟨c, ur, rfl⟩
            refine ⟨c, List.mem_cons_self, ?_⟩
            have := (hLG.az c (uL c List.mem_cons_self)).1
            rw [decide_eq_false (p := c ≤ 90) (by omega), Bool.and_false]
            simp
        have hWx : 1 ≤ (W x).length ∧ (W x).length ≤ 400 := by
          rcases hx with z | ⟨z, z1, _⟩
          · obtain ⟨r, hr, e⟩ := List.mem_map.mp z
            rw [← e]
            exact wq.wl r hr
          · rw [wq.own x z]
            omega
        refine ⟨_, rfl, _, rfl, p, Hc, _, 4, rfl, P13, by omega, by decide, by decide, fun H14 r14 P14 r140 r141 => ⟨_, _, rfl, rfl, ?_⟩⟩
        obtain ⟨ct, hct⟩ : ∃ k : Nat, 1 + r14 = (k : Int) := ⟨(1 + r14).toNat, (Int.toNat_of_nonneg (by omega)).symm⟩
        dsimp only [gName]
        rw [hct]
        refine' st_eq (σ' := [some (.ref p.d), some (.str (tx L)), some (.int 400), some (.int 4), some (.int (ff : Nat)), some (.ref d1), some (.ref d2), some (.ref l), some (.int (0 + (i : Int))), some (.str (tx nm)), some (.ref pl), some (.str (tx (txt W rows))), some (.int (0 + (j : Int))), some (.str (tx x)), some (.int (ct : Nat))]) rfl ?_
        refine ⟨_, rfl, .inl ⟨rfl, _, sq_of (P14.1 _ _ hz)⟩, _, rfl, _, rfl, by show 2 ≤ sizeLine; decide, fun q hq => ?_⟩
        have q0 := fresh0 P14 hq
        have P15 := P14.both (o := .tup [.str (tx x), .int (ct : Nat)]) (fresh_ne P14 hq) (fresh_nc P14 hq)
        have eq_ := Ex.new (o := .tup [.str (tx x), .int (ct : Nat)]) q0
        have hz15 := eq_ _ _ hz
        have ptq : PrT (upd Hc q (.tup [.str (tx x), .int (ct : Nat)])) (.ref q) (x, ct) := ⟨q, rfl, upd_same⟩
        have hp15 := paired_mono (fun _ _ y => PrT.ex eq_ y) hp
        have ec15 := ec.trans eq_
        generalize (upd Hc q (.tup [.str (tx x), .int (ct : Nat)])) = Hd at P15 hz15 ptq hp15 ec15
        generalize (upd H14 q (.tup [.str (tx x), .int (ct : Nat)])) = H15 at P15 ⊢
        refine ⟨pl, _, _, rfl, rfl, P15.1 _ _ hz15, sz_lt (by omega), ?_⟩
        have P16 := P15.both (o := .lst (zs ++ [.ref q])) p1 p2
        have rwd := rw_.ex (ec15.mut (o := .lst (zs ++ [.ref q])) p0)
        have hd16 := P16.1 _ _ rwd.d2
        refine ⟨_, rfl, _, rfl, d2, rfl, .inl ⟨_, .inl hd16⟩, _, rfl, _, rfl, _, DGet.k (k := .inr (tx x)) hd16, ?_⟩
        have eg : (valV (tks R W) (.inr (tx x))).getD (.str (tx x)) = .str (tx (W x)) := by
          rw [tks_get]
          rcases hx with z | ⟨z, _⟩
          · rw [if_pos z]
            rfl
          · rw [if_neg (fun y => by
              obtain ⟨r, hr, e⟩ := List.mem_map.mp y
              obtain ⟨j2, d, hj2, d1', d3, er⟩ := wq.hd r hr
              have := nmO_nm (c := d) (f := ff) (i := j2) d1' d3
              rw [← er, e, z] at this
              cases this), wq.own x z]
            rfl
        rw [eg]
        refine ⟨_, rfl, _, _, rfl, rfl, mulOk_of 400 16 (by rw [tx_len]; omega) (by omega) (by omega) (by decide) (by decide), _, _, rfl, rfl, ?_, ?_⟩
        · rw [mul_tx _ (by omega), tx_len, tx_len, rep_len, show ((ct : Int)).toNat = ct by omega]
          have : ct * (W x).length ≤ 4 * 400 := Nat.mul_le_mul (by omega) hWx.2
          exact Nat.le_of_lt (sz_lt (by omega))
        have esn : tx (txt W rows) ++ Txt.mul (tx (W x)) (ct : Int) = tx (txt W (rows ++ [(x, ct)])) := by
          rw [mul_tx _ (by omega), tx_app, txt_snoc]
          rfl
        rw [esn]
        refine ⟨_, rows ++ [(x, ct)], zs ++ [.ref q], _, _, _, rfl, ec15.mut p0, P16.le (by omega), upd_same, ?_, ?_, ?_, ?_, ?_, fun _ => ?_⟩
        · exact (paired_mono (fun _ _ y => PrT.upd hz15 y) hp15).snoc (PrT.upd hz15 ptq)
        · rw [List.length_append, hrl]
          rfl
        · intro pc hpc
          rcases List.mem_append.mp hpc with z | z
          · exact hrc pc z
          · rw [List.mem_singleton.mp z]
            exact ⟨hxl, by omega, by omega⟩
        · intro pc hpc
          rcases List.mem_append.mp hpc with z | z
          · exact hrp pc z
          · rw [List.mem_singleton.mp z]
            exact hx
        · rw [txt_snoc, List.length_append, WV.rep_len]
          have : ct * (W x).length ≤ 4 * 400 := Nat.mul_le_mul (by omega) hWx.2
          show (txt W rows).length + ct * (W x).length ≤ _
          omega
        · rw [txt_snoc, List.length_append, WV.rep_len]
          have : 1 * 1 ≤ ct * (W x).length := Nat.mul_le_mul (by omega) hWx.1
          show 1 ≤ (txt W rows).length + ct * (W x).length
          omega
      · obtain ⟨Hc, rows, zs, y12, y13, y14, rfl, ec, Pc, hz, hp, hrl, hrc, hrp, ht1, ht2⟩ := hw
        have rwc := rw_.ex ec
        have hm1 : 1 ≤ mj := by omega
        have hm3 : mj ≤ 3 := by omega
        refine' cut2 (fun σ' H2 => ∃ (Hc : Hp) (rows : Rows) (zs : List V) (pl : Addr) (y12 y13 y14 : Option V), σ' = [some (.ref p.d), some (.str (tx L)), some (.int 400), some (.int 4), some (.int (ff : Nat)), some (.ref d1), some (.ref d2), some (.ref l), some (.int (0 + (i : Int))), some (.str (tx nm)), some (.ref pl), some (.str (tx (txt W rows))), y12, y13, y14] ∧
          Ex H0 Hc ∧ PenAt p Hc H2 (n + 2 + 38 * i + 36) ∧ RuW Hc d1 d2 l R W kvs ∧ pl ≠ l ∧ Hc pl = some (.lst zs) ∧ Paired (PrT Hc) zs rows ∧ 1 ≤ rows.length ∧ rows.length ≤ 3 ∧ (∀ pc ∈ rows, pc.1.length ≤ 20 ∧ 1 ≤ pc.2 ∧ pc.2 ≤ 4) ∧ (∀ pc ∈ rows, pc.1 ∈ R.map (fun r => r.1) ∨ (isNm pc.1 = false ∧ 1 ≤ pc.1.length ∧ ∀ c ∈ pc.1, c ∈ L)) ∧ 1 ≤ (txt W rows).length ∧ (txt W rows).length ≤ 400)
          (fun rest => ?_) ?_
        rotate_left
        · refine ⟨_, rfl, _, rfl, ?_, _, rfl, _, _, rfl, rfl, _, rfl, ite2 (fun hb => ?_) (fun hb => ?_)⟩
          · rw [tx_len]
            exact Nat.le_of_lt (sz_lt (by omega))
          · refine ⟨_, rfl, _, rfl, p, Hc, _, 9, L, rfl, Pc, by omega, by omega, by omega, by decide, by decide, fun H10 u P10 u1 u9 uL => ⟨by show 2 ≤ sizeLine; decide, fun q hq => ?_⟩⟩
            have q0 := fresh0 P10 hq
            have P11 := P10.both (o := .tup [.str (tx u), .int 1]) (fresh_ne P10 hq) (fresh_nc P10 hq)
            have e11 := Ex.new (o := .tup [.str (tx u), .int 1]) q0
            refine ⟨by show 1 ≤ sizeLine; decide, fun pl2 hpl2 => ?_⟩
            have g0 := fresh0 P11 hpl2
            have P12 := P11.both (o := .lst [.ref q]) (fresh_ne P11 hpl2) (fresh_nc P11 hpl2)
            have e12 := e11.trans (Ex.new (o := .lst [.ref q]) g0)
            have hpl3 : (upd (upd Hc q (.tup [.str (tx u), .int 1])) pl2 (.lst [.ref q])) pl2 = some (.lst [.ref q]) := upd_same
            have hq3 : (upd (upd Hc q (.tup [.str (tx u), .int 1])) pl2 (.lst [.ref q])) q = some (.tup [.str (tx u), .int 1]) := (Ex.new g0) _ _ upd_same
            generalize (upd (upd Hc q (.tup [.str (tx u), .int 1])) pl2 (.lst [.ref q])) = Hd at P12 e12 hpl3 hq3
            generalize (upd (upd H10 q (.tup [.str (tx u), .int 1])) pl2 (.lst [.ref q])) = H12 at P12 ⊢
            dsimp only [gName]
            refine ⟨_, rfl, pl2, _, _, _, rfl, rfl, sq_of (P12.1 _ _ hpl3), rfl, q, _, _, _, rfl, rfl, st_of (P12.1 _ _ hq3), rfl, ?_⟩
            have unm : isNm u = false := by
              unfold isNm
              rw [Bool.and_eq_false_iff]
              refine .inr ?_
              rw [List.all_eq_false]
              obtain ⟨c, ur, rfl⟩ : ∃ c ur, u = c :: ur := by
                cases u with
                | nil => simp at u1
                | cons c ur => exact ⟨c, ur, rfl⟩
              refine ⟨c, List.mem_cons_self, ?_⟩
              have := (hLG.az c (uL c List.mem_cons_self)).1
              rw [decide_eq_false (p := c ≤ 90) (by omega), Bool.and_false]
              simp
            have etx : txt W [(u, 1)] = u := by
              show (rep 1 (W u) ++ []) = u
              rw [List.append_nil, rep_one, wq.own u unm]
            have npl2 : pl2 ≠ l := fun z => by
              rw [z, e11 _ _ rwc.l] at g0
              cases g0
            dsimp only [gName]
            refine' st_eq (σ' := [some (.ref p.d), some (.str (tx L)), some (.int 400), some (.int 4), some (.int (ff : Nat)), some (.ref d1), some (.ref d2), some (.ref l), some (.int (0 + (i : Int))), some (.str (tx nm)), some (.ref pl2), some (.str (tx u)), y12, y13, y14]) rfl ?_
            refine rest _ _ ⟨Hd, [(u, 1)], [.ref q], pl2, y12, y13, y14, (by rw [etx]), (e.trans ec).trans e12, P12.le (by omega), rwc.ex e12, npl2, hpl3, .cons ⟨q, rfl, hq3⟩ .nil, Nat.le_refl _, (by show 1 ≤ 3; decide), fun pc hpc => ?_, fun pc hpc => ?_, by rw [etx]; omega, by rw [etx]; omega⟩
            · rw [List.mem_singleton.mp hpc]
              exact ⟨by show u.length ≤ 20; omega, Nat.le_refl 1, (by show 1 ≤ 4; decide)⟩
            · rw [List.mem_singleton.mp hpc]
              exact .inr ⟨unm, u1, uL⟩
          · have hle : ¬ (400 : Int) < ((tx (txt W rows)).length : Nat) := fun z => hb (decide_eq_true z)
            rw [tx_len] at hle
            exact rest _ _ ⟨Hc, rows, zs, pl, y12, y13, y14, rfl, e.trans ec, Pc.le (by omega), rwc, npl, hz, hp, by omega, by omega, hrc, hrp, ht2 hm1, by omega⟩
        · rintro σ' H2 ⟨Hc, rows, zs, pl, y12, y13, y14, rfl, ec, Pc, rwc, npl, hz, hp, hr1, hr3, hrc, hrp, t1, t4⟩
          have dd1 : d1 ≠ p.d := a1
          refine ⟨_, rfl, _, rfl, by show 2 ≤ sizeLine; decide, fun q hq => ?_⟩
          have q0 := fresh0 Pc hq
          have P3 := Pc.ex (Ex.new (o := .tup [.ref pl, .str (tx (txt W rows))]) hq)
          have hq2 : (upd H2 q (.tup [.ref pl, .str (tx (txt W rows))])) q = some (.tup [.ref pl, .str (tx (txt W rows))]) := upd_same
          generalize (upd H2 q (.tup [.ref pl, .str (tx (txt W rows))])) = H3 at P3 hq2 ⊢
          have klen : kvs.length = R.length := rwc.r.length
          have tlen : (tks R W).length = R.length := List.length_map ..
          refine ⟨q, _, rfl, .inl (.inl hq2), rfl, _, _, rfl, _, rfl, _, rfl, d1, _, rfl, DPut.k (k := .inr (tx nm)) (P3.1 _ _ rwc.d1) (sz_lt (by rw [klen, wq.len]; omega)), ?_⟩
          have P4 := P3.both (o := .dK (putK kvs (.inr (tx nm)) (.ref pl))) a1 a2
          have hd2 : (upd Hc d1 (.dK (putK kvs (.inr (tx nm)) (.ref pl)))) d2 = some (.dK (tks R W)) := by rw [upd_ne n21]; exact rwc.d2
          refine ⟨_, _, rfl, _, rfl, _, rfl, d2, _, rfl, DPut.k (k := .inr (tx nm)) (P4.1 _ _ hd2) (sz_lt (by rw [tlen, wq.len]; omega)), rfl, ?_⟩
          have P5' := P4.both (o := .dK (putK (tks R W) (.inr (tx nm)) (.str (tx (txt W rows))))) b1 b2
          have hl5 : (upd (upd Hc d1 (.dK (putK kvs (.inr (tx nm)) (.ref pl)))) d2 (.dK (putK (tks R W) (.inr (tx nm)) (.str (tx (txt W rows)))))) l = some (.lst ((R.map fun r => r.1).map tv)) := by
            rw [upd_ne nl2, upd_ne nl1]
            exact rwc.l
          refine ⟨_, rfl, .inl ⟨rfl, _, sq_of (P5'.1 _ _ hl5)⟩, _, rfl, l, _, _, rfl, rfl, P5'.1 _ _ hl5, ?_, ?_⟩
          · rw [List.length_map, List.length_map, wq.len]
            exact sz_lt (by omega)
          have P6' := P5'.both (o := .lst ((R.map fun r => r.1).map tv ++ [.str (tx nm)])) c1 c2
          have wq2 := wq.add (c := cc) (rows := rows) (by omega) (by omega) (by omega) hr1 hr3 hrc hrp t1 t4
          rw [hnm] at wq2
          refine ⟨_, R ++ [(nm, rows)], setW W nm (txt W rows), setW rk nm i, putK kvs (.inr (tx nm)) (.ref pl), _, _, _, _, _, _, _, rfl, ((ec.mut a0).mut b0).mut c0, P6'.le (by omega), ?_, wq2⟩
          refine RuW.add rwc (fun r hr z => ?_) (fun z => ?_) hz hp npl n21 nin (fun r hr => setW_ne (fun z => nin (by rw [← z]; exact List.mem_map_of_mem hr))) (fun b h1 h2 h3 => ?_) ?_ ?_ upd_same
          · have := (wq.rows r hr).1
            rw [z] at this
            cases this
          · rw [z] at hr1
            cases hr1
          · rw [upd_ne h3, upd_ne h2, upd_ne h1]
          · rw [upd_ne nl1.symm, upd_ne n21.symm]
            exact upd_same
          · rw [upd_ne nl2.symm, upd_same, setW_same]
    · obtain ⟨Hb, R, W, rk, kvs, y8, y9, y10, y11, y12, y13, y14, rfl, e, Pb, rw_, wq⟩ := hw
      refine ⟨_, rfl, _, rfl, _, rfl, by show 3 ≤ sizeLine; decide, fun t2 ht2 => ?_⟩
      have Pt := Pb.both (o := .tup [.ref d1, .ref d2, .ref l]) (fresh_ne Pb ht2) (fresh_nc Pb ht2)
      have et := Ex.new (o := .tup [.ref d1, .ref d2, .ref l]) (fresh0 Pb ht2)
      have rt := rw_.ex et
      exact q _ _ t2 d1 d2 l R W rk m ff kvs (e.trans et) (Pt.le (by omega)) a0 upd_same rt.d1 rt.r rt.d2 rt.l wq (by omega) (by omega)
end
end Law

namespace TR
open PySem PySem.Spec L2 Evl
def rListOf (K : PySem.W.Frag) : List V → Hp → VK → Prop := fun xs H Q =>
  ∃ p ys, xs = [.ref p] ∧ (SqL K H p ys ∨ SqT K H p ys) ∧ ∀ l, H l = none → Q (.ref l) (upd H l (.lst ys))
end TR
namespace WV
open PySem PySem.Spec PyProof.Rows L2 Evl
theorem Wv.perm {R S : Law.Ru} {L : T} {W : T → T} {rk : T → Nat} (w : Wv R L W rk) (hS : ∀ s ∈ S, s ∈ R) (hp : (S.map fun r => r.1).Perm (R.map fun r => r.1)) : Wv S L W rk where
  nd := hp.nodup_iff.mpr w.nd
  lo := by
    have := hp.length_eq
    rw [List.length_map, List.length_map] at this
    rw [this]
    exact w.lo
  hi := by
    have := hp.length_eq
    rw [List.length_map, List.length_map] at this
    rw [this]
    exact w.hi
  nm := fun r hr => w.nm r (hS r hr)
  rows := fun r hr => w.rows r (hS r hr)
  cnt := fun r hr => w.cnt r (hS r hr)
  part := fun r hr pc hpc => (w.part r (hS r hr) pc hpc).elim (fun z => .inl ⟨hp.mem_iff.mpr z.1, z.2⟩) .inr
  text := fun r hr => w.text r (hS r hr)
  pos := fun r hr => w.pos r (hS r hr)
end WV
namespace Law
open PySem PySem.Spec PyProof.Rows L2 Evl TR GX WV
def spMixed : Sp := fun vs H Q _ => ∃ (p : PenI) (H0 : Hp) (n : Nat) (d : Addr) (kvs : List (Key × V)) (R : Ru), vs = [.ref p.d, .ref d] ∧ PenAt p H0 H n ∧ n < 700000 ∧ H0 d = some (.dK kvs) ∧ RuK H0 kvs R ∧ (R.map fun r => r.1).Nodup ∧ R.length ≤ 5 ∧ (∀ r ∈ R, r.2.length ≤ 3) ∧
  ∀ (Hb H' : Hp) (m : Addr) (ks : List (Key × V)) (S : Ru), Ex H0 Hb → PenAt p Hb H' (n + 30) → H0 m = none → Hb m = some (.dK ks) → RuK Hb ks S → (∀ s ∈ S, s ∈ R) → (S.map fun r => r.1).Perm (R.map fun r => r.1) → (∀ kv ∈ ks, ∀ a, kv.2 = .ref a → H0 a = none) → Q (.ref m) H'
theorem putK_mem {kvs : List (Key × V)} {k : Key} {v : V} (h : valV kvs k = none) {x : Key × V} (hx : x ∈ putK kvs k v) : x ∈ kvs ∨ x = (k, v) := by
  rw [putK_new v h] at hx
  rcases List.mem_append.mp hx with z | z
  · exact .inl z
  · exact .inr (List.mem_singleton.mp z)
section
variable {P : Program} {w : World} {K : PySem.W.Frag} {mg : Str → Option Value} {base : Heap}
theorem ok_mixed {f : Addr} {fd : FuncData} (F : Fun K "_law_mixed" "_law_mixed" s_lmixed f fd) (T : Tx mg) (c_pickL : Kn P w K mg base "_law_pick" ["_law_pen_here", "_law_some"] 2 spPickL) (c_lshuffled : Kn P w K mg base "_law_shuffled" ["_law_pen_here", "_law_some"] 2 spShuf) :
    FnOk P w K mg base CX0 3 f fd ["_law_pen_here", "_law_rules_here"] spMixed := by
  refine F.ok sc_lmixed (fun vs H Q E h => ?_) (fun cdv A outer s H vs Q E hr h => ?_)
  · obtain ⟨p, H0, n, d, kvs, R, rfl, _⟩ := h
    rfl
  · obtain ⟨p, H0, n, d, kvs, R, rfl, P0, hn, hd, hR, nd, r5, r3, q⟩ := h
    refine ⟨_, (pss_cons (ps_set (i := 2) sc_lmixed.nd rfl (Or.inl rfl) pe_dnewK)
      (pss_cons (ps_for PassesOwn.never rfl (pi_list (pe_call c_lshuffled.ok (hr.mono (by decide)) (by rfl) c_lshuffled.g c_lshuffled.kp c_lshuffled.b .nil pass0 (pa_cons (pv 0) (pa_cons (pe_callTy (call_listD rfl) (by rfl) T.list PyProof.Rows.boot_list (pa_cons (pv 1) pa_nil)) pa_nil)))) (pg_name (i := 3) sc_lmixed.nd rfl (Or.inl rfl)) (pss_cons (ps_setLc (i := 4) (own := [("_law_pair", 5)]) (g := gName 5) (tt := tYes) rfl sc_lmixed.nd rfl rfl (sw_true rfl rfl rfl (by decide +kernel)) (TR.pi_seq (pe_dget (hu_of hr) (pv 1) (pv 3) (fun _ _ => rfl))) (blkOk_by (N := N_lmixed) (sc := defScope s_lmixed) (by decide +kernel)) (fun _ _ _ _ _ => (pg_name (i := 5) sc_lmixed.nd rfl (Or.inl rfl))) (fun _ _ _ _ _ => pts_nil) (fun _ _ _ _ _ => (pe_call c_pickL.ok (hr.mono (by decide)) (by rfl) c_pickL.g c_pickL.kp c_pickL.b .nil pass0 (pa_cons (pv 0) (pa_cons (pe_lst (pa_cons (pe_callTy (show CallR _ _ (TR.rTupOf K) from call_tuple_of) (by rfl) T.tuple PyProof.Rows.boot_tuple (pa_cons (pv 5) pa_nil)) (pa_cons (pe_callTy (show CallR _ _ (TR.rListOf K) from call_list_of) (by rfl) T.list PyProof.Rows.boot_list (pa_cons (pv 5) pa_nil)) pa_nil))) pa_nil)))))
      (pss_one (ps_dput (hu_of hr) (pv 2) (pv 3) (pe_call c_pickL.ok (hr.mono (by decide)) (by rfl) c_pickL.g c_pickL.kp c_pickL.b .nil pass0 (pa_cons (pv 0) (pa_cons (pe_lst (pa_cons (pv 4) (pa_cons (pe_callTy call_tuple_of (by rfl) T.tuple PyProof.Rows.boot_tuple (pa_cons (pv 4) pa_nil)) pa_nil))) pa_nil))) rfl))))
      (pss_one (ps_ret (pv 2))))), ?_⟩
    intro m hm
    have m0 := fresh0 P0 hm
    have m1 := fresh_ne P0 hm
    have m2 := fresh_nc P0 hm
    have P1 := P0.both (o := .dK []) m1 m2
    have e1 := Ex.new (o := .dK []) m0
    have klen : kvs.length = R.length := hR.length
    refine ⟨_, rfl, _, rfl, d, kvs, rfl, .inl (P1.1 _ _ (e1 _ _ hd)), fun ll hll => ?_⟩
    have P2 := P1.ex (Ex.new (o := .lst (kvs.map fun kv => kV kv.1)) hll)
    have hl2 : (upd (upd H m (.dK [])) ll (.lst (kvs.map fun kv => kV kv.1))) ll = some (.lst ((R.map fun r => r.1).map tv)) := by
      rw [upd_same, hR.names, List.map_map]
      rfl
    generalize (upd (upd H m (.dK [])) ll (.lst (kvs.map fun kv => kV kv.1))) = H2 at P2 hl2 ⊢
    refine ⟨p, _, n, ll, _, rfl, P2, by omega, hl2, by rw [List.length_map]; omega, fun H3 H4 r ws e3 P3 r0 hr3 perm => ?_⟩
    rw [List.length_map] at P3
    have hm3 := e3 _ _ (show (upd H0 m (.dK [])) m = some (.dK []) from upd_same)
    have e03 := e1.trans e3
    have nrm : r ≠ m := fun z => by rw [z, upd_same] at r0; cases r0
    have r0' : H0 r = none := by rwa [upd_ne nrm] at r0
    refine ⟨r, rfl, ⟨_, sq_of (P3.1 _ _ hr3)⟩, ?_⟩
    have plen := perm.length_eq
    rw [List.length_map] at plen
    refine for_list (xs := ws.map tv) (fun i σ H' => ∃ (Hb : Hp) (ks : List (Key × V)) (S : Ru) (y3 y4 y5 : Option V), σ = [some (.ref p.d), some (.ref d), some (.ref m), y3, y4, y5] ∧ Ex H0 Hb ∧ PenAt p Hb H' (n + R.length + 4 * i) ∧ Hb r = some (.lst (ws.map tv)) ∧ Hb m = some (.dK ks) ∧ RuK Hb ks S ∧
        (∀ s ∈ S, s ∈ R) ∧ S.map (fun r => r.1) = ws.take i ∧ (∀ kv ∈ ks, ∀ a, kv.2 = .ref a → H0 a = none))
      ⟨H3, [], [], none, none, none, rfl, e03, P3, hr3, hm3, .nil, (fun _ h => nomatch h), rfl, (fun _ h => nomatch h)⟩ (fun i σ H' _ p => by
        obtain ⟨Hb, ks, S, y3, y4, y5, _, _, Pb, hrb, _⟩ := p
        exact sq_of (Pb.1 _ _ hrb)) (fun i x σ H' hi hw => ?_) (fun σ H' hw => ?_)
    · obtain ⟨Hb, ks, S, y3, y4, y5, rfl, eb, Pb, hrb, hmb, hS, hSR, hSn, hfr⟩ := hw
      rw [List.getElem?_map] at hi
      obtain ⟨nm, hnm, rfl⟩ := Option.map_eq_some_iff.mp hi
      have hil := (List.getElem?_eq_some_iff.mp hnm).1
      obtain ⟨rr, hrr, rfl⟩ := List.mem_map.mp (perm.mem_iff.mp (List.mem_of_getElem? hnm))
      obtain ⟨v2, hval, a, kb, xs, rfl, ha, hx⟩ := hR.get nd rr hrr
      have hxl : xs.length = rr.2.length := hx.length
      have hrows := r3 rr hrr
      dsimp only [gName]
      refine' st_eq (σ' := [some (.ref p.d), some (.ref d), some (.ref m), some (.str (tx rr.1)), y4, y5]) rfl ?_
      refine inS (Pb.1 _ _ (eb _ _ ha)) (fun Q' hQ => ⟨_, rfl, _, rfl, d, _, rfl, by rw [← hval]; exact DGet.k (k := .inr (tx rr.1)) (Pb.1 _ _ (eb _ _ hd)), hQ⟩) (fun J w2 => fun D hD => ?_)
      have d0 := fresh0 Pb hD
      have d1 := fresh_ne Pb hD
      have d2 := fresh_nc Pb hD
      have PD := Pb.both (o := .lst []) d1 d2
      refine out_it w2 (fun j H5 => ∃ (Hc : Hp) (zs : List V), Ex Hb Hc ∧ PenAt p Hc H5 (n + R.length + 4 * i + j) ∧ Hc D = some (.lst zs) ∧ Paired (fun v pc => PrA Hc v pc ∧ v ≠ .ref D) zs (rr.2.take j)) ⟨_, [], Ex.new d0, PD, upd_same, .nil⟩ (fun j H5 _ hw => by
          obtain ⟨Hc, zs, ec, Pc, _⟩ := hw
          exact Pc.1 _ _ (ec _ _ (eb _ _ ha))) (fun j x H5 H6 hj hw hy => ?_) (fun H5 hw => ?_)
      · obtain ⟨Hc, zs, ec, Pc, hz, hp⟩ := hw
        obtain ⟨rfl, hy⟩ := hy
        obtain ⟨pc, hpc, b, kb2, rfl, hb⟩ := paired_get hx hy
        have hjl := (List.getElem?_eq_some_iff.mp hpc).1
        have zl : zs.length = (rr.2.take j).length := hp.length
        rw [List.length_take] at zl
        have hbc := ec _ _ (eb _ _ hb)
        have nbD : b ≠ D := fun z => by rw [z] at hb; rw [eb _ _ hb] at d0; cases d0
        -- the pair as a tuple and as a list
        have fin : ∀ (Hd : Hp) (H7 : Hp) (t : Addr), Ex Hc Hd → PenAt p Hd H7 (n + R.length + 4 * i + j) → Hd D = some (.lst zs) → Hd t = some (.tup [.str (tx pc.1), .int (pc.2 : Nat)]) → ∀ q, H7 q = none → ∀ l2, (upd H7 q (.lst [.str (tx pc.1), .int (pc.2 : Nat)])) l2 = none →
            ∃ (p' : PenI) (H0' : Hp) (a : Addr) (n' : Nat) (xs : List V), [V.ref p.d, .ref l2] = [.ref p'.d, .ref a] ∧ PenAt p' H0' (upd (upd H7 q (.lst [.str (tx pc.1), .int (pc.2 : Nat)])) l2 (.lst [.ref t, .ref q])) n' ∧ n' < 1000000 ∧ (upd (upd H7 q (.lst [.str (tx pc.1), .int (pc.2 : Nat)])) l2 (.lst [.ref t, .ref q])) a = some (.lst xs) ∧ 0 < xs.length ∧ xs.length < 1000 ∧
              ∀ H' v, PenAt p' H0' H' (n' + 1) → v ∈ xs → ∃ acc, H' D = some (.lst acc) ∧ acc.length < sizeLine ∧ ∃ (Hc : Hp) (zs : List V), Ex Hb Hc ∧ PenAt p Hc (upd H' D (.lst (acc ++ [v]))) (n + R.length + 4 * i + (j + 1)) ∧ Hc D = some (.lst zs) ∧ Paired (fun v pc => PrA Hc v pc ∧ v ≠ .ref D) zs (rr.2.take (j + 1)) := fun Hd H7 t ed Pd hzd ht q hq l2 hl2 => by
          have q0 := fresh0 Pd hq
          have Pq := Pd.both (o := .lst [.str (tx pc.1), .int (pc.2 : Nat)]) (fresh_ne Pd hq) (fresh_nc Pd hq)
          have eq_ := Ex.new (o := .lst [.str (tx pc.1), .int (pc.2 : Nat)]) q0
          have Pl := Pq.ex (Ex.new (o := .lst [.ref t, .ref q]) hl2)
          refine ⟨p, _, l2, _, _, rfl, Pl, by omega, upd_same, by show 0 < 2; decide, by show 2 < 1000; decide, fun H' v P' hv => ?_⟩
          have hzq := eq_ _ _ hzd
          have nqD : q ≠ D := fun z => by rw [z, hzd] at q0; cases q0
          have ntD : t ≠ D := fun z => by rw [z, hzd] at ht; cases ht
          refine ⟨zs, P'.1 _ _ hzq, sz_lt (by omega), upd (upd Hd q (.lst [.str (tx pc.1), .int (pc.2 : Nat)])) D (.lst (zs ++ [v])), zs ++ [v], ((ec.trans ed).trans eq_).mut d0, P'.both d1 d2, upd_same, ?_⟩
          have keep : ∀ {v : V} {pc : List Nat × Nat}, PrA Hc v pc ∧ v ≠ .ref D → PrA (upd (upd Hd q (.lst [.str (tx pc.1), .int (pc.2 : Nat)])) D (.lst (zs ++ [v]))) v pc ∧ v ≠ .ref D := fun {v pc} h => by
            obtain ⟨⟨b, k, rfl, hb⟩, hn⟩ := h
            exact ⟨⟨b, k, rfl, by rw [upd_ne (fun z => hn (by rw [z])), upd_ne (fun z => by rw [z] at hb; rw [ed _ _ hb] at q0; cases q0)]; exact ed _ _ hb⟩, hn⟩
          rw [show rr.2.take (j + 1) = rr.2.take j ++ [pc] by rw [List.take_add_one, hpc]; rfl]
          refine Paired.snoc (paired_mono (fun v2 pc2 h => ?_) hp) ?_
          · obtain ⟨⟨b, k, rfl, hb⟩, hn⟩ := h
            exact ⟨⟨b, k, rfl, by rw [upd_ne (fun z => hn (by rw [z])), upd_ne (fun z => by rw [z] at hb; rw [ed _ _ hb] at q0; cases q0)]; exact ed _ _ hb⟩, hn⟩
          · have hv2 : v = .ref t ∨ v = .ref q := by simpa using hv
            rcases hv2 with rfl | rfl
            · exact ⟨⟨t, true, rfl, by rw [upd_ne ntD, upd_ne (fun z => by rw [z, q0] at ht; cases ht)]; exact ht⟩, fun z => ntD (V.ref.inj z)⟩
            · exact ⟨⟨q, false, rfl, by rw [upd_ne nqD]; exact upd_same⟩, fun z => nqD (V.ref.inj z)⟩
        refine ⟨rfl, _, rfl, _, rfl, b, [.str (tx pc.1), .int (pc.2 : Nat)], rfl, ?_⟩
        cases kb2 with
        | true =>
          refine .inr ⟨st_of (Pc.1 _ _ hbc), _, rfl, b, _, rfl, .inr (st_of (Pc.1 _ _ hbc)), fun q hq => ⟨by show 2 ≤ sizeLine; decide, fun l2 hl2 => fin Hc _ b (Ex.refl _) Pc hz hbc q hq l2 hl2⟩⟩
        | false =>
          refine .inl ⟨sq_of (Pc.1 _ _ hbc), fun t ht => ?_⟩
          have t0 := fresh0 Pc ht
          have Pt := Pc.both (o := .tup [.str (tx pc.1), .int (pc.2 : Nat)]) (fresh_ne Pc ht) (fresh_nc Pc ht)
          have et := Ex.new (o := .tup [.str (tx pc.1), .int (pc.2 : Nat)]) t0
          exact ⟨_, rfl, b, _, rfl, .inl (sq_of (Pt.1 _ _ (et _ _ hbc))), fun q hq => ⟨by show 2 ≤ sizeLine; decide, fun l2 hl2 => fin _ _ t et Pt (et _ _ hz) upd_same q hq l2 hl2⟩⟩
      · obtain ⟨Hc, zs, ec, Pc, hz, hp⟩ := hw
        rw [hxl, List.take_length] at hp
        have hrl : rr.2.length ≤ 3 := r3 rr hrr
        have Sl : S.length = i := by
          have := congrArg List.length hSn
          rw [List.length_map, List.length_take] at this
          omega
        have ksl : ks.length = S.length := hS.length
        have hmc := ec _ _ hmb
        have nDm : D ≠ m := fun z => by rw [z, hmb] at d0; cases d0
        have hSc := hS.ex ec
        have freshK : valV ks (.inr (tx rr.1)) = none := hS.non _ fun z => by
          rw [hSn] at z
          have e1 : ws.take i ++ ws.drop i = ws := List.take_append_drop _ _
          have nd2 : ws.Nodup := perm.nodup_iff.mpr nd
          rw [← e1] at nd2
          refine (List.nodup_append.mp nd2).2.2 rr.1 z rr.1 ?_ rfl
          refine List.mem_of_getElem? (i := 0) ?_
          rw [List.getElem?_drop, Nat.add_zero]
          exact hnm
        have rows : RwA Hc (.ref D) rr.2 := ⟨D, false, zs, rfl, hz, paired_mono (fun _ _ h => h.1) hp⟩
        have D00 : H0 D = none := fresh_back eb d0
        dsimp only [gName]
        refine' st_eq (σ' := [some (.ref p.d), some (.ref d), some (.ref m), some (.str (tx rr.1)), some (.ref D), y5]) rfl ?_
        refine ⟨_, rfl, _, rfl, _, rfl, D, zs, rfl, .inl ⟨sq_of (Pc.1 _ _ hz), fun t2 ht2 => ?_⟩⟩
        have t0 := fresh0 Pc ht2
        have Pt := Pc.both (o := .tup zs) (fresh_ne Pc ht2) (fresh_nc Pc ht2)
        have et := Ex.new (o := .tup zs) t0
        refine ⟨by show 2 ≤ sizeLine; decide, fun l2 hl2 => ?_⟩
        have Pl := Pt.ex (Ex.new (o := .lst [.ref D, .ref t2]) hl2)
        refine ⟨p, _, l2, _, _, rfl, Pl, by omega, upd_same, by show 0 < 2; decide, by show 2 < 1000; decide, fun H8 v P8 hv => ?_⟩
        have hmt := et _ _ hmc
        refine ⟨_, rfl, _, rfl, m, _, rfl, DPut.k (k := .inr (tx rr.1)) (P8.1 _ _ hmt) (sz_lt (by omega)), ?_⟩
        have hv2 : RwA (upd Hc t2 (.tup zs)) v rr.2 ∧ ∃ a, v = .ref a ∧ H0 a = none := by
          have : v = .ref D ∨ v = .ref t2 := by simpa using hv
          rcases this with rfl | rfl
          · exact ⟨rows.ex et, D, rfl, D00⟩
          · exact ⟨⟨t2, true, zs, rfl, upd_same, paired_mono (fun _ _ h => h.1.ex et) hp⟩, t2, rfl, fresh_back eb (fresh_back ec t0)⟩
        obtain ⟨hvr, av, rfl, hav⟩ := hv2
        have P9 := P8.both (o := .dK (putK ks (.inr (tx rr.1)) (.ref av))) m1 m2
        refine ⟨_, _, S ++ [rr], _, _, _, rfl, ((eb.trans ec).trans et).mut m0, P9.le (by omega), ?_, upd_same, ?_, ?_, ?_, fun kv hkv a ea => ?_⟩
        · rw [upd_ne nrm]
          exact et _ _ (ec _ _ hrb)
        · rw [putK_new _ freshK]
          exact RuK.frz hmt (Paired.snoc (hSc.ex et) ⟨rfl, hvr⟩)
        · intro s hs
          rcases List.mem_append.mp hs with z | z
          · exact hSR s z
          · rw [List.mem_singleton.mp z]
            exact hrr
        · rw [List.map_append, hSn, List.take_add_one, hnm]
          rfl
        · rcases putK_mem freshK hkv with z | z
          · exact hfr kv z a ea
          · rw [z] at ea
            cases ea
            exact hav
    · obtain ⟨Hb, ks, S, y3, y4, y5, rfl, eb, Pb, hrb, hmb, hS, hSR, hSn, hfr⟩ := hw
      rw [List.length_map, List.take_length] at hSn
      rw [List.length_map] at Pb
      exact ⟨_, rfl, q Hb H' m ks S eb (Pb.le (by omega)) m0 hmb hS hSR (by rw [hSn]; exact perm) hfr⟩
end
end Law

/-! a law that makes lambdas and the text of values: its code object and that one's table -/
namespace GT
open PySem PySem.Spec PyProof.Rows L2 GD
/-- a def of which the code object is known -/
structure FunC (K : PySem.W.Frag) (x qual : Str) (st : Stmt) (f : Addr) (fd : FuncData) (c : Addr) : Prop where
  ex : ∃ (oc : Value) (od : Option Addr) (kV doc pm : Value) (an : Option Addr) (ct : Value) (osl : Array (Option Value)),
    fd = PySem.W.fnOf x qual (defArgs st) (defBody st) (defScope st) .none kV doc pm an (.ref c) ct ∧ K.lookup f = some ⟨oc, od, .func fd, osl⟩ ∧ PySem.W.codeIn K (.ref c) qual = true
section
variable {P : Program} {w : World} {K : PySem.W.Frag} {mg : Str → Option Value} {base : Heap}
theorem okGC {x qual : Str} {st : Stmt} {f c : Addr} {fd : FuncData} {N ps : List Str} {k : Nat} {sp : Sp} (F : FunC K x qual st f fd c) (S : FnScope N ps (defScope st)) (len : ∀ vs H Q E, sp vs H Q E → vs.length = ps.length)
    (hbody : ∀ (A : Around) (outer : List Env) (s : Shared) (H : Hp) (vs : List V) (Q : VK) (E : XK), Room k (A.deeper (envOfC qual (defScope st) s.heap.objs.size f (.ref c))) → (A.deeper (envOfC qual (defScope st) s.heap.objs.size f (.ref c))).guards = some [] → sp vs H Q E →
      ∃ t, PSs (cxOf CX0 P w K mg base N qual (defScope st) f (.ref c) A outer s H E).nox (defBody st) t ∧ t { nx := fun _ H' => Q .non H', rt := Q } (start N vs) H) : Gd P w K mg base (k + 1) f fd ps sp := by
  obtain ⟨oc, od, kV, doc, pm, an, ct, osl, rfl, known, code⟩ := F.ex
  refine ⟨fun A outer s H args us vs Q E room free e0 bound rel told => ?_⟩
  have kin : K.In s.heap := e0.mod.kin.keeps fun b o e => (e0.bs b o e).1
  have nolim : s.heap.NoLimit := e0.mod.nolimit.keeps fun b o e => (e0.bs b o e).1
  have names : ∀ y ∈ ps.zip us, (defScope st).names.lookup y.1 = some .local ∨ ((defScope st).names.lookup y.1 = some .cell ∧ ((cellsFrom (s.heap.objs.size + 1) (defScope st).names []).lookup y.1).isSome = true) := by
    rintro ⟨n, v⟩ hy
    rcases S.par n (List.of_mem_zip hy).1 with q | q
    · exact .inl q
    · exact .inr ⟨q, PySem.W.cellsFrom_some _ _ _ (.inl q)⟩
  refine codeAny_call_function room.depth (kin _ _ known) rfl S.co S.gen rfl (PySem.W.codeRec_of kin code) (bound _ _ _ _ (wpAny_newFunctionEnv_cells S.kind names fun env made s1 z => ?_))
  subst made
  refine ⟨nolim.keeps z.toInCall.keep, codeAny_func ?_⟩
  obtain ⟨t, ht, hq⟩ := hbody A outer s H vs Q E (room.deeper _) (deeper_guards free) told
  have I := inv_start (CX := CX0) (E := E) S room.hd e0 (len _ _ _ _ told) rel z
  refine wpAny_mono (ht.nox.run [] s1 (start N vs) H _ I hq) (fun fl s' hs => ?_) fun e s' hs => hs
  cases fl with
  | ret u =>
    obtain ⟨v, σ', H', J, rv, q⟩ := hs
    exact ⟨v, H', J.os, J.bare, J.base, J.hok, rv, q⟩
  | next =>
    obtain ⟨σ', H', J, q⟩ := hs
    exact ⟨V.non, H', J.os, J.bare, J.base, J.hok, rfl, q⟩
  | brk =>
    obtain ⟨_, _, _, q⟩ := hs
    exact q.elim
  | cont =>
    obtain ⟨_, _, _, q⟩ := hs
    exact q.elim
end
/-- the script, where it is tracked, and the table -/
def two (t : Addr) (s : Hp) : Hp := fun b => if b = t then some (.tbl #[]) else s b
theorem two_t {t : Addr} {s : Hp} : two t s t = some (.tbl #[]) := if_pos rfl
theorem two_ne {t b : Addr} {s : Hp} (h : b ≠ t) : two t s b = s b := if_neg h
/-- the module's builtins -/
def Bm (mg : Str → Option Value) (h : Heap) : Prop := ∃ (bm : Addr) (ob : Obj), mg "__builtins__" = some (.ref bm) ∧ bm ≠ builtinsNs ∧ h.get? bm = some ob ∧ ob.cls = .type "module" ∧ ob.dict = some builtinsNs ∧ ob.data = .plain
theorem callGT {P : Program} {w : World} {K : PySem.W.Frag} {mg mb : Str → Option Value} {k : Nat} {fa a c t : Addr} {fd : FuncData} {x : Str} {sp : Sp} {s : Shared} {vs : List Value} {ns : List Int}
    (kin : K.In s.heap) (hns : s.heap.Ns mainGlobals mg) (hb : s.heap.Ns builtinsNs mb) (hbb : ∀ x : Str, x ≠ "__name__" → mb x = bootBuiltins x) (nolim : s.heap.NoLimit) (gens : s.gens = #[])
    (tab : s.heap.get? t = some { cls := .none, data := .fields #[] }) (tabK : K.lookup t = none) (code : PySem.W.CodeHd s.heap c t) (hbm : Bm mg s.heap)
    (ha : s.heap.get? a = some { cls := .type "list", data := .seq vs.toArray }) (hi : IntsAre vs ns) (hl : ns.length ≤ sizeLine) (room : Room k callerA)
    (F : ∀ base : Heap, K.In base → base.Ns mainGlobals mg → LamX.TabB base mg c t → Gd P w K mg base k fa fd [x] sp) (binds : ∀ (s : Shared) (u : Value), BindsTo s fd ⟨[u], []⟩ [(x, u)])
    (hsp : ∀ H : Hp, H t = some (.tbl #[]) → SqL K H a (ns.map V.int) → sp [.ref a] H (fun v _ => v = .bl true) E0) :
    codeAny (model P w) callerA (.call (.ref fa) ⟨[.ref a], []⟩) (fun r s' => r = .ok (.ret (.bool true)) ∧ OldK s.heap s'.heap ∧ s'.os = s.os ∧ AllBare s'.gens) s := by
  have rv := vals_ints hi
  have nat : a ≠ t := fun z => by
    rw [z, tab] at ha
    cases ha
  have step : ∀ H : Hp, (∀ b u, H b = some u → b ≠ t → b = a ∧ K.lookup a = none ∧ ∃ o xs, u = .frz o (.lst xs)) → H t = some (.tbl #[]) → HOk P w H s.heap → SqL K H a (ns.map V.int) →
      codeAny (model P w) callerA (.call (.ref fa) ⟨[.ref a], []⟩) (fun r s' => r = .ok (.ret (.bool true)) ∧ OldK s.heap s'.heap ∧ s'.os = s.os ∧ AllBare s'.gens) s := by
    intro H only hT hok hS
    have free : ∀ {b : Addr}, b ≠ a → b ≠ t → H b = none := fun {b} n nt => by
      cases e : H b with
      | none => rfl
      | some u => exact absurd (only b u e nt).1 n
    -- what stands at neither of the two stays in sight
    have sees : ∀ {b : Addr} {o : Obj}, s.heap.get? b = some o → (∀ us m, o.data ≠ .seq us m) → o.data ≠ .fields #[] → (hidT s.heap H).get? b = some o := fun {b o} e n1 n2 => by
      refine hidT_get e (free (fun z => ?_) fun z => ?_)
      · rw [z, ha] at e
        cases e
        exact n1 _ _ rfl
      · rw [z, tab] at e
        cases e
        exact n2 rfl
    have stays : ∀ {b : Addr} {m : Str → Option Value}, s.heap.Ns b m → (hidT s.heap H).Ns b m := fun {b m} ⟨o, es, ep, e, d, r⟩ => by
      refine ⟨o, es, ep, sees e (fun us m z => ?_) (fun z => ?_), d, r⟩
      · rw [show o.data = _ from d] at z
        cases z
      · rw [show o.data = _ from d] at z
        cases z
    have kinB : K.In (hidT s.heap H) := fun b o e => hidT_get (kin b o e) (by
      cases q : H b with
      | none => rfl
      | some u =>
        by_cases nt : b = t
        · rw [nt, tabK] at e
          cases e
        · obtain ⟨h1, h2, _⟩ := only b u q nt
          rw [h1, h2] at e
          cases e)
    have TB : LamX.TabB (hidT s.heap H) mg c t := by
      refine ⟨?_, ?_, fun z => ?_⟩
      · obtain ⟨o, us, y1, y2, y3, y4, y5, y6, y7, at_, cl, dat, v11, rest⟩ := code
        refine ⟨o, us, y1, y2, y3, y4, y5, y6, y7, sees at_ (fun _ _ z => ?_) (fun z => ?_), cl, dat, v11, rest⟩
        · rw [dat] at z
          cases z
        · rw [dat] at z
          cases z
          cases v11
      · obtain ⟨bm, ob, m1, m2, m3, m4, m5, m6⟩ := hbm
        have np : ∀ us : Array Value, ob.data ≠ .fields us := fun us z => by
          rw [m6] at z
          cases z
        refine ⟨bm, ob, m1, m2, fun z => ?_, fun z => ?_, sees m3 (fun _ _ z => ?_) (np _), m4, m5, m6⟩
        · obtain ⟨o, es, ep, e, d, _⟩ := hns
          rw [← z, m3] at e
          cases e
          rw [m6] at d
          cases d
        · rw [z, tab] at m3
          cases m3
          exact np _ rfl
        · rw [m6] at z
          cases z
      · obtain ⟨o, es, ep, e, d, _⟩ := hns
        rw [z, tab] at e
        cases e
        cases d
    have e0 : Env0 P w K mg (hidT s.heap H) callerA [] s H :=
      ⟨rfl, ⟨kinB, stays hns, ⟨mb, stays hb, hbb⟩, let ⟨mc, h1, h2⟩ := nolim; ⟨mc, stays h1, h2⟩⟩, fun b o e => of_hidT e, Nat.le_of_eq (hidT_size _ _), trivial, fun b hb => (nomatch (show b ∈ ([] : List Addr) from hb)), hok, .of_eq gens⟩
    refine codeAny_mono ((F _ kinB (stays hns) TB).run callerA [] s H ⟨[.ref a], []⟩ [.ref a] [.ref a] _ E0 room rfl e0 (binds s (.ref a)) (.cons rfl .nil) (hsp H hT hS)) fun r s' h => ?_
    cases r with
    | error e => exact h.elim
    | ok fl =>
      cases fl with
      | ret u =>
        obtain ⟨v, H', os, bare, un, hok', r', q⟩ := h
        obtain rfl : v = .bl true := q
        obtain rfl : u = Value.bool true := r'
        obtain ⟨more, hm⟩ := un.tbls t #[] hT
        have hm2 : s'.heap.get? t = some { cls := .none, data := .fields (#[] ++ more) } := hok' t _ hm
        rw [Array.empty_append] at hm2
        refine ⟨rfl, ⟨fun b o e => ?_, fun b o e => ?_⟩, os, bare⟩
        · by_cases nt : b = t
          · subst nt
            rw [tab] at e
            cases e
            exact .inr (.inl ⟨(code.tab tab).isCodeTable, rfl, #[], more, rfl, by rw [Array.empty_append]; exact hm2⟩)
          · refine .inl ?_
            cases q : H b with
            | none => exact un.keep b o e q (by intro z; exact (nomatch (show b ∈ ([] : List Addr) from z))) (by simp)
            | some u =>
              obtain ⟨_, _, ob, xs, rfl⟩ := only b u q nt
              obtain ⟨e1, _⟩ := hok b _ q
              obtain ⟨e2, _⟩ := hok' b _ (un.frzs b ob _ q)
              rw [e] at e1
              cases e1
              exact e2
        · by_cases nt : b = t
          · subst nt
            exact ⟨_, hm2⟩
          · cases q : H b with
            | none => exact ⟨o, un.keep b o e q (by intro z; exact (nomatch (show b ∈ ([] : List Addr) from z))) (by simp)⟩
            | some u =>
              obtain ⟨_, _, ob, xs, rfl⟩ := only b u q nt
              obtain ⟨e2, _⟩ := hok' b _ (un.frzs b ob _ q)
              exact ⟨_, e2⟩
      | next => exact h.elim
      | brk => exact h.elim
      | cont => exact h.elim
  cases hk : K.lookup a with
  | some o =>
    have e := kin a o hk
    rw [ha] at e
    cases e
    refine step (two t fun _ => none) (fun b u z nt => by rw [two_ne nt] at z; cases z) two_t (fun b u z => ?_) (.inr ⟨_, vs.toArray, _, hk, rfl, rfl, rfl, ?_, by simpa using rv⟩)
    · by_cases nt : b = t
      · subst nt
        rw [two_t] at z
        cases z
        exact tab
      · rw [two_ne nt] at z
        cases z
    · rw [List.size_toArray, hi.length]
      exact hl
  | none =>
    refine step (two t (one a vs ns)) (fun b u z nt => ?_) two_t (fun b u z => ?_) (.inl (.inr ⟨_, (two_ne nat).trans (if_pos rfl)⟩))
    · rw [two_ne nt] at z
      unfold one at z
      by_cases q : b = a
      · rw [if_pos q] at z
        cases z
        exact ⟨q, hk, _, _, rfl⟩
      · rw [if_neg q] at z
        cases z
    · by_cases nt : b = t
      · subst nt
        rw [two_t] at z
        cases z
        exact tab
      rw [two_ne nt] at z
      unfold one at z
      by_cases q : b = a
      · rw [if_pos q] at z
        cases z
        subst q
        exact ⟨ha, by rw [List.length_map]; exact hl, vs, _, rv, ha⟩
      · rw [if_neg q] at z
        cases z
theorem walkGT {l : PySem.W.OpenLaw} {n k : Nat} {q : Program} {loose : List Str} {XP : (Str → Option Value) → Heap → Prop} {YP : World → Heap → Prop} {d : DefRec} {K : Params → PySem.W.Frag} {x : Str}
    (hn : l.most = some n) (hn2 : n ≤ sizeLine) (hdf : d.params.defaults = []) (hr : Room k callerA) (hY : ∀ (w : World) (h : Heap), YP w h → (K w.params).In h)
    (F : ∀ (w : World) (mg : Str → Option Value) (fa : Addr) (h : Heap), YP w h → (K w.params).In h → h.Ns mainGlobals mg → mg d.name = some (.ref fa) →
      ∃ (fd : FuncData) (c t : Addr) (sp : Sp), h.get? t = some { cls := .none, data := .fields #[] } ∧ (K w.params).lookup t = none ∧ PySem.W.CodeHd h c t ∧ (∀ (s : Shared) (u : Value), BindsTo s fd ⟨[u], []⟩ [(x, u)]) ∧
        (∀ (H : Hp) (a : Addr) (ns : List Int), ns.length ≤ n → H t = some (.tbl #[]) → SqL (K w.params) H a (ns.map V.int) → sp [.ref a] H (fun v _ => v = .bl true) E0) ∧
        ∀ base : Heap, (K w.params).In base → base.Ns mainGlobals mg → LamX.TabB base mg c t → Gd l.prog w (K w.params) mg base k fa fd [x] sp) :
    PySem.W.WalkO q loose XP YP l.row.toRowW d [] (fun f vs => PySem.call f vs) := by
  refine Att.attach_call hn hdf fun w s₀ s₁ mg mb fa o pm cd doc a vs ns G Y ho hd hcd hmg hobj hints hlen hg => ?_
  have kin := hY w _ Y
  obtain ⟨fd, c, t, sp, tab, tabK, code, hb, hsp, hF⟩ := F w mg fa _ Y kin G.T.g hmg
  exact callGT kin G.T.g G.T.b G.T.builtins G.T.nolimit hg tab tabK code G.T.bmain hobj hints (Nat.le_trans hlen hn2) hr hF hb fun H hT hS => hsp H a ns hlen hT hS
end GT

/-! a call of a def whose promise holds where no text of an object is being made -/
namespace GD
open PySem PySem.Spec PyProof.Rows L2
section
variable {X : Cx} {k : Nat} {f : Addr} {fd : FuncData} {ps : List Str} {sp : Sp} {x : Str} {p pos : Pos} {e : Expr} {es : List Expr} {t : L2.TA}
theorem run_gd {pins : List (Addr × Obj)} {s : Shared} {σ : L2.St} {H : Hp} {Q : VK} {us : List Value} {vs : List V} (G : Gd X.prog X.w X.K X.mg X.base k f fd ps sp) (len : ∀ ws H Q E, sp ws H Q E → ws.length = ps.length) (free : X.A.guards = some []) (room : Room k X.A) (binds : Binds X.K fd ps [])
    (I : Inv X pins σ H s) (rel : Vals vs us) (told : sp (vs ++ []) H Q E0) : wpAny (model X.prog X.w) X.A (call (.ref f) us) (EP X pins σ Q) X.xe s := by
  rw [List.append_nil] at told
  have same : us.length = ps.length := by
    rw [← rel.length]
    exact len _ _ _ _ told
  have bt := binds s us I.kIn (by rw [List.append_nil]; exact same)
  rw [List.append_nil] at bt
  refine wpAny_call (codeAny_mono (G.run X.A X.stack s H ⟨us, []⟩ us vs Q E0 room free I.env0 bt rel told) fun r s' got => ?_)
  cases r with
  | error e => exact got.elim
  | ok fl =>
    cases fl with
    | ret u => exact I.after got
    | next => exact got.elim
    | brk => exact got.elim
    | cont => exact got.elim
theorem pe_callG (G : Gd X.prog X.w X.K X.mg X.base k f fd ps sp) (len : ∀ ws H Q E, sp ws H Q E → ws.length = ps.length) (free : X.A.guards = some []) (room : Room k X.A) (glob : Gl X x) (at_ : X.mg x = some (.ref f)) (kept : PySem.W.keepIn X.K (.ref f) = true) (binds : Binds X.K fd ps [])
    (args : PA X (e :: es) t) (nodb : (x == ("__debug__" : Str)) = false := by decide) (star : starEach (e :: es) X.env = (false, eval e X.env) :: starEach es X.env := by rfl) (plain : (backTo pos (starEach es X.env)).any (·.1) = false := by rfl) :
    PE X (.Call (.Name x p) (e :: es) [] pos) (tCall sp [] E0 t) := by
  refine ⟨fun pins s σ H Q I told => wpAny_Call_Name_kw (ld_glob I glob at_ ?_ nodb)⟩
  exact PySem.W.callWith_K (h₀ := X.base) I.ok.mod.kin kept (thn (args.run pos pins s σ H _ I told) fun us s1 ⟨vs, H1, I1, rel, q⟩ => ⟨I1.kIn, run_gd G len free room binds I1 rel q⟩) star plain
end
end GD

/-! in a try: C(..) and o.m(..) whose E hangs on the names -/
namespace MS
open PySem PySem.Spec PyProof.Rows L2 EK
section
variable {X : Cx} {CX : CXT} {k : Nat} {f C : Addr} {fd : FuncData} {ps : List Str} {sp : Sp} {dvs : List V} {ds : List Value} {E : L2.St → XK} {x m : Str} {p pos apos : Pos} {e o : Expr} {es : List Expr} {ta : TE} {t : TA}
theorem run_makeS {pins : List (Addr × Obj)} {σ : L2.St} {H : Hp} {s : Shared} {Q : VK} {us : List Value} {vs : List V} (M : Mk X.K C f) (F : FnOk X.prog X.w X.K X.mg X.base CX k f fd ps sp) (hr : Room (k + 1) X.A) (hb : Binds X.K fd ps ds) (hd : Vals dvs ds)
    (hx : PassesAt CX X σ (E σ)) (I : Inv X pins σ H s) (r : Vals vs us)
    (h : ∀ x dx, H x = none → H dx = none → dx ≠ x → sp (.ref x :: (vs ++ dvs)) (upd (upd H dx (.own x)) x (.ins C dx [])) (fun v H2 => v = .non ∧ Q (.ref x) H2) (E σ)) :
    wpAny (model X.prog X.w) X.A (call (.ref C) us) (EP X pins σ Q) X.xe s := by
  have hq := h (s.heap.objs.size + 1) s.heap.objs.size (I.hok.fresh (Nat.le_succ _)) (I.hok.fresh (Nat.le_refl _)) (Nat.ne_of_lt (Nat.lt_succ_self _))
  have I2 := Inv.made (C := C) I
  have r2 : Vals (V.ref (s.heap.objs.size + 1) :: (vs ++ dvs)) (Value.ref (s.heap.objs.size + 1) :: (us ++ ds)) := .cons rfl (r.append hd)
  have hl : (Value.ref (s.heap.objs.size + 1) :: us ++ ds).length = ps.length := by
    have e := r2.length
    rw [F.len _ _ _ _ hq] at e
    exact e.symm
  refine wpAny_call (make_map (f := f) I.kIn M.makes M.init (beq_iff_eq.mp M.fn) (codeAny_mono (F.run _ X.stack _ _ ⟨Value.ref (s.heap.objs.size + 1) :: us, []⟩ (Value.ref (s.heap.objs.size + 1) :: (us ++ ds)) _ _ (E σ) (hr.make C us [])
    (I2.env0.make C us []) (hb _ (Value.ref (s.heap.objs.size + 1) :: us) I2.kIn hl) r2 hq) fun r s' hq' => ?_))
  cases r with
  | error e => exact hx pins _ _ e s' I2 hq'
  | ok fl =>
    cases fl with
    | ret u =>
      obtain ⟨v, H', I3, rv, ev, q3⟩ := I2.after hq'
      subst ev
      exact ⟨rv, ⟨V.ref (s.heap.objs.size + 1), H', I3, rfl, q3⟩⟩
    | next => exact False.elim hq'
    | brk => exact False.elim hq'
    | cont => exact False.elim hq'
def tMakeS (C : Addr) (sp : Sp) (dvs : List V) (E : L2.St → XK) (t : TA) : TE := fun σ H Q => t σ H fun vs H1 => ∀ x dx, H1 x = none → H1 dx = none → dx ≠ x → sp (.ref x :: (vs ++ dvs)) (upd (upd H1 dx (.own x)) x (.ins C dx [])) (fun v H2 => v = .non ∧ Q (.ref x) H2) (E σ)
theorem pe_makeS (M : Mk X.K C f) (F : FnOk X.prog X.w X.K X.mg X.base CX k f fd ps sp) (hr : Room (k + 1) X.A) (hg : Gl X x) (hm : X.mg x = some (.ref C)) (hb : Binds X.K fd ps ds) (hd : Vals dvs ds) (hx : ∀ σ, PassesAt CX X σ (E σ))
    (ha : PA X (e :: es) t) (hdb : (x == ("__debug__" : Str)) = false := by decide) (he : starEach (e :: es) X.env = (false, eval e X.env) :: starEach es X.env := by rfl) (hpl : (backTo pos (starEach es X.env)).any (·.1) = false := by rfl) :
    PE X (.Call (.Name x p) (e :: es) [] pos) (tMakeS C sp dvs E t) := by
  refine ⟨fun pins s σ H Q I h => ?_⟩
  refine wpAny_Call_Name_kw (ld_glob I hg hm ?_ hdb)
  refine PySem.W.callWith_K (h₀ := X.base) I.ok.mod.kin M.kp (thn (ha.run pos pins s σ H _ I h) fun us s1 ⟨vs, H1, I1, r, q⟩ => ⟨I1.kIn, ?_⟩) he hpl
  exact run_makeS M F hr hb hd (hx σ) I1 r q
def tMethS (C : Addr) (m : Str) (sp : Sp) (E : L2.St → XK) (ta : TE) (t : TA) : TE := fun σ H Q => ta σ H fun x H1 => ∃ a dx fs, x = .ref a ∧ H1 a = some (.ins C dx fs) ∧ fs.lookup m = none ∧ t σ H1 fun vs H2 => sp (x :: vs) H2 Q (E σ)
theorem pe_methS {pl : Sem Bool} (he : PE X o ta) (c : Cls X.K C) (hm : Meth X.K C m f) (F : FnOk X.prog X.w X.K X.mg X.base CX k f fd ps sp) (hr : Room k X.A) (hb : Binds X.K fd ps []) (hx : ∀ σ, PassesAt CX X σ (E σ)) (ha : PA X (e :: es) t)
    (hst : starEach (e :: es) X.env = (false, eval e X.env) :: starEach es X.env := by rfl) (hpl : (backTo pos (starEach es X.env)).any (·.1) = false := by rfl)
    (ht : eval (.Call (.Attribute o m apos) (e :: es) [] pos) X.env = (do
      let ov ← eval o X.env
      standAt apos.atName
      let (f, first) ← holding [ov] (getMethod ov m pl)
      callWith pos f first (backTo pos (starEach (e :: es) X.env)) (backToKw pos (keywordEach [] X.env))) := by rfl) :
    PE X (.Call (.Attribute o m apos) (e :: es) [] pos) (tMethS C m sp E ta t) := by
  refine ⟨fun pins s σ H Q I h => ?_⟩
  refine PySem.W.methodCall_KW (pl := pl) (thn (he.run pins s σ H _ I h) fun u s1 ⟨x, H1, I1, rx, a, dx, fs, ex, ea, l, q⟩ => ?_) ht
  subst ex
  obtain rfl : u = Value.ref a := rx
  refine getmeth_ok I1 ea c hm l ?_
  refine PySem.W.callWith_K (first := [.ref a]) (h₀ := X.base) I.ok.mod.kin hm.kp (thn (ha.run pos pins s1 σ H1 _ I1 q) fun us s2 ⟨vs, H2, I2, r, q2⟩ => ⟨I2.kIn, ?_⟩) hst hpl
  exact run_fnS (us := .ref a :: us) (vs := .ref a :: vs) F hr hb (hx σ) I2 (.cons rfl r) q2
end
section
variable {X : Cx} {C : Addr} {x : Str} {p pos : Pos}
/-- raise C(), C without an __init__ of its own -/
theorem pmk_mk0 (T : OexC X.K C) (iC : PySem.W.findIn X.K (.ref C) "__init__" = some (some (.builtin "ValueError.__init__"))) (hg : Gl X x) (hm : X.mg x = some (.ref C)) (hdb : (x == ("__debug__" : Str)) = false := by decide) :
    PMk X (.Call (.Name x p) [] [] pos) (fun _ H Q => Q (.ref C) none H) := by
  intro pins s σ H Q I h
  refine wpAny_Call_Name_kw (ld_glob I hg hm ?_ hdb)
  refine PySem.W.callWith_K0 (first := []) I.kIn T.kC ?_
  show wpAny _ _ (call (.ref C) []) _ _ _
  have RS : Raises X (.ref C) := raises_own T.exC T.tyC
  obtain ⟨nm, q, N, bs, bm, sn, sub, ab, col, dd, k0, k1, k2, k3, k5, hC, hbm⟩ := T.cls
  obtain ⟨hp, g, dr, tk, os⟩ := s
  have up : hp.objs.size ≤ hp.objs.size + 1 := Nat.le_succ _
  have kk : ∀ b o, hp.get? b = some o → ((hp.push (PySem.W.kdv_tup [])).push (PySem.HandSPX.excO C hp.objs.size)).get? b = some o := fun b o y => Heap.get?_push_of_some _ (Heap.get?_push_of_some _ y)
  have he : ((hp.push (PySem.W.kdv_tup [])).push (PySem.HandSPX.excO C hp.objs.size)).get? (hp.objs.size + 1) = some (PySem.HandSPX.excO C hp.objs.size) := by heap_get
  have hnew : hp.get? (hp.objs.size + 1) = none := by
    cases z : hp.get? (hp.objs.size + 1) with
    | none => rfl
    | some o => exact absurd (Heap.lt_size z) (Nat.not_lt.mpr (Nat.le_succ _))
  have I2 : Inv X pins σ (upd H (hp.objs.size + 1) (exo (hp.objs.size + 1) C none)) ⟨(hp.push (PySem.W.kdv_tup [])).push (PySem.HandSPX.excO C hp.objs.size), g, dr, tk, os⟩ :=
    I.laid (t' := tk) (a := hp.objs.size + 1) (o := exo (hp.objs.size + 1) C none) (h' := (hp.push (PySem.W.kdv_tup [])).push (PySem.HandSPX.excO C hp.objs.size)) kk up (exo_ok he)
  refine wpAny_call (PySem.ExV.own_call (fv := .builtin "ValueError.__init__") F.excBase_ValueError (fun Y => PySem.HandSPX.refsVE_contains Y bm hbm) (I.kIn _ _ hC) (PySem.W.looks_findIn I.kIn iC) (fun self => .of_pure (F.excBase_ValueError.init.bind self)) (Nat.zero_le _)
    (PySem.HandSPX.init_base F.excBase_ValueError (fun Y => PySem.HandSPX.refsVE_contains Y bm hbm) (I2.kIn _ _ hC) he (Nat.zero_le _) fun h' t2 kh hx => ?_))
  refine ⟨rfl, hp.objs.size + 1, _, _, ⟨hp, g, dr, tk, os⟩, H, .ref C, none, rfl, I, fun b o y => kh b o (Nat.ne_of_lt (Nat.lt_succ_of_lt (Heap.lt_size y))) (kk b o y), hnew, hx, ⟨rfl, rfl⟩, rfl, rfl, I.hok.fresh up, rfl, I.bare, RS, h⟩
end
/-- isinstance(e, c), e the exception that the suite holds, without a dict -/
def rIsE0 (K : PySem.W.Frag) (cls : Value) (d : Option Addr) (D a : Addr) : List V → Hp → VK → Prop := fun xs H Q => ∃ (c : V) (cv : Value) (b : Bool), xs = [.ref a, c] ∧ cls = .ref D ∧ d = none ∧ ClsV c cv ∧ PySem.W.kitOne K (.ref D) cv = some b ∧ Q (.bl b) H
theorem call_isE0 {X : Cx} {a D : Addr} {cls : Value} {d : Option Addr} {oe : Obj} {pn : List (Addr × Obj)} (C : ExcC X.K D) (hz : Zc cls d oe) (hf : ∃ vs, oe.data = .fields vs) : CallR (X.suite a ((a, oe) :: pn)) (.builtin "isinstance") (rIsE0 X.K cls d D a) := by
  intro pins s σ H xs us Q I r h
  obtain ⟨c, cv, b, rfl, ec, ed, k, e, q⟩ := h
  obtain ⟨u1, u2, rfl, r1, r2⟩ := vals2 r
  cases r1
  have e2 := k.eq r2
  subst e2 ec ed
  obtain ⟨hget, _⟩ := I.pin (a, oe) (List.mem_append.mpr (.inl List.mem_cons_self))
  obtain ⟨vs, hv⟩ := hf
  have J : PySem.W.InstAt s.heap a oe D none := ⟨hget, hz.1, by unfold PySem.W.notCls; rw [hv] <;> rfl, by rw [hz.2]; exact True.intro⟩
  exact PySem.W.kia_one (PySem.W.ek_kitx C.hg C.hk C.hs C.hd C.ha C.hn C.ht C.hm) I.kIn J e (fun z => nomatch z) fun tk => ⟨.bl b, H, I.kept (t' := tk) fun _ _ z => z, rfl, q⟩
theorem pe_bmK {X : Cx} {K : PySem.W.Frag} {c : Expr} {T : String} {r : V → List V → Hp → VK → Prop} {to : TE} {t : TA} (hK : X.K = K) (h : PE X c (tBM X.K T r to t)) : PE X c (tBM K T r to t) := hK ▸ h
theorem call_isE1 {X : Cx} {K : PySem.W.Frag} {a D : Addr} {cls : Value} {d : Option Addr} {oe : Obj} {pn : List (Addr × Obj)} (hK : X.K = K) (C : ExcC K D) (hz : Zc cls d oe) (hf : ∃ vs, oe.data = .fields vs) : CallR (X.suite a ((a, oe) :: pn)) (.builtin "isinstance") (rIsE0 K cls d D a) := by
  subst hK
  exact call_isE0 C hz hf
end MS

namespace Law
open PySem PySem.Spec PyProof.Rows L2 Evl EK LamX TR GX WV
theorem PenAt.now {p : PenI} {H0 H : Hp} {n : Nat} (P : PenAt p H0 H n) : PenAt p (del H p.d) H n ∧ Ex H0 (del H p.d) := by
  obtain ⟨e0, h0, hc, hl, op, lf, ho, hd⟩ := P
  have nc : p.c ≠ p.d := fun z => by
    rw [z, h0] at hc
    cases hc
  refine ⟨⟨fun b o h => ?_, del_same, by rw [del_ne nc]; exact e0 _ _ hc, hl, op, lf, ho, hd⟩, fun b o h => ?_⟩
  · by_cases hb : b = p.d
    · rw [hb, del_same] at h
      cases h
    · rw [del_ne hb] at h
      exact h
  · rw [del_ne (fun z => by rw [z, h0] at h; cases h)]
    exact e0 _ _ h
/-- no table in it -/
def NT (H : Hp) : Prop := ∀ b ps, H b ≠ some (.tbl ps)
def noT (H : Hp) : Hp := fun b => match H b with
  | some (.tbl _) => none
  | o => o
theorem noT_of {H : Hp} {b : Addr} {o : HO} (h : H b = some o) (n : ∀ ps, o ≠ .tbl ps) : noT H b = some o := by
  unfold noT
  rw [h]
  cases o with
  | tbl ps => exact absurd rfl (n ps)
  | _ => rfl
theorem noT_nt (H : Hp) : NT (noT H) := fun b ps z => by
  unfold noT at z
  split at z
  · cases z
  · rename_i h
    exact h ps z
theorem noT_ex (H : Hp) : Ex (noT H) H := fun b o z => by
  unfold noT at z
  split at z
  · cases z
  · exact z
theorem noT_none {H : Hp} {b : Addr} (h : H b = none) : noT H b = none := by
  unfold noT
  rw [h]
theorem noT_n (H : Hp) : ExtN H (noT H) := fun b o h n => noT_of h n
theorem tabs_del {T : List (Addr × Str)} {H : Hp} {d : Addr} {kvs : List (Key × V)} (h : Tabs T H) (hd : H d = some (.dK kvs)) : Tabs T (del H d) := fun q hq => by
  obtain ⟨ps, h1, h2, h3⟩ := h q hq
  refine ⟨ps, by rw [del_ne (fun z => by rw [z, hd] at h1; cases h1)]; exact h1, h2, fun pos cv hc => ?_⟩
  obtain ⟨c, e1, e2⟩ := h3 pos cv hc
  refine ⟨c, e1, ?_⟩
  rw [del_ne (fun z => by
    rw [z, hd] at e2
    unfold CodeO at e2
    cases e2)]
  exact e2
/-- the law's state: the pen over a base without tables, and the tables -/
structure Sta (T : List (Addr × Str)) (p : PenI) (B H : Hp) (n : Nat) : Prop where
  pen : PenAt p B H n
  nt : NT B
  tabs : Tabs T H
section
variable {T : List (Addr × Str)} {p : PenI} {B H H' H1 : Hp} {n m : Nat}
theorem Sta.plus (S : Sta T p B H n) : PenAt p (del H p.d) H n := S.pen.now.1
theorem Sta.up (S : Sta T p B H n) : Ex B (del H p.d) := S.pen.now.2
theorem Sta.td (S : Sta T p B H n) : Tabs T (del H p.d) := by
  obtain ⟨kvs, h⟩ := S.pen.dict
  exact tabs_del S.tabs h
theorem Sta.back (S : Sta T p B H n) (P' : PenAt p (del H p.d) H' m) : Sta T p B H' m where
  pen := ⟨S.up.trans P'.1, S.pen.2.1, S.pen.2.2.1, S.pen.2.2.2.1, P'.2.2.2.2⟩
  nt := S.nt
  tabs := S.td.ext P'.1
theorem Sta.ex (S : Sta T p B H n) (e : Ex H H') : Sta T p B H' n := ⟨S.pen.ex e, S.nt, S.tabs.ext e⟩
theorem Sta.le (S : Sta T p B H n) (h : n ≤ m) : Sta T p B H m := ⟨S.pen.le h, S.nt, S.tabs⟩
theorem Sta.exN (S : Sta T p B H n) (e : ExtN H H') (t : Tabs T H') : Sta T p B H' n where
  pen := by
    obtain ⟨e0, h0, hc, hl, op, lf, ho, hd⟩ := S.pen
    exact ⟨fun b o h => e b o (e0 b o h) (fun ps z => S.nt b ps (by rw [h, z])), h0, hc, hl, op, lf, ho, e _ _ hd (fun ps z => by cases z)⟩
  nt := S.nt
  tabs := t
theorem Sta.bn (S : Sta T p B H n) (e : ExtN H H') : Ex B H' := fun b o h => e b o (S.pen.1 b o h) (fun ps z => S.nt b ps (by rw [h, z]))
theorem Sta.grow (S : Sta T p B H n) (P' : PenAt p H1 H' m) (e : Ex (del H p.d) H1) : Sta T p (noT H1) H' m ∧ Ex B (noT H1) := by
  obtain ⟨e0, h0, hc, hl, op, lf, ho, hd⟩ := P'
  refine ⟨⟨⟨(noT_ex H1).trans e0, noT_none h0, noT_of hc (fun ps z => by cases z), hl, op, lf, ho, hd⟩, noT_nt H1, S.td.ext (e.trans e0)⟩, fun b o h => ?_⟩
  exact noT_of ((S.up.trans e) b o h) (fun ps z => S.nt b ps (by rw [h, z]))
/-- all that stands is kept -/
theorem Sta.hold (S : Sta T p B H n) : ∃ B', Sta T p B' H n ∧ Ex B B' ∧ ∀ b o, H b = some o → b ≠ p.d → (∀ ps, o ≠ .tbl ps) → B' b = some o := by
  obtain ⟨S', e⟩ := S.grow S.plus (Ex.refl _)
  exact ⟨_, S', e, fun b o h nb nt => noT_of (by rw [del_ne nb]; exact h) nt⟩
end
def okT (d : PyData) : Bool := d.showable && decide (d.depth ≤ 64) && decide (d.shown.length ≤ 1000)
theorem rx_tup {K : PySem.W.Frag} {H : Hp} {r : Addr} {xs : List V} {ds : List PyData} {Q : VK} (hr : H r = some (.tup xs)) (hd : DY.DEs K H xs ds) (ok : okT (.tuple ds) = true) (q : Q (.str (PyData.tuple ds).shown) H) : DY.RX K [.ref r] H Q := by
  unfold okT at ok
  rw [Bool.and_eq_true, Bool.and_eq_true, decide_eq_true_eq, decide_eq_true_eq] at ok
  exact ⟨.inr ⟨r, xs, ds, rfl, st_of hr, hd, ok.1.1, ok.1.2, Nat.le_trans ok.2 (by decide), q⟩⟩

/-! ### what a call gives, or how it is refused -/
structure Exm (K : PySem.W.Frag) (CB CT : Addr) : Prop where
  bb : PySem.W.exmOne K (.ref CB) (.ref CB) = some true
  tb : PySem.W.exmOne K (.ref CT) (.ref CB) = some false
  tt : PySem.W.exmOne K (.ref CT) (.ref CT) = some true
structure NoF (K : PySem.W.Frag) (CB CT : Addr) : Prop where
  b : PySem.W.findIn K (.ref CB) "number" = some none
  t1 : PySem.W.findIn K (.ref CT) "what" = some none
  t2 : PySem.W.findIn K (.ref CT) "many" = some none
  t3 : PySem.W.findIn K (.ref CT) "most" = some none
structure Gs (mg : Str → Option Value) (CB CT C0 : Addr) : Prop where
  b : mg "BadPlace" = some (.ref CB)
  t : mg "TooMany" = some (.ref CT)
  s : mg "SkipsError" = some (.ref C0)
def Emet (CB CT : Addr) (Q : VK) : XK := fun cls d H' => ∃ dd, d = some dd ∧
  ((∃ v, cls = .ref CB ∧ H' dd = some (.xd [("number", v)]) ∧ ∀ r, H' r = none → Q (.ref r) (upd H' r (.tup [.str "place", v, .bl true]))) ∨
   (∃ x y z, cls = .ref CT ∧ H' dd = some (.xd [("most", x), ("many", y), ("what", z)]) ∧ ∀ r, H' r = none → Q (.ref r) (upd H' r (.tup [z, y, x]))))
theorem takes_len {X : Cx} {W : WX} (tk : Takes X W) : Takes X (fun cls d σ H => σ.length = X.N.length → W cls d σ H) := fun u s' ⟨a, B, sI, pins, σ, H, cls, d, e, I, nb, up, sky, na, os, ag, h⟩ =>
  tk u s' ⟨a, B, sI, pins, σ, H, cls, d, e, I, nb, up, sky, na, os, ag, h I.len⟩
def TTmet (CB CT : Addr) : (XK → Hp → VK → Prop) → Hp → VK → Prop := fun tl H Q => tl (Emet CB CT Q) H Q
section
variable {X : Cx}
theorem met_gives {q : Str} {g C_BadPlace C_TooMany fB fT C_SkipsError : Addr} {cdg : Value} (T : Tx X.mg) (E1 : ErrC X.K C_BadPlace fB C_SkipsError) (E2 : ErrC X.K C_TooMany fT C_SkipsError)
    (G : Gs X.mg C_BadPlace C_TooMany C_SkipsError) (NF : NoF X.K C_BadPlace C_TooMany) (EX : Exm X.K C_BadPlace C_TooMany) :
    GivesTo X N_lmet "_law_met" (defScope s_lmet) g cdg (defBody s_lmet) "_law_call" q (TTmet C_BadPlace C_TooMany) := by
  intro f c' s H Q tl act hc h
  obtain ⟨_, _, _, XF_BadPlace, EX_BadPlace, k1⟩ := E1
  obtain ⟨_, _, _, XF_TooMany, EX_TooMany, k2⟩ := E2
  obtain ⟨g_BadPlace, g_TooMany, g_SkipsError⟩ := G
  obtain ⟨N_BadPlace_number, N_TooMany_what, N_TooMany_many, N_TooMany_most⟩ := NF
  refine ⟨_, pss_one (EK.ps_tryN (X := (cxOf C8.CX0 X.prog X.w X.K X.mg X.base N_lmet "_law_met" (defScope s_lmet) g cdg X.A X.stack s H C8.E0).nox) (i := 1) (n := "e")
      (tb := fun W D σ H => ∃ Ech : XK, (∀ cls d σ' H', Ech cls d H' → σ'.length = 2 → W cls d σ' H') ∧ σ[0]? = some (some (.ref f)) ∧ H c' = some (CodeO c' q) ∧ tl Ech H D.rt)
      rfl rfl sc_lmet.nd rfl rfl LamX.takes0 (fun W pn xe tk _ => ?_)
      (EK.HdsN.cons ⟨(by rfl), (by decide), .inl g_BadPlace⟩ (fun a oe cls d pn hz hf => (pss_one (ps_ret (pe_tup (pa_cons pe_str (pa_cons (pe_xf XF_BadPlace N_BadPlace_number hz hf (pv 1)) (pa_cons (pe_callB (EK.call_isE EX_BadPlace hz hf) (by rfl) T.isinstance PyProof.Rows.boot_isinstance (pa_cons (pv 1) (pa_cons (pe_glob (v := .ref C_SkipsError) rfl g_SkipsError rfl) pa_nil))) pa_nil)))))))
       (EK.HdsN.cons ⟨(by rfl), (by decide), .inl g_TooMany⟩ (fun a oe cls d pn hz hf => (pss_one (ps_ret (pe_tup (pa_cons (pe_xf XF_TooMany N_TooMany_what hz hf (pv 1)) (pa_cons (pe_xf XF_TooMany N_TooMany_many hz hf (pv 1)) (pa_cons (pe_xf XF_TooMany N_TooMany_most hz hf (pv 1)) pa_nil))))))) EK.HdsN.nil))), ?_⟩
  · refine ⟨fun pins s' σ H' D I h' => ?_⟩
    obtain ⟨Ech, hW, h1, h2, h3⟩ := h'
    exact (pss_one (ps_ret (act _ pn xe Ech _ _ (takes_len tk) hW))).run pins s' σ H' D I ⟨h1, h2, h3⟩
  · refine ⟨Emet C_BadPlace C_TooMany Q, ?_, rfl, hc, h⟩
    rintro cls d σ' H' h2 h3
    obtain ⟨u1, u2, rfl⟩ : ∃ u1 u2, σ' = [u1, u2] := by
      match σ', h3 with
      | [a, b], _ => exact ⟨a, b, rfl⟩
    obtain ⟨dd, rfl, ⟨v, rfl, hx, q1⟩ | ⟨x, y, z, rfl, hx, q1⟩⟩ := h2
    · refine ⟨true, EX.bb, fun _ a ha => ?_, fun z => nomatch z⟩
      refine ⟨_, rfl, rfl, rfl, dd, _, _, rfl, hx, rfl, _, rfl, _, _, true, rfl, rfl, ⟨dd, _, rfl, hx⟩, .own _, k1, by show 3 ≤ sizeLine; decide, fun r hr2 => ?_⟩
      exact q1 r hr2
    · refine ⟨false, EX.tb, (fun z => nomatch z), fun _ => ⟨true, EX.tt, fun _ a ha => ?_, fun z => nomatch z⟩⟩
      refine ⟨_, rfl, rfl, rfl, dd, _, _, rfl, hx, rfl, _, rfl, rfl, rfl, dd, _, _, rfl, hx, rfl, _, rfl, rfl, rfl, dd, _, _, rfl, hx, rfl, by show 3 ≤ sizeLine; decide, fun r hr2 => ?_⟩
      exact q1 r hr2
end
end Law

namespace Law
open PySem PySem.Spec PyProof.Rows L2 Evl EK TR GX WV
open LamX (ExtN Tabs TabS CodeO)
theorem room70 {k : Nat} {A : Around} (r : Room k A) : A.units + 70 < cLine := by
  have := r.un
  omega
abbrev lamQ : Str := (Str.ofString "_law_is_read" ++ ".<locals>.") ++ "<lambda>"
def spIsRead (C Pt : Addr) : Sp := fun vs H Q _ => ∃ (p : PenI) (B : Hp) (n : Nat) (o : Addr) (R : Ru) (L : List Nat) (W : List Nat → List Nat) (rk : List Nat → Nat) (root : List Nat), vs = [.ref p.d, .ref o, .str (tx (W root))] ∧ Sta [(Pt, lamQ)] p B H n ∧ n < 500000 ∧
  WAll C B o R L W rk root ∧ 1 ≤ (W root).length ∧ (W root).length ≤ 400 ∧ ∀ H', Sta [(Pt, lamQ)] p B H' (n + 40) → Q (.bl true) H'
/-- values that are no indexes -/
structure Odd (B : Hp) (n : Nat) (v : V) : Prop where
  ex : ∃ g d, GA B v g ∧ AV B v d ∧ okT (.tuple [.str "place", d, .bool true]) = true ∧ whole 0 ((n : Int) - 1) g = false
theorem Odd.mono {B B' : Hp} (e : Ex B B') {n : Nat} {v : V} (h : Odd B n v) : Odd B' n v := by
  obtain ⟨g, d, h1, h2, h3, h4⟩ := h.ex
  exact ⟨g, d, GA.ex e h1, h2.ex e, h3, h4⟩
theorem okT_place : ∀ i, i < 401 → okT (.tuple [.str "place", .int (i : Nat), .bool true]) = true := by decide +kernel
section
variable {CB CT : Addr} {H : Hp} {Q : VK} {d : PyData}
theorem met_plc (hq : ∀ r u H', Ex H H' → H' r = some (.tup [.str "place", u, .bl true]) → AV H' u d → Q (.ref r) H') : RzD (Emet CB CT Q) H CB "number" d := fun dd v' H2 e2 _ hx av =>
  ⟨dd, rfl, .inl ⟨v', rfl, hx, fun r hr => hq _ _ _ (e2.trans (Ex.new hr)) upd_same (av.ex (Ex.new hr))⟩⟩
theorem met_few {m : Nat} (hq : ∀ r H', Ex H H' → H' r = some (.tup [.str "letters", .int (m : Nat), .int 2000]) → Q (.ref r) H') : RzF (Emet CB CT Q) H CT [("most", .int 2000), ("many", .int (m : Nat)), ("what", .str "letters")] := fun dd H2 e2 _ hx =>
  ⟨dd, rfl, .inr ⟨_, _, _, rfl, hx, fun r hr => hq _ _ (e2.trans (Ex.new hr)) upd_same⟩⟩
theorem rx_plc {K : PySem.W.Frag} {r : Addr} {u : V} (hr : H r = some (.tup [.str "place", u, .bl true])) (av : AV H u d) (ok : okT (.tuple [.str "place", d, .bool true]) = true) (q : Q (.str (PyData.tuple [.str "place", d, .bool true]).shown) H) : DY.RX K [.ref r] H Q :=
  rx_tup hr (.cons (.str _) (.cons av.de (.cons (.bl _) .nil))) ok q
theorem odd_not {n : Nat} {v : V} {g : Gt} (ga : GA H v g) (hw : whole 0 ((n : Int) - 1) g = false) {i : Nat} (e : v = .int (i : Nat)) (hi : i < n) : False := by
  subst e
  cases ga with
  | int j =>
    have : whole 0 ((n : Int) - 1) (.int (i : Nat)) = true := by
      show (decide ((0 : Int) ≤ (i : Nat)) && decide (((i : Nat) : Int) ≤ (n : Int) - 1)) = true
      rw [decide_eq_true (by omega), decide_eq_true (by omega)]
      rfl
    rw [this] at hw
    cases hw
theorem dp_plc {K : PySem.W.Frag} {r : Addr} (h : H r = some (.tup [.str "place", .int 1, .bl true])) : Dp K H (.ref r) (.tuple [.str "place", .int 1, .bool true]) := .tup (st_of h) (.cons (.str _) (.cons (.int _) (.cons (.bl _) .nil)))
theorem dp_few {K : PySem.W.Frag} {r : Addr} (h : H r = some (.tup [.str "letters", .int 2001, .int 2000])) : Dp K H (.ref r) (.tuple [.str "letters", .int 2001, .int 2000]) := .tup (st_of h) (.cons (.str _) (.cons (.int _) (.cons (.int _) .nil)))
theorem ten39 : (10 : Int) ^ ((39 : Int).toNat) = 1000000000000000000000000000000000000000 := by decide +kernel
theorem odds {B : Hp} {n : Nat} {l1 d1 : Addr} (hn : n ≤ 400) (h1 : B l1 = some (.lst [])) (h2 : B d1 = some (.dK [])) : ∀ v ∈ [V.int (-1), .int (n : Nat), .int ((10 : Int) ^ ((39 : Int).toNat)), .non, .bl true, .str "0", .ref l1, .ref d1], Odd B n v := by
  have w : ∀ i : Int, (i < 0 ∨ (n : Int) - 1 < i) → whole 0 ((n : Int) - 1) (.int i) = false := fun i hi => by
    show (decide (0 ≤ i) && decide (i ≤ (n : Int) - 1)) = false
    rcases hi with h | h
    · rw [decide_eq_false (p := 0 ≤ i) (by omega), Bool.false_and]
    · rw [decide_eq_false (p := i ≤ (n : Int) - 1) (by omega), Bool.and_false]
  intro v hv
  simp only [List.mem_cons, List.not_mem_nil, or_false] at hv
  rcases hv with rfl | rfl | rfl | rfl | rfl | rfl | rfl | rfl
  · exact ⟨_, _, .int _, .flat (.int _), by decide +kernel, w _ (.inl (by decide))⟩
  · exact ⟨_, _, .int _, .flat (.int _), okT_place n (by omega), w _ (.inr (by omega))⟩
  · exact ⟨_, _, .int _, .flat (.int _), by decide +kernel, w _ (.inr (by rw [ten39]; omega))⟩
  · exact ⟨_, _, .non, .flat .non, by decide +kernel, rfl⟩
  · exact ⟨_, _, .bl _, .flat (.bl _), by decide +kernel, rfl⟩
  · exact ⟨_, _, .str _, .flat (.str _), by decide +kernel, rfl⟩
  · exact ⟨.seq false [], .list [], .seq h1 .nil, .lst h1 .nil (by decide), by decide +kernel, rfl⟩
  · exact ⟨.oth, .dict [], .dct h2, .emp h2, by decide +kernel, rfl⟩
end
section
variable {P : Program} {w : World} {K : PySem.W.Frag} {mg : Str → Option Value} {base : Heap} {C C_BadPlace C_TooMany fB fT C_SkipsError gm c Pt fl fp : Addr} {fdm fdl fdp : FuncData}
theorem ok_is_read {f : Addr} {fd : FuncData} (F : GT.FunC K "_law_is_read" "_law_is_read" s_lis_read f fd c) (T : Tx mg) (g_repr : mg "repr" = none) (S : WC K C) (Fm : Fun K "_law_met" "_law_met" s_lmet gm fdm) (g_lmet : mg "_law_met" = some (.ref gm)) (b_lmet : Binds K fdm ["_law_call"] [])
    (E1 : ErrC K C_BadPlace fB C_SkipsError) (E2 : ErrC K C_TooMany fT C_SkipsError) (GS : Gs mg C_BadPlace C_TooMany C_SkipsError) (NF : NoF K C_BadPlace C_TooMany) (EX : Exm K C_BadPlace C_TooMany) (TB : LamX.TabB base mg c Pt)
    (Me_letter : Meth K C "letter" fl) (F_letter : FnOk P w K mg base (L2.CX P w) 9 fl fdl ["self", "number"] (spLetter C C_BadPlace)) (b_letter : Binds K fdl ["self", "number"] [])
    (Me_part : Meth K C "part" fp) (F_part : FnOk P w K mg base (L2.CX P w) 9 fp fdp ["self", "first", "size"] (spPart C C_BadPlace C_TooMany)) (b_part : Binds K fdp ["self", "first", "size"] [])
    (c_ldraw : Kn P w K mg base "_law_draw" ["_law_pen_here", "_law_many"] 1 spDraw) (c_pickL : Kn P w K mg base "_law_pick" ["_law_pen_here", "_law_some"] 2 spPickL) :
    GD.Gd P w K mg base 13 f fd ["_law_pen_here", "_law_weave", "_law_text"] (spIsRead C Pt) := by
  have k_lmet := Fm.kp
  obtain ⟨oc, od, kV, doc, pm, an, cdm, ct, osl, rfl, l_lmet, h_lmet⟩ := Fm.ex
  have mT : ∀ {q : Addr × Str}, q = (Pt, lamQ) → q ∈ [(Pt, lamQ)] := fun e => List.mem_singleton.mpr e
  have uT : ∀ q ∈ [(Pt, lamQ)], q.1 = Pt → q.2 = lamQ := fun q hq _ => by rw [List.mem_singleton.mp hq]
  refine GT.okGC F sc_lis_read (fun vs H Q E h => ?_) (fun A outer s H vs Q E hr hg h => ?_)
  · obtain ⟨p, B, n, o, R, L, W, rk, root, rfl, _⟩ := h
    rfl
  · obtain ⟨p, B, n, o, R, L, W, rk, root, rfl, S0, hn, hA, t1, t4, q⟩ := h
    refine ⟨_, (pss_cons (ps_set (i := 3) sc_lis_read.nd rfl (Or.inr rfl) (pe_callB call_len_str (by rfl) T.len PySem.boot_len (pa_cons (pv 2) pa_nil)))
      (pss_cons (ps_for PassesOwn.never rfl (pi_range1 (by rfl) T.range (pa_cons pe_int pa_nil)) (pg_name (i := 4) sc_lis_read.nd rfl (Or.inl rfl)) (pss_cons (ps_set (i := 5) sc_lis_read.nd rfl (Or.inl rfl) (pe_call c_pickL.ok (hr.mono (by decide)) (by rfl) c_pickL.g c_pickL.kp c_pickL.b .nil pass0 (pa_cons (pv 0) (pa_cons (pe_lst (pa_cons pe_int (pa_cons (pe_op op_sub (pv 3) pe_int) (pa_cons (pe_call c_ldraw.ok (hr.mono (by decide)) (by rfl) c_ldraw.g c_ldraw.kp c_ldraw.b .nil pass0 (pa_cons (pv 0) (pa_cons (pv 3) pa_nil))) pa_nil)))) pa_nil))))
      (pss_cons (ps_set (i := 6) sc_lis_read.nd rfl (Or.inl rfl) (pe_call c_ldraw.ok (hr.mono (by decide)) (by rfl) c_ldraw.g c_ldraw.kp c_ldraw.b .nil pass0 (pa_cons (pv 0) (pa_cons (pe_op op_add (pe_op op_sub (pv 3) (pv 5)) pe_int) pa_nil))))
      (pss_one (ps_if (PW.pt (pw_or (pt_cmpR op_ne (pe_meth (pv 1) S.cl Me_letter F_letter (hr.mono (by decide)) b_letter .nil passL (pa_cons (pv 5) pa_nil)) (pe_ix ix_str (pv 2) (pv 5) (fun _ _ => rfl)) (nomark _)) (pw_or1 (pt_cmpR op_ne (pe_meth (pv 1) S.cl Me_part F_part (hr.mono (by decide)) b_part .nil passL (pa_cons (pv 5) (pa_cons (pv 6) pa_nil))) (pe_slice sl_str (pv 2) (po_some (pv 5)) (po_some (pe_op op_add (pv 5) (pv 6)))) (nomark _))))) (pss_one (ps_ret pe_bl)) pss_nil)))))
      (pss_cons (ps_for PassesOwn.never rfl (pi_list (pe_lst (pa_cons (pe_un un_neg pe_int) (pa_cons (pv 3) (pa_cons (pe_op op_pow pe_int pe_int) (pa_cons pe_non (pa_cons pe_bl (pa_cons pe_str (pa_cons (pe_lst pa_nil) (pa_cons pe_dnewK pa_nil)))))))))) (pg_name (i := 7) sc_lis_read.nd rfl (Or.inr rfl)) (pss_cons (ps_if (pt_cmpR op_ne (pe_callB (DY.call_reprY hg (room70 hr)) (by rfl) g_repr boot_repr (pa_cons (LamX.pe_lamcall (k := 9) (by rfl) g_lmet k_lmet l_lmet h_lmet b_lmet sc_lmet rfl (Or.inl rfl) (met_gives T E1 E2 GS NF EX) TB rfl (mT rfl) uT (hr.mono (by decide)) (LamX.lamS_by (sc := defScope s_lis_read) (by decide +kernel)) rfl (fun _ _ _ _ _ => rfl) (fun A outer s H E f c hr => (MS.pe_methS (pv 1) S.cl Me_letter F_letter (hr.mono (by decide)) b_letter (fun σ => passAt (takes_of rfl rfl rfl rfl) σ) (pa_cons (pv 7) pa_nil)))) pa_nil)) (pe_callB (DY.call_reprY hg (room70 hr)) (by rfl) g_repr boot_repr (pa_cons (pe_tup (pa_cons pe_str (pa_cons (pv 7) (pa_cons pe_bl pa_nil)))) pa_nil)) (nomark _)) (pss_one (ps_ret pe_bl)) pss_nil)
      (pss_one (ps_if (pt_cmpR op_ne (pe_callB (DY.call_reprY hg (room70 hr)) (by rfl) g_repr boot_repr (pa_cons (LamX.pe_lamcall (k := 9) (by rfl) g_lmet k_lmet l_lmet h_lmet b_lmet sc_lmet rfl (Or.inl rfl) (met_gives T E1 E2 GS NF EX) TB rfl (mT rfl) uT (hr.mono (by decide)) (LamX.lamS_by (sc := defScope s_lis_read) (by decide +kernel)) rfl (fun _ _ _ _ _ => rfl) (fun A outer s H E f c hr => (MS.pe_methS (pv 1) S.cl Me_part F_part (hr.mono (by decide)) b_part (fun σ => passAt (takes_of rfl rfl rfl rfl) σ) (pa_cons (pv 7) (pa_cons pe_int pa_nil))))) pa_nil)) (pe_callB (DY.call_reprY hg (room70 hr)) (by rfl) g_repr boot_repr (pa_cons (pe_tup (pa_cons pe_str (pa_cons (pv 7) (pa_cons pe_bl pa_nil)))) pa_nil)) (nomark _)) (pss_one (ps_ret pe_bl)) pss_nil))))
      (pss_cons (ps_if (PW.pt (pw_or (pt_cmpR op_ne (pe_meth (pv 1) S.cl Me_part F_part (hr.mono (by decide)) b_part .nil passL (pa_cons (pv 3) (pa_cons pe_int pa_nil))) pe_str (nomark _)) (pw_or1 (pt_cmpR (op_neD hr.units) (LamX.pe_lamcall (k := 9) (by rfl) g_lmet k_lmet l_lmet h_lmet b_lmet sc_lmet rfl (Or.inl rfl) (met_gives T E1 E2 GS NF EX) TB rfl (mT rfl) uT (hr.mono (by decide)) (LamX.lamS_by (sc := defScope s_lis_read) (by decide +kernel)) rfl (fun _ _ _ _ _ => rfl) (fun A outer s H E f c hr => (MS.pe_methS (pv 1) S.cl Me_part F_part (hr.mono (by decide)) b_part (fun σ => passAt (takes_of rfl rfl rfl rfl) σ) (pa_cons pe_int (pa_cons (pv 3) pa_nil))))) (pe_tup (pa_cons pe_str (pa_cons pe_int (pa_cons pe_bl pa_nil)))) (nomark _))))) (pss_one (ps_ret pe_bl)) pss_nil)
      (pss_one (ps_ret (pe_cmpR (op_eqD hr.units) (LamX.pe_lamcall (k := 9) (by rfl) g_lmet k_lmet l_lmet h_lmet b_lmet sc_lmet rfl (Or.inl rfl) (met_gives T E1 E2 GS NF EX) TB rfl (mT rfl) uT (hr.mono (by decide)) (LamX.lamS_by (sc := defScope s_lis_read) (by decide +kernel)) rfl (fun _ _ _ _ _ => rfl) (fun A outer s H E f c hr => (MS.pe_methS (pv 1) S.cl Me_part F_part (hr.mono (by decide)) b_part (fun σ => passAt (takes_of rfl rfl rfl rfl) σ) (pa_cons (pv 3) (pa_cons pe_int pa_nil))))) (pe_tup (pa_cons pe_str (pa_cons pe_int (pa_cons pe_int pa_nil)))) (nomark _)))))))), ?_⟩
    obtain ⟨sz, hsz⟩ : ∃ sz, (W root).length = sz := ⟨_, rfl⟩
    have t4' : sz ≤ 400 := by omega
    have szl : (tx (W root)).length ≤ sizeLine := tx_le (by omega)
    refine ⟨_, rfl, _, rfl, szl, ?_⟩
    rw [tx_len, hsz]
    dsimp only [gName]
    refine' st_eq (σ' := [some (.ref p.d), some (.ref o), some (.str (tx (W root))), some (.int (sz : Nat)), none, none, none, none]) rfl ?_
    refine ⟨12, rfl, by decide, by decide, ?_⟩
    have wat : ∀ {B' : Hp}, Ex B B' → ∃ dx fs, B' o = some (.ins C dx fs) ∧ fs.lookup ("letter" : Str) = none ∧ fs.lookup ("part" : Str) = none := fun {B'} e => by
      obtain ⟨dx, d1, d2, kvs, ks, ho, _⟩ := hA.o.ex
      exact ⟨dx, _, e _ _ ho, rfl, rfl⟩
    refine for_range (lo := 0) (n := 12) (fun i σ H' => ∃ y4 y5 y6 y7 : Option V, σ = [some (.ref p.d), some (.ref o), some (.str (tx (W root))), some (.int (sz : Nat)), y4, y5, y6, y7] ∧ Sta [(Pt, lamQ)] p B H' (n + 3 * i))
      ⟨none, none, none, none, rfl, S0⟩ (fun i σ H1 hi hw => ?_) (fun σ H1 hw => ?_)
    · obtain ⟨y4, y5, y6, y7, rfl, S1⟩ := hw
      refine ⟨_, rfl, _, rfl, _, _, rfl, rfl, _, rfl, _, rfl, p, _, _, _, rfl, S1.plus, by omega, by omega, by omega, fun H2 r2 P2 r20 r21 => ⟨by show 3 ≤ sizeLine; decide, fun l hl => ?_⟩⟩
      have S2 := (S1.back P2).ex (Ex.new (o := .lst [.int 0, .int ((sz : Nat) - 1), .int r2]) hl)
      refine ⟨p, _, l, _, _, rfl, S2.plus, by omega, upd_same, by show 0 < 3; decide, by show 3 < 1000; decide, fun H3 v P3 hv => ?_⟩
      have S3 := S2.back P3
      obtain ⟨a, rfl, ha⟩ : ∃ a : Nat, v = .int (a : Nat) ∧ a < sz := by
        have : v = .int 0 ∨ v = .int ((sz : Nat) - 1) ∨ v = .int r2 := by simpa using hv
        rcases this with rfl | rfl | rfl
        · exact ⟨0, rfl, by omega⟩
        · exact ⟨sz - 1, congrArg V.int (by omega), by omega⟩
        · exact ⟨r2.toNat, congrArg V.int (by omega), by omega⟩
      refine ⟨_, rfl, _, rfl, _, rfl, _, _, rfl, rfl, _, _, rfl, rfl, p, _, _, _, rfl, S3.plus, by omega, by omega, by omega, fun H4 r4 P4 r40 r41 => ?_⟩
      have S4 := S3.back P4
      obtain ⟨lg, rfl⟩ : ∃ k : Nat, r4 = (k : Int) := ⟨r4.toNat, (Int.toNat_of_nonneg r40).symm⟩
      have hlg : a + lg ≤ sz := by omega
      dsimp only [gName]
      refine' st_eq (σ' := [some (.ref p.d), some (.ref o), some (.str (tx (W root))), some (.int (sz : Nat)), some (.int (0 + (i : Int))), some (.int (a : Nat)), some (.int (lg : Nat)), y7]) rfl ?_
      obtain ⟨dx, fs, ho, k1, k2⟩ := wat S4.pen.1
      refine ⟨_, rfl, o, dx, fs, rfl, ho, k1, _, rfl, ?_⟩
      refine ⟨o, R, L, W, rk, root, _, .int (a : Nat), .int (a : Nat), rfl, hA.mono S4.pen.1, .int _, .flat (.int _), fun H5 e5 => ⟨fun i5 q5 _ => ?_, fun hw => ?_⟩⟩
      · obtain rfl : a = i5 := by
          have := V.int.inj q5
          omega
        have S5 := S4.ex e5
        have hat : (W root)[a]? = some (W root)[a] := List.getElem?_eq_getElem (by omega)
        obtain ⟨ch, hch⟩ : ∃ ch, (W root)[a]'(by omega) = ch := ⟨_, rfl⟩
        rw [hch] at hat
        refine ⟨_, rfl, _, rfl, _, _, ch, rfl, rfl, szl, atI_nat hat, ?_⟩
        have e1 : ((W root).drop a).take 1 = [ch] := by
          rw [List.drop_eq_getElem_cons (by omega), hch]
          rfl
        rw [e1]
        refine ⟨rfl, _, rfl, ite2 (fun hb => absurd hb (by simp [tx])) (fun _ => ?_)⟩
        obtain ⟨dx, fs, ho, k1, k2⟩ := wat S5.pen.1
        refine ⟨_, rfl, o, dx, fs, rfl, ho, k2, _, rfl, _, rfl, ?_⟩
        refine ⟨o, R, L, W, rk, root, _, .int (a : Nat), .int (a : Nat), lg, rfl, hA.mono S5.pen.1, .int _, .flat (.int _), fun H6 e6 => ⟨fun z => absurd z (by omega), fun _ => ⟨fun i6 q6 _ => ?_, fun hw => ?_⟩⟩⟩
        · obtain rfl : a = i6 := by
            have := V.int.inj q6
            omega
          refine ⟨_, rfl, _, rfl, _, rfl, _, rfl, _, rfl, _, _, rfl, rfl, _, rfl, _, rfl, szl, ?_⟩
          rw [cut_mid]
          exact ⟨rfl, _, rfl, ite2 (fun hb => absurd hb (by simp)) (fun _ => ⟨_, _, _, _, rfl, (S5.ex e6).le (by omega)⟩)⟩
        · exfalso
          have : whole 0 (((W root).length : Int) - (lg : Nat)) (.int (a : Nat)) = true := by
            show (decide ((0 : Int) ≤ (a : Nat)) && decide (((a : Nat) : Int) ≤ ((W root).length : Int) - (lg : Nat))) = true
            rw [decide_eq_true (by omega), decide_eq_true (by omega)]
            rfl
          rw [this] at hw
          cases hw
      · exfalso
        have : whole 0 (((W root).length : Nat) - 1) (.int (a : Nat)) = true := by
          show (decide ((0 : Int) ≤ (a : Nat)) && decide (((a : Nat) : Int) ≤ ((W root).length : Nat) - 1)) = true
          rw [decide_eq_true (by omega), decide_eq_true (by omega)]
          rfl
        rw [this] at hw
        cases hw
    obtain ⟨y4, y5, y6, y7, rfl, S1⟩ := hw
    refine ⟨_, rfl, _, rfl, _, _, rfl, rfl, ⟨by decide, by decide, by decide⟩, Nat.zero_le _, fun l1 hl1 => ?_⟩
    have S2 := S1.ex (Ex.new (o := .lst []) hl1)
    have k2 : (upd H1 l1 (.lst [])) l1 = some (.lst []) := upd_same
    generalize (upd H1 l1 (.lst [])) = H2 at S2 k2 ⊢
    intro d1 hd1
    have S3 := S2.ex (Ex.new (o := .dK []) hd1)
    have k3 := (Ex.new (o := .dK []) hd1) _ _ k2
    have j3 : (upd H2 d1 (.dK [])) d1 = some (.dK []) := upd_same
    have nd : d1 ≠ p.d := fresh_ne S2.pen hd1
    generalize (upd H2 d1 (.dK [])) = H3 at S3 k3 j3 ⊢
    refine ⟨by show 8 ≤ sizeLine; decide, fun l hl => ?_⟩
    have S4 := S3.ex (Ex.new (o := .lst [V.int (-1), .int (sz : Nat), .int ((10 : Int) ^ ((39 : Int).toNat)), .non, .bl true, .str "0", .ref l1, .ref d1]) hl)
    have k4 := (Ex.new (o := .lst [V.int (-1), .int (sz : Nat), .int ((10 : Int) ^ ((39 : Int).toNat)), .non, .bl true, .str "0", .ref l1, .ref d1]) hl) _ _ k3
    have j4 := (Ex.new (o := .lst [V.int (-1), .int (sz : Nat), .int ((10 : Int) ^ ((39 : Int).toNat)), .non, .bl true, .str "0", .ref l1, .ref d1]) hl) _ _ j3
    have i4 : (upd H3 l (.lst [V.int (-1), .int (sz : Nat), .int ((10 : Int) ^ ((39 : Int).toNat)), .non, .bl true, .str "0", .ref l1, .ref d1])) l = some (.lst [V.int (-1), .int (sz : Nat), .int ((10 : Int) ^ ((39 : Int).toNat)), .non, .bl true, .str "0", .ref l1, .ref d1]) := upd_same
    refine ⟨l, rfl, ⟨_, sq_of i4⟩, ?_⟩
    generalize (upd H3 l (.lst [V.int (-1), .int (sz : Nat), .int ((10 : Int) ^ ((39 : Int).toNat)), .non, .bl true, .str "0", .ref l1, .ref d1])) = H4 at S4 k4 j4 i4 ⊢
    obtain ⟨B4, S5, eB, kB⟩ := S4.hold
    have hodd := odds (B := B4) (n := sz) t4' (kB _ _ k4 (S4.pen.lst_ne k4) (fun _ z => by cases z)) (kB _ _ j4 nd (fun _ z => by cases z))
    have hlB := kB _ _ i4 (S4.pen.lst_ne i4) (fun _ z => by cases z)
    obtain ⟨xs, hxs⟩ : ∃ xs, [V.int (-1), .int (sz : Nat), .int ((10 : Int) ^ ((39 : Int).toNat)), .non, .bl true, .str "0", .ref l1, .ref d1] = xs := ⟨_, rfl⟩
    rw [hxs] at hodd hlB
    have hAB := hA.mono eB
    refine for_list (xs := xs) (fun i σ H' => ∃ y4 y5 y6 y7 : Option V, σ = [some (.ref p.d), some (.ref o), some (.str (tx (W root))), some (.int (sz : Nat)), y4, y5, y6, y7] ∧ Sta [(Pt, lamQ)] p B4 H' (n + 36))
      ⟨y4, y5, y6, y7, rfl, S5.le (by omega)⟩ (fun i σ H' _ p => sq_of (p.choose_spec.choose_spec.choose_spec.choose_spec.2.pen.1 _ _ hlB)) (fun i x σ H5 hi hw => ?_) (fun σ H5 hw => ?_)
    · obtain ⟨y4, y5, y6, y7, rfl, S6⟩ := hw
      obtain ⟨g, dd, o1, o2, o3, o4⟩ := (hodd x (List.mem_of_getElem? hi)).ex
      dsimp only [gName]
      refine' st_eq (σ' := [some (.ref p.d), some (.ref o), some (.str (tx (W root))), some (.int (sz : Nat)), y4, y5, y6, some x]) rfl ?_
      refine ⟨S6.tabs, fun H7 eN7 T7 => ?_⟩
      have S7 := S6.exN eN7 T7
      obtain ⟨dx, fs, ho, q1, q2⟩ := wat (eB.trans S7.pen.1)
      refine ⟨_, rfl, o, dx, fs, rfl, ho, q1, _, rfl, ?_⟩
      refine ⟨o, R, L, W, rk, root, x, g, dd, rfl, hAB.mono S7.pen.1, GA.ex S7.pen.1 o1, o2.ex S7.pen.1, fun H8 e8 => ⟨fun i8 q8 h8 => (odd_not (n := sz) o1 o4 q8 (by omega)).elim, fun _ => met_plc fun r u H9 e9 hr9 av9 => ?_⟩⟩
      have S9 := (S7.ex e8).ex e9
      refine rx_plc hr9 av9 o3 ⟨_, rfl, by show 3 ≤ sizeLine; decide, fun r2 hr2 => ?_⟩
      have S10 := S9.ex (Ex.new (o := .tup [.str "place", x, .bl true]) hr2)
      refine rx_plc upd_same (o2.ex S10.pen.1) o3 ?_
      refine ⟨rfl, _, rfl, ite2 (fun hb => absurd hb (by simp)) (fun _ => ?_)⟩
      refine ⟨S10.tabs, fun H11 eN11 T11 => ?_⟩
      have S11 := S10.exN eN11 T11
      obtain ⟨dx, fs, ho, q1, q2⟩ := wat (eB.trans S11.pen.1)
      refine ⟨_, rfl, o, dx, fs, rfl, ho, q2, _, rfl, ?_⟩
      refine ⟨o, R, L, W, rk, root, x, g, dd, 1, rfl, hAB.mono S11.pen.1, GA.ex S11.pen.1 o1, o2.ex S11.pen.1, fun H12 e12 => ⟨fun z => absurd z (by decide), fun _ => ⟨fun i8 q8 h8 => (odd_not (n := sz) o1 o4 q8 (by omega)).elim, fun _ => met_plc fun r u H13 e13 hr13 av13 => ?_⟩⟩⟩
      have S13 := (S11.ex e12).ex e13
      refine rx_plc hr13 av13 o3 ⟨_, rfl, by show 3 ≤ sizeLine; decide, fun r2 hr2 => ?_⟩
      have S14 := S13.ex (Ex.new (o := .tup [.str "place", x, .bl true]) hr2)
      refine rx_plc upd_same (o2.ex S14.pen.1) o3 ?_
      exact ⟨rfl, _, rfl, ite2 (fun hb => absurd hb (by simp)) (fun _ => ⟨_, _, _, _, rfl, S14⟩)⟩
    obtain ⟨y4, y5, y6, y7, rfl, S6⟩ := hw
    obtain ⟨dx, fs, ho, q1, q2⟩ := wat (eB.trans S6.pen.1)
    refine ⟨_, rfl, o, dx, fs, rfl, ho, q2, _, rfl, ?_⟩
    refine ⟨o, R, L, W, rk, root, _, .int (sz : Nat), .int (sz : Nat), 0, rfl, hAB.mono S6.pen.1, .int _, .flat (.int _), fun H7 e7 => ⟨fun z => absurd z (by decide), fun _ => ⟨fun i7 q7 h7 => ?_, fun hw => ?_⟩⟩⟩
    · have S7 := S6.ex e7
      rw [List.take_zero, show tx [] = Str.ofString "" by decide +kernel]
      refine ⟨rfl, _, rfl, ite2 (fun hb => absurd hb (by simp)) (fun _ => ?_)⟩
      refine ⟨S7.tabs, fun H8 eN8 T8 => ?_⟩
      have S8 := S7.exN eN8 T8
      obtain ⟨dx, fs, ho, q1, q2⟩ := wat (eB.trans S8.pen.1)
      refine ⟨_, rfl, o, dx, fs, rfl, ho, q2, _, rfl, ?_⟩
      refine ⟨o, R, L, W, rk, root, _, .int 1, .int 1, sz, rfl, hAB.mono S8.pen.1, .int _, .flat (.int _), fun H9 e9 => ⟨fun z => absurd z (by omega), fun _ => ⟨fun i9 q9 h9 => ?_, fun _ => met_plc fun r u H10 e10 hr10 av10 => ?_⟩⟩⟩
      · exfalso
        have := V.int.inj q9
        omega
      · have S10 := (S8.ex e9).ex e10
        obtain rfl := av_int av10
        refine ⟨by show 3 ≤ sizeLine; decide, fun r2 hr2 => ?_⟩
        have S11 := S10.ex (Ex.new (o := .tup [.str "place", .int 1, .bl true]) hr2)
        refine ⟨_, _, dp_plc ((Ex.new hr2) _ _ hr10), dp_plc upd_same, by decide +kernel, by decide +kernel, _, rfl, ite2 (fun hb => absurd hb (by decide +kernel)) (fun _ => ?_)⟩
        refine ⟨S11.tabs, fun H12 eN12 T12 => ?_⟩
        have S12 := S11.exN eN12 T12
        obtain ⟨dx, fs, ho, q1, q2⟩ := wat (eB.trans S12.pen.1)
        refine ⟨_, rfl, o, dx, fs, rfl, ho, q2, _, rfl, ?_⟩
        refine ⟨o, R, L, W, rk, root, _, .int (sz : Nat), .int (sz : Nat), 2001, rfl, hAB.mono S12.pen.1, .int _, .flat (.int _), fun H13 e13 => ⟨fun _ => met_few fun r3 H14 e14 hr14 => ?_, fun z => absurd z (by decide)⟩⟩
        have S14 := (S12.ex e13).ex e14
        refine ⟨by show 3 ≤ sizeLine; decide, fun r4 hr4 => ?_⟩
        have S15 := S14.ex (Ex.new (o := .tup [.str "letters", .int 2001, .int 2000]) hr4)
        refine ⟨_, _, dp_few ((Ex.new hr4) _ _ hr14), dp_few upd_same, by decide +kernel, by decide +kernel, ?_⟩
        rw [show PyData.eqv (.tuple [.str "letters", .int 2001, .int 2000]) (.tuple [.str "letters", .int 2001, .int 2000]) = true by decide +kernel]
        refine q _ ⟨⟨eB.trans S15.pen.1, S0.pen.2.1, S0.pen.2.2.1, S0.pen.2.2.2.1, ?_⟩, S0.nt, S15.tabs⟩
        obtain ⟨op, lf, ho, hd⟩ := S15.pen.2.2.2.2
        exact ⟨op, lf, by omega, hd⟩
    · exfalso
      have : whole 0 (((W root).length : Int) - ((0 : Nat) : Int)) (.int (sz : Nat)) = true := by
        show (decide ((0 : Int) ≤ (sz : Nat)) && decide (((sz : Nat) : Int) ≤ ((W root).length : Int) - ((0 : Nat) : Int))) = true
        rw [decide_eq_true (by omega), decide_eq_true (by omega)]
        rfl
      rw [this] at hw
      cases hw
end
end Law

namespace WV
open PySem PySem.Spec PyProof.Rows L2 Evl
/-! ### the second weave: X, a piece again and again and the letters; Y, X twice -/
def nX : T := [88]
def nY : T := [89]
def R2 (p L : T) (c : Nat) : Law.Ru := [(nX, [(p, c), (L, 1)]), (nY, [(nX, 2)])]
def W2 (p L : T) (c : Nat) : T → T := fun u => if u = nX then rep c p ++ L else if u = nY then (rep c p ++ L) ++ (rep c p ++ L) else u
def rk2 : T → Nat := fun u => if u = nY then 1 else 0
theorem nXY : nX ≠ nY := by decide
theorem W2_x {p L : T} {c : Nat} : W2 p L c nX = rep c p ++ L := if_pos rfl
theorem W2_y {p L : T} {c : Nat} : W2 p L c nY = (rep c p ++ L) ++ (rep c p ++ L) := by
  unfold W2
  rw [if_neg (by decide), if_pos rfl]
theorem W2_own {p L : T} {c : Nat} {u : T} (h : Law.isNm u = false) : W2 p L c u = u := by
  unfold W2
  rw [if_neg (fun z => by rw [z] at h; revert h; decide), if_neg (fun z => by rw [z] at h; revert h; decide)]
theorem wv2 {p L : T} {c : Nat} (hp : Law.isNm p = false) (hL : Law.isNm L = false) (p1 : 1 ≤ p.length) (p7 : p.length ≤ 7) (l1 : 1 ≤ L.length) (l4 : L.length ≤ 4) (pL : ∀ x ∈ p, x ∈ L) (c1 : 1 ≤ c) (c2 : c ≤ 1000000000000000000000000000000) : Wv (R2 p L c) L (W2 p L c) rk2 := by
  have two : ∀ {q : T × Law.Rows → Prop}, q (nX, [(p, c), (L, 1)]) → q (nY, [(nX, 2)]) → ∀ r ∈ R2 p L c, q r := fun {q} h1 h2 r hr => by
    rcases List.mem_cons.mp hr with rfl | hr
    · exact h1
    · rw [List.mem_singleton.mp hr]
      exact h2
  have wp := W2_own (p := p) (L := L) (c := c) hp
  have wl := W2_own (p := p) (L := L) (c := c) hL
  refine ⟨by show [nX, nY].Nodup; decide, (by show 1 ≤ 2; decide), (by show 2 ≤ 40; decide), two (show Law.isNm nX = true by decide) (show Law.isNm nY = true by decide), two ⟨by show 1 ≤ 2; decide, by show 2 ≤ 8; decide⟩ ⟨by show 1 ≤ 1; decide, by show 1 ≤ 8; decide⟩, two (fun pc hpc => ?_) (fun pc hpc => ?_), two (fun pc hpc => ?_) (fun pc hpc => ?_), two ?_ ?_, two (fun pc hpc => ?_) (fun pc hpc => ?_)⟩
  · rcases List.mem_cons.mp hpc with rfl | hpc
    · exact ⟨by show p.length < 500; omega, c1, c2, .inl (by rw [wp]; omega)⟩
    · rw [List.mem_singleton.mp hpc]
      exact ⟨by show L.length < 500; omega, by show 1 ≤ 1; decide, by show 1 ≤ 1000000000000000000000000000000; decide, .inr (by show 1 < 18446744073709551616; decide)⟩
  · rw [List.mem_singleton.mp hpc]
    exact ⟨by show 1 < 500; decide, by show 1 ≤ 2; decide, by show 2 ≤ 1000000000000000000000000000000; decide, .inr (by show 2 < 18446744073709551616; decide)⟩
  · rcases List.mem_cons.mp hpc with rfl | hpc
    · exact .inr ⟨hp, p1, by show p.length ≤ 60; omega, pL, wp⟩
    · rw [List.mem_singleton.mp hpc]
      exact .inr ⟨hL, l1, by show L.length ≤ 60; omega, fun _ h => h, wl⟩
  · rw [List.mem_singleton.mp hpc]
    exact .inl ⟨by show nX ∈ [nX, nY]; decide, by show rk2 nX < rk2 nY; decide⟩
  · show W2 p L c nX = rep c (W2 p L c p) ++ (rep 1 (W2 p L c L) ++ [])
    rw [W2_x, wp, wl, rep_one, List.append_nil]
  · show W2 p L c nY = rep 2 (W2 p L c nX) ++ []
    rw [W2_y, W2_x, List.append_nil, rep_succ, rep_one]
  · rcases List.mem_cons.mp hpc with rfl | hpc
    · rw [wp]
      exact p1
    · rw [List.mem_singleton.mp hpc, wl]
      exact l1
  · rw [List.mem_singleton.mp hpc, W2_x, List.length_append]
    omega
theorem rep_get (w : T) : ∀ (c k : Nat), k < w.length * c → (rep c w)[k]? = w[k % w.length]?
  | 0, k, h => by simp at h
  | c + 1, k, h => by
    rw [rep_succ]
    by_cases q : k < w.length
    · rw [List.getElem?_append_left q, Nat.mod_eq_of_lt q]
    · rw [List.getElem?_append_right (by omega), rep_get w c (k - w.length) (by rw [Nat.mul_succ] at h; omega), ← Nat.mod_eq_sub_mod (by omega)]
/-- a letter of the second weave -/
theorem y_get {p L : T} {c k : Nat} (h : k < 2 * (p.length * c + L.length)) : (W2 p L c nY)[k]? = if k % (p.length * c + L.length) < p.length * c then p[(k % (p.length * c + L.length)) % p.length]? else L[k % (p.length * c + L.length) - p.length * c]? := by
  have hl : (rep c p ++ L).length = p.length * c + L.length := by rw [List.length_append, rep_len, Nat.mul_comm]
  have one : ∀ j, j < p.length * c + L.length → (rep c p ++ L)[j]? = if j < p.length * c then p[j % p.length]? else L[j - p.length * c]? := fun j hj => by
    have rl : (rep c p).length = p.length * c := by rw [rep_len, Nat.mul_comm]
    by_cases q : j < p.length * c
    · rw [if_pos q, List.getElem?_append_left (by rw [rl]; exact q), rep_get p c j q]
    · rw [if_neg q, List.getElem?_append_right (by rw [rl]; omega), rl]
  rw [W2_y]
  by_cases q : k < p.length * c + L.length
  · rw [List.getElem?_append_left (by rw [hl]; exact q), Nat.mod_eq_of_lt q, one k q]
  · have e : k % (p.length * c + L.length) = k - (p.length * c + L.length) := by
      rw [Nat.mod_eq_sub_mod (by omega), Nat.mod_eq_of_lt (by omega)]
    rw [List.getElem?_append_right (by rw [hl]; omega), hl, e, one _ (by omega)]
theorem y_len {p L : T} {c : Nat} : (W2 p L c nY).length = 2 * (p.length * c + L.length) := by
  rw [W2_y, List.length_append, List.length_append, rep_len, Nat.mul_comm c]
  omega
theorem y_cut {p L : T} {c : Nat} (c1 : 1 ≤ c) {x : Nat} (hx : p[0]? = some x) : ((W2 p L c nY).drop (p.length * c)).take (L.length + 1) = L ++ [x] := by
  have rl : (rep c p).length = p.length * c := by rw [rep_len, Nat.mul_comm]
  obtain ⟨c', rfl⟩ : ∃ c', c = c' + 1 := ⟨c - 1, by omega⟩
  cases p with
  | nil => cases hx
  | cons y p' =>
    cases hx
    rw [W2_y, List.append_assoc, List.drop_append, List.drop_eq_nil_of_le (by rw [rl]; exact Nat.le_refl _), List.nil_append, rl, Nat.sub_self, List.drop_zero, List.take_append, List.take_of_length_le (by omega), Nat.add_sub_cancel_left, rep_succ]
    rfl
end WV
namespace Law
open PySem PySem.Spec PyProof.Rows L2 Evl EK TR GX WV
open LamX (ExtN Tabs TabS CodeO)
theorem RuK.exN {H H' : Hp} (e : ExtN H H') {kvs : List (Key × V)} {R : Ru} (h : RuK H kvs R) : RuK H' kvs R := by
  have keep : ∀ {b : Addr} {k : Bool} {xs : List V}, H b = some (ob k xs) → H' b = some (ob k xs) := fun {b k xs} hb => e b _ hb (fun ps z => by cases k <;> cases z)
  refine paired_mono (fun kv r q => ⟨q.1, ?_⟩) h
  obtain ⟨a, k, xs, hv, ha, hp⟩ := q.2
  refine ⟨a, k, xs, hv, keep ha, paired_mono (fun v pc q => ?_) hp⟩
  obtain ⟨b, kb, hv, hb⟩ := q
  exact ⟨b, kb, hv, keep hb⟩
theorem tabs_upd {T : List (Addr × Str)} {H : Hp} {d : Addr} {o o' : HO} (h : Tabs T H) (hd : H d = some o) (n1 : ∀ ps, o ≠ .tbl ps) (n2 : ∀ c' q, o ≠ CodeO c' q) : Tabs T (upd H d o') := fun q hq => by
  obtain ⟨ps, h1, h2, h3⟩ := h q hq
  refine ⟨ps, by rw [upd_ne (fun z => by rw [z, hd] at h1; exact n1 ps (Option.some.inj h1))]; exact h1, h2, fun pos cv hc => ?_⟩
  obtain ⟨c, e1, e2⟩ := h3 pos cv hc
  refine ⟨c, e1, ?_⟩
  rw [upd_ne (fun z => by
    rw [z, hd] at e2
    exact n2 _ _ (Option.some.inj e2))]
  exact e2
theorem Sta.low {T : List (Addr × Str)} {p : PenI} {B B' H H' : Hp} {n m : Nat} (S : Sta T p B H n) (S' : Sta T p B' H' m) (e : Ex B B') : Sta T p B H' m where
  pen := ⟨e.trans S'.pen.1, S.pen.2.1, S.pen.2.2.1, S.pen.2.2.2.1, S'.pen.2.2.2.2⟩
  nt := S.nt
  tabs := S'.tabs
theorem Sta.set {T : List (Addr × Str)} {p : PenI} {B H : Hp} {n : Nat} {d : Addr} {o o' : HO} (S : Sta T p B H n) (hd : H d = some o) (n1 : ∀ ps, o ≠ .tbl ps) (n2 : ∀ c' q, o ≠ CodeO c' q) (hB : B d = none) (np : d ≠ p.d) : Sta T p B (upd H d o') n where
  pen := S.pen.upd hB np
  nt := S.nt
  tabs := tabs_upd S.tabs hd n1 n2
structure KnG (P : Program) (w : World) (K : PySem.W.Frag) (mg : Str → Option Value) (base : Heap) (x : Str) (ps : List Str) (k : Nat) (sp : Sp) where
  f : Addr
  fd : FuncData
  ok : GD.Gd P w K mg base k f fd ps sp
  len : ∀ ws H Q E, sp ws H Q E → ws.length = ps.length
  g : mg x = some (.ref f)
  kp : PySem.W.keepIn K (.ref f) = true
  b : Binds K fd ps []
theorem cut_mem {xs : List V} {lo hi : Option Int} {v : V} (h : v ∈ cutV xs lo hi) : v ∈ xs := by
  unfold cutV at h
  exact List.mem_of_mem_drop (List.mem_of_mem_take h)
theorem isNm_low {L u : List Nat} (hL : LG L) (h1 : 1 ≤ u.length) (hu : ∀ c ∈ u, c ∈ L) : isNm u = false := by
  unfold isNm
  rw [Bool.and_eq_false_iff]
  refine .inr ?_
  rw [List.all_eq_false]
  obtain ⟨c, ur, rfl⟩ : ∃ c ur, u = c :: ur := by
    cases u with
    | nil => simp at h1
    | cons c ur => exact ⟨c, ur, rfl⟩
  refine ⟨c, List.mem_cons_self, ?_⟩
  have := (hL.az c (hu c List.mem_cons_self)).1
  rw [decide_eq_false (p := c ≤ 90) (by omega), Bool.and_false]
  simp
end Law

namespace Law
open PySem PySem.Spec PyProof.Rows L2 Evl EK TR GX WV
open LamX (ExtN Tabs TabS CodeO)
def spLaw (K : PySem.W.Frag) (Pt : Addr) : Sp := fun vs H Q _ => ∃ (a : Addr) (ns : List Int), vs = [.ref a] ∧ H Pt = some (.tbl #[]) ∧ SqL K H a (ns.map V.int) ∧ ns.length ≤ 63 ∧ ∀ H', Q (.bl true) H'
theorem kit_ll {K : PySem.W.Frag} : PySem.W.kitOne K (.type "list") (.type "list") = some true := kit_ty (by decide +kernel)
theorem kit_tl {K : PySem.W.Frag} : PySem.W.kitOne K (.type "tuple") (.type "list") = some false := kit_ty (by decide +kernel)
theorem WOb.base {C : Addr} {H B : Hp} {o d1 d2 : Addr} {p : PenI} {R : Ru} {L : List Nat} {W : List Nat → List Nat} {root : List Nat} (h : WOb C H o d1 d2 R L W root) (hp : ∃ kvs, H p.d = some (.dK kvs)) (k : ∀ b o, H b = some o → b ≠ p.d → (∀ ps, o ≠ .tbl ps) → B b = some o) (n1 : d1 ≠ p.d) (n2 : d2 ≠ p.d) : WOb C B o d1 d2 R L W root := by
  obtain ⟨pk, hp⟩ := hp
  obtain ⟨dx, kvs, ks, h1, h2, h3, h4, h5⟩ := h.ex
  refine ⟨dx, kvs, ks, k _ _ h1 (fun z => by rw [z, hp] at h1; cases h1) (fun _ z => by cases z), k _ _ h2 n1 (fun _ z => by cases z), h3.to fun b xs hb => k _ _ hb (fun z => by rw [z, hp] at hb; cases hb) (fun _ z => by cases z), k _ _ h4 n2 (fun _ z => by cases z), h5⟩
theorem ten30 : (10 : Int) ^ ((30 : Int).toNat) = 1000000000000000000000000000000 := by decide +kernel
section
variable {P : Program} {w : World} {K : PySem.W.Frag} {mg : Str → Option Value} {base : Heap} {C_Weave C_BadPlace C_TooMany fi fl fp Pt : Addr} {fdi fdl fdp : FuncData}
theorem ok_law {f : Addr} {fd : FuncData} (F : Fun K "law" "law" s_law f fd) (T : Tx mg) (S : WC K C_Weave) (M_Weave : Mk K C_Weave fi) (g_Weave : mg "Weave" = some (.ref C_Weave)) (F_Weave : FnOk P w K mg base CX0 4 fi fdi ["self", "letters", "rules", "root"] (spInitW C_Weave)) (b_Weave : Binds K fdi ["self", "letters", "rules", "root"] [])
    (Me_letter : Meth K C_Weave "letter" fl) (F_letter : FnOk P w K mg base (L2.CX P w) 9 fl fdl ["self", "number"] (spLetter C_Weave C_BadPlace)) (b_letter : Binds K fdl ["self", "number"] [])
    (Me_part : Meth K C_Weave "part" fp) (F_part : FnOk P w K mg base (L2.CX P w) 9 fp fdp ["self", "first", "size"] (spPart C_Weave C_BadPlace C_TooMany)) (b_part : Binds K fdp ["self", "first", "size"] [])
    (c_lpen : Kn P w K mg base "_law_pen" ["_law_script"] 1 (spPen K)) (c_ldraw : Kn P w K mg base "_law_draw" ["_law_pen_here", "_law_many"] 1 spDraw) (c_pickL : Kn P w K mg base "_law_pick" ["_law_pen_here", "_law_some"] 2 spPickL) (c_lletters : Kn P w K mg base "_law_letters" ["_law_pen_here"] 3 spLetters)
    (c_lpiece : Kn P w K mg base "_law_piece" ["_law_pen_here", "_law_letters_here", "_law_most"] 3 spPiece) (c_lrules : Kn P w K mg base "_law_rules" ["_law_pen_here", "_law_letters_here", "_law_most", "_law_counts"] 4 spRules)
    (c_lmixed : Kn P w K mg base "_law_mixed" ["_law_pen_here", "_law_rules_here"] 3 spMixed) (c_lis_read : KnG P w K mg base "_law_is_read" ["_law_pen_here", "_law_weave", "_law_text"] 13 (spIsRead C_Weave Pt)) :
    GD.Gd P w K mg base 16 f fd ["_law_script"] (spLaw K Pt) := by
  refine GD.okG F sc_law (fun vs H Q E h => ?_) (fun cdv A outer s H vs Q E hr hg h => ?_)
  · obtain ⟨a, ns, rfl, _⟩ := h
    rfl
  · obtain ⟨a, ns, rfl, hPt, hS, hl, q⟩ := h
    refine ⟨_, (pss_cons (ps_set (i := 1) sc_law.nd rfl (Or.inl rfl) (pe_call c_lpen.ok (hr.mono (by decide)) (by rfl) c_lpen.g c_lpen.kp c_lpen.b .nil pass0 (pa_cons (pv 0) pa_nil)))
      (pss_cons (ps_for PassesOwn.never rfl (pi_range1 (by rfl) T.range (pa_cons (pe_op op_add pe_int (pe_callB (call_min2 rfl) (by rfl) T.min (by decide +kernel) (pa_cons pe_int (pa_cons (pe_callB call_len_seq (by rfl) T.len PySem.boot_len (pa_cons (pv 0) pa_nil)) pa_nil)))) pa_nil)) (pg_name (i := 2) sc_law.nd rfl (Or.inl rfl)) (pss_cons (ps_set (i := 3) sc_law.nd rfl (Or.inl rfl) (pe_call c_lletters.ok (hr.mono (by decide)) (by rfl) c_lletters.g c_lletters.kp c_lletters.b .nil pass0 (pa_cons (pv 1) pa_nil)))
      (pss_cons (ps_asg (pe_call c_lrules.ok (hr.mono (by decide)) (by rfl) c_lrules.g c_lrules.kp c_lrules.b .nil pass0 (pa_cons (pv 1) (pa_cons (pv 3) (pa_cons pe_int (pa_cons pe_int pa_nil))))) (pg_tup (by rfl) (pgs_cons (pg_name (i := 4) sc_law.nd rfl (Or.inl rfl)) (pgs_cons (pg_name (i := 5) sc_law.nd rfl (Or.inl rfl)) (pgs_cons (pg_name (i := 6) sc_law.nd rfl (Or.inl rfl)) pgs_nil)))))
      (pss_cons (ps_set (i := 7) sc_law.nd rfl (Or.inl rfl) (pe_call c_pickL.ok (hr.mono (by decide)) (by rfl) c_pickL.g c_pickL.kp c_pickL.b .nil pass0 (pa_cons (pv 1) (pa_cons (pe_op op_cat (pe_slice sl_list (pv 6) (po_some (pe_un un_neg pe_int)) po_none) (pv 6)) pa_nil))))
      (pss_cons (ps_set (i := 8) sc_law.nd rfl (Or.inl rfl) (pe_call c_lmixed.ok (hr.mono (by decide)) (by rfl) c_lmixed.g c_lmixed.kp c_lmixed.b .nil pass0 (pa_cons (pv 1) (pa_cons (pv 4) pa_nil))))
      (pss_cons (ps_set (i := 9) sc_law.nd rfl (Or.inl rfl) (pe_make M_Weave F_Weave (hr.mono (by decide)) (by rfl) g_Weave b_Weave .nil pass0 (pa_cons (pv 3) (pa_cons (pv 8) (pa_cons (pv 7) pa_nil)))))
      (pss_cons (ps_for PassesOwn.never rfl (pi_list (pv 6)) (pg_name (i := 10) sc_law.nd rfl (Or.inl rfl)) (pss_one (ps_if (pt_val (pe_callB call_isi (by rfl) T.isinstance PyProof.Rows.boot_isinstance (pa_cons (pe_dget (hu_of hr) (pv 8) (pv 10) (fun _ _ => rfl)) (pa_cons (pe_bltn (v := .ty "list") (by rfl) T.list PyProof.Rows.boot_list rfl) pa_nil)))) (pss_one (ps_expr (pe_bm0 PySem.F.plainAttrs_list PySem.F.slot_list_clear PySem.F.type_list_clear mt_clear (pe_dget (hu_of hr) (pv 8) (pv 10) (fun _ _ => rfl))))) pss_nil)))
      (pss_cons (ps_expr (pe_dclear (pv 8)))
      (pss_one (ps_if (PW.pt (pw_or (pt_cmpR op_ne (pe_fld (pv 9) rfl) (pv 3) (nomark _)) (pw_or (pt_cmpR op_ne (pe_fld (pv 9) rfl) (pe_callB call_len_str (by rfl) T.len PySem.boot_len (pa_cons (pe_dget (hu_of hr) (pv 5) (pv 7) (fun _ _ => rfl)) pa_nil)) (nomark _)) (pw_or1 (pt_not (pt_val (GD.pe_callG c_lis_read.ok c_lis_read.len hg (hr.mono (by decide)) (by rfl) c_lis_read.g c_lis_read.kp c_lis_read.b (pa_cons (pv 1) (pa_cons (pv 9) (pa_cons (pe_dget (hu_of hr) (pv 5) (pv 7) (fun _ _ => rfl)) pa_nil)))))))))) (pss_one (ps_ret pe_bl)) pss_nil))))))))))
      (pss_cons (ps_par (i := 11) (j := 12) (by rfl) sc_law.nd rfl rfl (by decide) rfl rfl (pa_cons (pe_call c_lpiece.ok (hr.mono (by decide)) (by rfl) c_lpiece.g c_lpiece.kp c_lpiece.b .nil pass0 (pa_cons (pv 1) (pa_cons (pv 3) (pa_cons pe_int pa_nil)))) (pa_cons (pe_op op_sub (pe_op op_pow pe_int pe_int) (pe_call c_ldraw.ok (hr.mono (by decide)) (by rfl) c_ldraw.g c_ldraw.kp c_ldraw.b .nil pass0 (pa_cons (pv 1) (pa_cons pe_int pa_nil)))) pa_nil)) (by rfl))
      (pss_cons (ps_set (i := 9) sc_law.nd rfl (Or.inl rfl) (pe_make M_Weave F_Weave (hr.mono (by decide)) (by rfl) g_Weave b_Weave .nil pass0 (pa_cons (pv 3) (pa_cons (pe_disp (pps_cons pe_str (pe_lst (pa_cons (pe_tup (pa_cons (pv 11) (pa_cons (pv 12) pa_nil))) (pa_cons (pe_tup (pa_cons (pv 3) (pa_cons pe_int pa_nil))) pa_nil))) (pps_cons pe_str (pe_lst (pa_cons (pe_tup (pa_cons pe_str (pa_cons pe_int pa_nil))) pa_nil)) pps_nil)) (by rfl) (by rfl) (fun z => by cases z) (by decide)) (pa_cons pe_str pa_nil)))))
      (pss_cons (ps_set (i := 13) sc_law.nd rfl (Or.inl rfl) (pe_op op_add (pe_op op_mul (pe_callB call_len_str (by rfl) T.len PySem.boot_len (pa_cons (pv 11) pa_nil)) (pv 12)) (pe_callB call_len_str (by rfl) T.len PySem.boot_len (pa_cons (pv 3) pa_nil))))
      (pss_cons (ps_for PassesOwn.never rfl (pi_list (pe_lst (pa_cons pe_int (pa_cons (pe_op op_sub (pv 13) pe_int) (pa_cons (pv 13) (pa_cons (pe_op op_sub (pv 13) (pe_callB call_len_str (by rfl) T.len PySem.boot_len (pa_cons (pv 3) pa_nil))) (pa_cons (pe_op op_add (pv 13) (pe_op op_mul (pe_callB call_len_str (by rfl) T.len PySem.boot_len (pa_cons (pv 11) pa_nil)) (pe_op op_fdivN (pv 12) pe_int))) (pa_cons (pe_op op_sub (pe_op op_mul pe_int (pv 13)) pe_int) pa_nil)))))))) (pg_name (i := 14) sc_law.nd rfl (Or.inl rfl)) (pss_cons (ps_set (i := 15) sc_law.nd rfl (Or.inl rfl) (pe_op op_mod (pe_callTy call_int1 (by rfl) T.int PyProof.Rows.boot_int (pa_cons (pv 14) pa_nil)) (pv 13)))
      (pss_cons (ps_set (i := 16) sc_law.nd rfl (Or.inl rfl) (pe_ix ix_str (pv 11) (pe_op op_mod (pe_callTy call_int1 (by rfl) T.int PyProof.Rows.boot_int (pa_cons (pv 15) pa_nil)) (pe_callB call_len_str (by rfl) T.len PySem.boot_len (pa_cons (pv 11) pa_nil))) (fun _ _ => rfl)))
      (pss_cons (ps_if (pt_cmpR op_ge (pv 15) (pe_op op_sub (pv 13) (pe_callB call_len_str (by rfl) T.len PySem.boot_len (pa_cons (pv 3) pa_nil))) (nomark _)) (pss_one (ps_set (i := 16) sc_law.nd rfl (Or.inl rfl) (pe_ix ix_str (pv 3) (pe_op op_add (pe_op op_sub (pv 15) (pv 13)) (pe_callB call_len_str (by rfl) T.len PySem.boot_len (pa_cons (pv 3) pa_nil))) (fun _ _ => rfl)))) pss_nil)
      (pss_one (ps_if (pt_cmpR op_ne (pe_meth (pv 9) S.cl Me_letter F_letter (hr.mono (by decide)) b_letter .nil passL (pa_cons (pv 14) pa_nil)) (pv 16) (nomark _)) (pss_one (ps_ret pe_bl)) pss_nil))))))
      (pss_cons (ps_set (i := 17) sc_law.nd rfl (Or.inl rfl) (pe_meth (pv 9) S.cl Me_part F_part (hr.mono (by decide)) b_part .nil passL (pa_cons (pe_op op_sub (pv 13) (pe_callB call_len_str (by rfl) T.len PySem.boot_len (pa_cons (pv 3) pa_nil))) (pa_cons (pe_op op_add (pe_callB call_len_str (by rfl) T.len PySem.boot_len (pa_cons (pv 3) pa_nil)) pe_int) pa_nil))))
      (pss_one (ps_ret (pe_and (pe_cmpR op_eq (pe_fld (pv 9) rfl) (pe_op op_mul pe_int (pv 13)) (nomark _)) (pe_one (pe_cmpR op_eq (pv 17) (pe_op op_add_str (pv 3) (pe_ix ix_str (pv 11) pe_int (fun _ _ => rfl))) (nomark _))))))))))))), ?_⟩
    refine ⟨_, rfl, a, ns, rfl, hS, hl, fun p H0 H1 eH P0 => ?_⟩
    have hP1 : H1 Pt = some (.tbl #[]) := P0.1 _ _ (eH _ _ hPt)
    have S0 : Sta [(Pt, lamQ)] p (noT H0) H1 0 := by
      obtain ⟨e0, h0, hc, hl', op, lf, ho, hd⟩ := P0
      refine ⟨⟨(noT_ex H0).trans e0, noT_none h0, noT_of hc (fun ps z => by cases z), hl', op, lf, ho, hd⟩, noT_nt H0, fun q hq => ?_⟩
      rw [List.mem_singleton.mp hq]
      exact TabS.nil hP1
    have hS1 : SqL K H1 a (ns.map V.int) := ex_l (eH.trans P0.1) hS
    clear hP1 P0
    have hm10 : 2 ≤ (2 : Int) + (if ((ns.map V.int).length : Int) < 4 then ((ns.map V.int).length : Int) else 4) ∧ (2 : Int) + (if ((ns.map V.int).length : Int) < 4 then ((ns.map V.int).length : Int) else 4) ≤ 6 := by
      by_cases q : ((ns.map V.int).length : Int) < 4
      · rw [if_pos q]; omega
      · rw [if_neg q]; omega
    refine ⟨_, rfl, a, _, rfl, .inl hS1, _, _, rfl, _, _, rfl, rfl, _, rfl, by omega, by omega, ?_⟩
    obtain ⟨m, hm⟩ : ∃ m : Nat, ((2 : Int) + (if ((ns.map V.int).length : Int) < 4 then ((ns.map V.int).length : Int) else 4)).toNat = m := ⟨_, rfl⟩
    rw [hm]
    have hm2 : m ≤ 6 := by omega
    have hm1 : 2 ≤ m := by omega
    clear hm hm10 hS1
    refine for_range (lo := 0) (n := m) (fun i σ H' => ∃ (B : Hp) (y2 y3 y4 y5 y6 y7 y8 y9 y10 y11 y12 y13 y14 y15 y16 y17 : Option V), σ = [some (.ref a), some (.ref p.d), y2, y3, y4, y5, y6, y7, y8, y9, y10, y11, y12, y13, y14, y15, y16, y17] ∧ Sta [(Pt, lamQ)] p B H' (300 * i) ∧ (1 ≤ i → ∃ L, y3 = some (.str (tx L)) ∧ LG L))
      ⟨_, none, none, none, none, none, none, none, none, none, none, none, none, none, none, none, none, rfl, S0, (fun z => absurd z (by omega))⟩ (fun i σ H2 hi hw => ?_) (fun σ H2 hw => ?_)
    · obtain ⟨B, y2, y3, y4, y5, y6, y7, y8, y9, y10, y11, y12, y13, y14, y15, y16, y17, rfl, S1, _⟩ := hw
      refine ⟨_, rfl, p, _, _, rfl, S1.plus, by omega, fun H3 lf lq lm P2 b1 b2 b3 b4 => ?_⟩
      have S2 := S1.back P2
      have hLG := lets_good b1 b2 b3 b4
      obtain ⟨L, hLe⟩ : ∃ L, lets lf lq lm = L := ⟨_, rfl⟩
      rw [hLe] at hLG ⊢
      refine ⟨_, rfl, _, rfl, p, _, _, L, rfl, S2.plus, by omega, hLG, fun Hb H4 t d1 d2 l R W rk ir fr kvs eb P3 d10 ht h1 hR h2 hl wq i1 i5 => ?_⟩
      obtain ⟨S3, e3⟩ := S2.grow P3 eb
      have b1 := noT_of h1 (fun ps z => by cases z)
      have b2 := noT_of h2 (fun ps z => by cases z)
      have bl := noT_of hl (fun ps z => by cases z)
      have bR := hR.exN (noT_n Hb)
      refine ⟨t, _, rfl, .inl (.inl (P3.1 _ _ ht)), rfl, _, _, rfl, _, _, rfl, _, _, rfl, rfl, ?_⟩
      have e13 := e3
      generalize noT Hb = B3 at S3 e3 b1 b2 bl bR
      clear P3 eb ht h1 hR h2 hl d10
      obtain ⟨wv, rk5⟩ := wq.all i1 i5
      -- the root
      have l3 := S3.pen.1 _ _ bl
      refine ⟨_, rfl, _, rfl, _, rfl, _, rfl, l, _, rfl, sq_of l3, fun a8 h8 => ?_⟩
      have S4 := S3.ex (Ex.new (o := .lst (cutV ((R.map fun r => r.1).map tv) (some (-1)) none)) h8)
      refine ⟨_, rfl, a8, l, _, _, rfl, rfl, upd_same, S4.pen.1 _ _ bl, ?_, fun a9 h9 => ?_⟩
      · have := cutV_length ((R.map fun r => r.1).map tv) (some (-1)) none
        rw [List.length_map, List.length_map, wq.len] at this ⊢
        exact Nat.le_of_lt (sz_lt (by omega))
      have S5 := S4.ex (Ex.new (o := .lst (cutV ((R.map fun r => r.1).map tv) (some (-1)) none ++ (R.map fun r => r.1).map tv)) h9)
      refine ⟨p, _, a9, _, _, rfl, S5.plus, by omega, upd_same, ?_, ?_, fun H6 v P6 hv => ?_⟩
      · rw [List.length_append, List.length_map, List.length_map, wq.len]
        omega
      · have := cutV_length ((R.map fun r => r.1).map tv) (some (-1)) none
        rw [List.length_map, List.length_map, wq.len] at this
        rw [List.length_append, List.length_map, List.length_map, wq.len]
        omega
      have S6 := S5.back P6
      obtain ⟨root, hroot, rfl⟩ : ∃ root, root ∈ R.map (fun r => r.1) ∧ V.str (tx root) = v := by
        have : v ∈ (R.map fun r => r.1).map tv := (List.mem_append.mp hv).elim cut_mem id
        exact List.mem_map.mp this
      -- the rules in another order
      refine ⟨_, rfl, _, rfl, p, _, _, d1, kvs, R, rfl, S6.plus, by omega, S6.up _ _ b1, bR.ex S6.up, wq.nd, by rw [wq.len]; exact i5, fun r hr => (wq.rows r hr).2, fun Hb2 H7 md ks Sr eb2 P7 m0 hmd hSr hsub hperm hfr => ?_⟩
      obtain ⟨S7, e7⟩ := S6.grow P7 eb2
      have hmd7 := P7.1 _ _ hmd
      have hSr7 := hSr.ex P7.1
      have fr6 : ∀ {b : Addr} {o : HO}, H6 b = some o → b ≠ p.d → H7 b = some o := fun {b o} hb nb => P7.1 _ _ (eb2 _ _ (by rw [del_ne nb]; exact hb))
      -- the weave
      refine ⟨_, rfl, _, rfl, _, rfl, fun o dx ho hdx nox => ?_⟩
      have S8 := (S7.ex (Ex.new (o := .own o) hdx))
      have ho8 : (upd H7 dx (.own o)) o = none := by rw [upd_ne nox.symm]; exact ho
      have e78 : Ex H7 (upd (upd H7 dx (.own o)) o (.ins C_Weave dx [])) := (Ex.new hdx).trans (Ex.new ho8)
      refine ⟨o, dx, md, L, Sr, W, rk, ks, root, H7, rfl, e78, ho, upd_same, hmd7, hSr7, hLG, wv.perm hsub hperm, hperm.mem_iff.mpr hroot, fun H9 w1 w2 e9 f1 f2 hW => ⟨rfl, ?_⟩⟩
      have S9 := (S7.ex e9).le (show 300 * i + 3 + 200 + 1 + 30 ≤ 300 * i + 240 by omega)
      have S9' := S6.low S9 e7
      have nmd : md ≠ p.d := fun z => by rw [z, P7.2.1] at hmd; cases hmd
      have B3md : B3 md = none := fresh_back S6.up m0
      have nw1 : w1 ≠ md := fun z => by rw [z, hmd7] at f1; cases f1
      have nw2 : w2 ≠ md := fun z => by rw [z, hmd7] at f2; cases f2
      obtain ⟨pk7, hpk7⟩ := S7.pen.dict
      have nw1p : w1 ≠ p.d := fun z => by rw [z, hpk7] at f1; cases f1
      have nw2p : w2 ≠ p.d := fun z => by rw [z, hpk7] at f2; cases f2
      have hmd9 : H9 md = some (.dK ks) := e9 _ _ hmd7
      have hrows : ∀ kv ∈ ks, ∃ a, kv.2 = .ref a ∧ B3 a = none ∧ ((∃ zs, H9 a = some (.lst zs)) ∨ ∃ zs, H9 a = some (.tup zs)) := fun kv hkv => by
        obtain ⟨n0, hn0⟩ := List.mem_iff_getElem?.mp hkv
        obtain ⟨r0, _, _, ar, kr, xr, er, har, _⟩ := hSr7.at (k := kv.1) (v := kv.2) hn0
        refine ⟨ar, er, fresh_back S6.up (hfr kv hkv ar er), ?_⟩
        have := e9 _ _ har
        cases kr
        · exact .inl ⟨_, this⟩
        · exact .inr ⟨_, this⟩
      have wvS := wv.perm hsub hperm
      have hrootS := hperm.mem_iff.mpr hroot
      have rk5S : ∀ r ∈ Sr, rk r.1 ≤ 5 := fun r hr => rk5 r (hsub r hr)
      clear S9 S8 S7 e7 hpk7 pk7 hSr hfr m0 hmd e78 ho8 f1 f2
      -- what was handed in is changed
      dsimp only [gName]
      refine' st_eq (σ' := [some (.ref a), some (.ref p.d), some (.int (0 + (i : Int))), some (.str (tx L)), some (.ref d1), some (.ref d2), some (.ref l), some (.str (tx root)), some (.ref md), some (.ref o), y10, y11, y12, y13, y14, y15, y16, y17]) rfl ?_
      refine ⟨_, rfl, l, rfl, ⟨_, sq_of (S9'.pen.1 _ _ bl)⟩, ?_⟩
      refine for_list (xs := (R.map fun r => r.1).map tv) (fun j σ H' => ∃ (y10 : Option V), σ = [some (.ref a), some (.ref p.d), some (.int (0 + (i : Int))), some (.str (tx L)), some (.ref d1), some (.ref d2), some (.ref l), some (.str (tx root)), some (.ref md), some (.ref o), y10, y11, y12, y13, y14, y15, y16, y17] ∧
          Sta [(Pt, lamQ)] p B3 H' (300 * i + 240) ∧ WOb C_Weave H' o w1 w2 Sr L W root ∧ H' md = some (.dK ks) ∧ ∀ kv ∈ ks, ∃ a, kv.2 = .ref a ∧ B3 a = none ∧ ((∃ zs, H' a = some (.lst zs)) ∨ ∃ zs, H' a = some (.tup zs)))
        ⟨y10, rfl, S9', hW, hmd9, hrows⟩ (fun j σ H' _ p => sq_of (p.choose_spec.2.1.pen.1 _ _ bl)) (fun j x σ H' hj hw => ?_) (fun σ H' hw => ?_)
      · obtain ⟨y10, rfl, S10, hW10, hm10, hr10⟩ := hw
        rw [List.getElem?_map] at hj
        obtain ⟨nm, hnm, rfl⟩ := Option.map_eq_some_iff.mp hj
        obtain ⟨rr, hrr, err⟩ := List.mem_map.mp (hperm.mem_iff.mpr (List.mem_of_getElem? hnm))
        obtain ⟨v0, hv0, _⟩ := hSr7.get wvS.nd rr hrr
        rw [err] at hv0
        obtain ⟨kv, hkv, ekv⟩ : ∃ kv ∈ ks, kv.2 = v0 := by
          unfold valV at hv0
          obtain ⟨kv, h1, h2⟩ := Option.map_eq_some_iff.mp hv0
          exact ⟨kv, List.mem_of_find?_eq_some h1, h2⟩
        obtain ⟨ar, ear, hBa, har⟩ := hr10 kv hkv
        rw [ekv] at ear
        subst ear
        have hget : DGet H' md (.str (tx nm)) (some (.ref ar)) := by
          rw [← hv0]
          exact DGet.k (k := .inr (tx nm)) hm10
        rcases har with ⟨zs, hz⟩ | ⟨zs, hz⟩
        · refine ⟨_, rfl, _, rfl, md, _, rfl, hget, _, _, _, _, true, rfl, .ty _, .base (.lst hz), kit_ll, true, rfl, iteT ?_⟩
          refine ⟨_, rfl, _, rfl, md, _, rfl, hget, .inl ⟨rfl, _, sq_of hz⟩, ar, zs, rfl, rfl, hz, ?_⟩
          have nar : ar ≠ p.d := S10.pen.lst_ne hz
          have nam : ar ≠ md := fun z => by rw [z, hm10] at hz; cases hz
          have S11 := S10.set (o' := .lst []) hz (fun _ z => by cases z) (fun _ _ z => by unfold CodeO at z; cases z) hBa nar
          have hw1 : ∃ kk, H' w1 = some (.dK kk) := by
            obtain ⟨_, kk, _, _, h, _⟩ := hW10.ex
            exact ⟨kk, h⟩
          have hw2 : ∃ kk, H' w2 = some (.dK kk) := by
            obtain ⟨_, _, kk, _, _, _, h, _⟩ := hW10.ex
            exact ⟨kk, h⟩
          obtain ⟨kk1, hw1⟩ := hw1
          obtain ⟨kk2, hw2⟩ := hw2
          refine ⟨_, rfl, S11, hW10.keep (fun b xs hb => ?_) (fun b c dx fs hb => ?_) ?_ ?_, ?_, fun kv2 hkv2 => ?_⟩
          · rw [upd_ne (fun z => by rw [z, hz] at hb; cases hb)]
            exact hb
          · rw [upd_ne (fun z => by rw [z, hz] at hb; cases hb)]
            exact hb
          · rw [upd_ne (fun z => by rw [z, hz] at hw1; cases hw1)]
          · rw [upd_ne (fun z => by rw [z, hz] at hw2; cases hw2)]
          · rw [upd_ne nam.symm]
            exact hm10
          · obtain ⟨a2, ea2, hB2, h2⟩ := hr10 kv2 hkv2
            refine ⟨a2, ea2, hB2, ?_⟩
            by_cases z : a2 = ar
            · rw [z, upd_same]
              exact .inl ⟨_, rfl⟩
            · rw [upd_ne z]
              exact h2
        · refine ⟨_, rfl, _, rfl, md, _, rfl, hget, _, _, _, _, false, rfl, .ty _, .base (.tup hz), kit_tl, false, rfl, iteF ?_⟩
          exact ⟨_, rfl, S10, hW10, hm10, hr10⟩
      obtain ⟨y10, rfl, S10, hW10, hm10, _⟩ := hw
      refine ⟨_, rfl, .inr (.inr (.inl ⟨rfl, .inl ⟨_, hm10⟩⟩)), md, ks, rfl, rfl, hm10, ?_⟩
      have S11 := S10.set (o' := .dK []) hm10 (fun _ z => by cases z) (fun _ _ z => by unfold CodeO at z; cases z) B3md nmd
      have hW11 : WOb C_Weave (upd H' md (.dK [])) o w1 w2 Sr L W root := hW10.keep (fun b xs hb => by
          rw [upd_ne (fun z => by rw [z, hm10] at hb; cases hb)]
          exact hb) (fun b c dx fs hb => by
          rw [upd_ne (fun z => by rw [z, hm10] at hb; cases hb)]
          exact hb) (upd_ne nw1) (upd_ne nw2)
      generalize (upd H' md (.dK [])) = H11 at S11 hW11 ⊢
      obtain ⟨B11, S12, eB, kB⟩ := S11.hold
      have hWB := hW11.base S11.pen.dict kB nw1p nw2p
      obtain ⟨dx2, d1', d2', kvs', ks', ho', _⟩ := hWB.obj.ex
      have hoH := S12.pen.1 _ _ ho'
      have hd2 := S12.pen.1 _ _ (eB _ _ b2)
      have hwl : 1 ≤ (W root).length ∧ (W root).length ≤ 400 := by
        obtain ⟨r, hr, er⟩ := List.mem_map.mp hroot
        rw [← er]
        exact wq.wl r hr
      have htx : DGet H11 d2 (.str (tx root)) (some (.str (tx (W root)))) := by
        have := DGet.k (k := .inr (tx root)) hd2
        rw [tks_get, if_pos hroot] at this
        exact this
      refine ⟨_, rfl, o, C_Weave, dx2, _, _, rfl, hoH, S.cl, S.nl, wl_letters .., _, rfl, rfl, _, rfl, ite2 (fun hb => absurd hb (by simp)) (fun _ => ?_)⟩
      refine ⟨_, rfl, o, C_Weave, dx2, _, _, rfl, hoH, S.cl, S.nz, wl_size .., _, rfl, _, rfl, d2, _, rfl, htx, _, rfl, tx_le (by omega), rfl, _, rfl, ?_⟩
      rw [tx_len]
      refine ite2 (fun hb => absurd hb (by simp)) (fun _ => ?_)
      refine ⟨_, rfl, _, rfl, _, rfl, _, rfl, d2, _, rfl, htx, ?_⟩
      refine ⟨p, B11, _, o, Sr, L, W, rk, root, rfl, S12, by omega, ⟨hWB.obj, wvS, hrootS, rk5S⟩, hwl.1, hwl.2, fun H12 S13 => ⟨_, rfl, iteF ?_⟩⟩
      exact ⟨B11, _, _, _, _, _, _, _, _, _, _, _, _, _, _, _, _, rfl, S13.le (by omega), fun _ => ⟨L, rfl, hLG⟩⟩
    · obtain ⟨B, y2, y3, y4, y5, y6, y7, y8, y9, y10, y11, y12, y13, y14, y15, y16, y17, rfl, S1, hLg⟩ := hw
      obtain ⟨L, rfl, hLG⟩ := hLg (by omega)
      have l2 := hLG.lo
      have l4 := hLG.hi
      refine ⟨_, rfl, _, rfl, p, _, _, 7, L, rfl, S1.plus, by omega, by omega, by omega, by decide, by decide, fun H3 u P3 u1 u7 uL => ?_⟩
      have S3 := S1.back P3
      refine ⟨_, _, rfl, rfl, ⟨by decide, by decide, by decide⟩, _, rfl, p, _, _, 9, rfl, S3.plus, by omega, by decide, by decide, fun H4 r4 P4 r40 r41 => ⟨_, _, rfl, rfl, _, _, rfl, ?_⟩⟩
      have S4 := S3.back P4
      obtain ⟨c, hc⟩ : ∃ c : Nat, (10 : Int) ^ ((30 : Int).toNat) - r4 = (c : Int) := ⟨((10 : Int) ^ ((30 : Int).toNat) - r4).toNat, (Int.toNat_of_nonneg (by rw [ten30]; omega)).symm⟩
      have hc' := hc
      rw [ten30] at hc
      have c1 : 1 ≤ c := by omega
      have c2 : c ≤ 1000000000000000000000000000000 := by omega
      have nu := isNm_low hLG u1 uL
      have nL := isNm_low hLG (show 1 ≤ L.length by omega) (fun c h => h)
      have wv := wv2 (p := u) (L := L) (c := c) nu nL u1 u7 (by omega) l4 uL c1 c2
      have szu : (tx u).length ≤ sizeLine := tx_le (by omega)
      have szl : (tx L).length ≤ sizeLine := tx_le (by omega)
      dsimp only [gName]
      refine' st_eq (σ' := [some (.ref a), some (.ref p.d), y2, some (.str (tx L)), y4, y5, y6, y7, y8, y9, y10, some (.str (tx u)), some (.int (c : Nat)), y13, y14, y15, y16, y17]) (by rw [← hc']; rfl) ?_
      -- the second weave
      refine ⟨_, rfl, fun dm hdm => ?_⟩
      have Bdm : B dm = none := fresh_back S4.pen.1 hdm
      have ndm : dm ≠ p.d := fresh_ne S4.pen hdm
      have S5 := S4.ex (Ex.new (o := .dK []) hdm)
      have k5 : (upd H4 dm (.dK [])) dm = some (.dK []) := upd_same
      generalize (upd H4 dm (.dK [])) = H5 at S5 k5 ⊢
      refine ⟨_, rfl, _, rfl, by show 2 ≤ sizeLine; decide, fun q1 hq1 => ?_⟩
      have e6 := Ex.new (o := .tup [.str (tx u), .int (c : Nat)]) hq1
      have k6 : (upd H5 q1 (.tup [.str (tx u), .int (c : Nat)])) q1 = some (.tup [.str (tx u), .int (c : Nat)]) := upd_same
      refine ⟨_, rfl, by show 2 ≤ sizeLine; decide, fun q2 hq2 => ?_⟩
      have e7 := Ex.new (o := .tup [.str (tx L), .int 1]) hq2
      have k7 : (upd (upd H5 q1 (.tup [.str (tx u), .int (c : Nat)])) q2 (.tup [.str (tx L), .int 1])) q2 = some (.tup [.str (tx L), .int 1]) := upd_same
      refine ⟨by show 2 ≤ sizeLine; decide, fun r1 hr1 => ?_⟩
      have e8 := Ex.new (o := .lst [.ref q1, .ref q2]) hr1
      have k8 : (upd (upd (upd H5 q1 (.tup [.str (tx u), .int (c : Nat)])) q2 (.tup [.str (tx L), .int 1])) r1 (.lst [.ref q1, .ref q2])) r1 = some (.lst [.ref q1, .ref q2]) := upd_same
      have k6' := e8 _ _ (e7 _ _ k6)
      have k7' := e8 _ _ k7
      have e58 := e6.trans (e7.trans e8)
      have S8 := S5.ex e58
      have k58 := e58 _ _ k5
      clear k6 k7 e6 e7 e8 e58
      generalize (upd (upd (upd H5 q1 (.tup [.str (tx u), .int (c : Nat)])) q2 (.tup [.str (tx L), .int 1])) r1 (.lst [.ref q1, .ref q2])) = H8 at S8 k58 k8 k6' k7' ⊢
      refine ⟨by show 2 ≤ sizeLine; decide, fun q3 hq3 => ?_⟩
      have e9 := Ex.new (o := .tup [.str (Str.ofString "X"), .int 2]) hq3
      have k9 : (upd H8 q3 (.tup [.str (Str.ofString "X"), .int 2])) q3 = some (.tup [.str (Str.ofString "X"), .int 2]) := upd_same
      refine ⟨by show 1 ≤ sizeLine; decide, fun r2 hr2 => ?_⟩
      have e10 := Ex.new (o := .lst [.ref q3]) hr2
      have k10 : (upd (upd H8 q3 (.tup [.str (Str.ofString "X"), .int 2])) r2 (.lst [.ref q3])) r2 = some (.lst [.ref q3]) := upd_same
      have k9' := e10 _ _ k9
      have e810 := e9.trans e10
      have S10 := S8.ex e810
      have k510 := e810 _ _ k58
      have k810 := e810 _ _ k8
      have k610 := e810 _ _ k6'
      have k710 := e810 _ _ k7'
      clear k9 e9 e10 e810
      generalize (upd (upd H8 q3 (.tup [.str (Str.ofString "X"), .int 2])) r2 (.lst [.ref q3])) = H10 at S10 k510 k810 k610 k710 k10 k9' ⊢
      refine ⟨k510, [(.inr "X", .ref r1), (.inr "Y", .ref r2)], rfl, by show 2 ≤ 15; decide, ?_⟩
      have em : mergeK [] [((.inr "X" : Key), V.ref r1), (.inr "Y", .ref r2)] = [(.inr (tx nX), .ref r1), (.inr (tx nY), .ref r2)] := by
        rw [show tx nX = Str.ofString "X" by decide +kernel, show tx nY = Str.ofString "Y" by decide +kernel]
        have n1 : ¬ (("X" : Str) = "Y") := by decide +kernel
        unfold mergeK
        simp [putK, n1]
      rw [em]
      have S11 := S10.set (o' := .dK [(.inr (tx nX), .ref r1), (.inr (tx nY), .ref r2)]) k510 (fun _ z => by cases z) (fun _ _ z => by unfold CodeO at z; cases z) Bdm ndm
      have kd : (upd H10 dm (.dK [(.inr (tx nX), .ref r1), (.inr (tx nY), .ref r2)])) dm = some (.dK [(.inr (tx nX), .ref r1), (.inr (tx nY), .ref r2)]) := upd_same
      have hR : RuK (upd H10 dm (.dK [(.inr (tx nX), .ref r1), (.inr (tx nY), .ref r2)])) [(.inr (tx nX), .ref r1), (.inr (tx nY), .ref r2)] (R2 u L c) := by
        refine RuK.frz k510 ?_
        refine .cons ⟨rfl, r1, false, _, rfl, k810, .cons ⟨q1, true, rfl, k610⟩ (.cons ⟨q2, true, rfl, k710⟩ .nil)⟩ (.cons ⟨rfl, r2, false, _, rfl, k10, .cons ⟨q3, true, rfl, ?_⟩ .nil⟩ .nil)
        rw [k9', show Str.ofString "X" = tx nX by decide +kernel]
        rfl
      generalize (upd H10 dm (.dK [(.inr (tx nX), .ref r1), (.inr (tx nY), .ref r2)])) = H11 at S11 kd hR ⊢
      intro o dx ho hdx nox
      have ho8 : (upd H11 dx (.own o)) o = none := by rw [upd_ne nox.symm]; exact ho
      have e12 : Ex H11 (upd (upd H11 dx (.own o)) o (.ins C_Weave dx [])) := (Ex.new hdx).trans (Ex.new ho8)
      rw [show Str.ofString "Y" = tx nY by decide +kernel]
      refine ⟨o, dx, dm, L, R2 u L c, W2 u L c, rk2, _, nY, H11, rfl, e12, ho, upd_same, kd, hR, hLG, wv, (by show nY ∈ [nX, nY]; decide), fun H13 w1 w2 e13 f1 f2 hW => ⟨rfl, ?_⟩⟩
      have S13 := S11.ex e13
      obtain ⟨B13, S14, eB, kB⟩ := S13.hold
      obtain ⟨pk, hpk⟩ := S11.pen.dict
      have hWB := hW.base S13.pen.dict kB (fun z => by rw [z, hpk] at f1; cases f1) (fun z => by rw [z, hpk] at f2; cases f2)
      have hA : WAll C_Weave B13 o (R2 u L c) L (W2 u L c) rk2 nY := ⟨hWB.obj, wv, (by show nY ∈ [nX, nY]; decide), fun r hr => by
        rcases List.mem_cons.mp hr with rfl | hr
        · show 0 ≤ 5
          decide
        · rw [List.mem_singleton.mp hr]
          show 1 ≤ 5
          decide⟩
      obtain ⟨dx3, e1', e2', kvs', ks', ho', _⟩ := hWB.obj.ex
      clear hWB hW f1 f2 kB e13 e12 hR kd k10 k9' k810 k610 k710 k510 em S11 S10 S8 S5 S4 S3 S1
      -- half
      obtain ⟨hf, hhf⟩ : ∃ hf, u.length * c + L.length = hf := ⟨_, rfl⟩
      have ylen : (W2 u L c nY).length = 2 * hf := by rw [y_len, hhf]
      refine ⟨_, rfl, _, rfl, szu, _, rfl, _, _, rfl, rfl, .inl ⟨by rw [tx_len]; omega, by rw [tx_len]; omega⟩, _, rfl, _, rfl, szl, _, _, rfl, rfl, ?_⟩
      have ehf : (((tx u).length : Nat) : Int) * (c : Int) + (((tx L).length : Nat) : Int) = (hf : Int) := by
        rw [tx_len, tx_len, ← hhf]
        simp only [Int.natCast_add, Int.natCast_mul]
      dsimp only [gName]
      refine' st_eq (σ' := [some (.ref a), some (.ref p.d), y2, some (.str (tx L)), y4, y5, y6, y7, y8, some (.ref o), y10, some (.str (tx u)), some (.int (c : Nat)), some (.int (hf : Nat)), y14, y15, y16, y17]) (by rw [← ehf]; rfl) ?_
      have hfdiv : (c : Int).fdiv 3 = ((c / 3 : Nat) : Int) := by
        rw [Int.fdiv_eq_ediv_of_nonneg _ (by decide)]
        rfl
      have hle3 : u.length * (c / 3) ≤ u.length * c := Nat.mul_le_mul_left _ (Nat.div_le_self _ _)
      have hup : 1 ≤ u.length * c := Nat.mul_pos (by omega) (by omega)
      refine ⟨_, rfl, _, _, rfl, rfl, _, rfl, _, rfl, _, rfl, _, rfl, szl, _, _, rfl, rfl, _, rfl, _, rfl, _, rfl, szu, _, rfl, _, _, rfl, rfl, ⟨by decide, by decide⟩, _, _, rfl, rfl, .inl ⟨by rw [tx_len]; omega, by rw [tx_len]; omega⟩, _, _, rfl, rfl, _, rfl, _, _, rfl, rfl, .inl ⟨by decide, by decide⟩, _, _, rfl, rfl, by show 6 ≤ sizeLine; decide, fun b14 hb14 => ?_⟩
      obtain ⟨xs, hxs⟩ : ∃ xs, ([.int 0, .int ((hf : Int) - 1), .int (hf : Int), .int ((hf : Int) - ((tx L).length : Nat)), .int ((hf : Int) + ((tx u).length : Nat) * (c : Int).fdiv 3), .int (2 * (hf : Int) - 1)] : List V) = xs := ⟨_, rfl⟩
      have hnat : ∀ x ∈ xs, ∃ k : Nat, x = .int (k : Nat) ∧ k < 2 * hf := fun x hx => by
        rw [← hxs, hfdiv, tx_len, tx_len] at hx
        rcases List.mem_cons.mp hx with rfl | hx
        · exact ⟨0, rfl, by omega⟩
        rcases List.mem_cons.mp hx with rfl | hx
        · exact ⟨hf - 1, congrArg V.int (by omega), by omega⟩
        rcases List.mem_cons.mp hx with rfl | hx
        · exact ⟨hf, rfl, by omega⟩
        rcases List.mem_cons.mp hx with rfl | hx
        · exact ⟨hf - L.length, congrArg V.int (by omega), by omega⟩
        rcases List.mem_cons.mp hx with rfl | hx
        · exact ⟨hf + u.length * (c / 3), congrArg V.int (by rw [← Int.natCast_mul]; omega), by omega⟩
        · rw [List.mem_singleton.mp hx]
          exact ⟨2 * hf - 1, congrArg V.int (by omega), by omega⟩
      have e15 := (Ex.new (o := .lst xs) hb14)
      have k15 : (upd H13 b14 (.lst xs)) b14 = some (.lst xs) := upd_same
      rw [hxs]
      have S15 := S14.ex e15
      generalize (upd H13 b14 (.lst xs)) = H15 at S15 k15 ⊢
      clear S14 e15 hxs
      have hA15 := hA.mono S15.pen.1
      have ho15 := S15.pen.1 _ _ ho'
      refine ⟨b14, rfl, ⟨_, sq_of k15⟩, ?_⟩
      refine for_list (xs := xs) (fun j σ H' => ∃ y14 y15 y16 : Option V, σ = [some (.ref a), some (.ref p.d), y2, some (.str (tx L)), y4, y5, y6, y7, y8, some (.ref o), y10, some (.str (tx u)), some (.int (c : Nat)), some (.int (hf : Nat)), y14, y15, y16, y17] ∧ Ex H15 H')
        ⟨y14, y15, y16, rfl, Ex.refl _⟩ (fun j σ H' _ p => sq_of (p.choose_spec.choose_spec.choose_spec.2 _ _ k15)) (fun j x σ H' hj hw => ?_) (fun σ H' hw => ?_)
      · obtain ⟨y14, y15, y16, rfl, e16⟩ := hw
        obtain ⟨k, rfl, hk⟩ := hnat x (List.mem_of_getElem? hj)
        have hkm : k % hf < hf := Nat.mod_lt _ (by omega)
        dsimp only [gName]
        refine' st_eq (σ' := [some (.ref a), some (.ref p.d), y2, some (.str (tx L)), y4, y5, y6, y7, y8, some (.ref o), y10, some (.str (tx u)), some (.int (c : Nat)), some (.int (hf : Nat)), some (.int (k : Nat)), y15, y16, y17]) rfl ?_
        refine ⟨_, rfl, .inl ⟨_, rfl, _, rfl, _, _, rfl, rfl, by omega, ?_⟩⟩
        dsimp only [gName]
        refine' st_eq (σ' := [some (.ref a), some (.ref p.d), y2, some (.str (tx L)), y4, y5, y6, y7, y8, some (.ref o), y10, some (.str (tx u)), some (.int (c : Nat)), some (.int (hf : Nat)), some (.int (k : Nat)), some (.int (k % hf : Nat)), y16, y17]) rfl ?_
        have hyg := y_get (p := u) (L := L) (c := c) (k := k) (by rw [hhf]; exact hk)
        rw [hhf] at hyg
        have hul : (k % hf) % u.length < u.length := Nat.mod_lt _ (by omega)
        have hu1 : u[(k % hf) % u.length]? = some u[(k % hf) % u.length] := List.getElem?_eq_getElem hul
        obtain ⟨cu, hcu⟩ : ∃ cu, u[(k % hf) % u.length] = cu := ⟨_, rfl⟩
        rw [hcu] at hu1
        refine ⟨_, rfl, _, rfl, .inl ⟨_, rfl, _, rfl, _, rfl, szu, _, _, rfl, rfl, by rw [tx_len]; omega, _, _, cu, rfl, rfl, szu, by rw [tx_len]; exact atI_nat hu1, ?_⟩⟩
        dsimp only [gName]
        refine' st_eq (σ' := [some (.ref a), some (.ref p.d), y2, some (.str (tx L)), y4, y5, y6, y7, y8, some (.ref o), y10, some (.str (tx u)), some (.int (c : Nat)), some (.int (hf : Nat)), some (.int (k : Nat)), some (.int (k % hf : Nat)), some (.str (tx [cu])), y17]) rfl ?_
        refine' cut2 (fun σ' H'' => ∃ cx : Nat, σ' = [some (.ref a), some (.ref p.d), y2, some (.str (tx L)), y4, y5, y6, y7, y8, some (.ref o), y10, some (.str (tx u)), some (.int (c : Nat)), some (.int (hf : Nat)), some (.int (k : Nat)), some (.int (k % hf : Nat)), some (.str (tx [cx])), y17] ∧ H'' = H' ∧ (W2 u L c nY)[k]? = some cx) (fun rest => ?_) ?_
        rotate_left
        · refine ⟨_, rfl, _, rfl, _, rfl, _, rfl, szl, _, _, rfl, rfl, ?_⟩
          rw [tx_len]
          refine ⟨_, _, rfl, rfl, _, rfl, ite2 (fun hge => ?_) (fun hlt => ?_)⟩
          · have hge' : u.length * c ≤ k % hf := by
              have := of_decide_eq_true hge
              omega
            rw [if_neg (by omega)] at hyg
            have hl1 : k % hf - u.length * c < L.length := by omega
            have hu2 : L[k % hf - u.length * c]? = some L[k % hf - u.length * c] := List.getElem?_eq_getElem hl1
            obtain ⟨cl, hcl⟩ : ∃ cl, L[k % hf - u.length * c] = cl := ⟨_, rfl⟩
            rw [hcl] at hu2
            rw [hu2] at hyg
            refine ⟨_, rfl, _, rfl, _, rfl, _, _, rfl, rfl, _, rfl, _, rfl, szl, _, _, rfl, rfl, _, _, cl, rfl, rfl, szl, ?_, ?_⟩
            · rw [tx_len, show ((k % hf : Nat) : Int) - (hf : Nat) + (L.length : Nat) = ((k % hf - u.length * c : Nat) : Int) by omega]
              exact atI_nat hu2
            · exact rest _ _ ⟨cl, rfl, rfl, hyg⟩
          · have hlt' : k % hf < u.length * c := by
              have := of_decide_eq_false ((Bool.not_eq_true _).mp hlt)
              omega
            rw [if_pos hlt', hu1] at hyg
            exact rest _ _ ⟨cu, rfl, rfl, hyg⟩
        intro σ2 H2 hw
        obtain ⟨cx, rfl, rfl, hyg2⟩ := hw
        refine ⟨_, rfl, o, dx3, _, rfl, e16 _ _ ho15, rfl, _, rfl, ?_⟩
        refine ⟨o, R2 u L c, L, W2 u L c, rk2, nY, _, .int (k : Nat), .int (k : Nat), rfl, hA15.mono e16, .int _, .flat (.int _), fun H5 e5 => ⟨fun i5 q5 _ => ?_, fun hw => ?_⟩⟩
        · obtain rfl : k = i5 := by
            have := V.int.inj q5
            omega
          have e1 : ((W2 u L c nY).drop k).take 1 = [cx] := by
            obtain ⟨hlt, he⟩ := List.getElem?_eq_some_iff.mp hyg2
            rw [List.drop_eq_getElem_cons hlt, he]
            rfl
          rw [e1]
          exact ⟨_, rfl, rfl, _, rfl, ite2 (fun hb => absurd hb (by simp)) (fun _ => ⟨_, _, _, rfl, e16.trans e5⟩)⟩
        · exfalso
          have : whole 0 (((W2 u L c nY).length : Nat) - 1) (.int (k : Nat)) = true := by
            show (decide ((0 : Int) ≤ (k : Nat)) && decide (((k : Nat) : Int) ≤ ((W2 u L c nY).length : Nat) - 1)) = true
            rw [decide_eq_true (by omega), decide_eq_true (by omega)]
            rfl
          rw [this] at hw
          cases hw
      obtain ⟨y14, y15, y16, rfl, e16⟩ := hw
      have hu0 : u[0]? = some (u[0]'(by omega)) := List.getElem?_eq_getElem (by omega)
      obtain ⟨x0, hx0⟩ : ∃ x0, u[0]'(by omega) = x0 := ⟨_, rfl⟩
      rw [hx0] at hu0
      refine ⟨_, rfl, o, dx3, _, rfl, e16 _ _ ho15, rfl, _, rfl, _, rfl, _, rfl, szl, _, _, rfl, rfl, _, rfl, _, rfl, szl, _, _, rfl, rfl, ?_⟩
      refine ⟨o, R2 u L c, L, W2 u L c, rk2, nY, _, .int ((u.length * c : Nat) : Int), .int ((u.length * c : Nat) : Int), L.length + 1, ?_, hA15.mono e16, .int _, .flat (.int _), fun H6 e6 => ⟨fun z => absurd z (by omega), fun _ => ⟨fun i6 q6 _ => ?_, fun hw => ?_⟩⟩⟩
      · show V.ref o :: ([V.int (((hf : Nat) : Int) - (((tx L).length : Nat) : Int)), V.int ((((tx L).length : Nat) : Int) + 1)] ++ []) = _
        rw [tx_len, show ((hf : Nat) : Int) - ((L.length : Nat) : Int) = ((u.length * c : Nat) : Int) by omega]
        rfl
      · obtain rfl : u.length * c = i6 := Int.ofNat.inj (V.int.inj q6)
        rw [y_cut c1 hu0]
        dsimp only [gName]
        refine' st_eq (σ' := [some (.ref a), some (.ref p.d), y2, some (.str (tx L)), y4, y5, y6, y7, y8, some (.ref o), y10, some (.str (tx u)), some (.int (c : Nat)), some (.int (hf : Nat)), y14, y15, y16, some (.str (tx (L ++ [x0])))]) rfl ?_
        refine ⟨_, rfl, o, C_Weave, dx3, _, _, rfl, e6 _ _ (e16 _ _ ho15), S.cl, S.nz, wl_size .., _, rfl, _, _, rfl, rfl, .inl ⟨by decide, by decide⟩, ?_⟩
        refine ⟨rfl, _, rfl, ite2 (fun _ => ?_) (fun hb => absurd (decide_eq_true (congrArg V.int (show (((W2 u L c nY).length : Nat) : Int) = 2 * (hf : Int) by omega))) hb)⟩
        refine ⟨_, rfl, _, rfl, _, rfl, _, _, x0, rfl, rfl, szu, atI_nat (j := 0) hu0, _, _, rfl, rfl, ?_, rfl, ?_⟩
        · rw [tx_len]
          exact Nat.le_trans (show L.length + 1 ≤ 5 by omega) (by decide)
        · rw [decide_eq_true]
          · exact q _
          · show V.str (tx (L ++ [x0])) = V.str (tx L ++ tx [x0])
            rw [tx_app]
      · exfalso
        have : whole 0 (((W2 u L c nY).length : Int) - ((L.length + 1 : Nat) : Int)) (.int ((u.length * c : Nat) : Int)) = true := by
          show (decide ((0 : Int) ≤ ((u.length * c : Nat) : Int)) && decide (((u.length * c : Nat) : Int) ≤ ((W2 u L c nY).length : Int) - ((L.length + 1 : Nat) : Int))) = true
          rw [decide_eq_true (by omega), decide_eq_true (by omega)]
          rfl
        rw [this] at hw
        cases hw
end
end Law

/-! a law under whose calls defs are made: several code objects with a table each -/
namespace GT
open PySem PySem.Spec PyProof.Rows L2 GD
/-- the script, where it is tracked, and the tables -/
def mny (ts : List Addr) (s : Hp) : Hp := fun b => if b ∈ ts then some (.tbl #[]) else s b
theorem mny_in {ts : List Addr} {s : Hp} {b : Addr} (h : b ∈ ts) : mny ts s b = some (.tbl #[]) := if_pos h
theorem mny_out {ts : List Addr} {s : Hp} {b : Addr} (h : b ∉ ts) : mny ts s b = s b := if_neg h
theorem callGTs {P : Program} {w : World} {K : PySem.W.Frag} {mg mb : Str → Option Value} {k : Nat} {fa a : Addr} {cs : List (Addr × Addr)} {fd : FuncData} {x : Str} {sp : Sp} {s : Shared} {vs : List Value} {ns : List Int}
    (kin : K.In s.heap) (hns : s.heap.Ns mainGlobals mg) (hb : s.heap.Ns builtinsNs mb) (hbb : ∀ x : Str, x ≠ "__name__" → mb x = bootBuiltins x) (nolim : s.heap.NoLimit) (gens : s.gens = #[])
    (tab : ∀ p ∈ cs, s.heap.get? p.2 = some { cls := .none, data := .fields #[] }) (tabK : ∀ p ∈ cs, K.lookup p.2 = none) (code : ∀ p ∈ cs, PySem.W.CodeHd s.heap p.1 p.2) (hbm : Bm mg s.heap)
    (ha : s.heap.get? a = some { cls := .type "list", data := .seq vs.toArray }) (hi : IntsAre vs ns) (hl : ns.length ≤ sizeLine) (room : Room k callerA)
    (F : ∀ base : Heap, K.In base → base.Ns mainGlobals mg → (∀ p ∈ cs, LamX.TabB base mg p.1 p.2) → Gd P w K mg base k fa fd [x] sp) (binds : ∀ (s : Shared) (u : Value), BindsTo s fd ⟨[u], []⟩ [(x, u)])
    (hsp : ∀ H : Hp, (∀ p ∈ cs, H p.2 = some (.tbl #[])) → SqL K H a (ns.map V.int) → sp [.ref a] H (fun v _ => v = .bl true) E0) :
    codeAny (model P w) callerA (.call (.ref fa) ⟨[.ref a], []⟩) (fun r s' => r = .ok (.ret (.bool true)) ∧ OldK s.heap s'.heap ∧ s'.os = s.os ∧ AllBare s'.gens) s := by
  have rv := vals_ints hi
  obtain ⟨ts, hts⟩ : ∃ ts, cs.map (·.2) = ts := ⟨_, rfl⟩
  have tin : ∀ {p : Addr × Addr}, p ∈ cs → p.2 ∈ ts := fun {p} hp => by
    rw [← hts]
    exact List.mem_map_of_mem hp
  have tof : ∀ {b : Addr}, b ∈ ts → ∃ p ∈ cs, p.2 = b := fun {b} hb => by
    rw [← hts] at hb
    obtain ⟨p, hp, e⟩ := List.mem_map.mp hb
    exact ⟨p, hp, e⟩
  have tobj : ∀ {b : Addr}, b ∈ ts → s.heap.get? b = some { cls := .none, data := .fields #[] } := fun {b} hb => by
    obtain ⟨p, hp, rfl⟩ := tof hb
    exact tab p hp
  have nat : a ∉ ts := fun z => by
    have := tobj z
    rw [ha] at this
    cases this
  have step : ∀ H : Hp, (∀ b u, H b = some u → b ∉ ts → b = a ∧ K.lookup a = none ∧ ∃ o xs, u = .frz o (.lst xs)) → (∀ b ∈ ts, H b = some (.tbl #[])) → HOk P w H s.heap → SqL K H a (ns.map V.int) →
      codeAny (model P w) callerA (.call (.ref fa) ⟨[.ref a], []⟩) (fun r s' => r = .ok (.ret (.bool true)) ∧ OldK s.heap s'.heap ∧ s'.os = s.os ∧ AllBare s'.gens) s := by
    intro H only hT hok hS
    have free : ∀ {b : Addr}, b ≠ a → b ∉ ts → H b = none := fun {b} n nt => by
      cases e : H b with
      | none => rfl
      | some u => exact absurd (only b u e nt).1 n
    -- what stands at none of them stays in sight
    have sees : ∀ {b : Addr} {o : Obj}, s.heap.get? b = some o → (∀ us m, o.data ≠ .seq us m) → o.data ≠ .fields #[] → (hidT s.heap H).get? b = some o := fun {b o} e n1 n2 => by
      refine hidT_get e (free (fun z => ?_) fun z => ?_)
      · rw [z, ha] at e
        cases e
        exact n1 _ _ rfl
      · rw [tobj z] at e
        cases e
        exact n2 rfl
    have stays : ∀ {b : Addr} {m : Str → Option Value}, s.heap.Ns b m → (hidT s.heap H).Ns b m := fun {b m} ⟨o, es, ep, e, d, r⟩ => by
      refine ⟨o, es, ep, sees e (fun us m z => ?_) (fun z => ?_), d, r⟩
      · rw [show o.data = _ from d] at z
        cases z
      · rw [show o.data = _ from d] at z
        cases z
    have kinB : K.In (hidT s.heap H) := fun b o e => hidT_get (kin b o e) (by
      cases q : H b with
      | none => rfl
      | some u =>
        by_cases nt : b ∈ ts
        · obtain ⟨p, hp, rfl⟩ := tof nt
          rw [tabK p hp] at e
          cases e
        · obtain ⟨h1, h2, _⟩ := only b u q nt
          rw [h1, h2] at e
          cases e)
    have TB : ∀ p ∈ cs, LamX.TabB (hidT s.heap H) mg p.1 p.2 := fun p hp => by
      have tp := tab p hp
      refine ⟨?_, ?_, fun z => ?_⟩
      · obtain ⟨o, us, y1, y2, y3, y4, y5, y6, y7, at_, cl, dat, v11, rest⟩ := code p hp
        refine ⟨o, us, y1, y2, y3, y4, y5, y6, y7, sees at_ (fun _ _ z => ?_) (fun z => ?_), cl, dat, v11, rest⟩
        · rw [dat] at z
          cases z
        · rw [dat] at z
          cases z
          cases v11
      · obtain ⟨bm, ob, m1, m2, m3, m4, m5, m6⟩ := hbm
        have np : ∀ us : Array Value, ob.data ≠ .fields us := fun us z => by
          rw [m6] at z
          cases z
        refine ⟨bm, ob, m1, m2, fun z => ?_, fun z => ?_, sees m3 (fun _ _ z => ?_) (np _), m4, m5, m6⟩
        · obtain ⟨o, es, ep, e, d, _⟩ := hns
          rw [← z, m3] at e
          cases e
          rw [m6] at d
          cases d
        · rw [z, tp] at m3
          cases m3
          exact np _ rfl
        · rw [m6] at z
          cases z
      · obtain ⟨o, es, ep, e, d, _⟩ := hns
        rw [z, tp] at e
        cases e
        cases d
    have e0 : Env0 P w K mg (hidT s.heap H) callerA [] s H :=
      ⟨rfl, ⟨kinB, stays hns, ⟨mb, stays hb, hbb⟩, let ⟨mc, h1, h2⟩ := nolim; ⟨mc, stays h1, h2⟩⟩, fun b o e => of_hidT e, Nat.le_of_eq (hidT_size _ _), trivial, fun b hb => (nomatch (show b ∈ ([] : List Addr) from hb)), hok, .of_eq gens⟩
    refine codeAny_mono ((F _ kinB (stays hns) TB).run callerA [] s H ⟨[.ref a], []⟩ [.ref a] [.ref a] _ E0 room rfl e0 (binds s (.ref a)) (.cons rfl .nil) (hsp H (fun p hp => hT _ (tin hp)) hS)) fun r s' h => ?_
    cases r with
    | error e => exact h.elim
    | ok fl =>
      cases fl with
      | ret u =>
        obtain ⟨v, H', os, bare, un, hok', r', q⟩ := h
        obtain rfl : v = .bl true := q
        obtain rfl : u = Value.bool true := r'
        have grown : ∀ b ∈ ts, ∃ more : Array Value, s'.heap.get? b = some { cls := .none, data := .fields more } := fun b hb => by
          obtain ⟨more, hm⟩ := un.tbls b #[] (hT b hb)
          exact ⟨_, hok' b _ hm⟩
        refine ⟨rfl, ⟨fun b o e => ?_, fun b o e => ?_⟩, os, bare⟩
        · by_cases nt : b ∈ ts
          · obtain ⟨p, hp, rfl⟩ := tof nt
            obtain ⟨more, hm⟩ := grown _ nt
            rw [tab p hp] at e
            cases e
            exact .inr (.inl ⟨((code p hp).tab (tab p hp)).isCodeTable, rfl, #[], more, rfl, by rw [Array.empty_append]; exact hm⟩)
          · refine .inl ?_
            cases q : H b with
            | none => exact un.keep b o e q (by intro z; exact (nomatch (show b ∈ ([] : List Addr) from z))) (by simp)
            | some u =>
              obtain ⟨_, _, ob, xs, rfl⟩ := only b u q nt
              obtain ⟨e1, _⟩ := hok b _ q
              obtain ⟨e2, _⟩ := hok' b _ (un.frzs b ob _ q)
              rw [e] at e1
              cases e1
              exact e2
        · by_cases nt : b ∈ ts
          · obtain ⟨more, hm⟩ := grown b nt
            exact ⟨_, hm⟩
          · cases q : H b with
            | none => exact ⟨o, un.keep b o e q (by intro z; exact (nomatch (show b ∈ ([] : List Addr) from z))) (by simp)⟩
            | some u =>
              obtain ⟨_, _, ob, xs, rfl⟩ := only b u q nt
              obtain ⟨e2, _⟩ := hok' b _ (un.frzs b ob _ q)
              exact ⟨_, e2⟩
      | next => exact h.elim
      | brk => exact h.elim
      | cont => exact h.elim
  cases hk : K.lookup a with
  | some o =>
    have e := kin a o hk
    rw [ha] at e
    cases e
    refine step (mny ts fun _ => none) (fun b u z nt => by rw [mny_out nt] at z; cases z) (fun b hb => mny_in hb) (fun b u z => ?_) (.inr ⟨_, vs.toArray, _, hk, rfl, rfl, rfl, ?_, by simpa using rv⟩)
    · by_cases nt : b ∈ ts
      · rw [mny_in nt] at z
        cases z
        exact tobj nt
      · rw [mny_out nt] at z
        cases z
    · rw [List.size_toArray, hi.length]
      exact hl
  | none =>
    refine step (mny ts (one a vs ns)) (fun b u z nt => ?_) (fun b hb => mny_in hb) (fun b u z => ?_) (.inl (.inr ⟨_, (mny_out nat).trans (if_pos rfl)⟩))
    · rw [mny_out nt] at z
      unfold one at z
      by_cases q : b = a
      · rw [if_pos q] at z
        cases z
        exact ⟨q, hk, _, _, rfl⟩
      · rw [if_neg q] at z
        cases z
    · by_cases nt : b ∈ ts
      · rw [mny_in nt] at z
        cases z
        exact tobj nt
      rw [mny_out nt] at z
      unfold one at z
      by_cases q : b = a
      · rw [if_pos q] at z
        cases z
        subst q
        exact ⟨ha, by rw [List.length_map]; exact hl, vs, _, rv, ha⟩
      · rw [if_neg q] at z
        cases z
theorem walkGTs {l : PySem.W.OpenLaw} {n k : Nat} {q : Program} {loose : List Str} {XP : (Str → Option Value) → Heap → Prop} {YP : World → Heap → Prop} {d : DefRec} {K : Params → PySem.W.Frag} {x : Str}
    (hn : l.most = some n) (hn2 : n ≤ sizeLine) (hdf : d.params.defaults = []) (hr : Room k callerA) (hY : ∀ (w : World) (h : Heap), YP w h → (K w.params).In h)
    (F : ∀ (w : World) (mg : Str → Option Value) (fa : Addr) (h : Heap), YP w h → (K w.params).In h → h.Ns mainGlobals mg → mg d.name = some (.ref fa) →
      ∃ (fd : FuncData) (cs : List (Addr × Addr)) (sp : Sp), (∀ p ∈ cs, h.get? p.2 = some { cls := .none, data := .fields #[] }) ∧ (∀ p ∈ cs, (K w.params).lookup p.2 = none) ∧ (∀ p ∈ cs, PySem.W.CodeHd h p.1 p.2) ∧ (∀ (s : Shared) (u : Value), BindsTo s fd ⟨[u], []⟩ [(x, u)]) ∧
        (∀ (H : Hp) (a : Addr) (ns : List Int), ns.length ≤ n → (∀ p ∈ cs, H p.2 = some (.tbl #[])) → SqL (K w.params) H a (ns.map V.int) → sp [.ref a] H (fun v _ => v = .bl true) E0) ∧
        ∀ base : Heap, (K w.params).In base → base.Ns mainGlobals mg → (∀ p ∈ cs, LamX.TabB base mg p.1 p.2) → Gd l.prog w (K w.params) mg base k fa fd [x] sp) :
    PySem.W.WalkO q loose XP YP l.row.toRowW d [] (fun f vs => PySem.call f vs) := by
  refine Att.attach_call hn hdf fun w s₀ s₁ mg mb fa o pm cd doc a vs ns G Y ho hd hcd hmg hobj hints hlen hg => ?_
  have kin := hY w _ Y
  obtain ⟨fd, cs, sp, tab, tabK, code, hb, hsp, hF⟩ := F w mg fa _ Y kin G.T.g hmg
  exact callGTs kin G.T.g G.T.b G.T.builtins G.T.nolimit hg tab tabK code G.T.bmain hobj hints (Nat.le_trans hlen hn2) hr hF hb fun H hT hS => hsp H a ns hlen hT hS
end GT

namespace Law
open PySem PySem.Spec PyProof.Rows L2 Evl TR EK GX WV LamX
theorem kit_mk {K : PySem.W.Frag} {t : Value} {c : Addr} {b : Bool} (n : (t == .ref c) = false ∨ b = true) (h1 : PySem.W.isClsIn K c = true) (h2 : PySem.W.typeIn K (.ref c) = some (.type "type")) (h3 : PySem.W.subIn K t (.ref c) = some b) : PySem.W.kitOne K t (.ref c) = some b := by
  have e : PySem.W.kitCls K t (.ref c) = some b := by
    unfold PySem.W.kitCls
    show (if ((PySem.W.clsIn K c).isSome && PySem.W.typeIn K (.ref c) == some (.type "type")) = true then PySem.W.subIn K t (.ref c) else none) = some b
    rw [if_pos (by rw [Bool.and_eq_true]; exact ⟨h1, by rw [h2]; simp⟩)]
    exact h3
  unfold PySem.W.kitOne
  by_cases q : (t == .ref c) = true
  · rw [if_pos q]
    rcases n with n | n
    · rw [n] at q
      cases q
    · rw [n]
  · rw [if_neg q]
    exact e
theorem exm_mk {K : PySem.W.Frag} {t : Value} {c : Addr} {b : Bool} (h0 : PySem.W.subIn K (.ref c) (.type "BaseException") = some true) (h1 : PySem.W.isClsIn K c = true) (h2 : PySem.W.typeIn K (.ref c) = some (.type "type")) (h3 : PySem.W.subIn K t (.ref c) = some b) : PySem.W.exmOne K t (.ref c) = some b := by
  unfold PySem.W.exmOne
  rw [if_pos (by rw [h0]; simp)]
  unfold PySem.W.kitCls
  show (if ((PySem.W.clsIn K c).isSome && PySem.W.typeIn K (.ref c) == some (.type "type")) = true then PySem.W.subIn K t (.ref c) else none) = some b
  rw [if_pos (by rw [Bool.and_eq_true]; exact ⟨h1, by rw [h2]; simp⟩)]
  exact h3
theorem all_mk {l : PySem.W.OpenLaw} {w : World} {K : PySem.W.Frag} {h : Heap} {mg : Str → Option Value} {fa C0 f1 f2 f3 f4 f5 f6 f7 f8 f9 f10 f11 f12 f13 f14 f15 f16 f17 f18 f19 f20 f21 f22 fW fB fT fX fP fQ CW CB CT : Addr} (X : K.In h) (G : h.Ns mainGlobals mg) (hfa : mg "law" = some (.ref fa))
    {od1 an1 od2 an2 od3 an3 od4 an4 od5 an5 od6 an6 od7 an7 od8 an8 od9 an9 od10 an10 od11 an11 od12 an12 od13 an13 od14 an14 od15 an15 od16 an16 od17 an17 od18 an18 od19 an19 od20 an20 od21 an21 od22 an22 odW anW odB anB odT anT odX anX odP anP odQ anQ : Option Addr} {sl1 sl2 sl3 sl4 sl5 sl6 sl7 sl8 sl9 sl10 sl11 sl12 sl13 sl14 sl15 sl16 sl17 sl18 sl19 sl20 sl21 sl22 slW slB slT slX slP slQ : Array (Option Value)} {oc1 kV1 dc1 pm1 cd1 ct1 oc2 kV2 dc2 pm2 cd2 ct2 oc3 kV3 dc3 pm3 cd3 ct3 oc4 kV4 dc4 pm4 cd4 ct4 oc5 kV5 dc5 pm5 cd5 ct5 oc6 kV6 dc6 pm6 cd6 ct6 oc7 kV7 dc7 pm7 cd7 ct7 oc8 kV8 dc8 pm8 cd8 ct8 oc9 kV9 dc9 pm9 cd9 ct9 oc10 kV10 dc10 pm10 cd10 ct10 oc11 kV11 dc11 pm11 cd11 ct11 oc12 kV12 dc12 pm12 cd12 ct12 oc13 kV13 dc13 pm13 cd13 ct13 oc14 kV14 dc14 pm14 cd14 ct14 oc15 kV15 dc15 pm15 cd15 ct15 oc16 kV16 dc16 pm16 cd16 ct16 oc17 kV17 dc17 pm17 cd17 ct17 oc18 kV18 dc18 pm18 cd18 ct18 oc19 kV19 dc19 pm19 cd19 ct19 oc20 kV20 dc20 pm20 cd20 ct20 oc21 kV21 dc21 pm21  ct21 oc22 kV22 dc22 pm22 cd22 ct22 ocW kVW dcW pmW cdW ctW ocB kVB dcB pmB cdB ctB ocT kVT dcT pmT cdT ctT ocX kVX dcX pmX cdX ctX ocP kVP dcP pmP cdP ctP ocQ kVQ dcQ pmQ cdQ ctQ : Value} {t0 t1 t2 t3 t4 : Tok}
    {nmB} {qB} {NB} {bsB} {bmB} {snB} {suB} {abB} {colB} {ddB} {k0B} {k1B} {k2B} {k3B} {k5B} {nmT} {qT} {NT} {bsT} {bmT} {snT} {suT} {abT} {colT} {ddT} {k0T} {k1T} {k2T} {k3T} {k5T}
    {ca21 ta21 : Addr} {occ21 : Value} {odc21 : Option Addr} {vsc21 : Array Value} {slc21 : Array (Option Value)}
    (a1 : PySem.W.nsIn K mainGlobals "law" = some (some (.ref f1)))
    (l1 : K.lookup f1 = some ⟨oc1, od1, .func (PySem.W.fnOf "law" "law" (defArgs s_law) (defBody s_law) (defScope s_law) .none kV1 dc1 pm1 an1 cd1 ct1), sl1⟩)
    (c1 : PySem.W.codeIn K cd1 "law" = true)
    (k1 : PySem.W.keepIn K (.ref f1) = true)
    (a2 : PySem.W.nsIn K mainGlobals "_law_pen" = some (some (.ref f2)))
    (l2 : K.lookup f2 = some ⟨oc2, od2, .func (PySem.W.fnOf "_law_pen" "_law_pen" (defArgs s_lpen) (defBody s_lpen) (defScope s_lpen) .none kV2 dc2 pm2 an2 cd2 ct2), sl2⟩)
    (c2 : PySem.W.codeIn K cd2 "_law_pen" = true)
    (k2 : PySem.W.keepIn K (.ref f2) = true)
    (a3 : PySem.W.nsIn K mainGlobals "_law_draw" = some (some (.ref f3)))
    (l3 : K.lookup f3 = some ⟨oc3, od3, .func (PySem.W.fnOf "_law_draw" "_law_draw" (defArgs s_ldraw) (defBody s_ldraw) (defScope s_ldraw) .none kV3 dc3 pm3 an3 cd3 ct3), sl3⟩)
    (c3 : PySem.W.codeIn K cd3 "_law_draw" = true)
    (k3 : PySem.W.keepIn K (.ref f3) = true)
    (a4 : PySem.W.nsIn K mainGlobals "_law_pick" = some (some (.ref f4)))
    (l4 : K.lookup f4 = some ⟨oc4, od4, .func (PySem.W.fnOf "_law_pick" "_law_pick" (defArgs s_lpick) (defBody s_lpick) (defScope s_lpick) .none kV4 dc4 pm4 an4 cd4 ct4), sl4⟩)
    (c4 : PySem.W.codeIn K cd4 "_law_pick" = true)
    (k4 : PySem.W.keepIn K (.ref f4) = true)
    (a5 : PySem.W.nsIn K mainGlobals "_law_letters" = some (some (.ref f5)))
    (l5 : K.lookup f5 = some ⟨oc5, od5, .func (PySem.W.fnOf "_law_letters" "_law_letters" (defArgs s_lletters) (defBody s_lletters) (defScope s_lletters) .none kV5 dc5 pm5 an5 cd5 ct5), sl5⟩)
    (c5 : PySem.W.codeIn K cd5 "_law_letters" = true)
    (k5 : PySem.W.keepIn K (.ref f5) = true)
    (a6 : PySem.W.nsIn K mainGlobals "is_list" = some (some (.ref f6)))
    (l6 : K.lookup f6 = some ⟨oc6, od6, .func (PySem.W.fnOf "is_list" "is_list" (defArgs s_is_list) (defBody s_is_list) (defScope s_is_list) .none kV6 dc6 pm6 an6 cd6 ct6), sl6⟩)
    (c6 : PySem.W.codeIn K cd6 "is_list" = true)
    (k6 : PySem.W.keepIn K (.ref f6) = true)
    (a7 : PySem.W.nsIn K mainGlobals "is_integer" = some (some (.ref f7)))
    (l7 : K.lookup f7 = some ⟨oc7, od7, .func (PySem.W.fnOf "is_integer" "is_integer" (defArgs s_is_integer) (defBody s_is_integer) (defScope s_is_integer) .none kV7 dc7 pm7 an7 cd7 ct7), sl7⟩)
    (c7 : PySem.W.codeIn K cd7 "is_integer" = true)
    (k7 : PySem.W.keepIn K (.ref f7) = true)
    (a8 : PySem.W.nsIn K mainGlobals "is_whole" = some (some (.ref f8)))
    (l8 : K.lookup f8 = some ⟨oc8, od8, .func (PySem.W.fnOf "is_whole" "is_whole" (defArgs s_is_whole) (defBody s_is_whole) (defScope s_is_whole) .none kV8 dc8 pm8 an8 cd8 ct8), sl8⟩)
    (c8 : PySem.W.codeIn K cd8 "is_whole" = true)
    (k8 : PySem.W.keepIn K (.ref f8) = true)
    (a9 : PySem.W.nsIn K mainGlobals "are_letters" = some (some (.ref f9)))
    (l9 : K.lookup f9 = some ⟨oc9, od9, .func (PySem.W.fnOf "are_letters" "are_letters" (defArgs s_are_letters) (defBody s_are_letters) (defScope s_are_letters) .none kV9 dc9 pm9 an9 cd9 ct9), sl9⟩)
    (c9 : PySem.W.codeIn K cd9 "are_letters" = true)
    (k9 : PySem.W.keepIn K (.ref f9) = true)
    (a10 : PySem.W.nsIn K mainGlobals "wrong_sign" = some (some (.ref f10)))
    (l10 : K.lookup f10 = some ⟨oc10, od10, .func (PySem.W.fnOf "wrong_sign" "wrong_sign" (defArgs s_wrong_sign) (defBody s_wrong_sign) (defScope s_wrong_sign) .none kV10 dc10 pm10 an10 cd10 ct10), sl10⟩)
    (c10 : PySem.W.codeIn K cd10 "wrong_sign" = true)
    (k10 : PySem.W.keepIn K (.ref f10) = true)
    (a11 : PySem.W.nsIn K mainGlobals "_is_name" = some (some (.ref f11)))
    (l11 : K.lookup f11 = some ⟨oc11, od11, .func (PySem.W.fnOf "_is_name" "_is_name" (defArgs s_is_name) (defBody s_is_name) (defScope s_is_name) .none kV11 dc11 pm11 an11 cd11 ct11), sl11⟩)
    (c11 : PySem.W.codeIn K cd11 "_is_name" = true)
    (k11 : PySem.W.keepIn K (.ref f11) = true)
    (a12 : PySem.W.nsIn K mainGlobals "_is_part" = some (some (.ref f12)))
    (l12 : K.lookup f12 = some ⟨oc12, od12, .func (PySem.W.fnOf "_is_part" "_is_part" (defArgs s_is_part) (defBody s_is_part) (defScope s_is_part) .none kV12 dc12 pm12 an12 cd12 ct12), sl12⟩)
    (c12 : PySem.W.codeIn K cd12 "_is_part" = true)
    (k12 : PySem.W.keepIn K (.ref f12) = true)
    (a13 : PySem.W.nsIn K mainGlobals "_is_rule" = some (some (.ref f13)))
    (l13 : K.lookup f13 = some ⟨oc13, od13, .func (PySem.W.fnOf "_is_rule" "_is_rule" (defArgs s_is_rule) (defBody s_is_rule) (defScope s_is_rule) .none kV13 dc13 pm13 an13 cd13 ct13), sl13⟩)
    (c13 : PySem.W.codeIn K cd13 "_is_rule" = true)
    (k13 : PySem.W.keepIn K (.ref f13) = true)
    (a14 : PySem.W.nsIn K mainGlobals "_within" = some (some (.ref f14)))
    (l14 : K.lookup f14 = some ⟨oc14, od14, .func (PySem.W.fnOf "_within" "_within" (defArgs s_within) (defBody s_within) (defScope s_within) .none kV14 dc14 pm14 an14 cd14 ct14), sl14⟩)
    (c14 : PySem.W.codeIn K cd14 "_within" = true)
    (k14 : PySem.W.keepIn K (.ref f14) = true)
    (a15 : PySem.W.nsIn K mainGlobals "_sizes" = some (some (.ref f15)))
    (l15 : K.lookup f15 = some ⟨oc15, od15, .func (PySem.W.fnOf "_sizes" "_sizes" (defArgs s_sizes) (defBody s_sizes) (defScope s_sizes) .none kV15 dc15 pm15 an15 cd15 ct15), sl15⟩)
    (c15 : PySem.W.codeIn K cd15 "_sizes" = true)
    (k15 : PySem.W.keepIn K (.ref f15) = true)
    (a16 : PySem.W.nsIn K mainGlobals "_kept" = some (some (.ref f16)))
    (l16 : K.lookup f16 = some ⟨oc16, od16, .func (PySem.W.fnOf "_kept" "_kept" (defArgs s_kept) (defBody s_kept) (defScope s_kept) .none kV16 dc16 pm16 an16 cd16 ct16), sl16⟩)
    (c16 : PySem.W.codeIn K cd16 "_kept" = true)
    (k16 : PySem.W.keepIn K (.ref f16) = true)
    (a17 : PySem.W.nsIn K mainGlobals "_law_piece" = some (some (.ref f17)))
    (l17 : K.lookup f17 = some ⟨oc17, od17, .func (PySem.W.fnOf "_law_piece" "_law_piece" (defArgs s_lpiece) (defBody s_lpiece) (defScope s_lpiece) .none kV17 dc17 pm17 an17 cd17 ct17), sl17⟩)
    (c17 : PySem.W.codeIn K cd17 "_law_piece" = true)
    (k17 : PySem.W.keepIn K (.ref f17) = true)
    (a18 : PySem.W.nsIn K mainGlobals "_law_shuffled" = some (some (.ref f18)))
    (l18 : K.lookup f18 = some ⟨oc18, od18, .func (PySem.W.fnOf "_law_shuffled" "_law_shuffled" (defArgs s_lshuffled) (defBody s_lshuffled) (defScope s_lshuffled) .none kV18 dc18 pm18 an18 cd18 ct18), sl18⟩)
    (c18 : PySem.W.codeIn K cd18 "_law_shuffled" = true)
    (k18 : PySem.W.keepIn K (.ref f18) = true)
    (a19 : PySem.W.nsIn K mainGlobals "_law_rules" = some (some (.ref f19)))
    (l19 : K.lookup f19 = some ⟨oc19, od19, .func (PySem.W.fnOf "_law_rules" "_law_rules" (defArgs s_lrules) (defBody s_lrules) (defScope s_lrules) .none kV19 dc19 pm19 an19 cd19 ct19), sl19⟩)
    (c19 : PySem.W.codeIn K cd19 "_law_rules" = true)
    (k19 : PySem.W.keepIn K (.ref f19) = true)
    (a20 : PySem.W.nsIn K mainGlobals "_law_mixed" = some (some (.ref f20)))
    (l20 : K.lookup f20 = some ⟨oc20, od20, .func (PySem.W.fnOf "_law_mixed" "_law_mixed" (defArgs s_lmixed) (defBody s_lmixed) (defScope s_lmixed) .none kV20 dc20 pm20 an20 cd20 ct20), sl20⟩)
    (c20 : PySem.W.codeIn K cd20 "_law_mixed" = true)
    (k20 : PySem.W.keepIn K (.ref f20) = true)
    (a21 : PySem.W.nsIn K mainGlobals "_law_is_read" = some (some (.ref f21)))
    (l21 : K.lookup f21 = some ⟨oc21, od21, .func (PySem.W.fnOf "_law_is_read" "_law_is_read" (defArgs s_lis_read) (defBody s_lis_read) (defScope s_lis_read) .none kV21 dc21 pm21 an21 (.ref ca21) ct21), sl21⟩)
    (c21 : PySem.W.codeIn K ((.ref ca21)) "_law_is_read" = true)
    (k21 : PySem.W.keepIn K (.ref f21) = true)
    (tb21 : K.lookup ca21 = some ⟨occ21, odc21, .fields vsc21, slc21⟩)
    (tv21 : vsc21[11]? = some (.ref ta21))
    (hcd21 : PySem.W.codeHdIn K ca21 ta21 = true)
    (tk21 : K.lookup ta21 = none)
    (ht21 : h.get? ta21 = some { cls := .none, data := .fields #[] })
    (a22 : PySem.W.nsIn K mainGlobals "_law_met" = some (some (.ref f22)))
    (l22 : K.lookup f22 = some ⟨oc22, od22, .func (PySem.W.fnOf "_law_met" "_law_met" (defArgs s_lmet) (defBody s_lmet) (defScope s_lmet) .none kV22 dc22 pm22 an22 cd22 ct22), sl22⟩)
    (c22 : PySem.W.codeIn K cd22 "_law_met" = true)
    (k22 : PySem.W.keepIn K (.ref f22) = true)
    (ndT : ([ta21] : List Addr).Nodup)
    (aCW : PySem.W.nsIn K mainGlobals "Weave" = some (some (.ref CW)))
    (aW : PySem.W.findIn K (.ref CW) "__init__" = some (some (.ref fW)))
    (lW : K.lookup fW = some ⟨ocW, odW, .func (PySem.W.fnOf "__init__" "Weave.__init__" (defArgs s_Weave_init) (defBody s_Weave_init) (defScope s_Weave_init) .none kVW dcW pmW anW cdW ctW), slW⟩)
    (cW : PySem.W.codeIn K cdW "Weave.__init__" = true)
    (kW : PySem.W.keepIn K (.ref fW) = true)
    (nW1 : PySem.W.findIn K (.ref CW) "_rules" = some none)
    (nW2 : PySem.W.findIn K (.ref CW) "_sizes" = some none)
    (nW3 : PySem.W.findIn K (.ref CW) "_root" = some none)
    (nW4 : PySem.W.findIn K (.ref CW) "letters" = some none)
    (nW5 : PySem.W.findIn K (.ref CW) "size" = some none)
    (g4W : PySem.W.findIn K (.ref CW) "__setattr__" = some (some (.builtin "object.__setattr__")))
    (m2W : PySem.W.keepIn K (.ref CW) = true)
    (aCB : PySem.W.nsIn K mainGlobals "BadPlace" = some (some (.ref CB)))
    (aB : PySem.W.findIn K (.ref CB) "__init__" = some (some (.ref fB)))
    (lB : K.lookup fB = some ⟨ocB, odB, .func (PySem.W.fnOf "__init__" "BadPlace.__init__" (defArgs s_BadPlace_init) (defBody s_BadPlace_init) (defScope s_BadPlace_init) .none kVB dcB pmB anB cdB ctB), slB⟩)
    (cB : PySem.W.codeIn K cdB "BadPlace.__init__" = true)
    (kB : PySem.W.keepIn K (.ref fB) = true)
    (nB1 : PySem.W.findIn K (.ref CB) "number" = some none)
    (g4B : PySem.W.findIn K (.ref CB) "__setattr__" = some (some (.builtin "object.__setattr__")))
    (m2B : PySem.W.keepIn K (.ref CB) = true)
    (aCT : PySem.W.nsIn K mainGlobals "TooMany" = some (some (.ref CT)))
    (aT : PySem.W.findIn K (.ref CT) "__init__" = some (some (.ref fT)))
    (lT : K.lookup fT = some ⟨ocT, odT, .func (PySem.W.fnOf "__init__" "TooMany.__init__" (defArgs s_TooMany_init) (defBody s_TooMany_init) (defScope s_TooMany_init) .none kVT dcT pmT anT cdT ctT), slT⟩)
    (cT : PySem.W.codeIn K cdT "TooMany.__init__" = true)
    (kT : PySem.W.keepIn K (.ref fT) = true)
    (nT1 : PySem.W.findIn K (.ref CT) "what" = some none)
    (nT2 : PySem.W.findIn K (.ref CT) "many" = some none)
    (nT3 : PySem.W.findIn K (.ref CT) "most" = some none)
    (g4T : PySem.W.findIn K (.ref CT) "__setattr__" = some (some (.builtin "object.__setattr__")))
    (m2T : PySem.W.keepIn K (.ref CT) = true)
    (aX : PySem.W.findIn K (.ref CW) "letter" = some (some (.ref fX)))
    (lX : K.lookup fX = some ⟨ocX, odX, .func (PySem.W.fnOf "letter" "Weave.letter" (defArgs s_Weave_letter) (defBody s_Weave_letter) (defScope s_Weave_letter) .none kVX dcX pmX anX cdX ctX), slX⟩)
    (cX : PySem.W.codeIn K cdX "Weave.letter" = true)
    (kX : PySem.W.keepIn K (.ref fX) = true)
    (nfX : PySem.W.isFn K (.ref fX) = true)
    (aP : PySem.W.findIn K (.ref CW) "part" = some (some (.ref fP)))
    (lP : K.lookup fP = some ⟨ocP, odP, .func (PySem.W.fnOf "part" "Weave.part" (defArgs s_Weave_part) (defBody s_Weave_part) (defScope s_Weave_part) .none kVP dcP pmP anP cdP ctP), slP⟩)
    (cP : PySem.W.codeIn K cdP "Weave.part" = true)
    (kP : PySem.W.keepIn K (.ref fP) = true)
    (nfP : PySem.W.isFn K (.ref fP) = true)
    (aQ : PySem.W.findIn K (.ref CW) "_cut" = some (some (.ref fQ)))
    (lQ : K.lookup fQ = some ⟨ocQ, odQ, .func (PySem.W.fnOf "_cut" "Weave._cut" (defArgs s_Weave__cut) (defBody s_Weave__cut) (defScope s_Weave__cut) .none kVQ dcQ pmQ anQ cdQ ctQ), slQ⟩)
    (cQ : PySem.W.codeIn K cdQ "Weave._cut" = true)
    (kQ : PySem.W.keepIn K (.ref fQ) = true)
    (nfQ : PySem.W.isFn K (.ref fQ) = true)
    (iW : PySem.W.isFn K (.ref fW) = true)
    (m1W : PySem.W.makesIn K CW = true)
    (g1W : PySem.W.plainGet K CW Str.empty = true)
    (g2W : PySem.W.hasDictIn K CW = true)
    (g3W : PySem.W.plainOver K CW = true)
    (aC0 : PySem.W.nsIn K mainGlobals "SkipsError" = some (some (.ref C0)))
    (r1 : PySem.W.readsIn K C0 (.type "type") = true)
    (r2 : PySem.W.specialIn K (.ref C0) "__getattribute__" = some (some (.builtin "type.__getattribute__")))
    (r3 : PySem.W.findCls K (.ref C0) (.type "type") "__init__" = some (.val (.builtin "ValueError.__init__")))
    (s1 : PySem.W.isClsIn K C0 = true)
    (s2 : PySem.W.typeIn K (.ref C0) = some (.type "type"))
    (s3 : PySem.W.specialIn K (.builtin "object.__class__") "__get__" = some (some (.builtin "getset_descriptor.__get__")))
    (s4 : PySem.W.takesIn K (.builtin "object.__class__") = some true)
    (o1B : K.lookup CB = some (excClassObj nmB qB CB NB bsB bmB true snB suB abB colB ddB k0B k1B k2B k3B k5B "ValueError.__new__"))
    (o2B : PySem.HandSPX.refsVE bmB = true)
    (o3B : PySem.W.subIn K (.ref CB) (.type "BaseException") = some true)
    (o4B : PySem.W.typeIn K (.ref CB) = some (.type "type"))
    (tB : PySem.W.typeIn K (.ref fB) = some (.type "function"))
    (x1B : PySem.W.findIn K (.ref CB) "__getattribute__" = some (some (.builtin "BaseException.__getattribute__")))
    (x2B : PySem.W.findIn K (.ref CB) "__getattr__" = some none)
    (x3B : PySem.W.hasDictIn K CB = true)
    (e1B : PySem.W.findIn K (.ref CB) "__class__" = some (some (.builtin "object.__class__")))
    (e2B : PySem.W.mroIn K CB (.type "object") = some true)
    (p1B : PySem.W.subIn K (.ref CB) (.ref C0) = some true)
    (p2B : PySem.W.isClsIn K CB = true)
    (o1T : K.lookup CT = some (excClassObj nmT qT CT NT bsT bmT true snT suT abT colT ddT k0T k1T k2T k3T k5T "ValueError.__new__"))
    (o2T : PySem.HandSPX.refsVE bmT = true)
    (o3T : PySem.W.subIn K (.ref CT) (.type "BaseException") = some true)
    (o4T : PySem.W.typeIn K (.ref CT) = some (.type "type"))
    (tT : PySem.W.typeIn K (.ref fT) = some (.type "function"))
    (x1T : PySem.W.findIn K (.ref CT) "__getattribute__" = some (some (.builtin "BaseException.__getattribute__")))
    (x2T : PySem.W.findIn K (.ref CT) "__getattr__" = some none)
    (x3T : PySem.W.hasDictIn K CT = true)
    (e1T : PySem.W.findIn K (.ref CT) "__class__" = some (some (.builtin "object.__class__")))
    (e2T : PySem.W.mroIn K CT (.type "object") = some true)
    (p1T : PySem.W.subIn K (.ref CT) (.ref C0) = some true)
    (p2T : PySem.W.isClsIn K CT = true)
    (yBB : PySem.W.subIn K (.ref CB) (.ref CB) = some true)
    (yTB : PySem.W.subIn K (.ref CT) (.ref CB) = some false)
    (yTT : PySem.W.subIn K (.ref CT) (.ref CT) = some true)
    (v0 : PySem.W.nsIn K mainGlobals "MOST_RULES" = some (some (.int 40 t0)))
    (v1 : PySem.W.nsIn K mainGlobals "MOST_COUNT" = some (some (.int 1000000000000000000000000000000 t1)))
    (v2 : PySem.W.nsIn K mainGlobals "LONGEST_PART" = some (some (.int 2000 t2)))
    (v3 : PySem.W.nsIn K mainGlobals "MOST_PAIRS" = some (some (.int 8 t3)))
    (v4 : PySem.W.nsIn K mainGlobals "LONGEST_STRING" = some (some (.int 60 t4)))
    (z0 : PySem.W.nsIn K mainGlobals "len" = some none)
    (z1 : PySem.W.nsIn K mainGlobals "int" = some none)
    (z2 : PySem.W.nsIn K mainGlobals "bool" = some none)
    (z3 : PySem.W.nsIn K mainGlobals "abs" = some none)
    (z4 : PySem.W.nsIn K mainGlobals "min" = some none)
    (z5 : PySem.W.nsIn K mainGlobals "list" = some none)
    (z6 : PySem.W.nsIn K mainGlobals "all" = some none)
    (z7 : PySem.W.nsIn K mainGlobals "range" = some none)
    (z8 : PySem.W.nsIn K mainGlobals "isinstance" = some none)
    (z9 : PySem.W.nsIn K mainGlobals "str" = some none)
    (z10 : PySem.W.nsIn K mainGlobals "set" = some none)
    (z11 : PySem.W.nsIn K mainGlobals "tuple" = some none)
    (z12 : PySem.W.nsIn K mainGlobals "dict" = some none)
    (z13 : PySem.W.nsIn K mainGlobals "enumerate" = some none)
    (z14 : PySem.W.nsIn K mainGlobals "reversed" = some none)
    (z15 : PySem.W.nsIn K mainGlobals "sum" = some none)
    (z16 : PySem.W.nsIn K mainGlobals "sorted" = some none)
    (z17 : PySem.W.nsIn K mainGlobals "repr" = some none) :
    ∃ (fd : FuncData) (cs : List (Addr × Addr)) (sp : Sp), (∀ p ∈ cs, h.get? p.2 = some { cls := .none, data := .fields #[] }) ∧ (∀ p ∈ cs, K.lookup p.2 = none) ∧ (∀ p ∈ cs, PySem.W.CodeHd h p.1 p.2) ∧ (∀ (s : Shared) (v : Value), BindsTo s fd ⟨[v], []⟩ [("_law_script", v)]) ∧
      (∀ (H : Hp) (a : Addr) (ns : List Int), ns.length ≤ 63 → (∀ p ∈ cs, H p.2 = some (.tbl #[])) → SqL K H a (ns.map V.int) → sp [.ref a] H (fun v _ => v = .bl true) E0) ∧
      ∀ base : Heap, K.In base → base.Ns mainGlobals mg → (∀ p ∈ cs, LamX.TabB base mg p.1 p.2) → GD.Gd l.prog w K mg base 16 fa fd ["_law_script"] sp := by
  have e := hfa.symm.trans (PySem.W.mg_of X G a1)
  cases e
  have F1 := fun_mk (st := s_law) l1 c1 k1
  have F2 := fun_mk (st := s_lpen) l2 c2 k2
  have b2 := F2.binds (ps := ["_law_script"]) fun _ _ _ _ _ _ us hl => match us, hl with | [_], _ => rfl
  have F3 := fun_mk (st := s_ldraw) l3 c3 k3
  have b3 := F3.binds (ps := ["_law_pen_here", "_law_many"]) fun _ _ _ _ _ _ us hl => match us, hl with | [_, _], _ => rfl
  have F4 := fun_mk (st := s_lpick) l4 c4 k4
  have b4 := F4.binds (ps := ["_law_pen_here", "_law_some"]) fun _ _ _ _ _ _ us hl => match us, hl with | [_, _], _ => rfl
  have F5 := fun_mk (st := s_lletters) l5 c5 k5
  have b5 := F5.binds (ps := ["_law_pen_here"]) fun _ _ _ _ _ _ us hl => match us, hl with | [_], _ => rfl
  have F6 := fun_mk (st := s_is_list) l6 c6 k6
  have b6 := F6.binds (ps := ["value"]) fun _ _ _ _ _ _ us hl => match us, hl with | [_], _ => rfl
  have F7 := fun_mk (st := s_is_integer) l7 c7 k7
  have b7 := F7.binds (ps := ["value"]) fun _ _ _ _ _ _ us hl => match us, hl with | [_], _ => rfl
  have F8 := fun_mk (st := s_is_whole) l8 c8 k8
  have b8 := F8.binds (ps := ["value", "low", "high"]) fun _ _ _ _ _ _ us hl => match us, hl with | [_, _, _], _ => rfl
  have F9 := fun_mk (st := s_are_letters) l9 c9 k9
  have b9 := F9.binds (ps := ["value"]) fun _ _ _ _ _ _ us hl => match us, hl with | [_], _ => rfl
  have F10 := fun_mk (st := s_wrong_sign) l10 c10 k10
  have b10 := F10.binds (ps := ["letters", "text"]) fun _ _ _ _ _ _ us hl => match us, hl with | [_, _], _ => rfl
  have F11 := fun_mk (st := s_is_name) l11 c11 k11
  have b11 := F11.binds (ps := ["value"]) fun _ _ _ _ _ _ us hl => match us, hl with | [_], _ => rfl
  have F12 := fun_mk (st := s_is_part) l12 c12 k12
  have b12 := F12.binds (ps := ["letters", "rules", "value"]) fun _ _ _ _ _ _ us hl => match us, hl with | [_, _, _], _ => rfl
  have F13 := fun_mk (st := s_is_rule) l13 c13 k13
  have b13 := F13.binds (ps := ["letters", "rules", "value"]) fun _ _ _ _ _ _ us hl => match us, hl with | [_, _, _], _ => rfl
  have F14 := fun_mk (st := s_within) l14 c14 k14
  have b14 := F14.binds (ps := ["rules", "name"]) fun _ _ _ _ _ _ us hl => match us, hl with | [_, _], _ => rfl
  have F15 := fun_mk (st := s_sizes) l15 c15 k15
  have b15 := F15.binds (ps := ["rules"]) fun _ _ _ _ _ _ us hl => match us, hl with | [_], _ => rfl
  have F16 := fun_mk (st := s_kept) l16 c16 k16
  have b16 := F16.binds (ps := ["value"]) fun _ _ _ _ _ _ us hl => match us, hl with | [_], _ => rfl
  have F17 := fun_mk (st := s_lpiece) l17 c17 k17
  have b17 := F17.binds (ps := ["_law_pen_here", "_law_letters_here", "_law_most"]) fun _ _ _ _ _ _ us hl => match us, hl with | [_, _, _], _ => rfl
  have F18 := fun_mk (st := s_lshuffled) l18 c18 k18
  have b18 := F18.binds (ps := ["_law_pen_here", "_law_some"]) fun _ _ _ _ _ _ us hl => match us, hl with | [_, _], _ => rfl
  have F19 := fun_mk (st := s_lrules) l19 c19 k19
  have b19 := F19.binds (ps := ["_law_pen_here", "_law_letters_here", "_law_most", "_law_counts"]) fun _ _ _ _ _ _ us hl => match us, hl with | [_, _, _, _], _ => rfl
  have F20 := fun_mk (st := s_lmixed) l20 c20 k20
  have b20 := F20.binds (ps := ["_law_pen_here", "_law_rules_here"]) fun _ _ _ _ _ _ us hl => match us, hl with | [_, _], _ => rfl
  have F21 := fun_mk (st := s_lis_read) l21 c21 k21
  have b21 := F21.binds (ps := ["_law_pen_here", "_law_weave", "_law_text"]) fun _ _ _ _ _ _ us hl => match us, hl with | [_, _, _], _ => rfl
  have F22 := fun_mk (st := s_lmet) l22 c22 k22
  have b22 := F22.binds (ps := ["_law_call"]) fun _ _ _ _ _ _ us hl => match us, hl with | [_], _ => rfl
  have FW := fun_mk (x := "__init__") (qual := "Weave.__init__") (st := s_Weave_init) lW cW kW
  have bW := FW.binds (ps := ["self", "letters", "rules", "root"]) fun _ _ _ _ _ _ us hl => match us, hl with | [_, _, _, _], _ => rfl
  have mW := PySem.W.mg_of X G aCW
  have FB := fun_mk (x := "__init__") (qual := "BadPlace.__init__") (st := s_BadPlace_init) lB cB kB
  have bB := FB.binds (ps := ["self", "number"]) fun _ _ _ _ _ _ us hl => match us, hl with | [_, _], _ => rfl
  have mB := PySem.W.mg_of X G aCB
  have FT := fun_mk (x := "__init__") (qual := "TooMany.__init__") (st := s_TooMany_init) lT cT kT
  have bT := FT.binds (ps := ["self", "what", "many", "most"]) fun _ _ _ _ _ _ us hl => match us, hl with | [_, _, _, _], _ => rfl
  have mT := PySem.W.mg_of X G aCT
  have FX := fun_mk (x := "letter") (qual := "Weave.letter") (st := s_Weave_letter) lX cX kX
  have bX := FX.binds (ps := ["self", "number"]) fun _ _ _ _ _ _ us hl => match us, hl with | [_, _], _ => rfl
  have FP := fun_mk (x := "part") (qual := "Weave.part") (st := s_Weave_part) lP cP kP
  have bP := FP.binds (ps := ["self", "first", "size"]) fun _ _ _ _ _ _ us hl => match us, hl with | [_, _, _], _ => rfl
  have FQ := fun_mk (x := "_cut") (qual := "Weave._cut") (st := s_Weave__cut) lQ cQ kQ
  have bQ := FQ.binds (ps := ["self", "name", "first", "size"]) fun _ _ _ _ _ _ us hl => match us, hl with | [_, _, _, _], _ => rfl
  have T : Tx mg := { len := PySem.W.mg_none_of X G z0, int := PySem.W.mg_none_of X G z1, bool := PySem.W.mg_none_of X G z2, abs := PySem.W.mg_none_of X G z3, min := PySem.W.mg_none_of X G z4, list := PySem.W.mg_none_of X G z5, all := PySem.W.mg_none_of X G z6, range := PySem.W.mg_none_of X G z7, isinstance := PySem.W.mg_none_of X G z8, str := PySem.W.mg_none_of X G z9, set := PySem.W.mg_none_of X G z10, tuple := PySem.W.mg_none_of X G z11, dict := PySem.W.mg_none_of X G z12, enumerate := PySem.W.mg_none_of X G z13, reversed := PySem.W.mg_none_of X G z14, sum := PySem.W.mg_none_of X G z15, sorted := PySem.W.mg_none_of X G z16, k_MOST_RULES := _, m_MOST_RULES := PySem.W.mg_of X G v0, k_MOST_COUNT := _, m_MOST_COUNT := PySem.W.mg_of X G v1, k_LONGEST_PART := _, m_LONGEST_PART := PySem.W.mg_of X G v2, k_MOST_PAIRS := _, m_MOST_PAIRS := PySem.W.mg_of X G v3, k_LONGEST_STRING := _, m_LONGEST_STRING := PySem.W.mg_of X G v4 }
  have B0 : BaseC K mg C0 := ⟨PySem.W.mg_of X G aC0, ⟨r1, r2⟩, r3⟩
  have EB : ErrC K CB fB C0 := ⟨⟨⟨_, _, _, _, _, _, _, _, _, _, _, _, _, _, _, o1B, o2B⟩, g4B, o3B, o4B, m2B⟩, aB, tB, ⟨x1B, x2B, o3B, x3B⟩, ⟨x1B, x2B, o3B, x3B, e1B, s3, s4, e2B⟩, kit_mk (.inr rfl) s1 s2 p1B⟩
  have ET : ErrC K CT fT C0 := ⟨⟨⟨_, _, _, _, _, _, _, _, _, _, _, _, _, _, _, o1T, o2T⟩, g4T, o3T, o4T, m2T⟩, aT, tT, ⟨x1T, x2T, o3T, x3T⟩, ⟨x1T, x2T, o3T, x3T, e1T, s3, s4, e2T⟩, kit_mk (.inr rfl) s1 s2 p1T⟩
  have MKW : Mk K CW fW := ⟨m1W, aW, iW, m2W⟩
  have SW : WC K CW := ⟨⟨g1W, g2W, g3W, g4W⟩, nW1, nW2, nW3, nW4, nW5⟩
  have GS : Gs mg CB CT C0 := ⟨mB, mT, PySem.W.mg_of X G aC0⟩
  have NF : NoF K CB CT := ⟨nB1, nT1, nT2, nT3⟩
  have EXM : Exm K CB CT := ⟨exm_mk o3B p2B o4B yBB, exm_mk o3B p2B o4B yTB, exm_mk o3T p2T o4T yTT⟩
  have MeL : Meth K CW "letter" fX := ⟨aX, nfX, kX⟩
  have MeP : Meth K CW "part" fP := ⟨aP, nfP, kP⟩
  have MeC : Meth K CW "_cut" fQ := ⟨aQ, nfQ, kQ⟩
  have FC21 : GT.FunC K "_law_is_read" "_law_is_read" s_lis_read f21 _ ca21 := ⟨_, _, _, _, _, _, _, _, rfl, l21, c21⟩
  refine ⟨PySem.W.fnOf "law" "law" (defArgs s_law) (defBody s_law) (defScope s_law) .none kV1 dc1 pm1 an1 cd1 ct1, [(ca21, ta21)], (spLaw K ta21), ?_, ?_, ?_, fun s v => .of_eq rfl, fun H a ns hn hT hS => ⟨a, ns, rfl, hT (ca21, ta21) (by simp), hS, hn, fun _ => rfl⟩, fun base _ _ TB => ?_⟩
  · intro p hp
    simp only [List.mem_cons, List.not_mem_nil, or_false] at hp
    rcases hp with rfl
    · exact ht21
  · intro p hp
    simp only [List.mem_cons, List.not_mem_nil, or_false] at hp
    rcases hp with rfl
    · exact tk21
  · intro p hp
    simp only [List.mem_cons, List.not_mem_nil, or_false] at hp
    rcases hp with rfl
    · exact PySem.W.codeHd_of_K X hcd21
  have TB21 := TB (ca21, ta21) (by simp)
  have c_lpen : Kn l.prog w K mg base "_law_pen" ["_law_script"] 1 (spPen K) := ⟨f2, _, ok_pen F2 T , PySem.W.mg_of X G a2, F2.kp, b2⟩
  have c_ldraw : Kn l.prog w K mg base "_law_draw" ["_law_pen_here", "_law_many"] 1 spDraw := ⟨f3, _, ok_draw F3 T , PySem.W.mg_of X G a3, F3.kp, b3⟩
  have c_pickS : Kn l.prog w K mg base "_law_pick" ["_law_pen_here", "_law_some"] 2 spPickS := ⟨f4, _, ok_pickS F4 T c_ldraw, PySem.W.mg_of X G a4, F4.kp, b4⟩
  have c_pickL : Kn l.prog w K mg base "_law_pick" ["_law_pen_here", "_law_some"] 2 spPickL := ⟨f4, _, ok_pickL F4 T c_ldraw, PySem.W.mg_of X G a4, F4.kp, b4⟩
  have c_lletters : Kn l.prog w K mg base "_law_letters" ["_law_pen_here"] 3 spLetters := ⟨f5, _, ok_letters F5 T c_ldraw c_pickL, PySem.W.mg_of X G a5, F5.kp, b5⟩
  have c_is_list : Kn l.prog w K mg base "is_list" ["value"] 1 spIsQ := ⟨f6, _, ok_isQ F6 T , PySem.W.mg_of X G a6, F6.kp, b6⟩
  have c_is_integer : Kn l.prog w K mg base "is_integer" ["value"] 1 spIsInt := ⟨f7, _, ok_integer F7 T , PySem.W.mg_of X G a7, F7.kp, b7⟩
  have c_is_whole : Kn l.prog w K mg base "is_whole" ["value", "low", "high"] 2 spWhole := ⟨f8, _, ok_whole F8 T c_is_integer, PySem.W.mg_of X G a8, F8.kp, b8⟩
  have c_areL : Kn l.prog w K mg base "are_letters" ["value"] 1 spAreL := ⟨f9, _, ok_areL F9 T , PySem.W.mg_of X G a9, F9.kp, b9⟩
  have c_isIG : Kn l.prog w K mg base "is_integer" ["value"] 1 spIsIG := ⟨f7, _, ok_isIG F7 T , PySem.W.mg_of X G a7, F7.kp, b7⟩
  have c_whG : Kn l.prog w K mg base "is_whole" ["value", "low", "high"] 2 spWhG := ⟨f8, _, ok_whG F8 T c_isIG, PySem.W.mg_of X G a8, F8.kp, b8⟩
  have c_wsign : Kn l.prog w K mg base "wrong_sign" ["letters", "text"] 1 spWSign := ⟨f10, _, ok_wsign F10 T , PySem.W.mg_of X G a10, F10.kp, b10⟩
  have c_nm : Kn l.prog w K mg base "_is_name" ["value"] 1 spNm := ⟨f11, _, ok_nm F11 T , PySem.W.mg_of X G a11, F11.kp, b11⟩
  have c_part : Kn l.prog w K mg base "_is_part" ["letters", "rules", "value"] 2 spPartW := ⟨f12, _, ok_partW F12 T c_nm c_wsign, PySem.W.mg_of X G a12, F12.kp, b12⟩
  have c_rule : Kn l.prog w K mg base "_is_rule" ["letters", "rules", "value"] 3 spRuleW := ⟨f13, _, ok_ruleW F13 T c_is_list c_part c_is_whole, PySem.W.mg_of X G a13, F13.kp, b13⟩
  have c_within : Kn l.prog w K mg base "_within" ["rules", "name"] 1 spWithinW := ⟨f14, _, ok_withinW F14 T , PySem.W.mg_of X G a14, F14.kp, b14⟩
  have c_sizes : Kn l.prog w K mg base "_sizes" ["rules"] 1 spSizes := ⟨f15, _, ok_sizes F15 T , PySem.W.mg_of X G a15, F15.kp, b15⟩
  have c_kept0 : Kn l.prog w K mg base "_kept" ["value"] 1 spKf := ⟨f16, _, ok_kf F16 T , PySem.W.mg_of X G a16, F16.kp, b16⟩
  have c_kept : Kn l.prog w K mg base "_kept" ["value"] 2 spKept := ⟨f16, _, ok_kept F16 T c_kept0, PySem.W.mg_of X G a16, F16.kp, b16⟩
  have c_lpiece : Kn l.prog w K mg base "_law_piece" ["_law_pen_here", "_law_letters_here", "_law_most"] 3 spPiece := ⟨f17, _, ok_piece F17 T c_ldraw c_pickS, PySem.W.mg_of X G a17, F17.kp, b17⟩
  have c_lshuf : Kn l.prog w K mg base "_law_shuffled" ["_law_pen_here", "_law_some"] 2 spShuf := ⟨f18, _, ok_shuf F18 T c_ldraw, PySem.W.mg_of X G a18, F18.kp, b18⟩
  have c_lrules : Kn l.prog w K mg base "_law_rules" ["_law_pen_here", "_law_letters_here", "_law_most", "_law_counts"] 4 spRules := ⟨f19, _, ok_rules F19 T c_ldraw c_pickL c_lpiece, PySem.W.mg_of X G a19, F19.kp, b19⟩
  have c_lmixed : Kn l.prog w K mg base "_law_mixed" ["_law_pen_here", "_law_rules_here"] 3 spMixed := ⟨f20, _, ok_mixed F20 T c_pickL c_lshuf, PySem.W.mg_of X G a20, F20.kp, b20⟩
  have IB := ok_BadPlace (P := l.prog) (w := w) (base := base) FB T B0 EB.o nB1 c_kept
  have IT := ok_TooMany (P := l.prog) (w := w) (base := base) FT T B0 ET.o nT1 nT2 nT3 c_kept
  have KC := ok_cut (P := l.prog) (w := w) (base := base) FQ T SW MeC bQ 7
  have KL := ok_letter (P := l.prog) (w := w) (base := base) FX T SW EB mB IB bB c_whG MeC KC bQ
  have KP := ok_part (P := l.prog) (w := w) (base := base) FP T SW EB ET mB mT IB bB IT bT c_whG MeC KC bQ
  have IW := ok_initW (P := l.prog) (w := w) (base := base) FW T SW c_areL c_nm c_rule c_within c_sizes
  have c_lis_read : KnG l.prog w K mg base "_law_is_read" ["_law_pen_here", "_law_weave", "_law_text"] 13 (spIsRead CW ta21) := ⟨f21, _, ok_is_read FC21 T (PySem.W.mg_none_of X G z17) SW F22 (PySem.W.mg_of X G a22) b22 EB ET GS NF EXM TB21 MeL KL bX MeP KP bP c_ldraw c_pickL, (fun vs H Q E h => by obtain ⟨p, B, n, o, R, L, W, rk, root, rfl, _⟩ := h; rfl), PySem.W.mg_of X G a21, F21.kp, b21⟩
  exact ok_law F1 T SW MKW mW IW bW MeL KL bX MeP KP bP c_lpen c_ldraw c_pickL c_lletters c_lpiece c_lrules c_lmixed c_lis_read
end Law
open PySem PySem.W PyProof.Rows
set_option maxHeartbeats 0 in
theorem PySem.Challenge.cw_wordskips_k14_weaves_read_holds : PySem.Challenge.rw_wordskips_k14_weaves_read.Holds := by
  w_on; o_law; k_head; (case hw => w_witness2)
  k_fill
  refine GT.walkGTs (l := PySem.Challenge.rw_wordskips_k14_weaves_read) (n := 63) (k := 16) (x := "_law_script") rfl (by decide) rfl ⟨rfl, by decide, by decide⟩ (fun w h Y => PySem.W.km_in_of Y) ?F
  case F =>
    intro w mg fa h Y KX G hmg
    have tabs := PySem.W.km_tabs_of Y
    refine' Law.all_mk KX G hmg (a1 := ?a1) (l1 := ?l1) (c1 := ?c1) (k1 := ?k1) (a2 := ?a2) (l2 := ?l2) (c2 := ?c2) (k2 := ?k2) (a3 := ?a3) (l3 := ?l3) (c3 := ?c3) (k3 := ?k3) (a4 := ?a4) (l4 := ?l4) (c4 := ?c4) (k4 := ?k4) (a5 := ?a5) (l5 := ?l5) (c5 := ?c5) (k5 := ?k5) (a6 := ?a6) (l6 := ?l6) (c6 := ?c6) (k6 := ?k6) (a7 := ?a7) (l7 := ?l7) (c7 := ?c7) (k7 := ?k7) (a8 := ?a8) (l8 := ?l8) (c8 := ?c8) (k8 := ?k8) (a9 := ?a9) (l9 := ?l9) (c9 := ?c9) (k9 := ?k9) (a10 := ?a10) (l10 := ?l10) (c10 := ?c10) (k10 := ?k10) (a11 := ?a11) (l11 := ?l11) (c11 := ?c11) (k11 := ?k11) (a12 := ?a12) (l12 := ?l12) (c12 := ?c12) (k12 := ?k12) (a13 := ?a13) (l13 := ?l13) (c13 := ?c13) (k13 := ?k13) (a14 := ?a14) (l14 := ?l14) (c14 := ?c14) (k14 := ?k14) (a15 := ?a15) (l15 := ?l15) (c15 := ?c15) (k15 := ?k15) (a16 := ?a16) (l16 := ?l16) (c16 := ?c16) (k16 := ?k16) (a17 := ?a17) (l17 := ?l17) (c17 := ?c17) (k17 := ?k17) (a18 := ?a18) (l18 := ?l18) (c18 := ?c18) (k18 := ?k18) (a19 := ?a19) (l19 := ?l19) (c19 := ?c19) (k19 := ?k19) (a20 := ?a20) (l20 := ?l20) (c20 := ?c20) (k20 := ?k20) (a21 := ?a21) (l21 := ?l21) (c21 := ?c21) (k21 := ?k21) (tb21 := ?tb21) (tv21 := ?tv21) (hcd21 := ?hcd21) (tk21 := ?tk21) (ht21 := ?ht21) (a22 := ?a22) (l22 := ?l22) (c22 := ?c22) (k22 := ?k22) (ndT := ?ndT) (aCW := ?aCW) (aW := ?aW) (lW := ?lW) (cW := ?cW) (kW := ?kW) (nW1 := ?nW1) (nW2 := ?nW2) (nW3 := ?nW3) (nW4 := ?nW4) (nW5 := ?nW5) (g4W := ?g4W) (m2W := ?m2W) (aCB := ?aCB) (aB := ?aB) (lB := ?lB) (cB := ?cB) (kB := ?kB) (nB1 := ?nB1) (g4B := ?g4B) (m2B := ?m2B) (aCT := ?aCT) (aT := ?aT) (lT := ?lT) (cT := ?cT) (kT := ?kT) (nT1 := ?nT1) (nT2 := ?nT2) (nT3 := ?nT3) (g4T := ?g4T) (m2T := ?m2T) (aX := ?aX) (lX := ?lX) (cX := ?cX) (kX := ?kX) (nfX := ?nfX) (aP := ?aP) (lP := ?lP) (cP := ?cP) (kP := ?kP) (nfP := ?nfP) (aQ := ?aQ) (lQ := ?lQ) (cQ := ?cQ) (kQ := ?kQ) (nfQ := ?nfQ) (iW := ?iW) (m1W := ?m1W) (g1W := ?g1W) (g2W := ?g2W) (g3W := ?g3W) (aC0 := ?aC0) (r1 := ?r1) (r2 := ?r2) (r3 := ?r3) (s1 := ?s1) (s2 := ?s2) (s3 := ?s3) (s4 := ?s4) (o1B := ?o1B) (o2B := ?o2B) (o3B := ?o3B) (o4B := ?o4B) (tB := ?tB) (x1B := ?x1B) (x2B := ?x2B) (x3B := ?x3B) (e1B := ?e1B) (e2B := ?e2B) (p1B := ?p1B) (p2B := ?p2B) (o1T := ?o1T) (o2T := ?o2T) (o3T := ?o3T) (o4T := ?o4T) (tT := ?tT) (x1T := ?x1T) (x2T := ?x2T) (x3T := ?x3T) (e1T := ?e1T) (e2T := ?e2T) (p1T := ?p1T) (p2T := ?p2T) (yBB := ?yBB) (yTB := ?yTB) (yTT := ?yTT) (v0 := ?v0) (v1 := ?v1) (v2 := ?v2) (v3 := ?v3) (v4 := ?v4) (z0 := ?z0) (z1 := ?z1) (z2 := ?z2) (z3 := ?z3) (z4 := ?z4) (z5 := ?z5) (z6 := ?z6) (z7 := ?z7) (z8 := ?z8) (z9 := ?z9) (z10 := ?z10) (z11 := ?z11) (z12 := ?z12) (z13 := ?z13) (z14 := ?z14) (z15 := ?z15) (z16 := ?z16) (z17 := ?z17)
    (case a1 => k_is); (case l1 => k_is); (case c1 => k_is); (case k1 => k_is); (case a2 => k_is); (case l2 => k_is); (case c2 => k_is); (case k2 => k_is); (case a3 => k_is); (case l3 => k_is); (case c3 => k_is); (case k3 => k_is); (case a4 => k_is); (case l4 => k_is); (case c4 => k_is); (case k4 => k_is); (case a5 => k_is); (case l5 => k_is); (case c5 => k_is); (case k5 => k_is); (case a6 => k_is); (case l6 => k_is); (case c6 => k_is); (case k6 => k_is); (case a7 => k_is); (case l7 => k_is); (case c7 => k_is); (case k7 => k_is); (case a8 => k_is); (case l8 => k_is); (case c8 => k_is); (case k8 => k_is); (case a9 => k_is); (case l9 => k_is); (case c9 => k_is); (case k9 => k_is); (case a10 => k_is); (case l10 => k_is); (case c10 => k_is); (case k10 => k_is); (case a11 => k_is); (case l11 => k_is); (case c11 => k_is); (case k11 => k_is); (case a12 => k_is); (case l12 => k_is); (case c12 => k_is); (case k12 => k_is); (case a13 => k_is); (case l13 => k_is); (case c13 => k_is); (case k13 => k_is); (case a14 => k_is); (case l14 => k_is); (case c14 => k_is); (case k14 => k_is); (case a15 => k_is); (case l15 => k_is); (case c15 => k_is); (case k15 => k_is); (case a16 => k_is); (case l16 => k_is); (case c16 => k_is); (case k16 => k_is); (case a17 => k_is); (case l17 => k_is); (case c17 => k_is); (case k17 => k_is); (case a18 => k_is); (case l18 => k_is); (case c18 => k_is); (case k18 => k_is); (case a19 => k_is); (case l19 => k_is); (case c19 => k_is); (case k19 => k_is); (case a20 => k_is); (case l20 => k_is); (case c20 => k_is); (case k20 => k_is); (case a21 => k_is); (case l21 => k_is); (case c21 => k_is); (case k21 => k_is); (case tb21 => k_is); (case tv21 => rfl); (case hcd21 => kernel_rfl); (case tk21 => kernel_rfl); (case ht21 => exact tabs _ (by k_mem)); (case a22 => k_is); (case l22 => k_is); (case c22 => k_is); (case k22 => k_is); (case ndT => decide); (case aCW => k_is); (case aW => k_is); (case lW => k_is); (case cW => k_is); (case kW => k_is); (case nW1 => k_is); (case nW2 => k_is); (case nW3 => k_is); (case nW4 => k_is); (case nW5 => k_is); (case g4W => k_is); (case m2W => k_is); (case aCB => k_is); (case aB => k_is); (case lB => k_is); (case cB => k_is); (case kB => k_is); (case nB1 => k_is); (case g4B => k_is); (case m2B => k_is); (case aCT => k_is); (case aT => k_is); (case lT => k_is); (case cT => k_is); (case kT => k_is); (case nT1 => k_is); (case nT2 => k_is); (case nT3 => k_is); (case g4T => k_is); (case m2T => k_is); (case aX => k_is); (case lX => k_is); (case cX => k_is); (case kX => k_is); (case nfX => k_is); (case aP => k_is); (case lP => k_is); (case cP => k_is); (case kP => k_is); (case nfP => k_is); (case aQ => k_is); (case lQ => k_is); (case cQ => k_is); (case kQ => k_is); (case nfQ => k_is); (case iW => k_is); (case m1W => k_is); (case g1W => k_is); (case g2W => k_is); (case g3W => k_is); (case aC0 => k_is); (case r1 => k_is); (case r2 => k_is); (case r3 => k_is); (case s1 => k_is); (case s2 => k_is); (case s3 => k_is); (case s4 => k_is); (case o1B => k_is); (case o2B => rfl); (case o3B => k_is); (case o4B => k_is); (case tB => k_is); (case x1B => k_is); (case x2B => k_is); (case x3B => k_is); (case e1B => k_is); (case e2B => k_is); (case p1B => k_is); (case p2B => k_is); (case o1T => k_is); (case o2T => rfl); (case o3T => k_is); (case o4T => k_is); (case tT => k_is); (case x1T => k_is); (case x2T => k_is); (case x3T => k_is); (case e1T => k_is); (case e2T => k_is); (case p1T => k_is); (case p2T => k_is); (case yBB => k_is); (case yTB => k_is); (case yTT => k_is); (case v0 => k_is); (case v1 => k_is); (case v2 => k_is); (case v3 => k_is); (case v4 => k_is); (case z0 => k_is); (case z1 => k_is); (case z2 => k_is); (case z3 => k_is); (case z4 => k_is); (case z5 => k_is); (case z6 => k_is); (case z7 => k_is); (case z8 => k_is); (case z9 => k_is); (case z10 => k_is); (case z11 => k_is); (case z12 => k_is); (case z13 => k_is); (case z14 => k_is); (case z15 => k_is); (case z16 => k_is); (case z17 => k_is)


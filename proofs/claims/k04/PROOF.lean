import PyProof.Rows.All
import Wide.All
import OpenK.AllK
import Wide.FinOn
import HandS.ForMost
import HandS.Evl
import KE.GoesZip
import PyProof.EnumMake
import HandS.Strs
import KE.GoesMore
import HandS.IsInst
import HandS.NoneIn
import HandS.Walk
import HandS.Conv
import HandS.TupAny
import PyProof.ReprReads
import HandS.Exc
import HandS.ExcInit
import HandS.ExcField
import HandS.ExcIs
import HandS.TryOnly
import HandS.TryMany
import HandS.WordsExc
import HandS.ClsMeth
import HandS.MakeKwOnly
import HandS.MakeKw
import HandS.List
import HandS.Dict
import PyProof.ReprRoads
import PyProof.ReprDict
import PyProof.EqAt
import PyProof.EqKinds
import PyProof.FactsAll.dict_1
import PyProof.FactsAll.str
import PyProof.FactsAll.subtypes_3
import HandS.Base
import HandS.Call
import HandS.ExcOwn
import PyProof.NeKinds
import HandS.Iter
import HandS.DictComp
import HandS.Style
import KE.KxText
import PySem.Challenge.RW_wordskips_k04_searchers_refused
set_option Elab.async false
set_option linter.all false
set_option maxRecDepth 100000
set_option maxHeartbeats 4000000
namespace ZS
open PySem PySem.Spec PyProof.Rows L2

/-- two texts side by side: a new pair of signs at each turn -/
def ItzS (x y : Str) : It :=
  ⟨fun i _ => i < x.cps.size ∧ i < y.cps.size,
   fun i H v H' => ∃ T c d, v = .ref T ∧ H T = none ∧ H' = upd H T (.tup [.str ⟨#[c]⟩, .str ⟨#[d]⟩]) ∧ x.cps[i]? = some c ∧ y.cps[i]? = some d,
   fun i _ => i = min x.cps.size y.cps.size⟩
theorem drawsS {prog : Program} {w : World} {A : Around} (hh : A.handled = none) (it : Addr) (x : Str) (t : Tok) :
    Draws prog w A it [it] x.cps.size (fun i v => ∃ c u, x.cps[i]? = some c ∧ v = .str ⟨#[c]⟩ u) (fun i h => h.IsStrIter it (strIterType x) x t i) := by
  unfold strIterType
  cases x.cps.all (· < 128)
  · exact Draws.strWide hh it x t
  · exact Draws.strAscii hh it x t
def StZ (x y : Str) (t u : Tok) (z TI TO i1 i2 : Addr) (i : Nat) (h : Heap) : Prop :=
  IsZip h z TI TO .none ∧ IsTupOf2 h TI (.ref i1) (.ref i2) ∧ (∃ a1 a2, IsTupOf2 h TO a1 a2) ∧ h.IsStrIter i1 (strIterType x) x t i ∧ h.IsStrIter i2 (strIterType y) y u i
theorem walkS {prog : Program} {w : World} {A : Around} (hh : A.handled = none) {z TI TO i1 i2 : Addr} (S : ZipSep2 z TI TO i1 i2 [i1] [i2]) (x y : Str) (t u : Tok) :
    WalksT prog w A z (z :: TI :: TO :: ([i1] ++ [i2])) [z, TO, i1, i2] (min x.cps.size y.cps.size)
      (fun i vals => ∃ v1 v2, (∃ c u, x.cps[i]? = some c ∧ v1 = .str ⟨#[c]⟩ u) ∧ (∃ c u, y.cps[i]? = some c ∧ v2 = .str ⟨#[c]⟩ u) ∧ vals = #[v1, v2])
      (StZ x y t u z TI TO i1 i2)
      (fun i T h => IsZip h z TI TO (rawInt T) ∧ IsTupOf2 h TI (.ref i1) (.ref i2) ∧ (∃ a1 a2, IsTupOf2 h TO a1 a2) ∧ h.IsStrIter i1 (strIterType x) x t (i + 1) ∧ h.IsStrIter i2 (strIterType y) y u (i + 1) ∧ T ≠ z ∧ T ≠ TO ∧ T ≠ i1 ∧ T ≠ i2) :=
  WalksT.zipD2 S (drawsS (A := A.in1) hh i1 x t) (drawsS (A := A.in1) hh i2 y u)
theorem fp5 {z TI TO i1 i2 c : Addr} (h : c ∈ [z, TI, TO, i1, i2]) : c = z ∨ c = TI ∨ c = TO ∨ c = i1 ∨ c = i2 := by simpa using h
theorem turn_zipS {P : Program} {w : World} {K : PySem.W.Frag} {elts : List Expr} {kk : Nat} {tpos : Pos} {z TI TO i1 i2 : Addr} (S : ZipSep2 z TI TO i1 i2 [i1] [i2]) (x y : Str) (t u : Tok) :
    Turn P w K (.Tuple elts kk tpos) (ItzS x y) [z, TI, TO, i1, i2] z (StZ x y t u z TI TO i1 i2) where
  mem := List.mem_cons_self
  obj := fun i h st c hc => by
    obtain ⟨q1, q2, ⟨a1, a2, q3⟩, ⟨o1, e1, _, d1⟩, ⟨o2, e2, _, d2⟩⟩ := st
    rcases fp5 hc with q | q | q | q | q
    all_goals subst q
    · exact ⟨_, q1, fun v q => nomatch q⟩
    · exact ⟨_, q2, fun v q => nomatch q⟩
    · exact ⟨_, q3, fun v q => nomatch q⟩
    · exact ⟨o1, e1, fun v q => by rw [d1] at q; cases q⟩
    · exact ⟨o2, e2, fun v q => by rw [d2] at q; cases q⟩
  keep := fun i h h' st k => by
    obtain ⟨q1, q2, ⟨a1, a2, q3⟩, ⟨o1, e1, r1⟩, ⟨o2, e2, r2⟩⟩ := st
    exact ⟨k z (by simp) _ q1, k TI (by simp) _ q2, ⟨a1, a2, k TO (by simp) _ q3⟩, ⟨o1, k i1 (by simp) _ e1, r1⟩, ⟨o2, k i2 (by simp) _ e2, r2⟩⟩
  item := by
    intro X hP hw hK hc i pins s σ H E I hf st hg
    subst hP hw hK
    have W := walkS (prog := X.prog) (w := X.w) (A := X.A) (I.ok.hd hc) S x y t u
    have hlt : i < min x.cps.size y.cps.size := by
      have h1 := hg.1
      have h2 := hg.2
      omega
    refine W.item i s _ _ hlt st fun T vals h' tk hv hT hIs hm hk => ?_
    refine ⟨.ref T, rfl, ?_⟩
    refine W.go elts kk tpos i T { s with heap := h', toks := tk } _ _ hm fun h2 st2 hk2 => ?_
    obtain ⟨v1, v2, ⟨c, u1, hc1, rfl⟩, ⟨d, u2, hd1, rfl⟩, rfl⟩ := hv
    have ap : T ∉ [z, TO, i1, i2] := W.apart i T h' hm
    have up : ∀ b o, b ∉ [z, TO, i1, i2] → s.heap.get? b = some o → h2.get? b = some o := fun b o hb e => hk2 b o hb (hk b o hb e)
    have hT2 : h2.IsTuple T #[.str ⟨#[c]⟩ u1, .str ⟨#[d]⟩ u2] := hIs.at fun o e => hk2 T o ap e
    obtain ⟨oT, eT, cT, nT, dT⟩ := hT2
    have new : ObjOk X.prog X.w (upd H T (.tup [.str ⟨#[c]⟩, .str ⟨#[d]⟩])) h2 T (.tup [.str ⟨#[c]⟩, .str ⟨#[d]⟩]) :=
      ⟨by show 2 ≤ sizeLine; decide, [.str ⟨#[c]⟩ u1, .str ⟨#[d]⟩ u2], .cons ⟨u1, rfl⟩ (.cons ⟨u2, rfl⟩ .nil), ⟨oT, eT, cT, nT, dT⟩⟩
    have sub : ∀ b, b ∉ [z, TI, TO, i1, i2] → b ∉ [z, TO, i1, i2] := fun b hb hb2 => hb (by
      have q : b = z ∨ b = TO ∨ b = i1 ∨ b = i2 := by simpa using hb2
      rcases q with q | q | q | q <;> simp [q])
    have I1 := I.turnedNew (t' := tk) (ch := [z, TI, TO, i1, i2]) (fun b o hb e => up b o (sub b hb) e) hf hT new
    refine ⟨.ref T, _, I1, rfl, ⟨T, c, d, rfl, I.hok.fresh hT, rfl, hc1, hd1⟩, st2, fun b hb => ?_⟩
    have hlb : b < s.heap.objs.size := by
      obtain ⟨q1, q2, ⟨a1, a2, q3⟩, ⟨o1, e1, r1⟩, ⟨o2, e2, r2⟩⟩ := st
      rcases fp5 hb with q | q | q | q | q
      · rw [q]; exact Heap.lt_size q1
      · rw [q]; exact Heap.lt_size q2
      · rw [q]; exact Heap.lt_size q3
      · rw [q]; exact Heap.lt_size e1
      · rw [q]; exact Heap.lt_size e2
    rw [upd_ne (show b ≠ T from fun e => absurd hT (by rw [← e]; exact Nat.not_le.mpr hlb))]
    exact (hf b hb).1
  done := by
    intro X hP hw hK hc i pins s σ H E I hf st hg
    subst hP hw hK
    have W := walkS (prog := X.prog) (w := X.w) (A := X.A) (I.ok.hd hc) S x y t u
    have hg : i = min x.cps.size y.cps.size := hg
    subst hg
    refine W.done s _ _ st fun h' tk hk => ⟨rfl, ?_⟩
    refine I.turnedL (t' := tk) (ch := [z, TI, TO, i1, i2]) (fun b o hb e => hk b o (fun hb2 => hb ?_) e) hf
    have q : b = z ∨ b = TO ∨ b = i1 ∨ b = i2 := by simpa using hb2
    rcases q with q | q | q | q <;> simp [q]
  self := fun A i s Q E st h => wpAny_pyIter_zip st.1 h

abbrev g1 (h : Heap) (x : Str) (t : Tok) : Heap := h.push { cls := .type (strIterType x), data := .fields #[.str x t, .int 0 0] }
abbrev g3 (h : Heap) (x y : Str) (t u : Tok) : Heap := (g1 (g1 h x t) y u).push { cls := .type "tuple", data := .seq #[.ref h.objs.size, .ref (g1 h x t).objs.size] }
abbrev g4 (h : Heap) (x y : Str) (t u : Tok) : Heap := (g3 h x y t u).push { cls := .type "tuple", data := .seq #[.none, .none] }
abbrev g5 (h : Heap) (x y : Str) (t u : Tok) : Heap := (g4 h x y t u).push { cls := .type "zip", data := .fields #[.none, .bool false, .bool false, .ref (g1 (g1 h x t) y u).objs.size, .ref (g3 h x y t u).objs.size] }
theorem meets_zipS (x y : Str) (t u : Tok) :
    Meets (Builtin.«zip.__new__» ⟨[.type "zip", .str x t, .str y u], []⟩) (fun _ R s => R (.ok (.ret (.ref (g4 s.heap x y t u).objs.size))) { s with heap := g5 s.heap x y t u }) :=
  .of_wp fun prog w A R s h => by
    obtain ⟨hp, gg, d, tk, os⟩ := s
    have hsub := sub_zip
    wp_walk using wpAny_pyIter_strU
    exact ⟨_, rfl, h⟩
theorem call_zipS {prog : Program} {w : World} {A : Around} {E : Value → Shared → Prop} {s : Shared} {x y : Str} {t u : Tok} {Q : Value → Shared → Prop}
    (h : ∀ h', StZ x y t u (s.heap.objs.size + 4) (s.heap.objs.size + 2) (s.heap.objs.size + 3) s.heap.objs.size (s.heap.objs.size + 1) 0 h' → (∀ c o, s.heap.get? c = some o → h'.get? c = some o) → Q (.ref (s.heap.objs.size + 4)) { s with heap := h' }) :
    wpAny (model prog w) A (call (.type "zip") [.str x t, .str y u]) Q E s := by
  refine callType_new F.called_zip (by decide) (F.typeCall_zip_2 _ _) (F.newCall_zip_2 _ _) (fun obj => F.args_object_init_3 obj _ _) F.entry_zip_new (meets_zipS x y t u) ?_
  have n1 : (g1 s.heap x t).objs.size = s.heap.objs.size + 1 := Heap.size_push ..
  have n2 : (g1 (g1 s.heap x t) y u).objs.size = s.heap.objs.size + 2 := by rw [Heap.size_push, n1]
  have n3 : (g3 s.heap x y t u).objs.size = s.heap.objs.size + 3 := by rw [Heap.size_push, n2]
  have n4 : (g4 s.heap x y t u).objs.size = s.heap.objs.size + 4 := by rw [Heap.size_push, n3]
  have k5 : (g5 s.heap x y t u).get? (g4 s.heap x y t u).objs.size = some _ := Heap.get?_push_size _ rfl
  have k4 : (g5 s.heap x y t u).get? (g3 s.heap x y t u).objs.size = some _ := Heap.get?_push_of_some _ (Heap.get?_push_size _ rfl)
  have k3 : (g5 s.heap x y t u).get? (g1 (g1 s.heap x t) y u).objs.size = some _ := Heap.get?_push_of_some _ (Heap.get?_push_of_some _ (Heap.get?_push_size _ rfl))
  have k2 : (g5 s.heap x y t u).get? (g1 s.heap x t).objs.size = some _ := Heap.get?_push_of_some _ (Heap.get?_push_of_some _ (Heap.get?_push_of_some _ (Heap.get?_push_size _ rfl)))
  have k1 : (g5 s.heap x y t u).get? s.heap.objs.size = some _ := Heap.get?_push_of_some _ (Heap.get?_push_of_some _ (Heap.get?_push_of_some _ (Heap.get?_push_of_some _ (Heap.get?_push_size _ rfl))))
  show _ ∧ _
  rw [n2, n3, n4] at k5
  rw [n1, n2] at k3
  rw [n3] at k4
  rw [n1] at k2
  rw [n4]
  exact ⟨⟨_, k5, rfl⟩, h _ ⟨k5, k3, ⟨_, _, k4⟩, ⟨_, k1, rfl, rfl⟩, ⟨_, k2, rfl, rfl⟩⟩ fun c o e =>
    Heap.get?_push_of_some _ (Heap.get?_push_of_some _ (Heap.get?_push_of_some _ (Heap.get?_push_of_some _ (Heap.get?_push_of_some _ e))))⟩
theorem sepS (n : Nat) : ZipSep2 (n + 4) (n + 2) (n + 3) n (n + 1) [n] [n + 1] := by
  constructor <;> first | omega | (simp <;> omega) | simp
def iZipS (ta : TA) : TI := fun σ H R => ta σ H fun vs H1 => ∃ x y, vs = [.str x, .str y] ∧ R (ItzS x y) H1
theorem pi_zipS {X : Cx} {e e2 : Expr} {ta : TA} {p pos tpos : Pos} {elts : List Expr} {kk : Nat} (hg : Gl X "zip") (hm : X.mg "zip" = none) (ha : PA X [e, e2] ta)
    (hs : starEach [e, e2] X.env = (false, eval e X.env) :: starEach [e2] X.env := by rfl) (hpl : (backTo pos (starEach [e2] X.env)).any (·.1) = false := by rfl) :
    PI X (.Tuple elts kk tpos) (.Call (.Name "zip" p) [e, e2] [] pos) (iZipS ta) := by
  refine ⟨fun pins s σ H R I h => ?_⟩
  refine Call_ (ld_blt I hg hm boot_zip (callWith_type1 (thn (ha.run pos pins s σ H _ I h) fun us s1 ⟨vs, H1, I1, r1, q1⟩ => ?_) hs hpl))
  obtain ⟨x, y, ex, q⟩ := q1
  subst ex
  cases r1 with
  | cons r rr =>
    cases rr with
    | cons r' rr =>
      cases rr
      obtain ⟨t, rfl⟩ := r
      obtain ⟨u, rfl⟩ := r'
      refine call_zipS fun h' st hk => wpAny_pyIter_zip st.1 ?_
      have I2 : Inv X pins σ H1 { s1 with heap := h' } := I1.kept (t' := s1.toks) hk
      refine ⟨s1.heap.objs.size + 4, _, _, _, H1, rfl, I2, turn_zipS (sepS _) x y t u, st, fun c hcm => ?_, q⟩
      have hle : s1.heap.objs.size ≤ c := by
        rcases fp5 hcm with z | z | z | z | z <;> rw [z] <;> first | exact Nat.le_add_right _ _ | exact Nat.le_refl _
      exact I1.fpOk hle (I1.hok.fresh hle)
/-- a comprehension over it -/
theorem lc_zipS {x y : Str} {g : TG} {tt : TT} {te : TE} {vs : List Nat} {σ : L2.St} {H1 : Hp} {D : Addr} {Qd : Hp → Prop} (Pv : Nat → Hp → Prop) (h0 : Pv 0 (upd H1 D (.lst [])))
    (hs : ∀ i c d T H, x.cps[i]? = some c → y.cps[i]? = some d → Pv i H → H T = none → g (.ref T) (wipe σ vs) (upd H T (.tup [.str ⟨#[c]⟩, .str ⟨#[d]⟩])) fun σ2 H2 => wipe σ2 vs = wipe σ vs ∧ tt σ2 H2 fun b H3 =>
      if b = true then te σ2 H3 fun z H4 => ∃ acc, H4 D = some (.lst acc) ∧ acc.length < sizeLine ∧ Pv (i + 1) (upd H4 D (.lst (acc ++ [z]))) else Pv (i + 1) H3) (hd : ∀ H, Pv (min x.cps.size y.cps.size) H → Qd H) :
    ∃ W : Nat → Nat → Hp → Prop, (∃ m, W 0 m (upd H1 D (.lst []))) ∧ ∀ i m H, W i m H →
      ((ItzS x y).stop i H ∧ Qd H) ∨ ((ItzS x y).go i H ∧ ∃ Nx : Hp → Prop, (∀ H', Nx H' → ∃ m', m' < m ∧ W (i + 1) m' H') ∧ ∀ v H', (ItzS x y).yld i H v H' → g v (wipe σ vs) H' fun σ2 H2 => wipe σ2 vs = wipe σ vs ∧ tt σ2 H2 fun b H3 =>
        if b = true then te σ2 H3 fun z H4 => ∃ acc, H4 D = some (.lst acc) ∧ acc.length < sizeLine ∧ Nx (upd H4 D (.lst (acc ++ [z]))) else Nx H3) := by
  refine ⟨fun i m H => i + m = min x.cps.size y.cps.size ∧ Pv i H, ⟨_, Nat.zero_add _, h0⟩, ?_⟩
  rintro i m H ⟨e, p⟩
  by_cases hm : m = 0
  · have e2 : i = min x.cps.size y.cps.size := by omega
    refine .inl ⟨e2, hd H ?_⟩
    rw [← e2]
    exact p
  · refine .inr ⟨⟨by omega, by omega⟩, Pv (i + 1), fun H' p' => ⟨m - 1, by omega, by omega, p'⟩, ?_⟩
    rintro v H' ⟨T, c, d, rfl, hT, rfl, hc, hd'⟩
    exact hs i c d T H hc hd' p hT
theorem op_mulS {X : Cx} : OpR X (binaryOp .Mult) (fun x y H Q => ∃ z n, x = .str z ∧ y = .int n ∧ MulOk z n ∧ Q (.str (Txt.mul z n)) H) := by
  intro pins s σ H x y v u Q I rx ry h
  obtain ⟨z, n, rfl, rfl, hz, q⟩ := h
  obtain ⟨t, rfl⟩ := rx
  obtain ⟨t', rfl⟩ := ry
  exact SB.mul hz (fun t' tk => ⟨.str (Txt.mul z n), H, I.tok _, ⟨_, rfl⟩, q⟩)
end ZS

namespace ST
open PySem PySem.Spec PyProof.Rows L2
/-- how many different ones the first i of a list are -/
def dct (xs : List Str) : Nat → Nat
  | 0 => 0
  | i + 1 => if (xs.take i).any (· == xs.getD i Str.empty) = true then dct xs i else dct xs i + 1
theorem dct_le (xs : List Str) : ∀ i, dct xs i ≤ i
  | 0 => Nat.le_refl _
  | i + 1 => by
    have := dct_le xs i
    unfold dct
    split <;> omega
theorem any_next {xs : List Str} {i : Nat} (hi : i < xs.length) (k : Str) : (xs.take (i + 1)).any (· == k) = ((xs.take i).any (· == k) || decide (k = xs.getD i Str.empty)) := by
  rw [List.take_add_one, List.any_append, List.getElem?_eq_getElem hi, List.getD_eq_getElem?_getD, List.getElem?_eq_getElem hi]
  refine congrArg (fun b => (xs.take i).any (· == k) || b) ?_
  show (xs[i] == k || false) = decide (k = xs[i])
  rw [Bool.or_false]
  by_cases e : k = xs[i]
  · rw [decide_eq_true e, ← e]
    simp
  · rw [decide_eq_false e]
    simpa using fun q : xs[i] = k => e q.symm
section
variable {prog : Program} {w : World} {A : Around} {R : Result → Shared → Prop} {It : Addr} {fp wr : List Addr} {Gn : Array GenState → Array GenState → Prop} {n : Nat} {P : Nat → Value → Prop} {St : Nat → Shared → Prop}
theorem fill (W : WalksS prog w A.in1 It fp wr Gn n P St) (a : Addr) (haf : a ∉ fp) (xs : List Str) (hx : xs.length = n) (hn : n + 1 < scanBound) (hv : ∀ i v, P i v → ∃ t, v = .str (xs.getD i Str.empty) t) :
    ∀ (k i : Nat) (s : Shared), n - i = k → i ≤ n → St i s → s.heap.SetOf (PySem.strKind prog w) a (fun z => (xs.take i).any (· == z)) (dct xs i) →
      (∀ s', Moved (a :: wr) Gn s s' → s'.heap.SetOf (PySem.strKind prog w) a (fun z => (xs.take n).any (· == z)) (dct xs n) → R (.ok (.ret .none)) s') →
      codeAny (model prog w) A (.builtin "set.update.loop" ⟨[.ref a, .ref It], []⟩) R s := by
  have haw : a ∉ wr := fun q => haf (W.sub _ q)
  have up : ∀ b ∈ wr, b ∈ a :: wr := fun b q => List.mem_cons_of_mem _ q
  intro k
  induction k with
  | zero =>
    intro i s hk hi hst hset hR
    obtain rfl : i = n := by omega
    refine codeAny_builtin F.entry_set_update_loop ?_
    rw [Around.under_plainId F.plain_set_update_loop _]
    refine wpAny_bind (W.done s _ _ hst fun s' mv => wpAny_pure (hR s' (mv.mono up) ?_))
    obtain ⟨o, es, ep, tb, ho, rest⟩ := hset
    exact ⟨o, es, ep, tb, mv.heap a _ haw ho, rest⟩
  | succ k ih =>
    intro i s hk hi hst hset hR
    have hlt : i < n := by omega
    refine codeAny_builtin F.entry_set_update_loop ?_
    rw [Around.under_plainId F.plain_set_update_loop _]
    refine wpAny_bind (W.item i s _ _ hlt hst fun v s1 hp st1 mv => ?_)
    obtain ⟨t, rfl⟩ := hv i v hp
    have set1 : s1.heap.SetOf (PySem.strKind prog w) a (fun z => (xs.take i).any (· == z)) (dct xs i) := by
      obtain ⟨o, es, ep, tb, ho, rest⟩ := hset
      exact ⟨o, es, ep, tb, mv.heap a _ haw ho, rest⟩
    refine wpAny_bind (wpAny_holding ?_)
    unfold setAdd
    refine wpAny_holding (wpAny_bind ((PySem.strKind prog w).pyHash (k := xs.getD i Str.empty) (strKind_is _ _ _ _) ?_))
    have room : dct xs i + 1 < scanBound := by
      have := dct_le xs i
      omega
    refine wpAny_setAddHashed_of (knd := PySem.strKind prog w) (s := { s1 with toks := s1.toks + 1 }) (strKind_is _ _ _ _) rfl set1 room fun h2 sb set2 => ?_
    have set3 : h2.SetOf (PySem.strKind prog w) a (fun z => (xs.take (i + 1)).any (· == z)) (dct xs (i + 1)) :=
      SetOf_congr set2 (fun z => (any_next (by omega) z).symm) (by
        show dct xs (i + 1) = _
        unfold dct
        rfl)
    refine wpAny_pure ⟨plainId_quiet F.plain_set_update_loop _, ih (i + 1) _ (by omega) hlt (W.frame _ s1 _ _ st1 (Nat.le_succ _) fun b hb o e => ?_) set3 fun s2 mv2 hS2 => ?_⟩
    · rw [sb.2 b (fun q : b = a => haf (by rw [← q]; exact hb))]
      exact e
    · refine hR s2 (Moved.trans W.gtrans ((mv.mono up).then_heap (Nat.le_succ _) fun b o hb e => ?_) mv2) hS2
      rw [sb.2 b (fun q : b = a => hb (by rw [q]; exact List.mem_cons_self))]
      exact e
end
theorem walkStr {prog : Program} {w : World} {A : Around} (hh : A.handled = none) (it : Addr) (x : Str) (t : Tok) :
    Walks prog w A it [it] [it] x.cps.size (SignAt x) (fun i h => h.IsStrIter it (strIterType x) x t i) := by
  unfold strIterType
  cases x.cps.all (· < 128)
  · exact Walks.strWide hh it x t
  · exact Walks.strAscii hh it x t
def signsOf (x : Str) : List Str := x.cps.toList.map fun c => ⟨#[c]⟩
theorem signsOf_len (x : Str) : (signsOf x).length = x.cps.size := by simp [signsOf]
section
variable {prog : Program} {w : World} {A : Around} {E : Value → Shared → Prop} {s : Shared}
theorem call_set_text {x : Str} {t : Tok} {Q : Value → Shared → Prop} (hh : A.handled = none) (hn : x.cps.size + 1 < scanBound)
    (h : ∀ (h' : Heap) (tk : Nat), h'.SetOf (PySem.strKind prog w) s.heap.objs.size (fun z => ((signsOf x).take x.cps.size).any (· == z)) (dct (signsOf x) x.cps.size) →
      (∀ b o, b < s.heap.objs.size → s.heap.get? b = some o → h'.get? b = some o) → Q (.ref s.heap.objs.size) { s with heap := h', toks := tk }) :
    wpAny (model prog w) A (call (.type "set") [.str x t]) Q E s := by
  obtain ⟨c, tl, hmro⟩ := PySem.F.called_set.mro
  have hmade := PySem.F.called_set.made
  have hsub := PySem.F.called_set.sub
  refine wpAny_call (codeAny_of_tree ?_)
  show wpAny _ _ (callAny (.type "set") _) _ _ _
  refine wpAny_pure ⟨Code.quiet_builtin _ (by decide +kernel), codeAny_builtin PySem.F.entry_type_call ?_⟩
  rw [Around.under_plain (weight_type_call_type "set" [.str x t] []) rfl]
  have x1 := PySem.F.called_set.notType
  have x2 := PySem.F.called_set.canCreate
  have x3 := PySem.F.typeCall_set_1 (.str x t)
  repeat (any_goals (first | assumption | wp_step))
  refine codeAny_mono (code_set_new_1 (.str x t) (E := E) (Q₁ := fun obj s₁ => ∃ led : Bool, obj = .ref s.heap.objs.size ∧ s₁ = { s with heap := s.heap.push { cls := .type "set", dict := none, data := .set #[] 0 (.fresh 0 0 led) } }) fun led => ⟨led, rfl, rfl⟩) fun r s₁ hr => ?_
  cases r with
  | error e => exact hr
  | ok fl =>
    cases fl with
    | ret obj =>
      obtain ⟨led, rfl, rfl⟩ := hr
      obtain ⟨hp, hhp⟩ : ∃ hp, s.heap.push { cls := .type "set", dict := none, data := .set #[] 0 (.fresh 0 0 led) } = hp := ⟨_, rfl⟩
      have y1 : hp.get? s.heap.objs.size = some { cls := .type "set", dict := none, data := .set #[] 0 (.fresh 0 0 led) } := by
        rw [← hhp]
        exact Heap.get?_push_size _ rfl
      have y2 : hp.objs.size = s.heap.objs.size + 1 := by
        rw [← hhp]
        exact Heap.size_push ..
      have y3 : ∀ b o, s.heap.get? b = some o → hp.get? b = some o := fun b o e => by
        rw [← hhp]
        exact Heap.get?_push_of_some _ e
      rw [hhp]
      have hT : Shared.TypeIs { s with heap := hp } (.ref s.heap.objs.size) "set" := ⟨_, y1, rfl⟩
      have y4 := PySem.F.called_set.init.lookup
      have y5 := PySem.F.called_set.init.bind (.ref s.heap.objs.size)
      repeat (any_goals (first | assumption | wp_step))
      refine codeAny_mono (codeAny_call_builtin (R := wants (fun r s₂ => r = .none ∧ ∃ h' tk, s₂ = { s with heap := h', toks := tk } ∧
          h'.SetOf (PySem.strKind prog w) s.heap.objs.size (fun z => ((signsOf x).take x.cps.size).any (· == z)) (dct (signsOf x) x.cps.size) ∧
          (∀ b o, b < s.heap.objs.size → s.heap.get? b = some o → h'.get? b = some o)) E) PySem.F.called_set.init.plain PySem.F.entry_set_init (check_set_init_1 hT ?_)) fun r₂ s₂ hr₂ => ?_
      · have sb1 := PySem.F.sub_str_set
        have sb2 := PySem.F.sub_str_frozenset
        have sb3 : (Value.type "str" == Value.type "dict") = false := by decide
        unfold Builtin.«set.__init__» noKeywords Builtin.Frozenset.updateFrom
        generalize hPI : pyIter = PI
        wp_walk
        subst hPI
        refine wpAny_pyIter_strU ?_
        refine wpAny_bind (wpAny_runValue ?_)
        have hh3 : A.in1.in1.in1.handled = none := by simp [hh]
        have z1 : s.heap.objs.size ∉ [hp.objs.size] := by
          rw [y2]
          simp
        refine fill ((walkStr hh3 _ x t).toS) s.heap.objs.size z1 (signsOf x) (signsOf_len x) hn ?_ (x.cps.size - 0) 0 _ (by omega) (Nat.zero_le _)
          ⟨_, Heap.get?_push_size _ rfl, rfl, rfl⟩ ?_ ?_
        · rintro i v ⟨c, u, hc, rfl⟩
          refine ⟨u, ?_⟩
          unfold signsOf
          rw [List.getD_eq_getElem?_getD, List.getElem?_map, Array.getElem?_toList, hc]
          rfl
        · have z2 : (hp.push { cls := .type (strIterType x), data := .fields #[.str x t, .int 0 0] }).get? s.heap.objs.size = some { cls := .type "set", dict := none, data := .set #[] 0 (.fresh 0 0 led) } := Heap.get?_push_of_some _ y1
          exact SetOf_congr ((setObjOf_fresh (knd := PySem.strKind prog w) led).setOf z2 (by unfold scanBound; omega)) (fun _ => rfl) rfl
        · intro s' mv hS'
          obtain ⟨h', g', d', tk', os'⟩ := s'
          obtain rfl : g' = s.gens := mv.gens
          obtain rfl : d' = s.drawn := mv.drawn
          obtain rfl : os' = s.os := mv.os
          refine wpAny_pure ?_
          show wpAny _ _ (ret Value.none) _ _ _
          refine wpAny_pure ⟨rfl, h', tk', rfl, hS', fun b o hb e => ?_⟩
          refine mv.heap b o ?_ (Heap.get?_push_of_some _ (y3 b o e))
          rw [y2]
          simp only [List.mem_cons, List.not_mem_nil, or_false, not_or]
          exact ⟨Nat.ne_of_lt hb, Nat.ne_of_lt (Nat.lt_succ_of_lt hb)⟩
      · cases r₂ with
        | error e => exact hr₂
        | ok fl₂ =>
          cases fl₂ with
          | ret r =>
            obtain ⟨rfl, h', tk, rfl, hS', hk'⟩ := hr₂
            repeat (any_goals (first | assumption | wp_step))
            exact h _ _ hS' hk'
          | _ => exact hr₂.elim
    | _ => exact hr.elim
end
end ST

namespace EN
open PySem PySem.Spec PyProof.Rows L2
/-! ### len(set(text)) -/
def tLenSetS (ta : TE) : TE := fun σ H Q => ta σ H fun x H1 => ∃ z : Str, x = .str z ∧ z.cps.size < 1000 ∧ Q (.int (ST.dct (ST.signsOf z) z.cps.size)) H1
theorem pe_lenSetS {X : Cx} {a : Expr} {ta : TE} {p p2 q pos : Pos} (hc : X.calm = true) (hg : Gl X "len") (hm : X.mg "len" = none) (hg2 : Gl X "set") (hm2 : X.mg "set" = none) (ha : PE X a ta)
    (na : starEach [a] X.env = (false, eval a X.env) :: starEach [] X.env := by rfl) : PE X (.Call (.Name "len" p) [.Call (.Name "set" p2) [a] [] q] [] pos) (tLenSetS ta) := by
  refine ⟨fun pins s σ H Q I h => Call_ (ld_blt I hg hm PySem.boot_len (callWith_builtin1 (args_cons (Call_ (ld_blt I hg2 hm2 boot_set ?_)) rfl) rfl rfl))⟩
  refine callWith_type1 (args_cons (thn (ha.run pins s σ H _ I h) fun v s1 ⟨x, H1, I1, r1, z, ex, hz, q1⟩ => args_nil ?_) na) na rfl
  subst ex
  obtain ⟨t, rfl⟩ := r1
  refine ST.call_set_text (I1.ok.hd hc) (by unfold scanBound; omega) fun h' tk hS hk => args_nil ?_
  obtain ⟨o, es, ep, t, ho, hex, hd, _, _, _, hf, hn⟩ := hS
  have I2 : Inv X pins σ H1 { s1 with heap := h', toks := tk } := I1.kept fun b o e => hk b o (Heap.lt_size e) e
  have hd2 := ST.dct_le (ST.signsOf z) z.cps.size
  exact call_len_set ho hex hd hf (by rw [hn]; omega) ⟨.int _, H1, I2.tok _, ⟨_, by rw [hn]⟩, q1⟩

/-! ### enumerate over a text, over a tuple -/
def ItS (x : Str) : It := ⟨fun i _ => i < x.cps.size,
  fun i H v H' => ∃ T c, v = .ref T ∧ H T = none ∧ H' = upd H T (.tup [.int (i : Nat), .str ⟨#[c]⟩]) ∧ x.cps[i]? = some c, fun i _ => i = x.cps.size⟩
def ItT (K : PySem.W.Frag) (a : Addr) : It := ⟨fun i H => ∃ (xs : List V) (x : V), SqT K H a xs ∧ xs[i]? = some x,
  fun i H v H' => ∃ T x, v = .ref T ∧ H T = none ∧ H' = upd H T (.tup [.int (i : Nat), x]) ∧ ∀ xs, SqT K H a xs → xs[i]? = some x, fun i H => ∃ xs : List V, SqT K H a xs ∧ i = xs.length⟩
theorem two {e it b : Addr} (h : b ∈ [e, it]) : b = e ∨ b = it := by simpa using h
theorem obj_of {h : Heap} {e it : Addr} {i : Int} {old : Value} (he : IsEnum h e it i old) {o : Obj} (ho : h.get? it = some o) {vs : Array Value} (hd : o.data = .fields vs) : ∀ b ∈ [e, it], ∃ o, h.get? b = some o ∧ ∀ v, o.data ≠ .cell v := fun b hb => by
  rcases two hb with z | z
  · rw [z]; exact ⟨_, he, fun v q => nomatch q⟩
  · rw [z]; exact ⟨o, ho, fun v q => by rw [hd] at q; cases q⟩
theorem turn_enumS {P : Program} {w : World} {K : PySem.W.Frag} {elts : List Expr} {kk : Nat} {tpos : Pos} (x : Str) (t : Tok) (e it : Addr) :
    Turn P w K (.Tuple elts kk tpos) (ItS x) [e, it] e (fun i h => (∃ old, IsEnum h e it ((i : Nat) : Int) old) ∧ h.IsStrIter it (strIterType x) x t i ∧ e ≠ it) where
  mem := List.mem_cons_self
  obj := fun i h st b hb => by
    obtain ⟨⟨old, he⟩, ⟨o, ho, _, hd⟩, _⟩ := st
    exact obj_of he ho hd b hb
  keep := fun i h h' st k => by
    obtain ⟨⟨old, he⟩, ⟨o, ho, r⟩, hne⟩ := st
    exact ⟨⟨old, k e (by simp) _ he⟩, ⟨o, k it (by simp) _ ho, r⟩, hne⟩
  item := by
    intro X hP hw hK hc i pins s σ H E I hf st hg
    subst hP hw hK
    obtain ⟨⟨old, he⟩, hit, hne⟩ := st
    have D := ZS.drawsS (prog := X.prog) (w := X.w) (A := X.A.in1) (I.ok.hd hc) it x t
    have l1 : e < s.heap.objs.size := Heap.lt_size he
    have l2 : it < s.heap.objs.size := by obtain ⟨_, q, _⟩ := hit; exact Heap.lt_size q
    refine wpAny_pyNext_enum_itemD D he hit hg hne (by simpa using hne) fun v h' tk hv ho hit' hT hsz hk => ?_
    obtain ⟨c, u, hcx, rfl⟩ := hv
    refine ⟨_, rfl, wpAny_letOwnedTupleGo_enum (s := { s with heap := h', toks := tk + 1 }) ho fun h2 he2 sb => ?_⟩
    have hT2 : h2.get? s.heap.objs.size = some { cls := .type "tuple", data := .seq #[.int i tk, .str ⟨#[c]⟩ u] } := (sb.2 _ (Nat.ne_of_gt l1)).trans hT
    have new : ObjOk X.prog X.w (upd H s.heap.objs.size (.tup [.int (i : Nat), .str ⟨#[c]⟩])) h2 s.heap.objs.size (.tup [.int (i : Nat), .str ⟨#[c]⟩]) :=
      ⟨by show 2 ≤ sizeLine; decide, [.int i tk, .str ⟨#[c]⟩ u], .cons ⟨_, rfl⟩ (.cons ⟨u, rfl⟩ .nil), ⟨_, hT2, rfl, _, rfl⟩⟩
    have I1 := I.turnedNew (t' := tk + 1) (ch := [e, it]) (fun b ob hb q => (sb.2 b (fun z => hb (by simp [z]))).trans (hk b ob (fun z => hb (by simp [z])) (fun z => hb (by simp [z])) q)) hf (Nat.le_refl _) new
    refine ⟨.ref s.heap.objs.size, _, I1, rfl, ⟨_, c, rfl, I.hok.fresh (Nat.le_refl _), rfl, hcx⟩, ⟨⟨.str ⟨#[c]⟩ u, ?_⟩, ?_, hne⟩, fun b hb => ?_⟩
    · rw [show ((i + 1 : Nat) : Int) = (i : Int) + 1 by omega]
      exact he2
    · obtain ⟨o, q, r⟩ := hit'
      exact ⟨o, (sb.2 it (Ne.symm hne)).trans q, r⟩
    · rw [upd_ne (show b ≠ s.heap.objs.size from fun q => by
        rcases two hb with z | z
        · rw [← q, z] at l1; exact Nat.lt_irrefl _ l1
        · rw [← q, z] at l2; exact Nat.lt_irrefl _ l2)]
      exact (hf b hb).1
  done := by
    intro X hP hw hK hc i pins s σ H E I hf st hg
    subst hP hw hK
    obtain ⟨⟨old, he⟩, hit, hne⟩ := st
    have hg : i = x.cps.size := hg
    subst hg
    have D := ZS.drawsS (prog := X.prog) (w := X.w) (A := X.A.in1) (I.ok.hd hc) it x t
    refine wpAny_pyNext_enum_endD D he hit fun h' eb => ⟨rfl, I.turnedL (t' := s.toks) (ch := [e, it]) (fun b o hb q => eb b o (fun z => hb (by simp [z])) q) hf⟩
  self := fun A i s Q E st h => by
    obtain ⟨⟨_, he⟩, _⟩ := st
    exact wpAny_pyIter_enum he h
theorem turn_enumT {P : Program} {w : World} {K : PySem.W.Frag} {elts : List Expr} {kk : Nat} {tpos : Pos} (a e it : Addr) :
    Turn P w K (.Tuple elts kk tpos) (ItT K a) [e, it] e (fun i h => (∃ old, IsEnum h e it ((i : Nat) : Int) old) ∧ h.IsTupleIter it a i ∧ e ≠ it ∧ a ≠ it ∧ a ≠ e) where
  mem := List.mem_cons_self
  obj := fun i h st b hb => by
    obtain ⟨⟨old, he⟩, ⟨o, ho, _, hd⟩, _⟩ := st
    exact obj_of he ho hd b hb
  keep := fun i h h' st k => by
    obtain ⟨⟨old, he⟩, ⟨o, ho, r⟩, hne⟩ := st
    exact ⟨⟨old, k e (by simp) _ he⟩, ⟨o, k it (by simp) _ ho, r⟩, hne⟩
  item := by
    intro X hP hw hK hc i pins s σ H E I hf st hg
    subst hP hw hK
    obtain ⟨⟨old, he⟩, hit, hne, hai, hae⟩ := st
    obtain ⟨xs, x, hq, hx⟩ := hg
    obtain ⟨its, rv, p, hz⟩ := I.tuple hq
    obtain ⟨u, hu, ru⟩ := rv.get hx
    have hlt : i < its.toArray.size := by
      have := (List.getElem?_eq_some_iff.mp hu).1
      simpa using this
    have D := Draws.tuple (prog := X.prog) (w := X.w) (A := X.A.in1) (I.ok.hd hc) it a hai its.toArray
    have l1 : e < s.heap.objs.size := Heap.lt_size he
    have l2 : it < s.heap.objs.size := by obtain ⟨_, q, _⟩ := hit; exact Heap.lt_size q
    have hef : e ∉ [it, a] := by
      intro q
      rcases two q with z | z
      · exact hne z
      · exact hae z.symm
    refine wpAny_pyNext_enum_itemD D he ⟨hit, p⟩ hlt hne hef fun v h' tk hv ho hit' hT hsz hk => ?_
    obtain rfl : v = u := by
      have q : its.toArray[i]? = some v := hv
      rw [List.getElem?_toArray, hu] at q
      exact (Option.some.inj q).symm
    refine ⟨_, rfl, wpAny_letOwnedTupleGo_enum (s := { s with heap := h', toks := tk + 1 }) ho fun h2 he2 sb => ?_⟩
    have hT2 : h2.get? s.heap.objs.size = some { cls := .type "tuple", data := .seq #[.int i tk, v] } := (sb.2 _ (Nat.ne_of_gt l1)).trans hT
    have new : ObjOk X.prog X.w (upd H s.heap.objs.size (.tup [.int (i : Nat), x])) h2 s.heap.objs.size (.tup [.int (i : Nat), x]) :=
      ⟨by show 2 ≤ sizeLine; decide, [.int i tk, v], .cons ⟨_, rfl⟩ (.cons ru .nil), ⟨_, hT2, rfl, _, rfl⟩⟩
    have I1 := I.turnedNew (t' := tk + 1) (ch := [e, it]) (fun b ob hb q => (sb.2 b (fun z => hb (by simp [z]))).trans (hk b ob (fun z => hb (by simp [z])) (fun z => hb (by simp [z])) q)) hf (Nat.le_refl _) new
    refine ⟨.ref s.heap.objs.size, _, I1, rfl, ⟨_, x, rfl, I.hok.fresh (Nat.le_refl _), rfl, fun ys hy => by rw [I.tuple_inj hy hq]; exact hx⟩, ⟨⟨v, ?_⟩, ?_, hne, hai, hae⟩, fun b hb => ?_⟩
    · rw [show ((i + 1 : Nat) : Int) = (i : Int) + 1 by omega]
      exact he2
    · obtain ⟨o, q, r⟩ := hit'.1
      exact ⟨o, (sb.2 it (Ne.symm hne)).trans q, r⟩
    · rw [upd_ne (show b ≠ s.heap.objs.size from fun q => by
        rcases two hb with z | z
        · rw [← q, z] at l1; exact Nat.lt_irrefl _ l1
        · rw [← q, z] at l2; exact Nat.lt_irrefl _ l2)]
      exact (hf b hb).1
  done := by
    intro X hP hw hK hc i pins s σ H E I hf st hg
    subst hP hw hK
    obtain ⟨⟨old, he⟩, hit, hne, hai, hae⟩ := st
    obtain ⟨xs, hq, hx⟩ := hg
    obtain ⟨its, rv, p, hz⟩ := I.tuple hq
    have D := Draws.tuple (prog := X.prog) (w := X.w) (A := X.A.in1) (I.ok.hd hc) it a hai its.toArray
    have hl := rv.length
    have hn : i = its.toArray.size := by
      rw [List.size_toArray]
      omega
    subst hn
    refine wpAny_pyNext_enum_endD D he ⟨hit, p⟩ fun h' eb => ⟨rfl, I.turnedL (t' := s.toks) (ch := [e, it]) (fun b o hb q => eb b o (fun z => hb (by simp [z])) q) hf⟩
  self := fun A i s Q E st h => by
    obtain ⟨⟨_, he⟩, _⟩ := st
    exact wpAny_pyIter_enum he h
theorem meets_enumT (a : Addr) (xs : Array Value) :
    Meets (Builtin.«enumerate.__new__» ⟨[.type "enumerate", .ref a], []⟩) (fun _ R s => s.heap.IsTuple a xs ∧
      R (.ok (.ret (.ref (s.heap.push { cls := .type "tuple_iterator", data := .fields #[.ref a, .int 0 0] }).objs.size)))
        { s with heap := (s.heap.push { cls := .type "tuple_iterator", data := .fields #[.ref a, .int 0 0] }).push { cls := .type "enumerate", data := .fields #[.none, .bool false, .ref s.heap.objs.size, rawInt 0, .none, .none] } }) :=
  .of_wp fun prog w A R s h => by
    obtain ⟨hp, g, d, tk, os⟩ := s
    obtain ⟨hl, h⟩ := h
    have hsub := sub_enumerate
    have hL : Heap.IsTuple (Shared.heap ⟨hp, g, d, tk, os⟩) a xs := hl
    wp_walk
    refine wpAny_stack_any fun st => wpAny_pure ?_
    split
    · rename_i c _ _ _ _ _
      cases (c == Value.type "enumerate")
      all_goals
        wp_walk using wpAny_pyIter_tuple hL
        exact ⟨_, rfl, h⟩
    · wp_walk using wpAny_pyIter_tuple hL
      exact ⟨_, rfl, h⟩
section
variable {X : Cx}
def iEnumS (ta : TA) : TI := fun σ H R => ta σ H fun vs H1 => ∃ x, vs = [.str x] ∧ R (ItS x) H1
theorem pi_enumS {e : Expr} {ta : TA} {p pos tpos : Pos} {elts : List Expr} {kk : Nat} (hg : Gl X "enumerate") (hm : X.mg "enumerate" = none) (ha : PA X [e] ta) (hs : starEach [e] X.env = [(false, eval e X.env)] := by rfl) :
    PI X (.Tuple elts kk tpos) (.Call (.Name "enumerate" p) [e] [] pos) (iEnumS ta) := by
  refine ⟨fun pins s σ H R I h => Call_ (ld_blt I hg hm boot_enumerate (callWith_type1 (thn (ha.run pos pins s σ H _ I h) fun us s1 ⟨vs, H1, I1, r1, q1⟩ => ?_) hs rfl))⟩
  obtain ⟨x, ex, q⟩ := q1
  subst ex
  cases r1 with
  | cons r rr =>
    cases rr
    obtain ⟨t, rfl⟩ := r
    refine call_enumerate_str fun h' he hit hsz hk => wpAny_pyIter_enum he ?_
    refine ⟨s1.heap.objs.size + 1, _, _, _, H1, rfl, I1.kept (t' := s1.toks) hk, turn_enumS x t (s1.heap.objs.size + 1) s1.heap.objs.size, ⟨⟨.none, he⟩, hit, Nat.succ_ne_self _⟩, fun b hb => ?_, q⟩
    have hle : s1.heap.objs.size ≤ b := by
      rcases two hb with z | z <;> rw [z] <;> first | exact Nat.le_add_right _ _ | exact Nat.le_refl _
    exact I1.fpOk hle (I1.hok.fresh hle)
def iEnumT (K : PySem.W.Frag) (ta : TA) : TI := fun σ H R => ta σ H fun vs H1 => ∃ a xs, vs = [.ref a] ∧ SqT K H1 a xs ∧ R (ItT K a) H1
theorem pi_enumT {e : Expr} {ta : TA} {p pos tpos : Pos} {elts : List Expr} {kk : Nat} (hg : Gl X "enumerate") (hm : X.mg "enumerate" = none) (ha : PA X [e] ta) (hs : starEach [e] X.env = [(false, eval e X.env)] := by rfl) :
    PI X (.Tuple elts kk tpos) (.Call (.Name "enumerate" p) [e] [] pos) (iEnumT X.K ta) := by
  refine ⟨fun pins s σ H R I h => Call_ (ld_blt I hg hm boot_enumerate (callWith_type1 (thn (ha.run pos pins s σ H _ I h) fun us s1 ⟨vs, H1, I1, r1, q1⟩ => ?_) hs rfl))⟩
  obtain ⟨a, xs, ex, hq, q⟩ := q1
  subst ex
  cases r1 with
  | cons r rr =>
    cases rr
    cases r
    obtain ⟨its, rv, p', hz⟩ := I1.tuple hq
    obtain ⟨oa, hoa, _⟩ := id p'
    have la : a < s1.heap.objs.size := Heap.lt_size hoa
    refine callType_new F.called_enumerate (by decide) (F.typeCall_enumerate_1 _) (F.newCall_enumerate_1 _) (fun obj => F.args_object_init_2 obj _) F.entry_enumerate_new (meets_enumT a its.toArray) ⟨p', ?_⟩
    have hz : (s1.heap.push { cls := .type "tuple_iterator", data := .fields #[.ref a, .int 0 0] }).objs.size = s1.heap.objs.size + 1 := Heap.size_push ..
    show _ ∧ _
    rw [hz]
    have g1 := Heap.get?_push_size (s1.heap.push { cls := .type "tuple_iterator", data := .fields #[.ref a, .int 0 0] }) (o := { cls := .type "enumerate", data := .fields #[.none, .bool false, .ref s1.heap.objs.size, rawInt 0, .none, .none] }) rfl
    rw [hz] at g1
    have he : IsEnum ((s1.heap.push { cls := .type "tuple_iterator", data := .fields #[.ref a, .int 0 0] }).push { cls := .type "enumerate", data := .fields #[.none, .bool false, .ref s1.heap.objs.size, rawInt 0, .none, .none] }) (s1.heap.objs.size + 1) s1.heap.objs.size 0 .none := g1
    refine ⟨⟨_, he, rfl⟩, wpAny_pyIter_enum he ?_⟩
    refine ⟨s1.heap.objs.size + 1, _, _, _, H1, rfl, I1.kept (t' := s1.toks) fun b o e => Heap.get?_push_of_some _ (Heap.get?_push_of_some _ e), turn_enumT a (s1.heap.objs.size + 1) s1.heap.objs.size,
      ⟨⟨.none, he⟩, ⟨_, Heap.get?_push_of_some _ (Heap.get?_push_size _ rfl), rfl, rfl⟩, Nat.succ_ne_self _, Nat.ne_of_lt la, Nat.ne_of_lt (Nat.lt_succ_of_lt la)⟩, fun b hb => ?_, q⟩
    have hle : s1.heap.objs.size ≤ b := by
      rcases two hb with z | z <;> rw [z] <;> first | exact Nat.le_add_right _ _ | exact Nat.le_refl _
    exact I1.fpOk hle (I1.hok.fresh hle)
end
/-! ### loops over them -/
theorem for_enumS {x : Str} {g : TG} {tb : TS} {D : Ends} {σ : L2.St} {H : Hp} (Pv : Nat → L2.St → Hp → Prop) (h0 : Pv 0 σ H)
    (hs : ∀ (i c : Nat) (T : Addr) (σ : L2.St) (H : Hp), x.cps[i]? = some c → Pv i σ H → H T = none → g (.ref T) σ (upd H T (.tup [.int (i : Nat), .str ⟨#[c]⟩])) fun σ2 H2 => tb { D with nx := Pv (i + 1), ct := Pv (i + 1), bk := D.nx } σ2 H2)
    (hd : ∀ σ H, Pv x.cps.size σ H → D.nx σ H) :
    ∃ W : Nat → Nat → L2.St → Hp → Prop, (∃ m, W 0 m σ H) ∧ ∀ i m σ H, W i m σ H →
      ((ItS x).stop i H ∧ D.nx σ H) ∨ ((ItS x).go i H ∧ ∃ N : L2.St → Hp → Prop, (∀ σ' H', N σ' H' → ∃ m', m' < m ∧ W (i + 1) m' σ' H') ∧ ∀ v H', (ItS x).yld i H v H' → g v σ H' fun σ2 H2 => tb { D with nx := N, ct := N, bk := D.nx } σ2 H2) := by
  refine ⟨fun i m σ H => i + m = x.cps.size ∧ Pv i σ H, ⟨_, Nat.zero_add _, h0⟩, ?_⟩
  rintro i m σ H ⟨e, p⟩
  by_cases hm : m = 0
  · have e2 : i = x.cps.size := by omega
    refine .inl ⟨e2, hd σ H ?_⟩
    rw [← e2]
    exact p
  · refine .inr ⟨show i < x.cps.size by omega, Pv (i + 1), fun σ' H' p' => ⟨m - 1, by omega, by omega, p'⟩, ?_⟩
    rintro v H' ⟨T, c, rfl, hT, rfl, hc⟩
    exact hs i c T σ H hc p hT
theorem for_enumT {K : PySem.W.Frag} {a : Addr} {xs : List V} {g : TG} {tb : TS} {D : Ends} {σ : L2.St} {H : Hp} (Pv : Nat → L2.St → Hp → Prop) (h0 : Pv 0 σ H) (hq : ∀ i σ H, Pv i σ H → SqT K H a xs)
    (hs : ∀ (i : Nat) (x : V) (T : Addr) (σ : L2.St) (H : Hp), xs[i]? = some x → Pv i σ H → H T = none → g (.ref T) σ (upd H T (.tup [.int (i : Nat), x])) fun σ2 H2 => tb { D with nx := Pv (i + 1), ct := Pv (i + 1), bk := D.nx } σ2 H2)
    (hd : ∀ σ H, Pv xs.length σ H → D.nx σ H) :
    ∃ W : Nat → Nat → L2.St → Hp → Prop, (∃ m, W 0 m σ H) ∧ ∀ i m σ H, W i m σ H →
      ((ItT K a).stop i H ∧ D.nx σ H) ∨ ((ItT K a).go i H ∧ ∃ N : L2.St → Hp → Prop, (∀ σ' H', N σ' H' → ∃ m', m' < m ∧ W (i + 1) m' σ' H') ∧ ∀ v H', (ItT K a).yld i H v H' → g v σ H' fun σ2 H2 => tb { D with nx := N, ct := N, bk := D.nx } σ2 H2) := by
  refine ⟨fun i m σ H => i + m = xs.length ∧ Pv i σ H, ⟨_, Nat.zero_add _, h0⟩, ?_⟩
  rintro i m σ H ⟨e, p⟩
  by_cases hm : m = 0
  · have e2 : i = xs.length := by omega
    refine .inl ⟨⟨xs, hq i σ H p, e2⟩, hd σ H ?_⟩
    rw [← e2]
    exact p
  · have hi : i < xs.length := by omega
    refine .inr ⟨⟨xs, xs[i], hq i σ H p, List.getElem?_eq_getElem hi⟩, Pv (i + 1), fun σ' H' p' => ⟨m - 1, by omega, by omega, p'⟩, ?_⟩
    rintro v H' ⟨T, x, rfl, hT, rfl, hx⟩
    exact hs i x T σ H (hx xs (hq i σ H p)) p hT
theorem for_enumL {K : PySem.W.Frag} {a : Addr} {xs : List V} {g : TG} {tb : TS} {D : Ends} {σ : L2.St} {H : Hp} (Pv : Nat → L2.St → Hp → Prop) (h0 : Pv 0 σ H) (hq : ∀ i σ H, Pv i σ H → SqL K H a xs)
    (hs : ∀ (i : Nat) (x : V) (T : Addr) (σ : L2.St) (H : Hp), xs[i]? = some x → Pv i σ H → H T = none → g (.ref T) σ (upd H T (.tup [.int (i : Nat), x])) fun σ2 H2 => tb { D with nx := Pv (i + 1), ct := Pv (i + 1), bk := D.nx } σ2 H2)
    (hd : ∀ σ H, Pv xs.length σ H → D.nx σ H) :
    ∃ W : Nat → Nat → L2.St → Hp → Prop, (∃ m, W 0 m σ H) ∧ ∀ i m σ H, W i m σ H →
      ((Ite K a).stop i H ∧ D.nx σ H) ∨ ((Ite K a).go i H ∧ ∃ N : L2.St → Hp → Prop, (∀ σ' H', N σ' H' → ∃ m', m' < m ∧ W (i + 1) m' σ' H') ∧ ∀ v H', (Ite K a).yld i H v H' → g v σ H' fun σ2 H2 => tb { D with nx := N, ct := N, bk := D.nx } σ2 H2) := by
  refine ⟨fun i m σ H => i + m = xs.length ∧ Pv i σ H, ⟨_, Nat.zero_add _, h0⟩, ?_⟩
  rintro i m σ H ⟨e, p⟩
  by_cases hm : m = 0
  · have e2 : i = xs.length := by omega
    refine .inl ⟨⟨xs, hq i σ H p, by omega⟩, hd σ H ?_⟩
    rw [← e2]
    exact p
  · have hi : i < xs.length := by omega
    refine .inr ⟨⟨xs, xs[i], hq i σ H p, List.getElem?_eq_getElem hi⟩, Pv (i + 1), fun σ' H' p' => ⟨m - 1, by omega, by omega, p'⟩, ?_⟩
    rintro v H' ⟨T, x, rfl, hT, rfl, hx⟩
    exact hs i x T σ H (hx xs (hq i σ H p)) p hT
end EN

namespace TR
open PySem PySem.Spec PyProof.Rows L2 Evl
/-- a list or a tuple of these -/
def ob (k : Bool) (xs : List V) : HO := if k = true then .tup xs else .lst xs
theorem ob_seq {K : PySem.W.Frag} {H : Hp} {a : Addr} {k : Bool} {xs : List V} (h : H a = some (ob k xs)) : SqL K H a xs ∨ SqT K H a xs := by
  cases k
  · exact .inl (sq_of h)
  · exact .inr (st_of h)
theorem ob_list {K : PySem.W.Frag} {H : Hp} {a : Addr} {k : Bool} {xs : List V} (h : H a = some (ob k xs)) : TyX K H (.ref a) (if k = true then .type "tuple" else .type "list") := by
  cases k
  · exact .base (.lst h)
  · exact .base (.tup h)
theorem ob_ne {k : Bool} {xs : List V} {kvs : List (Key × V)} : ob k xs ≠ .dK kvs := by
  cases k <;> intro h <;> cases h
section
variable {X : Cx} {pos : Pos}
/-- a, b, .. = a list or a tuple of that length -/
def gSeq (K : PySem.W.Frag) (n : Nat) (t : TGs) : TG := fun v σ H Q => gUnl K n t v σ H Q ∨ gTup K n t v σ H Q
theorem pg_seq {es : List Expr} {k : Nat} {t : TGs} {n : Nat} (hc : X.calm = true) (h : PGs X es t)
    (hn : (assignEach es X.env).length = n := by rfl) (hst : (assignEach es X.env).findIdx? (·.1) = none := by rfl) : PG X (.Tuple es k pos) (gSeq X.K n t) := by
  refine ⟨fun pins s σ H v u Q I r hw => ?_⟩
  rcases hw with hw | hw
  · exact (pg_unl hc h hn hst).run pins s σ H v u Q I r hw
  · exact (pg_tup hc h hn hst).run pins s σ H v u Q I r hw
theorem gSeq_of {K : PySem.W.Frag} {n : Nat} {t : TGs} {H : Hp} {a : Addr} {k : Bool} {xs : List V} {σ : L2.St} {Q : L2.St → Hp → Prop} (h : H a = some (ob k xs)) (hl : xs.length = n) (q : t xs σ H Q) : gSeq K n t (.ref a) σ H Q := by
  cases k
  · exact .inl ⟨a, xs, rfl, sq_of h, hl, q⟩
  · exact .inr ⟨a, xs, rfl, st_of h, hl, q⟩
/-- a walk over either -/
def iSeq (K : PySem.W.Frag) (te : TE) : TI := fun σ H R => iList K te σ H R ∨ iTup K te σ H R
theorem pi_seq {tg e : Expr} {te : TE} (he : PE X e te) : PI X tg e (iSeq X.K te) := by
  refine ⟨fun pins s σ H R I h => ?_⟩
  rcases h with h | h
  · exact (pi_list he).run pins s σ H R I h
  · exact (pi_tup he).run pins s σ H R I h
def iEnumQ (K : PySem.W.Frag) (ta : TA) : TI := fun σ H R => iEnum K ta σ H R ∨ EN.iEnumT K ta σ H R
theorem pi_enumQ {e : Expr} {ta : TA} {p tpos : Pos} {elts : List Expr} {kk : Nat} (hg : Gl X "enumerate") (hm : X.mg "enumerate" = none) (ha : PA X [e] ta) (hs : starEach [e] X.env = [(false, eval e X.env)] := by rfl) :
    PI X (.Tuple elts kk tpos) (.Call (.Name "enumerate" p) [e] [] pos) (iEnumQ X.K ta) := by
  refine ⟨fun pins s σ H R I h => ?_⟩
  rcases h with h | h
  · exact (pi_enum hg hm ha hs).run pins s σ H R I h
  · exact (EN.pi_enumT hg hm ha hs).run pins s σ H R I h
theorem ix_at {K : PySem.W.Frag} {H : Hp} {a : Addr} {k : Bool} {xs : List V} {i : Int} {v : V} {Q : VK} (h : H a = some (ob k xs)) (hi : atI xs i = some v) (q : Q v H) : rIx K (.ref a) (.int i) H Q := by
  cases k
  · exact .inl ⟨a, xs, i, v, rfl, rfl, sq_of h, hi, q⟩
  · exact .inr (.inl ⟨a, xs, i, v, rfl, rfl, st_of h, hi, q⟩)
end
/-! ### trees -/
mutual
inductive Tr where
  | go (s q : Nat) : Tr
  | tell (n : Nat) (t : Tr) : Tr
  | read (p : Nat) (ts : Trs) : Tr
inductive Trs where
  | nil : Trs
  | cons (t : Tr) (r : Trs) : Trs
end
def Trs.list : Trs → List Tr
  | .nil => []
  | .cons t r => t :: r.list
mutual
def Tr.size : Tr → Nat
  | .go _ _ => 1
  | .tell _ t => t.size + 1
  | .read _ ts => ts.size + 1
def Trs.size : Trs → Nat
  | .nil => 0
  | .cons t r => t.size + r.size
end
mutual
def Tr.depth : Tr → Nat
  | .go _ _ => 1
  | .tell _ t => t.depth + 1
  | .read _ ts => ts.depth + 1
def Trs.depth : Trs → Nat
  | .nil => 0
  | .cons t r => max t.depth r.depth
end
/-! as described, for so many letters, this width, so many states -/
mutual
def Tr.ok (l w n : Nat) : Tr → Prop
  | .go s q => 1 ≤ s ∧ s ≤ w + 1 ∧ q < n
  | .tell k t => k ≤ 2 ∧ t.ok l w n
  | .read p ts => p ≤ w ∧ ts.list.length = l ∧ ts.ok l w n
def Trs.ok (l w n : Nat) : Trs → Prop
  | .nil => True
  | .cons t r => t.ok l w n ∧ r.ok l w n
end
/-- the trees within -/
def Tr.kids : Tr → List Tr
  | .go _ _ => []
  | .tell _ t => [t]
  | .read _ ts => ts.list
/-! how a tree stands in memory, of lists or of tuples -/
mutual
inductive TA (k : Bool) (H : Hp) : V → Tr → Prop
  | go {a : Addr} {s q : Nat} : H a = some (ob k [.str "go", .int (s : Nat), .int (q : Nat)]) → TA k H (.ref a) (.go s q)
  | tell {a : Addr} {n : Nat} {v : V} {t : Tr} : H a = some (ob k [.str "tell", .int (n : Nat), v]) → TA k H v t → TA k H (.ref a) (.tell n t)
  | read {a b : Addr} {p : Nat} {vs : List V} {ts : Trs} : H a = some (ob k [.str "read", .int (p : Nat), .ref b]) → H b = some (ob k vs) → TAs k H vs ts → TA k H (.ref a) (.read p ts)
inductive TAs (k : Bool) (H : Hp) : List V → Trs → Prop
  | nil : TAs k H [] .nil
  | cons {v : V} {vs : List V} {t : Tr} {r : Trs} : TA k H v t → TAs k H vs r → TAs k H (v :: vs) (.cons t r)
end
mutual
theorem TA.ex {k : Bool} {H H' : Hp} (e : Ex H H') : ∀ {t : Tr} {v : V}, TA k H v t → TA k H' v t
  | _, _, .go h => .go (e _ _ h)
  | _, _, .tell h r => .tell (e _ _ h) (TA.ex e r)
  | _, _, .read h1 h2 r => .read (e _ _ h1) (e _ _ h2) (TAs.ex e r)
theorem TAs.ex {k : Bool} {H H' : Hp} (e : Ex H H') : ∀ {ts : Trs} {vs : List V}, TAs k H vs ts → TAs k H' vs ts
  | _, _, .nil => .nil
  | _, _, .cons h r => .cons (TA.ex e h) (TAs.ex e r)
end
/-- a list of trees as it stands -/
inductive Kids (k : Bool) (H : Hp) : List V → List Tr → Prop
  | nil : Kids k H [] []
  | cons {v : V} {vs : List V} {t : Tr} {r : List Tr} : TA k H v t → Kids k H vs r → Kids k H (v :: vs) (t :: r)
theorem TAs.kids {k : Bool} {H : Hp} : ∀ {ts : Trs} {vs : List V}, TAs k H vs ts → Kids k H vs ts.list
  | _, _, .nil => .nil
  | _, _, .cons h r => .cons h r.kids
theorem Kids.ex {k : Bool} {H H' : Hp} (e : Ex H H') : ∀ {vs : List V} {ts : List Tr}, Kids k H vs ts → Kids k H' vs ts
  | _, _, .nil => .nil
  | _, _, .cons h r => .cons (h.ex e) (Kids.ex e r)
theorem Kids.len {k : Bool} {H : Hp} : ∀ {vs : List V} {ts : List Tr}, Kids k H vs ts → vs.length = ts.length
  | _, _, .nil => rfl
  | _, _, .cons _ r => by rw [List.length_cons, List.length_cons, r.len]
theorem Kids.get {k : Bool} {H : Hp} : ∀ {vs : List V} {ts : List Tr} {i : Nat} {x : V}, Kids k H vs ts → vs[i]? = some x → ∃ t, ts[i]? = some t ∧ TA k H x t
  | _, _, _, _, .nil, h => by cases h
  | _, _, 0, _, .cons (t := t) h1 _, h => ⟨t, rfl, by rw [← Option.some.inj h]; exact h1⟩
  | _, _, i + 1, _, .cons _ r, h => Kids.get (i := i) r h
theorem Kids.snoc {k : Bool} {H : Hp} {v : V} {t : Tr} (h : TA k H v t) : ∀ {vs : List V} {ts : List Tr}, Kids k H vs ts → Kids k H (vs ++ [v]) (ts ++ [t])
  | _, _, .nil => .cons h .nil
  | _, _, .cons h1 r => .cons h1 (Kids.snoc h r)
theorem Kids.app {k : Bool} {H : Hp} : ∀ {vs : List V} {ts : List Tr} {us : List V} {rs : List Tr}, Kids k H vs ts → Kids k H us rs → Kids k H (vs ++ us) (ts ++ rs)
  | _, _, _, _, .nil, h => h
  | _, _, _, _, .cons h r, h2 => .cons h (Kids.app r h2)
theorem size_pos : ∀ t : Tr, 1 ≤ t.size
  | .go _ _ => Nat.le_refl 1
  | .tell _ t => by
    show 1 ≤ t.size + 1
    omega
  | .read _ ts => by
    show 1 ≤ ts.size + 1
    omega
def total (ts : List Tr) : Nat := (ts.map Tr.size).sum
theorem Trs.total : ∀ ts : Trs, TR.total ts.list = ts.size
  | .nil => rfl
  | .cons t r => by
    show t.size + TR.total r.list = t.size + r.size
    rw [Trs.total r]
theorem size_kids : ∀ t : Tr, t.size = TR.total t.kids + 1
  | .go _ _ => rfl
  | .tell _ t => rfl
  | .read _ ts => by
    show ts.size + 1 = TR.total ts.list + 1
    rw [Trs.total]
theorem Trs.ok_mem {l w n : Nat} : ∀ {ts : Trs}, ts.ok l w n → ∀ t ∈ ts.list, t.ok l w n
  | .nil, _, _, h => nomatch h
  | .cons t r, h, x, hx => by
    rcases List.mem_cons.mp hx with q | q
    · rw [q]
      exact h.1
    · exact Trs.ok_mem h.2 x q
theorem ok_kids {l w n : Nat} : ∀ {t : Tr}, t.ok l w n → ∀ x ∈ t.kids, x.ok l w n
  | .go _ _, _, _, h => nomatch h
  | .tell _ t, h, x, hx => by
    rw [List.mem_singleton.mp hx]
    exact h.2
  | .read _ ts, h, x, hx => Trs.ok_mem h.2.2 x hx
theorem Trs.depth_mem : ∀ {ts : Trs}, ∀ t ∈ ts.list, t.depth ≤ ts.depth
  | .nil, _, h => nomatch h
  | .cons t r, x, hx => by
    rcases List.mem_cons.mp hx with q | q
    · rw [q]
      exact Nat.le_max_left _ _
    · exact Nat.le_trans (Trs.depth_mem x q) (Nat.le_max_right _ _)
theorem depth_kids : ∀ {t : Tr}, ∀ x ∈ t.kids, x.depth + 1 ≤ t.depth
  | .go _ _, _, h => nomatch h
  | .tell _ t, x, hx => by
    rw [List.mem_singleton.mp hx]
    exact Nat.le_refl _
  | .read _ ts, x, hx => Nat.succ_le_succ (Trs.depth_mem x hx)
end TR

namespace GD
open PySem PySem.Spec PyProof.Rows L2
/-- a law's promise, where no text of an object is being made -/
structure Gd (P : Program) (w : World) (K : PySem.W.Frag) (mg : Str → Option Value) (base : Heap) (k : Nat) (f : Addr) (fd : FuncData) (ps : List Str) (sp : Sp) : Prop where
  run : ∀ (A : Around) (outer : List Env) (s : Shared) (H : Hp) (args : Args) (us : List Value) (vs : List V) (Q : VK) (E : XK), Room k A → A.guards = some [] → Env0 P w K mg base A outer s H → BindsTo s fd args (ps.zip us) → Vals vs us → sp vs H Q E →
    codeAny (model P w) A (.call (.ref f) args) (CR CX0 outer P w H s Q E) s
section
variable {P : Program} {w : World} {K : PySem.W.Frag} {mg : Str → Option Value} {base : Heap}
theorem deeper_guards {A : Around} {env : Env} (h : A.guards = some []) : (A.deeper env).guards = some [] := h
/-- the rule for a def, once more -/
theorem okG {x qual : Str} {st : Stmt} {f : Addr} {fd : FuncData} {N ps : List Str} {k : Nat} {sp : Sp} (F : Fun K x qual st f fd) (S : FnScope N ps (defScope st)) (len : ∀ vs H Q E, sp vs H Q E → vs.length = ps.length)
    (hbody : ∀ (cdv : Value) (A : Around) (outer : List Env) (s : Shared) (H : Hp) (vs : List V) (Q : VK) (E : XK), Room k (A.deeper (envOfC qual (defScope st) s.heap.objs.size f cdv)) → (A.deeper (envOfC qual (defScope st) s.heap.objs.size f cdv)).guards = some [] → sp vs H Q E →
      ∃ t, PSs (cxOf CX0 P w K mg base N qual (defScope st) f cdv A outer s H E).nox (defBody st) t ∧ t { nx := fun _ H' => Q .non H', rt := Q } (start N vs) H) : Gd P w K mg base (k + 1) f fd ps sp := by
  obtain ⟨oc, od, kV, doc, pm, an, cdv, ct, osl, rfl, lk, hcd⟩ := F.ex
  refine ⟨fun A outer s H args us vs Q E hr hg e0 hb r hsp => ?_⟩
  have kin : K.In s.heap := e0.mod.kin.keeps fun b o e => (e0.bs b o e).1
  have nolim : s.heap.NoLimit := e0.mod.nolimit.keeps fun b o e => (e0.bs b o e).1
  have names : ∀ y ∈ ps.zip us, (defScope st).names.lookup y.1 = some .local ∨ ((defScope st).names.lookup y.1 = some .cell ∧ ((cellsFrom (s.heap.objs.size + 1) (defScope st).names []).lookup y.1).isSome = true) := by
    rintro ⟨n, v⟩ hy
    rcases S.par n (List.of_mem_zip hy).1 with q | q
    · exact .inl q
    · exact .inr ⟨q, PySem.W.cellsFrom_some _ _ _ (.inl q)⟩
  refine codeAny_call_function hr.depth (kin _ _ lk) rfl S.co S.gen rfl (PySem.W.codeRec_of kin hcd) (hb _ _ _ _ (wpAny_newFunctionEnv_cells S.kind names fun env he s1 z => ?_))
  subst he
  refine ⟨nolim.keeps z.toInCall.keep, codeAny_func ?_⟩
  obtain ⟨t, ht, hq⟩ := hbody cdv A outer s H vs Q E (hr.deeper _) (deeper_guards hg) hsp
  have I := inv_start (CX := CX0) (E := E) S hr.hd e0 (len _ _ _ _ hsp) r z
  refine wpAny_mono (ht.nox.run [] s1 (start N vs) H _ I hq) (fun fl s' hs => ?_) fun e s' hs => hs
  cases fl with
  | ret u =>
    obtain ⟨v, σ', H', J, rv, q⟩ := hs
    exact ⟨v, H', J.os, J.bare, J.base, J.hok, rv, q⟩
  | next =>
    obtain ⟨σ', H', J, q⟩ := hs
    exact ⟨V.non, H', J.os, J.bare, J.base, J.hok, rfl, q⟩
  | brk =>
    obtain ⟨_, _, _, q⟩ := hs
    exact q.elim
  | cont =>
    obtain ⟨_, _, _, q⟩ := hs
    exact q.elim
end
/-! ### the end: the law's promise at the heap behind the top -/
/-- the script alone is known -/
def one (a : Addr) (vs : List Value) (ns : List Int) : Hp := fun b => if b = a then some (.frz { cls := .type "list", data := .seq vs.toArray } (.lst (ns.map V.int))) else none
theorem callG {P : Program} {w : World} {K : PySem.W.Frag} {mg mb : Str → Option Value} {k : Nat} {fa a : Addr} {fd : FuncData} {x : Str} {sp : Sp} {s : Shared} {vs : List Value} {ns : List Int}
    (kin : K.In s.heap) (hns : s.heap.Ns mainGlobals mg) (hb : s.heap.Ns builtinsNs mb) (hbb : ∀ x : Str, x ≠ "__name__" → mb x = bootBuiltins x) (nolim : s.heap.NoLimit) (gens : s.gens = #[])
    (ha : s.heap.get? a = some { cls := .type "list", data := .seq vs.toArray }) (hi : IntsAre vs ns) (hl : ns.length ≤ sizeLine) (room : Room k callerA)
    (F : ∀ base : Heap, K.In base → base.Ns mainGlobals mg → Gd P w K mg base k fa fd [x] sp) (binds : ∀ (s : Shared) (u : Value), BindsTo s fd ⟨[u], []⟩ [(x, u)])
    (hsp : ∀ H : Hp, SqL K H a (ns.map V.int) → sp [.ref a] H (fun v _ => v = .bl true) E0) :
    codeAny (model P w) callerA (.call (.ref fa) ⟨[.ref a], []⟩) (fun r s' => r = .ok (.ret (.bool true)) ∧ OldK s.heap s'.heap ∧ s'.os = s.os ∧ AllBare s'.gens) s := by
  have rv := vals_ints hi
  have step : ∀ H : Hp, (∀ b u, H b = some u → b = a ∧ K.lookup a = none ∧ ∃ o xs, u = .frz o (.lst xs)) → HOk P w H s.heap → SqL K H a (ns.map V.int) →
      codeAny (model P w) callerA (.call (.ref fa) ⟨[.ref a], []⟩) (fun r s' => r = .ok (.ret (.bool true)) ∧ OldK s.heap s'.heap ∧ s'.os = s.os ∧ AllBare s'.gens) s := by
    intro H only hok hS
    have free : ∀ {b : Addr}, b ≠ a → H b = none := fun {b} n => by
      cases e : H b with
      | none => rfl
      | some u => exact absurd (only b u e).1 n
    have stays : ∀ {b : Addr} {m : Str → Option Value}, s.heap.Ns b m → (hidT s.heap H).Ns b m := fun {b m} ⟨o, es, ep, e, d, r⟩ => by
      refine ⟨o, es, ep, hidT_get e (free fun z => ?_), d, r⟩
      rw [z, ha] at e
      cases e
      cases (show Data.seq vs.toArray _ = Data.dict es ep from d)
    have kinB : K.In (hidT s.heap H) := fun b o e => hidT_get (kin b o e) (by
      cases q : H b with
      | none => rfl
      | some u =>
        obtain ⟨h1, h2, _⟩ := only b u q
        rw [h1, h2] at e
        cases e)
    have e0 : Env0 P w K mg (hidT s.heap H) callerA [] s H :=
      ⟨rfl, ⟨kinB, stays hns, ⟨mb, stays hb, hbb⟩, let ⟨mc, h1, h2⟩ := nolim; ⟨mc, stays h1, h2⟩⟩, fun b o e => of_hidT e, Nat.le_of_eq (hidT_size _ _), trivial, fun b hb => (nomatch (show b ∈ ([] : List Addr) from hb)), hok, .of_eq gens⟩
    refine codeAny_mono ((F _ kinB (stays hns)).run callerA [] s H ⟨[.ref a], []⟩ [.ref a] [.ref a] _ E0 room rfl e0 (binds s (.ref a)) (.cons rfl .nil) (hsp H hS)) fun r s' h => ?_
    cases r with
    | error e => exact h.elim
    | ok fl =>
      cases fl with
      | ret u =>
        obtain ⟨v, H', os, bare, un, hok', r', q⟩ := h
        obtain rfl : v = .bl true := q
        obtain rfl : u = Value.bool true := r'
        refine ⟨rfl, OldK.of_keep fun b o e => ?_, os, bare⟩
        cases q : H b with
        | none => exact un.keep b o e q (by intro z; exact (nomatch (show b ∈ ([] : List Addr) from z))) (by simp)
        | some u =>
          obtain ⟨_, _, ob, xs, rfl⟩ := only b u q
          obtain ⟨e1, _⟩ := hok b _ q
          obtain ⟨e2, _⟩ := hok' b _ (un.frzs b ob _ q)
          rw [e] at e1
          cases e1
          exact e2
      | next => exact h.elim
      | brk => exact h.elim
      | cont => exact h.elim
  cases hk : K.lookup a with
  | some o =>
    have e := kin a o hk
    rw [ha] at e
    cases e
    refine step (fun _ => none) (fun b u z => by cases z) (fun b u z => by cases z) (.inr ⟨_, vs.toArray, _, hk, rfl, rfl, rfl, ?_, by simpa using rv⟩)
    rw [List.size_toArray, hi.length]
    exact hl
  | none =>
    refine step (one a vs ns) (fun b u z => ?_) (fun b u z => ?_) (.inl (.inr ⟨_, if_pos rfl⟩))
    · unfold one at z
      by_cases q : b = a
      · rw [if_pos q] at z
        cases z
        exact ⟨q, hk, _, _, rfl⟩
      · rw [if_neg q] at z
        cases z
    · unfold one at z
      by_cases q : b = a
      · rw [if_pos q] at z
        cases z
        subst q
        exact ⟨ha, by rw [List.length_map]; exact hl, vs, _, rv, ha⟩
      · rw [if_neg q] at z
        cases z
theorem walkG {l : PySem.W.OpenLaw} {n k : Nat} {q : Program} {loose : List Str} {XP : (Str → Option Value) → Heap → Prop} {YP : World → Heap → Prop} {d : DefRec} {K : Params → PySem.W.Frag} {sp : World → Sp} {x : Str}
    (hn : l.most = some n) (hn2 : n ≤ sizeLine) (hdf : d.params.defaults = []) (hr : Room k callerA) (hY : ∀ (w : World) (h : Heap), YP w h → (K w.params).In h)
    (F : ∀ (w : World) (mg : Str → Option Value) (fa : Addr) (h : Heap), (K w.params).In h → h.Ns mainGlobals mg → mg d.name = some (.ref fa) →
      ∃ fd : FuncData, (∀ (s : Shared) (u : Value), BindsTo s fd ⟨[u], []⟩ [(x, u)]) ∧ ∀ base : Heap, (K w.params).In base → base.Ns mainGlobals mg → Gd l.prog w (K w.params) mg base k fa fd [x] (sp w))
    (hsp : ∀ (w : World) (H : Hp) (a : Addr) (ns : List Int), ns.length ≤ n → SqL (K w.params) H a (ns.map V.int) → sp w [.ref a] H (fun v _ => v = .bl true) E0) :
    PySem.W.WalkO q loose XP YP l.row.toRowW d [] (fun f vs => PySem.call f vs) := by
  refine Att.attach_call hn hdf fun w s₀ s₁ mg mb fa o pm cd doc a vs ns G Y ho hd hcd hmg hobj hints hlen hg => ?_
  have kin := hY w _ Y
  obtain ⟨fd, hb, hF⟩ := F w mg fa _ kin G.T.g hmg
  exact callG kin G.T.g G.T.b G.T.builtins G.T.nolimit hg hobj hints (Nat.le_trans hlen hn2) hr hF hb fun H hS => hsp w H a ns hlen hS
end GD

/-! own errors over an own base whose __init__ they call; several except clauses with a name -/
namespace EK
open PySem PySem.Spec PyProof.Rows L2
section
variable {X : Cx} {C0 : Addr} {x : Str} {e : Expr} {es : List Expr} {ta : TA} {p1 p2 pos : Pos}
/-- B.__init__(self, ..), B an own class over ValueError without an __init__ of its own -/
theorem pe_skinit {pl : Sem Bool} (hg : Gl X x) (hm : X.mg x = some (.ref C0)) (r : ClX.CRead X.K C0 (.type "type")) (k : PySem.W.findCls X.K (.ref C0) (.type "type") "__init__" = some (.val (.builtin "ValueError.__init__"))) (ha : PA X (e :: es) ta)
    (hc : eval (.Call (.Attribute (.Name x p1) "__init__" p2) (e :: es) [] pos) X.env = (do
      let ov ← eval (.Name x p1) X.env
      standAt p2.atName
      let (f, first) ← holding [ov] (getMethod ov "__init__" pl)
      callWith pos f first (backTo pos (starEach (e :: es) X.env)) (backToKw pos (keywordEach [] X.env))) := by rfl)
    (hdb : (x == ("__debug__" : Str)) = false := by decide)
    (he : starEach (e :: es) X.env = (false, eval e X.env) :: starEach es X.env := by rfl) (hpl : (backTo pos (starEach es X.env)).any (·.1) = false := by rfl) :
    PE X (.Call (.Attribute (.Name x p1) "__init__" p2) (e :: es) [] pos) (tVeI X.K ta) := by
  refine ⟨fun pins s σ H Q I h => ?_⟩
  refine PySem.W.methodCall_KW (ld_glob I hg hm ?_ hdb) hc
  refine PySem.W.method_cls I.kIn r.ga (PySem.W.cls_value I.kIn r.rd k rfl ?_)
  show wpAny _ _ (callWith pos (Value.builtin "ValueError.__init__") [] (backTo pos (starEach (e :: es) X.env)) []) _ _ _
  refine PyProof.Rows.callWith_method1 (thn (ha.run pos pins _ σ H _ (I.tok _) h) fun us s1 ⟨vs, H1, I1, r1, a, C, ws, ev, hl, T, ea, q⟩ => ?_) he hpl
  subst ev
  cases r1 with
  | @cons _ u0 _ ur ra rw' =>
    obtain rfl : u0 = Value.ref a := ra
    have hlen : ur.length ≤ sizeLine := by
      rw [← Paired.length rw', sizeLine_eq]
      omega
    exact oinit_ok T I1 ea hlen fun s' J => ⟨.non, H1, J, rfl, q⟩
end
end EK
/-! ### isinstance of a caught error that has its dict -/
namespace PySem.W
open PySem PySem.Spec PySem.Calls PyProof.Rows
section
variable {prog : Program} {w : World} {A : Around} {E : Value → Shared → Prop} {s : Shared} {K : Frag} {x D : Addr} {ox : Obj} {od : Option Obj}
theorem ek_findObj {C : Addr} {name : Str} {a g : Value} (hc : (clsIn K C).isSome = true) (ha : findIn K (.ref C) name = some (some a)) (hg : specialIn K a "__get__" = some (some g)) (ht : takesIn K a = some true) : findObj K C od name = some (.bind g a) := by
  obtain ⟨cd, hc⟩ := Option.isSome_iff_exists.mp hc
  unfold findObj
  rw [hc, Option.bind_some, ha, Option.bind_some]
  simp [hg, ht]
theorem ek_kin_class {Q : Option Value → Shared → Prop} (hga : findIn K (.ref D) "__getattribute__" = some (some (.builtin "BaseException.__getattribute__"))) (hgt : findIn K (.ref D) "__getattr__" = some none) (hsub : subIn K (.ref D) (.type "BaseException") = some true)
    (hdct : hasDictIn K D = true) (ha : findIn K (.ref D) "__class__" = some (some (.builtin "object.__class__")))
    (hn : specialIn K (.builtin "object.__class__") "__get__" = some (some (.builtin "getset_descriptor.__get__"))) (htk : takesIn K (.builtin "object.__class__") = some true) (hm : mroIn K D (.type "object") = some true)
    (X : K.In s.heap) (I : InstAt s.heap x ox D od) (h : Q (some (.ref D)) { s with toks := s.toks + 1 }) : wpAny (model prog w) A (getAttr? (.ref x) "__class__") Q E s := by
  have hf : findObj K D od "__class__" = some (.bind (.builtin "getset_descriptor.__get__") (.builtin "object.__class__")) := ek_findObj (by obtain ⟨cd, hc, _⟩ := any_some hdct; rw [hc]; rfl) ha hn htk
  obtain ⟨hp, g, d, t, os⟩ := s
  have L0 := I.type (M := model prog w)
  have L1 := looks_findIn (M := model prog w) X hga
  have L2 := looks_findIn (M := model prog w) X hgt
  have L3 := looks_find (M := model prog w) X I hf
  have sub : Looks (model prog w) hp (isInstance (.ref x) (.type "BaseException")) true := L0.andThen (looks_subIn X hsub)
  have hx0 : (false && onTheHeap (Value.builtin "BaseException.__getattribute__")) = false := rfl
  have hx2 : (Value.builtin "BaseException.__getattribute__" == Value.builtin "object.__getattribute__") = false := by decide +kernel
  have hx1 : (onTheHeap (Value.ref D) && Value.builtin "BaseException.__getattribute__" == Value.builtin "object.__getattribute__") = false := by rw [hx2]; rfl
  unfold getAttr? getAttrBy? getAttrBy
  refine wpAny_bind (wpAny_mkText (wpAny_bind (wpAny_attempt (wpAny_holding (wpAny_bind (L0.at (wpAny_bind (L1.at ?_))))))))
  show wpAny _ _ (if (onTheHeap (Value.ref D) && Value.builtin "BaseException.__getattribute__" == Value.builtin "object.__getattribute__") = true then _ else _) _ _ _
  rw [hx1, if_neg Bool.false_ne_true]
  unfold getAttrByItsOwn hookBefore
  refine wpAny_bind ?_
  rw [if_pos (show onTheHeap (Value.ref D) = true from rfl)]
  refine L2.at ?_
  refine wpAny_bind (wpAny_attempt (wpAny_holding ?_))
  unfold callGetattribute
  rw [hx0, if_neg Bool.false_ne_true]
  unfold boundAndCalled
  rw [PySem.F.excAttr_ValueError.ga.bind (.ref x)]
  refine wpAny_bind (wpAny_pure ?_)
  show wpAny _ _ (call (.builtin "BaseException.__getattribute__") [.ref x, .str "__class__" t]) _ _ _
  refine wpAny_call (codeAny_call_builtin PySem.F.excAttr_ValueError.ga.plain PySem.F.entry_bexc_ga ?_)
  refine @check_slot (model prog w) _ _ ⟨hp, g, d, t + 1, os⟩ "BaseException.__getattribute__" "BaseException" "__getattribute__" (.ref x) [.str "__class__" t] [] _ (by decide +kernel) (by decide +kernel) sub (PySem.F.args_bexc_ga (.ref x) (.str "__class__" t)) ?_
  unfold Builtin.«object.__getattribute__»
  refine wpAny_bind (wpAny_of_eq (a := ((Value.ref x : Value), [Value.str "__class__" t])) (by first | rfl | (simp only [slotArgs]; rfl)) ?_)
  refine wpAny_bind (wpAny_pure (wpAny_bind (L0.at (wpAny_bind (L3.at ?_)))))
  show wpAny _ _ (holding [Value.builtin "object.__class__"] (call (.builtin "getset_descriptor.__get__") [.builtin "object.__class__", .ref x, .ref D]) >>= ret) _ _ _
  refine wpAny_bind (wpAny_holding (wpAny_call (class_get (s := ⟨hp, g, d, t + 1, os⟩) (ox := ox) (od := od) X I hm ?_)))
  refine wpAny_pure ?_
  show wpAny _ _ (handedOut (.ref D)) _ _ _
  rw [handedOut_of (v := .ref D) rfl]
  first
    | exact wpAny_pure (wpAny_pure h)
    | exact wpAny_pure h
    | exact wpAny_pure (wpAny_bind (wpAny_pure (wpAny_pure h)))
theorem ek_kitx (hga : findIn K (.ref D) "__getattribute__" = some (some (.builtin "BaseException.__getattribute__"))) (hgt : findIn K (.ref D) "__getattr__" = some none) (hsub : subIn K (.ref D) (.type "BaseException") = some true) (hdct : hasDictIn K D = true) (ha : findIn K (.ref D) "__class__" = some (some (.builtin "object.__class__")))
    (hn : specialIn K (.builtin "object.__class__") "__get__" = some (some (.builtin "getset_descriptor.__get__"))) (htk : takesIn K (.builtin "object.__class__") = some true) (hm : mroIn K D (.type "object") = some true) :
    KitX K (.ref x) (.ref D) (fun h => InstAt h x ox D od) where
  ty := fun _ _ _ I => I.type
  it := fun _ _ X _ => by
    obtain ⟨cdD, hcD, _⟩ := any_some hdct
    unfold clsIn at hcD
    split at hcD
    · rename_i c' d' cd' sl' ho
      intro A' Q' E' s' k q
      unfold isType loadHead
      exact wpAny_bind (wpAny_loadPart (k _ _ (X _ _ ho)) (wpAny_pure q))
    · cases hcD
  ne := fun h tp dd its n sl X htp => by
    obtain ⟨cdD, hcD, _⟩ := any_some hdct
    refine Bool.eq_false_iff.mpr fun q => ?_
    have e : D = tp := Value.ref.inj (beq_iff_eq.mp q)
    subst e
    unfold clsIn at hcD
    split at hcD
    · rename_i c' d' cd' sl' ho
      have z := (X _ _ ho).symm.trans htp
      cases z
    · cases hcD
  ca := fun X I k => ek_kin_class hga hgt hsub hdct ha hn htk hm X I k
end
end PySem.W
namespace EK
open PySem PySem.Spec PyProof.Rows L2
/-- isinstance(e, c), e the exception that the suite holds: its class D, its dict at d -/
def rIsE (K : PySem.W.Frag) (cls : Value) (d : Option Addr) (D a : Addr) : List V → Hp → VK → Prop := fun xs H Q => ∃ (c : V) (cv : Value) (b : Bool), xs = [.ref a, c] ∧ cls = .ref D ∧ (∃ dd fs, d = some dd ∧ H dd = some (.xd fs)) ∧ ClsV c cv ∧ PySem.W.kitOne K (.ref D) cv = some b ∧ Q (.bl b) H
theorem call_isE {X : Cx} {a D : Addr} {cls : Value} {d : Option Addr} {oe : Obj} {pn : List (Addr × Obj)} (C : ExcC X.K D) (hz : Zc cls d oe) (hf : ∃ vs, oe.data = .fields vs) : CallR (X.suite a ((a, oe) :: pn)) (.builtin "isinstance") (rIsE X.K cls d D a) := by
  intro pins s σ H xs us Q I r h
  obtain ⟨c, cv, b, rfl, ec, ⟨dd, fs, ed, hd⟩, k, e, q⟩ := h
  obtain ⟨u1, u2, rfl, r1, r2⟩ := vals2 r
  cases r1
  have e2 := k.eq r2
  subst e2 ec ed
  obtain ⟨hget, _⟩ := I.pin (a, oe) (List.mem_append.mpr (.inl List.mem_cons_self))
  obtain ⟨vs, hv⟩ := hf
  have hx : ObjOk X.prog X.w H s.heap dd (.xd fs) := I.hok dd _ hd
  obtain ⟨mA, hns, _⟩ := hx
  obtain ⟨od, ho, _⟩ := lookIn_ns hns
  have J : PySem.W.InstAt s.heap a oe D (some od) := ⟨hget, hz.1, by unfold PySem.W.notCls; rw [hv] <;> rfl, by rw [hz.2]; exact ho⟩
  exact PySem.W.kia_one (PySem.W.ek_kitx C.hg C.hk C.hs C.hd C.ha C.hn C.ht C.hm) I.kIn J e (fun z => nomatch z) fun tk => ⟨.bl b, H, I.kept (t' := tk) fun _ _ z => z, rfl, q⟩
/-! ### several except clauses, all with one name -/
def endsN (D : Ends) (i : Nat) : Ends := { nx := fun σ' H' => D.nx (σ'.set i none) H', rt := D.rt, bk := fun σ' H' => D.bk (σ'.set i none) H', ct := fun σ' H' => D.ct (σ'.set i none) H' }
def wManyN (K : PySem.W.Frag) (Wout : WX) (D : Ends) (i : Nat) : List (Value × (Addr → Value → Option Addr → TS)) → WX
  | [] => Wout
  | (c, ts) :: r => fun cls d σ H => ∃ b, PySem.W.exmOne K cls c = some b ∧ (b = true → ∀ a, H a = none → ts a cls d (endsN D i) (σ.set i (some (.ref a))) H) ∧ (b = false → wManyN K Wout D i r cls d σ H)
inductive HdsN (X : Cx) (n : Str) : List ExceptHandler → List (Value × (Addr → Value → Option Addr → TS)) → Prop
  | nil : HdsN X n [] []
  | cons {x : Str} {c : Value} {ts : Addr → Value → Option Addr → TS} {b₀ : Stmt} {suite : List Stmt} {np pos' : Pos} {hds : List ExceptHandler} {l : List (Value × (Addr → Value → Option Addr → TS))} (hc : Names X x c)
      (hsu : ∀ (a : Addr) (oe : Obj) (cls : Value) (d : Option Addr) (pn : List (Addr × Obj)), Zc cls d oe → (∃ vs, oe.data = .fields vs) → PSs (X.suite a ((a, oe) :: pn)) (b₀ :: suite) (ts a cls d)) (r : HdsN X n hds l) :
      HdsN X n (.ExceptHandler (some (.Name x np)) (some n) (b₀ :: suite) pos' :: hds) ((c, ts) :: l)
section
variable {X : Cx} {n : Str} {i : Nat} {body : List Stmt} {h₀ : ExceptHandler} {hds : List ExceptHandler} {l : List (Value × (Addr → Value → Option Addr → TS))} {pos : Pos} {tb : WX → TS} {Wout : WX}
theorem ps_tryN (hs : X.stack = X.env :: X.outer) (hf : X.env.frame = some X.env.locals) (hN : X.N.Nodup) (hi : X.N[i]? = some n) (hln : X.env.kindOf n = some .local) (tk : Takes X Wout)
    (hb : ∀ (W : WX) (pn : List (Addr × Obj)) (xe : Value → Shared → Prop), Takes (X.tr pn xe) W → PassesOwn (model X.prog X.w) X.A X.env xe → PSs (X.tr pn xe) body (tb W))
    (hh : HdsN X n (h₀ :: hds) l) : PS X (.Try body (h₀ :: hds) [] [] pos) (fun D σ H => tb (wManyN X.K Wout D i l) D σ H) := by
  refine ⟨fun pins s σ H D I h => ?_⟩
  have ok := I.ok
  have hfr : X.A.frames = some (X.env :: X.outer) := by rw [ok.frames, hs]
  have hloc : Loc X.env.scope n := .inl hln
  refine wpAny_Try_except ?_
  refine wpAny_mono ((hb (wManyN X.K Wout D i l) (X.pn ++ pins) (fun e s₁ => wpAny (model X.prog X.w) X.A (noteFrame e X.env) (fun _ s₂ => wpAny (model X.prog X.w) X.A (setFlight e none) (fun _ s₃ =>
    wpAny (model X.prog X.w) X.A (handleBy e X.env (h₀ :: hds)) (SP X pins D) X.xe s₃) X.xe s₂) X.xe s₁) (fun u s' xx => ?_) PassesOwn.looking).run [] s σ H D (I.toTry _) h) (fun f s1 hsp => ?_) (fun e s1 he => he)
  · -- the catch
    obtain ⟨a, B, sI, pins', σ', H', cls, d, rfl, J', nb, up, sky, na, os, ag, w⟩ := xx
    have J : Inv X pins σ' H' sI := J'.ofTry ok
    have sky' : Sky B (X.env :: X.outer) a (Zc cls d) X.env.locals s'.heap := by rw [← hs]; exact sky
    show wpAny (model X.prog X.w) X.A (noteFrame (.ref a) X.env) _ _ _
    refine Sky.land Zc.steady hfr hf sky' fun h3 fl3 up3 => ?_
    have J3 : Inv X pins σ' H' { s' with heap := h3 } := J.landed nb fl3.1 (up.trans up3) os ag
    obtain ⟨oe3, vs3, he3, hz3, hd3⟩ := fl3.there
    have notFr : ∀ {h : Heap} {o : Obj} {vs : Array Value}, h.FunFrames B (X.env :: X.outer) → h.get? a = some o → o.data = .fields vs → a ∉ frs (X.env :: X.outer) := fun {h o vs} ff e dd hm => by
      obtain ⟨_, o', e', hnf⟩ := ff.mem hm
      rw [e] at e'; cases e'
      exact hnf _ dd
    have nfr := notFr fl3.2.2.1 he3 hd3
    have nL : a ≠ X.env.locals := fun z => nfr (List.mem_filterMap.mpr ⟨X.env, List.mem_cons_self, by rw [hf, z]⟩)
    have nF : a ∉ X.fs := fun hm => by
      obtain ⟨e, he, q⟩ := List.mem_filterMap.mp hm
      exact nfr (List.mem_filterMap.mpr ⟨e, List.mem_cons_of_mem _ he, q⟩)
    have S3 := J3.suite he3 hd3 na nL nF
    have go : ∀ {hds' : List ExceptHandler} {l' : List (Value × (Addr → Value → Option Addr → TS))}, HdsN X n hds' l' → wManyN X.K Wout D i l' cls d σ' H' →
        wpAny (model X.prog X.w) X.A (handleBy (.ref a) X.env hds') (SP X pins D) X.xe { s' with heap := h3 } := by
      intro hds' l' hk
      induction hk with
      | nil =>
        intro w
        refine wpAny_handleBy_nil ?_
        obtain ⟨k1, k2, k3, oe, vs, T, oT, ts', he, hz, hd, h1, hr⟩ := id fl3
        unfold PySem.passOn
        refine wpAny_bind (wpAny_field he hd h1 ?_)
        rw [if_neg (show ¬ ((Value.ref T == Value.none) = true) from by simp)]
        have fin : wpAny (model X.prog X.w) X.A (setFlight (.ref a) X.env.frame) (fun _ s4 => wpAny (model X.prog X.w) X.A (throw (.ref a) : Sem Flow) (SP X pins D) X.xe s4) X.xe { s' with heap := h3 } := by
          rw [hf]
          refine HandSPX.setFlight_upZ fl3 fun h4 hh4 up4 => wpAny_throw (tk _ _ ?_)
          exact ⟨a, B, sI, pins, σ', H', cls, d, rfl, J, nb, (up.trans up3).trans up4, .inr (.inr (by rw [hs]; exact hh4)), na, os, ag, w⟩
        first
          | exact wpAny_bind (wpAny_pure (wpAny_bind fin))
          | exact wpAny_bind fin
      | @cons x c ts b₀ suite np pos' hds2 l2 hc hsu r ih =>
        intro w
        obtain ⟨b, hb1, hyes, hno⟩ := w
        refine wpAny_handleBy_cons (codeAny_handlers_test ?_) (by intro q; cases q)
        have LT : PySem.W.Looks (model X.prog X.w) h3 (typeOf (.ref a)) cls := fun A Q E s k q => wpAny_typeOf_ref (k _ _ he3) (by rw [hz3.1]; exact q)
        have LM := PySem.W.exm_one (M := model X.prog X.w) (J3.kIn) LT hb1
        have test : ∀ {Q : Value → Shared → Prop} {E : Value → Shared → Prop}, Q c { s' with heap := h3 } → wpAny (model X.prog X.w) (X.A.mark (some (.ref a))) (eval (.Name x np) X.env) Q E { s' with heap := h3 } := fun {Q E} q => by
          obtain ⟨hg, hdbg, hm | ⟨hm, hv, hnn⟩⟩ := hc
          · exact ld_glob (X := X.suite a ((a, oe3) :: (X.pn ++ pins))) S3 hg hm q hdbg
          · exact ld_blt (X := X.suite a ((a, oe3) :: (X.pn ++ pins))) S3 hg hm hv q hnn hdbg
        refine test (LM.here ?_)
        cases b with
        | true =>
          refine codeAny_handlers_suite_as ?_
          refine HandSPX.lands_againZ fl3 fun h4 fl4 up4 => ?_
          have J4 : Inv X pins σ' H' { s' with heap := h4 } := J.landed nb fl4.1 ((up.trans up3).trans up4) os ag
          obtain ⟨oe4, vs4, he4, hz4, hd4⟩ := fl4.there
          have S4 := J4.suite he4 hd4 na nL nF
          refine store_ok (X := X.suite a ((a, oe4) :: (X.pn ++ pins))) (v := .ref a) S4 hN hi hloc rfl (fun s5 S5 => ?_) (.inr hln)
          refine wpAny_mono ((hsu a oe4 cls d (X.pn ++ pins) hz4 ⟨_, hd4⟩).run [] s5 _ H' _ S5 (hyes rfl a na)) (fun f s6 hsp => ?_) (fun _ _ z => False.elim z)
          have end_ : ∀ {σ6 : L2.St} {H6 : Hp} {Q : Shared → Prop}, Inv (X.suite a ((a, oe4) :: (X.pn ++ pins))) [] σ6 H6 s6 → (∀ s7, Inv X pins (σ6.set i none) H6 s7 → Q s7) →
              wpAny (model X.prog X.w) X.A (do bindName X.env n .none; unbindBehindTheSuite X.env n pos') (fun _ s7 => Q s7) X.xe s6 := fun {σ6 H6 Q} S6 hq => gone_ok (S6.unsuite ok) hN hi hln hq
          cases f with
          | next =>
            obtain ⟨σ6, H6, S6, q6⟩ := hsp
            exact end_ S6 fun s7 J7 => ⟨_, _, J7, q6⟩
          | brk =>
            obtain ⟨σ6, H6, S6, q6⟩ := hsp
            exact end_ S6 fun s7 J7 => ⟨_, _, J7, q6⟩
          | cont =>
            obtain ⟨σ6, H6, S6, q6⟩ := hsp
            exact end_ S6 fun s7 J7 => ⟨_, _, J7, q6⟩
          | ret u =>
            obtain ⟨v6, σ6, H6, S6, r6, q6⟩ := hsp
            exact end_ S6 fun s7 J7 => ⟨_, _, _, J7, r6, q6⟩
        | false =>
          show wpAny _ X.A (handleBy (.ref a) X.env hds2) _ _ _
          exact ih (hno rfl)
    exact go hh w
  · cases f with
    | next =>
      obtain ⟨σ', H', J', q⟩ := hsp
      exact wpAny_execs_nil ⟨σ', H', J'.ofTry ok, q⟩
    | brk =>
      obtain ⟨σ', H', J', q⟩ := hsp
      exact ⟨σ', H', J'.ofTry ok, q⟩
    | cont =>
      obtain ⟨σ', H', J', q⟩ := hsp
      exact ⟨σ', H', J'.ofTry ok, q⟩
    | ret u =>
      obtain ⟨v, σ', H', J', r, q⟩ := hsp
      exact ⟨v, σ', H', J'.ofTry ok, r, q⟩
end
end EK

/-! exceptions of own classes as values: made by position and by name, their fields, isinstance -/
namespace PySem
namespace ExV
open PySem.Spec PySem.W PySem.Calls PyProof.Rows PySem.HandSPX Builtin Builtin.ObjectAttr
section
variable {M : Model} {prog : Program} {w : World} {A : Around} {E : Value → Shared → Prop} {R : Result → Shared → Prop} {h : Heap} {g : Array GenState} {d : Drawn} {t : Nat} {os : OsState}
variable {nm q : Str} {C N : Addr} {bs bm bmB : List Value} {hdct : Bool} {sn : List Str} {sub : List Value} {ab : Bool} {col : Option Bool} {dd : Option Addr} {k0 k1 k2 k3 k5 : Option Value} {B newId initId : String} {kw : List (Str × Value)} {xs : List Value}
theorem own_check (F : ExcBaseFacts B newId initId bmB) (hT : ∀ X : String, bm.contains (.type X) = bmB.contains (.type X)) {Q : Unit → Shared → Prop}
    (hC : h.get? C = some (excClassObj nm q C N bs bm hdct sn sub ab col dd k0 k1 k2 k3 k5 newId)) (z : Q () ⟨h, g, d, t, os⟩) : wpAny M A (checkBuiltinCall newId ⟨.ref C :: xs, kw⟩) Q E ⟨h, g, d, t, os⟩ := by
  have inB : (Value.ref C :: bm).contains (.type B) = true := by
    rw [List.contains_cons, hT, F.hasB, Bool.or_true]
  have st := F.noStar
  simp only [checkBuiltinCall, F.newKind, F.newSplit, F.newRow]
  repeat (first | refine wpAny_loadPart_at hC ?_ | (refine wpAny_isSubtype_exc hC ?_; rw [inB]) | refine wpAny_staticBase_exc hC ?_ | refine wpAny_madeBy_exc hC ?_ | simp only [bne_self_eq_false, Bool.false_eq_true, if_false] | wp_step)
  exact z
theorem own_new (F : ExcBaseFacts B newId initId bmB) (hT : ∀ X : String, bm.contains (.type X) = bmB.contains (.type X))
    (hC : h.get? C = some (excClassObj nm q C N bs bm hdct sn sub ab col dd k0 k1 k2 k3 k5 newId))
    (z : R (.ok (.ret (.ref (h.objs.size + 1)))) ⟨(h.push (W.kdv_tup xs)).push (excO C h.objs.size), g, d, t, os⟩) (hl : xs.length ≤ sizeLine) :
    codeAny (model prog w) A (.builtin newId ⟨.ref C :: xs, kw⟩) R ⟨h, g, d, t, os⟩ := by
  have en := F.ends
  have inB : (Value.ref C :: bm).contains (.type B) = true := by
    rw [List.contains_cons, hT, F.hasB, Bool.or_true]
  have noA : (Value.ref C :: bm).contains (.type "AttributeError") = false := by
    rw [List.contains_cons, hT, F.noAttr]
    rfl
  have noN : (Value.ref C :: bm).contains (.type "NameError") = false := by
    rw [List.contains_cons, hT, F.noName]
    rfl
  refine codeAny_builtinAt F.entry ?_
  unfold Builtin.«BaseException.__new__»
  refine wpAt_bind ?_
  show wpAt _ _ _ (stack >>= _) _ _ _
  refine wpAt_bind (wpAt_stack fun p below => wpAt_of_wpAny ?_)
  wp_walk
  refine wpAt_of_wpAny ?_
  rw [F.owner]
  repeat (first | with_reducible refine wpAny_madeHere_exc F.canon hC ?_ | with_reducible refine wpAny_loadPart_at hC ?_ | (with_reducible refine wpAny_isSubtype_exc hC ?_; first | rw [inB] | rw [noA] | rw [noN]) | wp_step)
  show R _ _
  rw [Heap.size_push]
  exact z
theorem own_type (F : ExcBaseFacts B newId initId bmB) (hT : ∀ X : String, bm.contains (.type X) = bmB.contains (.type X)) {fv : Value} {Q : Fin → Shared → Prop}
    (hC : h.get? C = some (excClassObj nm q C N bs bm hdct sn sub ab col dd k0 k1 k2 k3 k5 newId))
    (hi : W.Looks (model prog w) h (typeLookup (.ref C) "__init__") (some fv)) (hb : ∀ self, W.Looks (model prog w) h (bindSpecial fv self) (fv, [self])) (hl : xs.length ≤ sizeLine)
    (z : codeAny (model prog w) A (.call fv ⟨.ref (h.objs.size + 1) :: xs, kw⟩) (fun r s' => match r with | .ok (.ret v) => v = .none ∧ Q (.done (.ret (.ref (h.objs.size + 1)))) s' | .ok _ => False | .error e => E e s')
      ⟨(h.push (W.kdv_tup xs)).push (excO C h.objs.size), g, d, t, os⟩) :
    wpAny (model prog w) A (Builtin.«type.__call__» ⟨.ref C :: xs, kw⟩) Q E ⟨h, g, d, t, os⟩ := by
  repeat (first | with_reducible refine wpAny_loadPart_at hC ?_ | with_reducible refine wpAny_madeBy_exc hC ?_ | wp_step)
  refine codeAny_call_builtin_code (Code.quiet_builtin _ F.quiet) (own_check F hT hC ?_)
  refine own_new F hT hC ?_ hl
  show wpAny _ _ _ _ _ _
  have kp : ∀ b o, h.get? b = some o → ((h.push (W.kdv_tup xs)).push (excO C h.objs.size)).get? b = some o := fun b o y => Heap.get?_push_of_some _ (Heap.get?_push_of_some _ y)
  have hC2 := kp _ _ hC
  have he : ((h.push (W.kdv_tup xs)).push (excO C h.objs.size)).get? (h.objs.size + 1) = some (excO C h.objs.size) := by heap_get
  have inC : (Value.ref C :: bm).contains (.ref C) = true := by simp
  have hi2 := hi.keeps kp
  have hb2 := (hb (.ref (h.objs.size + 1))).keeps kp
  unfold isInstance
  repeat (first | with_reducible refine wpAny_loadPart_at he ?_ | (with_reducible refine wpAny_isSubtype_exc hC2 ?_; rw [inC]) | wp_step)
  show wpAny _ _ (typeLookup (.ref C) _) _ _ _
  refine hi2.at ?_
  refine wpAny_holding (wpAny_bind (hb2.at ?_))
  refine wpAny_bind (wpAny_call (codeAny_mono z fun r s' y => ?_))
  rcases r with e | (v | _ | _ | _) <;> first | exact y | exact y.elim | skip
  obtain ⟨rfl, y⟩ := y
  first
    | exact wpAny_pure (wpAny_pure y)
    | (wp_walk; exact y)
theorem own_chk {Q : Unit → Shared → Prop} (hC : h.get? C = some (excClassObj nm q C N bs bm hdct sn sub ab col dd k0 k1 k2 k3 k5 newId))
    (hq : Q () ⟨h, g, d, t, os⟩) : wpAny M A (checkBuiltinCall "type.__call__" ⟨.ref C :: xs, kw⟩) Q E ⟨h, g, d, t, os⟩ := by
  have sb := tc_sub
  have ty : (⟨h, g, d, t, os⟩ : Shared).TypeIs (.ref C) "type" := ⟨_, hC, rfl⟩
  simp only [checkBuiltinCall, tc_kind, tc_split]
  repeat (any_goals (first | assumption | with_reducible refine wpAny_loadPart_at hC ?_ | with_reducible refine wpAny_onRaise ?_ | with_reducible refine wpAny_map ?_ | wp_step))
theorem own_call (F : ExcBaseFacts B newId initId bmB) (hT : ∀ X : String, bm.contains (.type X) = bmB.contains (.type X)) {fv : Value}
    (hC : h.get? C = some (excClassObj nm q C N bs bm hdct sn sub ab col dd k0 k1 k2 k3 k5 newId))
    (hi : W.Looks (model prog w) h (typeLookup (.ref C) "__init__") (some fv)) (hb : ∀ self, W.Looks (model prog w) h (bindSpecial fv self) (fv, [self])) (hl : xs.length ≤ sizeLine)
    (z : codeAny (model prog w) (A.under (.builtin "type.__call__" ⟨.ref C :: xs, kw⟩)) (.call fv ⟨.ref (h.objs.size + 1) :: xs, kw⟩) (W.InitBack (h.objs.size + 1) R)
      ⟨(h.push (W.kdv_tup xs)).push (excO C h.objs.size), g, d, t, os⟩) : codeAny (model prog w) A (.call (.ref C) ⟨xs, kw⟩) R ⟨h, g, d, t, os⟩ := by
  have lk := tc_lookup
  have bd := tc_bind (.ref C)
  have ty : (⟨h, g, d, t, os⟩ : Shared).TypeIs (.ref C) "type" := ⟨_, hC, rfl⟩
  refine codeAny_of_tree ?_
  show wpAny _ _ (callAny (.ref C) _) _ _ _
  repeat (any_goals (first | assumption | with_reducible refine wpAny_loadPart_at hC ?_ | wp_step))
  refine ⟨rfl, ?_⟩
  refine codeAny_call_builtin_at (Code.quiet_builtin _ (by decide +kernel)) entry_typeCall (own_chk hC (own_type F hT hC hi hb hl ?_))
  refine codeAny_mono z fun r s' y => ?_
  rcases r with e | (v | _ | _ | _) <;> exact y
end
end ExV
end PySem
namespace EK
open PySem PySem.Spec PyProof.Rows L2
/-- C(..) kept as a value: __init__ keeps sp -/
def tMkV (C : Addr) (sp : Sp) (ta : TA) : TE := fun σ H Q => ta σ H fun vs H1 => vs.length ≤ 1000 ∧ ∀ a, H1 a = none → sp (.ref a :: vs) (upd H1 a (exo a C none)) (fun v H2 => v = .non ∧ Q (.ref a) H2) (fun _ _ _ => False)
/-- .. by names, put in their order by g -/
def tMkN (C : Addr) (sp : Sp) (n : Nat) (g : List V → List V → List V) (tk : TA) : TE := fun σ H Q => tk σ H fun zs H1 => zs.length = n ∧ ∀ a, H1 a = none → sp (g [.ref a] zs) (upd H1 a (exo a C none)) (fun v H2 => v = .non ∧ Q (.ref a) H2) (fun _ _ _ => False)
section
variable {X : Cx} {CX : CXT} {x : Str} {e : Expr} {es : List Expr} {ta tk : TA} {p pos : Pos} {C fI : Addr} {k : Nat} {fd : FuncData} {ps ks : List Str} {sp : Sp} {kws : List Keyword} {pins : List (Addr × Obj)} {σ : L2.St} {H : Hp} {s : Shared} {Q : VK}
theorem run_mkv (T : OexC X.K C) (iC : PySem.W.findIn X.K (.ref C) "__init__" = some (some (.ref fI))) (tI : PySem.W.typeIn X.K (.ref fI) = some (.type "function")) (F1 : FnOk X.prog X.w X.K X.mg X.base CX k fI fd ps sp) (hr : Room (k + 1) X.A)
    (hx : Passes CX X (fun _ _ _ => False)) (I : Inv X pins σ H s) {us : List Value} {kw : List (Str × Value)} (hl : us.length ≤ sizeLine) {G : Value → List Value} {gv : V → List V} (hb : ∀ (s' : Shared) (u : Value), X.K.In s'.heap → BindsTo s' fd ⟨u :: us, kw⟩ (ps.zip (G u)))
    (r2 : ∀ a : Addr, Vals (gv (.ref a)) (G (.ref a))) (h : ∀ a, H a = none → sp (gv (.ref a)) (upd H a (exo a C none)) (fun v H2 => v = .non ∧ Q (.ref a) H2) (fun _ _ _ => False)) : wpAny (model X.prog X.w) X.A (call (.ref C) us kw) (EP X pins σ Q) X.xe s := by
  obtain ⟨nm, q, N, bs, bm, sn, sub, ab, col, dd, k0, k1, k2, k3, k5, hC, hbm⟩ := T.cls
  obtain ⟨hp, g, dr, tk, os⟩ := s
  have up : hp.objs.size ≤ hp.objs.size + 1 := Nat.le_succ _
  have hq := h (hp.objs.size + 1) (I.hok.fresh up)
  have kk : ∀ b o, hp.get? b = some o → ((hp.push (PySem.W.kdv_tup us)).push (PySem.HandSPX.excO C hp.objs.size)).get? b = some o := fun b o y => Heap.get?_push_of_some _ (Heap.get?_push_of_some _ y)
  have he : ((hp.push (PySem.W.kdv_tup us)).push (PySem.HandSPX.excO C hp.objs.size)).get? (hp.objs.size + 1) = some (PySem.HandSPX.excO C hp.objs.size) := by heap_get
  have I2 : Inv X pins σ (upd H (hp.objs.size + 1) (exo (hp.objs.size + 1) C none)) ⟨(hp.push (PySem.W.kdv_tup us)).push (PySem.HandSPX.excO C hp.objs.size), g, dr, tk, os⟩ :=
    I.laid (t' := tk) (a := hp.objs.size + 1) (o := exo (hp.objs.size + 1) C none) (h' := (hp.push (PySem.W.kdv_tup us)).push (PySem.HandSPX.excO C hp.objs.size)) kk up (exo_ok he)
  refine wpAny_call (PySem.ExV.own_call F.excBase_ValueError (fun Y => PySem.HandSPX.refsVE_contains Y bm hbm) (I.kIn _ _ hC) (PySem.W.looks_findIn I.kIn iC) (fun self => PySem.W.bind_fn I.kIn self tI) hl
    (codeAny_mono (F1.run _ X.stack _ _ ⟨Value.ref (hp.objs.size + 1) :: us, kw⟩ (G (.ref (hp.objs.size + 1))) _ _ (fun _ _ _ => False) (hr.make C us kw) (I2.env0.make C us kw) (hb _ _ I2.kIn) (r2 _) hq) fun r s' hq' => ?_))
  cases r with
  | error er => exact hx pins σ _ _ er s' I2 hq'
  | ok fl =>
    cases fl with
    | ret u =>
      obtain ⟨v, H', I3, rv, ev, q3⟩ := I2.after hq'
      subst ev
      exact ⟨rv, ⟨V.ref (hp.objs.size + 1), H', I3, rfl, q3⟩⟩
    | next => exact False.elim hq'
    | brk => exact False.elim hq'
    | cont => exact False.elim hq'
theorem pe_mkv (T : OexC X.K C) (iC : PySem.W.findIn X.K (.ref C) "__init__" = some (some (.ref fI))) (tI : PySem.W.typeIn X.K (.ref fI) = some (.type "function")) (F1 : FnOk X.prog X.w X.K X.mg X.base CX k fI fd ps sp) (hr : Room (k + 1) X.A) (hb : Binds X.K fd ps [])
    (hx : Passes CX X (fun _ _ _ => False)) (hg : Gl X x) (hm : X.mg x = some (.ref C)) (ha : PA X (e :: es) ta) (hdb : (x == ("__debug__" : Str)) = false := by decide) (he : starEach (e :: es) X.env = (false, eval e X.env) :: starEach es X.env := by rfl)
    (hpl : (backTo pos (starEach es X.env)).any (·.1) = false := by rfl) : PE X (.Call (.Name x p) (e :: es) [] pos) (tMkV C sp ta) := by
  refine ⟨fun pins s σ H Q I h => ?_⟩
  refine wpAny_Call_Name_kw (ld_glob I hg hm ?_ hdb)
  refine PySem.W.callWith_K (h₀ := X.base) I.ok.mod.kin T.kC (thn (ha.run pos pins s σ H _ I h) fun us s1 ⟨vs, H1, I1, r1, hz, q1⟩ => ⟨I1.kIn, ?_⟩) he hpl
  have hus : us.length ≤ sizeLine := by
    rw [← Paired.length r1, sizeLine_eq]
    omega
  show wpAny _ _ (call (.ref C) us) _ _ _
  refine run_mkv (gv := fun v => v :: vs) (G := fun u => u :: us) T iC tI F1 hr hx I1 hus (fun s' u X' => ?_) (fun a => .cons rfl r1) q1
  have y := hb s' (u :: us) X' ?_
  · rw [List.append_nil] at y
    exact y
  have el : (Value.ref 0 :: us).length = ps.length := by
    have z := F1.len _ _ _ _ (q1 _ (I1.hok.fresh (Nat.le_refl _)))
    rw [← z]
    exact (Paired.length (F := RelV) (.cons (a := V.ref 0) (b := Value.ref 0) rfl r1)).symm
  simpa using el
theorem pe_mkn {g : List Value → List Value → List Value} {gV : List V → List V → List V} (T : OexC X.K C) (iC : PySem.W.findIn X.K (.ref C) "__init__" = some (some (.ref fI))) (tI : PySem.W.typeIn X.K (.ref fI) = some (.type "function")) (F1 : FnOk X.prog X.w X.K X.mg X.base CX k fI fd ps sp)
    (hr : Room (k + 1) X.A) (hb : KBn X.K fd ps 1 ks g gV) (hx : Passes CX X (fun _ _ _ => False)) (hg : Gl X x) (hm : X.mg x = some (.ref C)) (hkw : PK X kws tk) (hall : (backToKw pos (keywordEach kws X.env)).all (·.1.isSome) = true := by rfl)
    (hks : (backToKw pos (keywordEach kws X.env)).filterMap (·.1) = ks := by rfl) (hdb : (x == ("__debug__" : Str)) = false := by decide) (hpl : ((backTo pos (starEach [] X.env)).any (·.1) || (backToKw pos (keywordEach kws X.env)).any (·.1.isNone)) = false := by rfl) :
    PE X (.Call (.Name x p) [] kws pos) (tMkN C sp ks.length gV tk) := by
  refine ⟨fun pins s σ H Q I h => ?_⟩
  refine wpAny_Call_Name_kw (ld_glob I hg hm ?_ hdb)
  refine PySem.W.callWith_KW0 (h₀ := X.base) I.ok.mod.kin T.kC hall ?_ hpl
  refine thn (hkw.run pos pins s σ H _ I h) fun ws s2 ⟨zs, H2, I2, rz, l1, q2⟩ => ⟨I2.kIn, ?_⟩
  rw [hks]
  exact run_mkv (gv := fun v => gV [v] zs) (G := fun u => g [u] ws) T iC tI F1 hr hx I2 (Nat.zero_le _) (fun s' u X' => hb.to s' [u] ws X' rfl (rz.length.symm.trans l1)) (fun a => hb.rel (.cons rfl .nil) rz) q2
/-- C(), C without an __init__ of its own -/
def tMk0 (C : Addr) : TE := fun _ H Q => ∀ a, H a = none → Q (.ref a) (upd H a (exo a C none))
theorem pe_mk0 (T : OexC X.K C) (iC : PySem.W.findIn X.K (.ref C) "__init__" = some (some (.builtin "ValueError.__init__"))) (hg : Gl X x) (hm : X.mg x = some (.ref C)) (hdb : (x == ("__debug__" : Str)) = false := by decide) :
    PE X (.Call (.Name x p) [] [] pos) (tMk0 C) := by
  refine ⟨fun pins s σ H Q I h => ?_⟩
  refine wpAny_Call_Name_kw (ld_glob I hg hm ?_ hdb)
  refine PySem.W.callWith_K0 (first := []) I.kIn T.kC ?_
  show wpAny _ _ (call (.ref C) []) _ _ _
  obtain ⟨nm, q, N, bs, bm, sn, sub, ab, col, dd, k0, k1, k2, k3, k5, hC, hbm⟩ := T.cls
  obtain ⟨hp, g, dr, tk, os⟩ := s
  have up : hp.objs.size ≤ hp.objs.size + 1 := Nat.le_succ _
  have kk : ∀ b o, hp.get? b = some o → ((hp.push (PySem.W.kdv_tup [])).push (PySem.HandSPX.excO C hp.objs.size)).get? b = some o := fun b o y => Heap.get?_push_of_some _ (Heap.get?_push_of_some _ y)
  have he : ((hp.push (PySem.W.kdv_tup [])).push (PySem.HandSPX.excO C hp.objs.size)).get? (hp.objs.size + 1) = some (PySem.HandSPX.excO C hp.objs.size) := by heap_get
  have I2 : Inv X pins σ (upd H (hp.objs.size + 1) (exo (hp.objs.size + 1) C none)) ⟨(hp.push (PySem.W.kdv_tup [])).push (PySem.HandSPX.excO C hp.objs.size), g, dr, tk, os⟩ :=
    I.laid (t' := tk) (a := hp.objs.size + 1) (o := exo (hp.objs.size + 1) C none) (h' := (hp.push (PySem.W.kdv_tup [])).push (PySem.HandSPX.excO C hp.objs.size)) kk up (exo_ok he)
  refine wpAny_call (PySem.ExV.own_call (fv := .builtin "ValueError.__init__") F.excBase_ValueError (fun Y => PySem.HandSPX.refsVE_contains Y bm hbm) (I.kIn _ _ hC) (PySem.W.looks_findIn I.kIn iC) (fun self => .of_pure (F.excBase_ValueError.init.bind self)) (Nat.zero_le _)
    (PySem.HandSPX.init_base F.excBase_ValueError (fun Y => PySem.HandSPX.refsVE_contains Y bm hbm) (I2.kIn _ _ hC) he (Nat.zero_le _) fun h' t2 kh hx => ?_))
  have eu : upd (upd H (hp.objs.size + 1) (exo (hp.objs.size + 1) C none)) (hp.objs.size + 1) (exo (hp.objs.size + 1) C none) = upd H (hp.objs.size + 1) (exo (hp.objs.size + 1) C none) := upd_upd
  have J := I2.write (t' := tk) (x := hp.objs.size + 1) (e := hp.objs.size + 1) (o := exo (hp.objs.size + 1) C none) (by rw [upd_same]; exact True.intro) (.inl rfl) kh ⟨_, hx⟩ (exo_ok hx)
  rw [eu] at J
  exact ⟨rfl, V.ref (hp.objs.size + 1), _, J, rfl, h _ (I.hok.fresh up)⟩
/-- e.f, e an exception that stands in the heap -/
def tEf (K : PySem.W.Frag) (f : Str) (te : TE) : TE := fun σ H Q => te σ H fun x H1 => ∃ (a C d : Addr) (fs : List (Str × V)) (v : V), x = .ref a ∧ XfC K C ∧ PySem.W.findIn K (.ref C) f = some none ∧ H1 a = some (exo a C (some d)) ∧ H1 d = some (exd d fs) ∧ fs.lookup f = some v ∧ Q v H1
theorem pe_ef {te : TE} {n : Str} (he : PE X e te) (hb : attributeBase e n X.env (eval e X.env) = eval e X.env := by rfl) : PE X (.Attribute e n pos) (tEf X.K n te) := by
  refine ⟨fun pins s σ H Q I h => ?_⟩
  refine attr_of hb (thn (he.run pins s σ H _ I h) fun u s1 hh => ?_)
  obtain ⟨x, H1, I1, rx, a, C, d, fs, v, ex, T, hno, ha, hd, l, q⟩ := hh
  subst ex
  obtain rfl : u = Value.ref a := rx
  obtain ⟨t1, ho⟩ := exo_at I1.hok ha
  obtain ⟨mA, hns, hr⟩ := exd_at I1.hok hd
  obtain ⟨od, ho2, hl⟩ := lookIn_ns hns
  obtain ⟨u, hu, ru⟩ := RelO.some_of (v := v) (o := mA n) (by rw [← l]; exact hr n)
  have J : PySem.W.InstAt s1.heap a _ C (some od) := ⟨ho, rfl, rfl, ho2⟩
  exact HandSPX.exc_get I1.kIn J T.ga T.gg T.exC (PySem.W.findObj_own T.hdC hno rfl (by rw [hl, hu])) (handed_of ru) ⟨v, H1, I1.tok _, ru, q⟩
/-- isinstance(e, D), e an exception that stands in the heap -/
def rIsX (K : PySem.W.Frag) : List V → Hp → VK → Prop := fun xs H Q => ∃ (a C : Addr) (d : Option Addr) (c : V) (cv : Value) (b : Bool), xs = [.ref a, c] ∧ ExcC K C ∧ H a = some (exo a C d) ∧ (∀ dd, d = some dd → ∃ fs, H dd = some (exd dd fs)) ∧ ClsV c cv ∧ PySem.W.kitOne K (.ref C) cv = some b ∧ Q (.bl b) H
theorem call_isX : CallR X (.builtin "isinstance") (rIsX X.K) := by
  intro pins s σ H xs us Q I r h
  obtain ⟨a, C, d, c, cv, b, rfl, EC, ha, hd, kc, e, q⟩ := h
  obtain ⟨u1, u2, rfl, r1, r2⟩ := vals2 r
  cases r1
  have e2 := kc.eq r2
  subst e2
  obtain ⟨t1, ho⟩ := exo_at I.hok ha
  cases d with
  | none =>
    have J : PySem.W.InstAt s.heap a _ C none := ⟨ho, rfl, rfl, trivial⟩
    exact PySem.W.kia_one (PySem.W.ek_kitx EC.hg EC.hk EC.hs EC.hd EC.ha EC.hn EC.ht EC.hm) I.kIn J e (fun z => nomatch z) fun tk => ⟨.bl b, H, I.kept (t' := tk) fun _ _ z => z, rfl, q⟩
  | some dd =>
    obtain ⟨fs, hx⟩ := hd dd rfl
    obtain ⟨mA, hns, _⟩ := exd_at I.hok hx
    obtain ⟨od, ho2, _⟩ := lookIn_ns hns
    have J : PySem.W.InstAt s.heap a _ C (some od) := ⟨ho, rfl, rfl, ho2⟩
    exact PySem.W.kia_one (PySem.W.ek_kitx EC.hg EC.hk EC.hs EC.hd EC.ha EC.hn EC.ht EC.hm) I.kIn J e (fun z => nomatch z) fun tk => ⟨.bl b, H, I.kept (t' := tk) fun _ _ z => z, rfl, q⟩
end
end EK

/-! repr of data with dicts that are empty: only the dicts must stand apart from the modules' table -/
namespace DY
open PySem PySem.Spec PyProof.Rows L2
mutual
/-- v is the data d; a dict is an empty one -/
inductive DE (K : PySem.W.Frag) (H : Hp) : V → PyData → Prop
  | non : DE K H .non .none
  | bl (b : Bool) : DE K H (.bl b) (.bool b)
  | int (i : Int) : DE K H (.int i) (.int i)
  | str (x : Str) : DE K H (.str x) (.str x)
  | lst {a : Addr} {xs : List V} {ds : List PyData} : SqL K H a xs → DEs K H xs ds → DE K H (.ref a) (.list ds)
  | tup {a : Addr} {xs : List V} {ds : List PyData} : SqT K H a xs → DEs K H xs ds → DE K H (.ref a) (.tuple ds)
  | emp {a : Addr} : H a = some (.dK []) → DE K H (.ref a) (.dict [])
  | one {a : Addr} {k : Str} {i : Int} : H a = some (.dK [(.inr k, .int i)]) → DE K H (.ref a) (.dict [(.str k, .int i)])
inductive DEs (K : PySem.W.Frag) (H : Hp) : List V → List PyData → Prop
  | nil : DEs K H [] []
  | cons {v : V} {vs : List V} {d : PyData} {ds : List PyData} : DE K H v d → DEs K H vs ds → DEs K H (v :: vs) (d :: ds)
end
section
variable {X : Cx} {pins : List (Addr × Obj)} {σ : L2.St} {H : Hp} {s : Shared}
theorem emp_at (I : Inv X pins σ H s) {a : Addr} (h : H a = some (.dK [])) : (a == sysModules) = false ∧ ∃ o n, s.heap.get? a = some o ∧ o.cls = .type "dict" ∧ o.data = .dict #[] n := by
  obtain ⟨_, h1, vs, kv, o, es, ep, g, ed, dd, k1, k2, _⟩ := dk_of I.hok h
  cases kv
  have e : es = #[] := by
    cases es with
    | mk l =>
      cases l with
      | nil => rfl
      | cons x r => cases k2
  subst e
  exact ⟨h1, o, ep, g, ed.1, dd⟩
theorem one_at (I : Inv X pins σ H s) {a : Addr} {k : Str} {i : Int} (h : H a = some (.dK [(.inr k, .int i)])) : (a == sysModules) = false ∧ ∃ o n e t1 t2, s.heap.get? a = some o ∧ o.cls = .type "dict" ∧ o.data = .dict #[e] n ∧ e.key = Value.str k t1 ∧ e.val = Value.int i t2 := by
  obtain ⟨_, h1, vs, kv, o, es, ep, g, ed, dd, k1, k2, _⟩ := dk_of I.hok h
  cases kv with
  | cons hp hn =>
    cases hn
    obtain ⟨q1, q2⟩ := hp
    cases es with
    | mk l =>
      cases l with
      | nil => cases k2
      | cons x r =>
        cases k2 with
        | cons r1 r2 r3 =>
          cases r3
          rw [← q1] at r1
          have r1' : keyIs (.inr k) x.key = true := r1
          obtain ⟨i2, t, z, _⟩ | ⟨y, t, z, e1⟩ := keyIs_shape r1'
          · cases z
          · cases z
            obtain ⟨t2, e2⟩ := q2
            exact ⟨h1, o, ep, x, t, t2, g, ed.1, dd, e1, by rw [r2, e2]⟩
/-- how v is read and shown -/
structure Sh (prog : Program) (w : World) (h : Heap) (u : Value) (d : PyData) : Prop where
  r : ∃ as, Reads h u d as
  k : ∃ bs, ReadAtMost h d.depth bs ∧ ReprK prog w bs h d.depth u d.shown
structure Shs (prog : Program) (w : World) (h : Heap) (us : List Value) (ds : List PyData) : Prop where
  r : ∃ as, ReadsAll h us ds as
  k : ∃ bs, ReadAtMost h (PyData.depthAll ds) bs ∧ ReprAllK prog w bs h (PyData.depthAll ds) us (PyData.shownAll ds)
theorem mem_l {t : Str} {ts : List Str} (h : t ∈ ts) : t.length ≤ (listText ts).length := by
  have z := PySem.listText_mem_le h
  exact z
mutual
theorem DE.sh (I : Inv X pins σ H s) : ∀ (d : PyData) (v : V) (u : Value), DE X.K H v d → RelV v u → d.showable = true → d.shown.length ≤ sizeLine → Sh X.prog X.w s.heap u d
  | .none, _, _, h, r, _, _ => by
    cases h
    cases r
    exact ⟨⟨_, Reads.none⟩, [], (fun _ h => nomatch h), by simp only [PyData.shown]; exact .of_is ReprIs.none _ _ _⟩
  | .bool b, _, _, h, r, _, _ => by
    cases h
    cases r
    exact ⟨⟨_, Reads.bool b⟩, [], (fun _ h => nomatch h), by simp only [PyData.shown]; exact .of_is (ReprIs.bool b) _ _ _⟩
  | .int i, _, _, h, r, hs, _ => by
    cases h
    obtain ⟨t, rfl⟩ := r
    exact ⟨⟨_, Reads.int i t⟩, [], (fun _ h => nomatch h), by simp only [PyData.shown]; exact .of_is (ReprIs.int t (by simpa [PyData.showable] using hs)) _ _ _⟩
  | .str x, _, _, h, r, _, hz => by
    cases h
    obtain ⟨t, rfl⟩ := r
    exact ⟨⟨_, Reads.str x t⟩, [], (fun _ h => nomatch h), by simp only [PyData.shown]; exact .of_is (ReprIs.str x t (by simpa only [PyData.shown] using hz)) _ _ _⟩
  | .list ds, _, _, h, r, hs, hz => by
    cases h with
    | lst hq ha =>
      cases r
      obtain ⟨its, rv, ⟨o, n, ho, hc, _, hd⟩, _⟩ := I.list hq
      have hz2 : (listText (PyData.shownAll ds)).length ≤ sizeLine := by simpa only [PyData.shown] using hz
      obtain ⟨⟨as, hr⟩, bs, hb, hk⟩ := DEs.sh I ds _ its ha rv (by simpa [PyData.showable] using hs) fun t ht => Nat.le_trans (listText_mem_le ht) hz2
      have r2 : Reads s.heap _ (.list ds) _ := Reads.list ho hc hd hr
      refine ⟨⟨_, r2⟩, _ :: bs, ReadAtMost.cons r2 (by simp only [PyData.depth]; omega) hb, ?_⟩
      have hna := not_mem_of_deeper r2 (show PyData.depthAll ds < _ by simp only [PyData.depth]; omega) hb
      simp only [PyData.depth, PyData.shown]
      cases its with
      | nil =>
        cases rv
        cases ha
        simp only [PyData.shownAll, listText_nil]
        exact ReprK.listEmpty ho hc hd
      | cons x l => exact ReprK.list ho hc hd hna (by simpa using hk.length_eq) (fun i y e => hk.item i y (by simpa using e))
  | .tuple ds, _, _, h, r, hs, hz => by
    cases h with
    | tup hq ha =>
      cases r
      obtain ⟨its, rv, ⟨o, ho, hc, n, hd⟩, _⟩ := I.tuple hq
      have hz2 : (tupleText (PyData.shownAll ds)).length ≤ sizeLine := by simpa only [PyData.shown] using hz
      obtain ⟨⟨as, hr⟩, bs, hb, hk⟩ := DEs.sh I ds _ its ha rv (by simpa [PyData.showable] using hs) fun t ht => Nat.le_trans (tupleText_mem_le ht) hz2
      have r2 : Reads s.heap _ (.tuple ds) _ := Reads.tuple ho hc hd hr
      refine ⟨⟨_, r2⟩, _ :: bs, ReadAtMost.cons r2 (by simp only [PyData.depth]; omega) hb, ?_⟩
      have hna := not_mem_of_deeper r2 (show PyData.depthAll ds < _ by simp only [PyData.depth]; omega) hb
      simp only [PyData.depth, PyData.shown]
      exact ReprK.tuple ho hc hd hna hk
  | .dict kvs, _, _, h, r, hs, hz => by
    cases h with
    | emp hq =>
      cases r
      obtain ⟨hy, o, n, ho, hc, hd⟩ := emp_at I hq
      have r2 : Reads s.heap _ (.dict []) _ := Reads.dict ho hc hd ReadsAll.nil ReadsAll.nil
      refine ⟨⟨_, r2⟩, [_], ReadAtMost.cons r2 (Nat.le_refl _) (fun _ h => nomatch h), ?_⟩
      simp only [PyData.depth, PyData.shown, PyData.shownKv_eq]
      exact ReprK.dict ho hc hd hy (fun h => nomatch h) (ReprEntriesK.of_two [] _ _ .nil .nil)
    | @one a k i hq =>
      cases r
      obtain ⟨hy, o, n, e, t1, t2, ho, hc, hd, e1, e2⟩ := one_at I hq
      have hs2 : (PyData.int i).showable = true := by
        simp only [PyData.showable, PyData.showableKv, Bool.and_eq_true] at hs ⊢
        first
          | exact hs.1.2
          | exact hs.2.1
          | exact hs.2
          | simpa using hs
      have hz2 : (dictText (PyData.shownKv [(.str k, .int i)])).length ≤ sizeLine := by simpa only [PyData.shown] using hz
      have hk : (PyData.str k).shown.length ≤ sizeLine := by
        have h1 := dictText_mem_le (ps := PyData.shownKv [(.str k, .int i)]) (p := (PyData.str k).shown ++ ": " ++ (PyData.int i).shown) (by simp only [PyData.shownKv]; exact List.mem_cons_self ..)
        rw [Str.length_append, Str.length_append] at h1
        omega
      have rk : Reads s.heap e.key (.str k) [] := by rw [e1]; exact Reads.str k t1
      have rv : Reads s.heap e.val (.int i) [] := by rw [e2]; exact Reads.int i t2
      have r2 : Reads s.heap (.ref a) (.dict [(.str k, .int i)]) _ := Reads.dict ho hc hd (ReadsAll.cons rk ReadsAll.nil) (ReadsAll.cons rv ReadsAll.nil)
      refine ⟨⟨_, r2⟩, [_], ReadAtMost.cons r2 (Nat.le_refl _) (fun _ h => nomatch h), ?_⟩
      simp only [PyData.depth, PyData.shown, PyData.shownKv_eq]
      refine ReprK.dict ho hc hd hy (fun h => nomatch h) (ReprEntriesK.of_two [e] _ _ (.cons ?_ .nil) (.cons ?_ .nil))
      · show ReprK X.prog X.w [] s.heap _ e.key (PyData.str k).shown
        rw [e1]
        simp only [PyData.shown]
        exact .of_is (ReprIs.str k t1 (by simpa only [PyData.shown] using hk)) _ _ _
      · show ReprK X.prog X.w [] s.heap _ e.val (PyData.int i).shown
        rw [e2]
        simp only [PyData.shown]
        exact .of_is (ReprIs.int t2 (by simpa [PyData.showable] using hs2)) _ _ _
theorem DEs.sh (I : Inv X pins σ H s) : ∀ (ds : List PyData) (vs : List V) (us : List Value), DEs X.K H vs ds → Vals vs us → PyData.showableAll ds = true → (∀ t ∈ PyData.shownAll ds, t.length ≤ sizeLine) → Shs X.prog X.w s.heap us ds
  | [], _, _, h, r, _, _ => by
    cases h
    cases r
    exact ⟨⟨_, ReadsAll.nil⟩, [], (fun _ h => nomatch h), by simp only [PyData.shownAll]; exact .nil⟩
  | d :: ds, _, _, h, r, hs, hz => by
    cases h with
    | cons h1 h2 =>
      cases r with
      | cons r1 r2 =>
        have hs2 : d.showable = true ∧ PyData.showableAll ds = true := by simpa [PyData.showableAll] using hs
        obtain ⟨⟨as, q1⟩, b1, hb1, k1⟩ := DE.sh I d _ _ h1 r1 hs2.1 (hz _ (by simp only [PyData.shownAll]; exact List.mem_cons_self ..))
        obtain ⟨⟨bs, q2⟩, b2, hb2, k2⟩ := DEs.sh I ds _ _ h2 r2 hs2.2 fun t ht => hz t (by simp only [PyData.shownAll]; exact List.mem_cons_of_mem _ ht)
        refine ⟨⟨_, ReadsAll.cons q1 q2⟩, b1 ++ b2, fun b hm => ?_, ?_⟩
        · simp only [PyData.depthAll]
          rcases List.mem_append.mp hm with hm | hm
          · obtain ⟨e, ys, y1, y2⟩ := hb1 b hm
            exact ⟨e, ys, y1, Nat.le_trans y2 (Nat.le_max_left _ _)⟩
          · obtain ⟨e, ys, y1, y2⟩ := hb2 b hm
            exact ⟨e, ys, y1, Nat.le_trans y2 (Nat.le_max_right _ _)⟩
        · simp only [PyData.depthAll, PyData.shownAll]
          exact .cons ((k1.more fun b hb => List.mem_append_left _ hb).level_le (Nat.le_max_left _ _)) (k2.more_le (fun b hb => List.mem_append_right _ hb) (Nat.le_max_right _ _))
end
/-- repr of None, or of a tuple of data, where no text is being made -/
structure RX (K : PySem.W.Frag) (xs : List V) (H : Hp) (Q : VK) : Prop where
  ex : (xs = [.non] ∧ Q (.str "None") H) ∨ ∃ a ys ds, xs = [.ref a] ∧ SqT K H a ys ∧ DEs K H ys ds ∧ (PyData.tuple ds).showable = true ∧ (PyData.tuple ds).depth ≤ 64 ∧ (PyData.tuple ds).shown.length ≤ sizeLine ∧ Q (.str (PyData.tuple ds).shown) H
abbrev rRy (K : PySem.W.Frag) : List V → Hp → VK → Prop := fun xs H Q => RX K xs H Q
theorem call_reprY {X : Cx} (hg : X.A.guards = some []) (hu : X.A.units + 70 < cLine) : CallR X (.builtin "repr") (rRy X.K) := by
  intro pins s σ H xs us Q I r h
  rcases h.ex with ⟨rfl, q⟩ | ⟨a, xs, ds, rfl, hq, ha, h1, h3, h4, q⟩
  · obtain ⟨u, rfl, rfl⟩ := vals1 r
    exact PySem.P.repr_of_none ⟨.str _, H, I.tok _, ⟨_, rfl⟩, q⟩
  · obtain ⟨u, rfl, ru⟩ := vals1 r
    have fin : ∀ h' u' tk, (∀ b o, s.heap.get? b = some o → h'.get? b = some o) → EP X pins σ Q (.str (PyData.tuple ds).shown u') { s with heap := h', toks := tk } := fun h' u' tk hk => ⟨.str (PyData.tuple ds).shown, H, I.kept hk, ⟨u', rfl⟩, q⟩
    have un : X.A.units + 1 < cLine := by omega
    cases ru
    obtain ⟨its, rv, ⟨o, ho, hc, n, hd⟩, _⟩ := I.tuple hq
    have hz2 : (tupleText (PyData.shownAll ds)).length ≤ sizeLine := by simpa only [PyData.shown] using h4
    obtain ⟨⟨as, hr⟩, bs, hb, hk⟩ := DEs.sh I ds _ its ha rv (by simpa [PyData.showable] using h1) fun t ht => Nat.le_trans (tupleText_mem_le ht) hz2
    have r2 : Reads s.heap (.ref a) (.tuple ds) _ := Reads.tuple ho hc hd hr
    have hna := not_mem_of_deeper r2 (show PyData.depthAll ds < _ by simp only [PyData.depth]; omega) hb
    simp only [PyData.depth] at h3
    simp only [PyData.shown] at fin
    refine call_repr_slot un ⟨o, ho, hc⟩ F.slot_tuple_repr ?_
    exact call_tuple_reprK ho hc hd hna hk hg (fun b _ => Clear.nil b) (by show X.A.units + 1 + _ < cLine; omega) (fun _ _ e => e) (fun h' u' tk hk' => ⟨_, _, rfl, fin h' u' tk hk'⟩) hz2
end
end DY

/-! x == a text, whatever x is -/
namespace ES
open PySem PySem.Spec PyProof.Rows L2
open AutoSeq1 (wpAny_loadPart')
open MeetsSeq MeetsSeq2 MeetsSeq3 SeqRoads2
theorem dict_says_no (l : Addr) (es : Array DictEntry) (n : Nat) (dd : Option Addr) (sl : Array (Option Value)) (b : Str) (u : Tok) :
    Meets (Builtin.«dict.__eq__» ⟨[.ref l, .str b u], []⟩) (fun _ R s => s.heap.get? l = some { cls := .type "dict", dict := dd, data := .dict es n, slots := sl } ∧ R (.ok (.ret .notImplemented)) s) :=
  .of_wp fun prog w A R s h => by
    obtain ⟨hp, g, d, tk, os⟩ := s
    obtain ⟨hl, h⟩ := h
    have f1 := F.sub_str_dict
    wp_walk using wpAny_loadPart' hl
    exact ⟨_, rfl, h⟩
theorem str_says_no (b : Str) (u : Tok) (l : Addr) (c : Value) (es : Array DictEntry) (n : Nat) (dd : Option Addr) (sl : Array (Option Value)) :
    Meets (Builtin.«str.__eq__» ⟨[.str b u, .ref l], []⟩) (fun _ R s => s.heap.get? l = some { cls := c, dict := dd, data := .dict es n, slots := sl } ∧ R (.ok (.ret .notImplemented)) s) :=
  .of_wp fun prog w A R s h => by
    obtain ⟨hp, g, d, tk, os⟩ := s
    obtain ⟨hl, h⟩ := h
    wp_walk using wpAny_loadPart' hl, wpAny_load hl
    exact ⟨_, rfl, h⟩
theorem dict_str {A : Around} {s : Shared} {l : Addr} {o : Obj} {es : Array DictEntry} {n : Nat} (b : Str) (u : Tok) (ho : s.heap.get? l = some o) (hc : o.cls = .type "dict") (hd : o.data = .dict es n) (hu : A.units < cLine) : SeqAt.RcAt A s (.ref l) (.str b u) false := fun prog w E Q h => by
  obtain ⟨cls, dd, data, sl⟩ := o
  simp only at hc hd
  subst hc hd
  exact SeqAt.rc_eq_decline_or (k := false) ⟨_, ho, rfl⟩ (typeIs_str s b u) (by decide) F.sub_str_dict F.slot_dict_eq F.slot_str_eq_refl
    (fun _ hq => call_meets F.slot_dict_eq ⟨_, ho, rfl⟩ F.entry_dict_eq (F.args_dict_eq_2 _ _) (dict_says_no l es n dd sl b u) ⟨ho, hq⟩)
    (fun _ hq => call_meets F.slot_str_eq_refl (typeIs_str s b u) F.entry_str_eq (F.args_str_eq_2 _ _) (str_says_no b u l (.type "dict") es n dd sl) ⟨ho, hq⟩)
    (fun _ hq => wpAny_of_eq (rfl : isSame (.ref l) (.str b u) = pure false) hq) (.inr hu) h
def rEqS (K : PySem.W.Frag) : R2 := fun x y H Q => rEq x y H Q ∨ ∃ a z, x = .ref a ∧ y = .str z ∧ ((∃ xs, SqL K H a xs) ∨ (∃ xs, SqT K H a xs) ∨ ∃ kvs, H a = some (.dK kvs)) ∧ Q (.bl false) H
theorem op_eqS {X : Cx} (hu : X.A.units + 64 < cLine) : OpR X (compareOp .Eq) (rEqS X.K) := by
  intro pins s σ H x y v u Q I rx ry h
  rcases h with h | ⟨a, z, rfl, rfl, h, q⟩
  · exact op_eq pins s σ H x y v u Q I rx ry h
  · cases (show v = Value.ref a from rx)
    obtain ⟨t, rfl⟩ := ry
    have un : X.A.units < cLine := by omega
    show wpAny _ _ (richCompare .Eq _ _) _ _ _
    rcases h with ⟨xs, h⟩ | ⟨xs, h⟩ | ⟨kvs, h⟩
    · obtain ⟨us, r1, p1, _⟩ := I.list h
      exact (SeqAt.RcAt.list_str z t p1.isList un) X.prog X.w _ _ ⟨.bl false, H, I, rfl, q⟩
    · obtain ⟨us, r1, p1, _⟩ := I.tuple h
      exact (SeqAt.RcAt.tuple_str z t p1 un) X.prog X.w _ _ ⟨.bl false, H, I, rfl, q⟩
    · obtain ⟨_, _, vs, kv, o, es, ep, g, ed, dd, _⟩ := dk_of I.hok h
      exact (dict_str z t g ed.1 dd un) X.prog X.w _ _ ⟨.bl false, H, I, rfl, q⟩
end ES

/-! what may stand where a tree should: any data -/
namespace GX
open PySem PySem.Spec PyProof.Rows L2 Evl TR
inductive Gt where
  | int (i : Int)
  | str (z : Str)
  | bl (b : Bool)
  | oth
  | seq (k : Bool) (gs : List Gt)
mutual
inductive GA (H : Hp) : V → Gt → Prop
  | int (i : Int) : GA H (.int i) (.int i)
  | str (z : Str) : GA H (.str z) (.str z)
  | bl (b : Bool) : GA H (.bl b) (.bl b)
  | non : GA H .non .oth
  | dct {a : Addr} {kvs : List (Key × V)} : H a = some (.dK kvs) → GA H (.ref a) .oth
  | seq {a : Addr} {k : Bool} {vs : List V} {gs : List Gt} : H a = some (ob k vs) → GAs H vs gs → GA H (.ref a) (.seq k gs)
inductive GAs (H : Hp) : List V → List Gt → Prop
  | nil : GAs H [] []
  | cons {v : V} {g : Gt} {vs : List V} {gs : List Gt} : GA H v g → GAs H vs gs → GAs H (v :: vs) (g :: gs)
end
mutual
theorem GA.ex {H H' : Hp} (e : Ex H H') : ∀ {v : V} {g : Gt}, GA H v g → GA H' v g
  | _, _, .int i => .int i
  | _, _, .str z => .str z
  | _, _, .bl b => .bl b
  | _, _, .non => .non
  | _, _, .dct h => .dct (e _ _ h)
  | _, _, .seq h r => .seq (e _ _ h) (GAs.ex e r)
theorem GAs.ex {H H' : Hp} (e : Ex H H') : ∀ {vs : List V} {gs : List Gt}, GAs H vs gs → GAs H' vs gs
  | _, _, .nil => .nil
  | _, _, .cons h r => .cons (GA.ex e h) (GAs.ex e r)
end
section
variable {H : Hp}
theorem GAs.len : ∀ {vs : List V} {gs : List Gt}, GAs H vs gs → vs.length = gs.length
  | _, _, .nil => rfl
  | _, _, .cons _ r => by rw [List.length_cons, List.length_cons, r.len]
theorem GAs.get : ∀ {vs : List V} {gs : List Gt} {i : Nat} {v : V}, GAs H vs gs → vs[i]? = some v → ∃ g, gs[i]? = some g ∧ GA H v g
  | _, _, _, _, .nil, h => by cases h
  | _, _, 0, _, .cons (g := g) a _, h => by
    cases h
    exact ⟨g, rfl, a⟩
  | _, _, i + 1, _, .cons _ r, h => GAs.get (i := i) r h
theorem GAs.get' : ∀ {vs : List V} {gs : List Gt} {i : Nat} {g : Gt}, GAs H vs gs → gs[i]? = some g → ∃ v, vs[i]? = some v ∧ GA H v g
  | _, _, _, _, .nil, h => by cases h
  | _, _, 0, _, .cons (v := v) a _, h => by
    cases h
    exact ⟨v, rfl, a⟩
  | _, _, i + 1, _, .cons _ r, h => GAs.get' (i := i) r h
theorem GAs.app : ∀ {vs : List V} {gs : List Gt} {us : List V} {fs : List Gt}, GAs H vs gs → GAs H us fs → GAs H (vs ++ us) (gs ++ fs)
  | _, _, _, _, .nil, h => h
  | _, _, _, _, .cons h1 r, h => .cons h1 (GAs.app r h)
theorem GAs.snoc {vs : List V} {gs : List Gt} {v : V} {g : Gt} (h : GAs H vs gs) (h1 : GA H v g) : GAs H (vs ++ [v]) (gs ++ [g]) := h.app (.cons h1 .nil)
theorem GAs.rev : ∀ {vs : List V} {gs : List Gt}, GAs H vs gs → GAs H vs.reverse gs.reverse
  | _, _, .nil => .nil
  | _, _, .cons h r => by
    rw [List.reverse_cons, List.reverse_cons]
    exact r.rev.snoc h
theorem GAs.take : ∀ {vs : List V} {gs : List Gt} (k : Nat), GAs H vs gs → GAs H (vs.take k) (gs.take k)
  | _, _, k, .nil => by rw [List.take_nil, List.take_nil]; exact .nil
  | _, _, 0, .cons _ _ => .nil
  | _, _, k + 1, .cons h r => .cons h (GAs.take k r)
theorem GAs.drop : ∀ {vs : List V} {gs : List Gt} (k : Nat), GAs H vs gs → GAs H (vs.drop k) (gs.drop k)
  | _, _, k, .nil => by rw [List.drop_nil, List.drop_nil]; exact .nil
  | _, _, 0, .cons h r => .cons h r
  | _, _, k + 1, .cons _ r => GAs.drop k r
theorem GAs.last : ∀ {vs : List V} {gs : List Gt}, GAs H vs gs → vs ≠ [] → ∃ us v fs g, vs = us ++ [v] ∧ gs = fs ++ [g] ∧ GAs H us fs ∧ GA H v g
  | _, _, .nil, h => absurd rfl h
  | _, _, .cons (v := v) (g := g) h .nil, _ => ⟨[], v, [], g, rfl, rfl, .nil, h⟩
  | _, _, .cons (v := v) (g := g) h (.cons a1 a2), _ => by
    obtain ⟨us, v', fs, g', e1, e2, s, b1⟩ := GAs.last (.cons a1 a2) (by intro q; cases q)
    exact ⟨v :: us, v', g :: fs, g', by rw [e1]; rfl, by rw [e2]; rfl, .cons h s, b1⟩
end
/-! ### the whole of it: how many parts, how deep -/
mutual
def Gt.size : Gt → Nat
  | .seq _ gs => Gt.sizes gs + 1
  | _ => 1
def Gt.sizes : List Gt → Nat
  | [] => 0
  | g :: r => g.size + Gt.sizes r
end
mutual
def Gt.depth : Gt → Nat
  | .seq _ gs => Gt.depths gs + 1
  | _ => 1
def Gt.depths : List Gt → Nat
  | [] => 0
  | g :: r => max g.depth (Gt.depths r)
end
theorem size_pos (g : Gt) : 1 ≤ g.size := by
  cases g <;> simp only [Gt.size] <;> omega
theorem sizes_app : ∀ a b : List Gt, Gt.sizes (a ++ b) = Gt.sizes a + Gt.sizes b
  | [], b => by simp only [List.nil_append, Gt.sizes, Nat.zero_add]
  | g :: r, b => by
    simp only [List.cons_append, Gt.sizes, sizes_app r b]
    omega
theorem sizes_rev : ∀ a : List Gt, Gt.sizes a.reverse = Gt.sizes a
  | [] => rfl
  | g :: r => by
    rw [List.reverse_cons, sizes_app, sizes_rev r]
    simp only [Gt.sizes]
    omega
theorem len_sizes : ∀ a : List Gt, a.length ≤ Gt.sizes a
  | [] => Nat.zero_le _
  | g :: r => by
    have := len_sizes r
    have := size_pos g
    simp only [Gt.sizes, List.length_cons]
    omega
theorem size_mem : ∀ {a : List Gt} {g : Gt}, g ∈ a → g.size ≤ Gt.sizes a
  | x :: r, g, h => by
    simp only [Gt.sizes]
    rcases List.mem_cons.mp h with q | q
    · rw [q]; omega
    · have := size_mem q
      omega
theorem depth_mem : ∀ {a : List Gt} {g : Gt}, g ∈ a → g.depth ≤ Gt.depths a
  | x :: r, g, h => by
    simp only [Gt.depths]
    rcases List.mem_cons.mp h with q | q
    · rw [q]; omega
    · have := depth_mem q
      omega
/-! ### right parts -/
def hd (z : Str) : Gt → Bool
  | .str y => decide (y = z)
  | _ => false
def whole (lo hi : Int) : Gt → Bool
  | .int i => decide (lo ≤ i) && decide (i ≤ hi)
  | _ => false
def seqN (n : Nat) : Gt → Bool
  | .seq _ gs => decide (gs.length = n)
  | _ => false
def isP (l w n : Nat) : Gt → Bool
  | .seq _ [h, a, r] => if hd "read" h = true then whole 0 w a && seqN l r else if hd "tell" h = true then whole 0 2 a else if hd "go" h = true then whole 1 (w + 1) a && whole 0 ((n : Int) - 1) r else false
  | _ => false
def kids : Gt → List Gt
  | .seq _ [h, _, r] => if hd "read" h = true then (match r with
      | .seq _ gs => gs
      | _ => []) else if hd "tell" h = true then [r] else []
  | _ => []
theorem kids_size (g : Gt) : Gt.sizes (kids g) + 1 ≤ g.size := by
  unfold kids
  split
  · rename_i k h a r
    have := size_pos h
    have := size_pos a
    split
    · split
      · simp only [Gt.size, Gt.sizes]
        omega
      · simp only [Gt.size, Gt.sizes]
        omega
    · split
      · simp only [Gt.size, Gt.sizes]
        omega
      · simp only [Gt.size, Gt.sizes]
        omega
  · have := size_pos g
    simp only [Gt.sizes]
    omega
/-! ### the walk -/
def tot (ps : List (Gt × Nat)) : Nat := Gt.sizes (ps.map (·.1))
def fwF (l w n : Nat) : Nat → List (Gt × Nat) → Nat → Bool × Nat
  | 0, _, m => (false, m)
  | _ + 1, [], m => (false, m)
  | f + 1, (g, d) :: r, m => if d > 40 ∨ isP l w n g = false then (true, m) else fwF l w n f ((kids g).map (fun x => (x, d + 1)) ++ r) (m + 1)
theorem fw_nil {l w n f m : Nat} : fwF l w n f [] m = (false, m) := by
  cases f <;> rfl
def cntF : Nat → List Gt → Nat → Nat
  | 0, _, m => m
  | _ + 1, [], m => m
  | f + 1, g :: r, m => cntF f (kids g ++ r) (m + 1)
theorem cnt_nil {f m : Nat} : cntF f [] m = m := by
  cases f <;> rfl
theorem fw_cnt {l w n : Nat} : ∀ {f : Nat} {ps : List (Gt × Nat)} {m N : Nat}, fwF l w n f ps m = (false, N) → cntF f (ps.map (·.1)) m = N
  | 0, _, _, _, h => by cases h; rfl
  | f + 1, [], _, _, h => by cases h; rfl
  | f + 1, (g, d) :: r, m, N, h => by
    unfold fwF at h
    split at h
    · cases h
    · have := fw_cnt h
      rw [List.map_append, List.map_map] at this
      show cntF f (kids g ++ r.map (·.1)) (m + 1) = N
      have e : List.map ((fun x : Gt × Nat => x.1) ∘ fun x => (x, d + 1)) (kids g) = kids g := by
        rw [show ((fun x : Gt × Nat => x.1) ∘ fun x => (x, d + 1)) = (id : Gt → Gt) from rfl, List.map_id]
      rw [e] at this
      exact this
/-- right within so many levels -/
inductive Rt (l w n : Nat) : Nat → Gt → Prop
  | mk {d : Nat} {g : Gt} : isP l w n g = true → (∀ x ∈ kids g, Rt l w n d x) → Rt l w n (d + 1) g
theorem fw_rt {l w n : Nat} : ∀ {f : Nat} {ps : List (Gt × Nat)} {m N : Nat}, fwF l w n f ps m = (false, N) → tot ps ≤ f → ∀ p ∈ ps, Rt l w n (41 - p.2) p.1
  | 0, ps, _, _, _, ht => fun p hp => by
    have : p.1.size ≤ tot ps := size_mem (List.mem_map.mpr ⟨p, hp, rfl⟩)
    have := size_pos p.1
    omega
  | f + 1, [], _, _, _, _ => fun p hp => by cases hp
  | f + 1, (g, d) :: r, m, N, h, ht => by
    unfold fwF at h
    split at h
    · cases h
    · rename_i hc
      have hd : d ≤ 40 := Nat.le_of_not_lt fun z => hc (.inl z)
      have hp : isP l w n g = true := by
        cases q : isP l w n g with
        | true => rfl
        | false => exact absurd (.inr q) hc
      have ks := kids_size g
      have t2 : tot ((kids g).map (fun x => (x, d + 1)) ++ r) ≤ f := by
        unfold tot at ht ⊢
        rw [List.map_append, List.map_map, sizes_app, show ((fun x : Gt × Nat => x.1) ∘ fun x => (x, d + 1)) = (id : Gt → Gt) from rfl, List.map_id]
        simp only [List.map_cons, Gt.sizes] at ht
        omega
      have ih := fw_rt h t2
      intro p hpm
      rcases List.mem_cons.mp hpm with e | e
      · subst e
        show Rt l w n (41 - d) g
        rw [show 41 - d = (40 - d) + 1 by omega]
        refine .mk hp fun x hx => ?_
        have := ih (x, d + 1) (List.mem_append_left _ (List.mem_map.mpr ⟨x, hx, rfl⟩))
        rw [show 40 - d = 41 - (d + 1) by omega]
        exact this
      · exact ih p (List.mem_append_right _ e)
/-! ### the waiting ones, the top at the end -/
inductive Stk (H0 H : Hp) : List V → List (Gt × Nat) → Prop
  | nil : Stk H0 H [] []
  | cons {r : Addr} {v : V} {g : Gt} {d : Nat} {vs : List V} {ps : List (Gt × Nat)} : H r = some (.tup [v, .int (d : Nat)]) → GA H0 v g → Stk H0 H vs ps → Stk H0 H (.ref r :: vs) ((g, d) :: ps)
theorem Stk.ex {H0 H H' : Hp} (e : Ex H H') : ∀ {vs : List V} {ps : List (Gt × Nat)}, Stk H0 H vs ps → Stk H0 H' vs ps
  | _, _, .nil => .nil
  | _, _, .cons h1 h2 r => .cons (e _ _ h1) h2 (Stk.ex e r)
theorem Stk.len {H0 H : Hp} : ∀ {vs : List V} {ps : List (Gt × Nat)}, Stk H0 H vs ps → vs.length = ps.length
  | _, _, .nil => rfl
  | _, _, .cons _ _ r => by rw [List.length_cons, List.length_cons, r.len]
theorem Stk.app {H0 H : Hp} : ∀ {vs : List V} {ps : List (Gt × Nat)} {us : List V} {qs : List (Gt × Nat)}, Stk H0 H vs ps → Stk H0 H us qs → Stk H0 H (vs ++ us) (ps ++ qs)
  | _, _, _, _, .nil, h => h
  | _, _, _, _, .cons h1 h2 r, h => .cons h1 h2 (Stk.app r h)
theorem Stk.upd {H0 H : Hp} {a : Addr} {o : HO} : ∀ {vs : List V} {ps : List (Gt × Nat)}, Stk H0 H vs ps → (∀ xs, H a ≠ some (.tup xs)) → Stk H0 (L2.upd H a o) vs ps
  | _, _, .nil, _ => .nil
  | _, _, .cons (r := r) h1 h2 r1, hn => .cons (by rw [upd_ne (fun q : r = a => hn _ (by rw [← q]; exact h1))]; exact h1) h2 (Stk.upd r1 hn)
theorem Stk.last {H0 H : Hp} : ∀ {vs : List V} {ps : List (Gt × Nat)}, Stk H0 H vs ps → vs ≠ [] →
    ∃ us r v g d qs, vs = us ++ [.ref r] ∧ ps = qs ++ [(g, d)] ∧ Stk H0 H us qs ∧ H r = some (.tup [v, .int (d : Nat)]) ∧ GA H0 v g
  | _, _, .nil, h => absurd rfl h
  | _, _, .cons (r := r) (v := v) (g := g) (d := d) h1 h2 .nil, _ => ⟨[], r, v, g, d, [], rfl, rfl, .nil, h1, h2⟩
  | _, _, .cons (r := r) (v := v) (g := g) (d := d) h1 h2 (.cons a1 a2 a3), _ => by
    obtain ⟨us, r', v', g', d', qs, e1, e2, s, b1, b2⟩ := Stk.last (.cons a1 a2 a3) (by intro q; cases q)
    exact ⟨.ref r :: us, r', v', g', d', (g, d) :: qs, by rw [e1]; rfl, by rw [e2]; rfl, .cons h1 h2 s, b1, b2⟩
theorem tot_app (ps qs : List (Gt × Nat)) : tot (ps ++ qs) = tot ps + tot qs := by
  unfold tot
  rw [List.map_append, sizes_app]
theorem tot_map (gs : List Gt) (d : Nat) : tot (gs.map fun g => (g, d)) = Gt.sizes gs := by
  unfold tot
  rw [List.map_map, show ((fun x : Gt × Nat => x.1) ∘ fun g => (g, d)) = (id : Gt → Gt) from rfl, List.map_id]
theorem len_tot (ps : List (Gt × Nat)) : ps.length ≤ tot ps := by
  have := len_sizes (ps.map (·.1))
  rw [List.length_map] at this
  exact this
/-! ### right trees of the law's own making -/
mutual
def ofT : Tr → Gt
  | .go s q => .seq true [.str "go", .int (s : Nat), .int (q : Nat)]
  | .tell n t => .seq true [.str "tell", .int (n : Nat), ofT t]
  | .read p ts => .seq true [.str "read", .int (p : Nat), .seq true (ofTs ts)]
def ofTs : Trs → List Gt
  | .nil => []
  | .cons t r => ofT t :: ofTs r
end
mutual
theorem TA.ga {H : Hp} : ∀ {t : Tr} {v : V}, TA true H v t → GA H v (ofT t)
  | _, _, .go h => .seq h (.cons (.str _) (.cons (.int _) (.cons (.int _) .nil)))
  | _, _, .tell h r => .seq h (.cons (.str _) (.cons (.int _) (.cons (TA.ga r) .nil)))
  | _, _, .read h hb r => .seq h (.cons (.str _) (.cons (.int _) (.cons (.seq hb (TAs.ga r)) .nil)))
theorem TAs.ga {H : Hp} : ∀ {ts : Trs} {vs : List V}, TAs true H vs ts → GAs H vs (ofTs ts)
  | _, _, .nil => .nil
  | _, _, .cons h r => .cons (TA.ga h) (TAs.ga r)
end
end GX

/-! in a try: C(..) and o.m(..) whose E hangs on the names -/
namespace MS
open PySem PySem.Spec PyProof.Rows L2 EK
section
variable {X : Cx} {CX : CXT} {k : Nat} {f C : Addr} {fd : FuncData} {ps : List Str} {sp : Sp} {dvs : List V} {ds : List Value} {E : L2.St → XK} {x m : Str} {p pos apos : Pos} {e o : Expr} {es : List Expr} {ta : TE} {t : TA}
theorem run_makeS {pins : List (Addr × Obj)} {σ : L2.St} {H : Hp} {s : Shared} {Q : VK} {us : List Value} {vs : List V} (M : Mk X.K C f) (F : FnOk X.prog X.w X.K X.mg X.base CX k f fd ps sp) (hr : Room (k + 1) X.A) (hb : Binds X.K fd ps ds) (hd : Vals dvs ds)
    (hx : PassesAt CX X σ (E σ)) (I : Inv X pins σ H s) (r : Vals vs us)
    (h : ∀ x dx, H x = none → H dx = none → dx ≠ x → sp (.ref x :: (vs ++ dvs)) (upd (upd H dx (.own x)) x (.ins C dx [])) (fun v H2 => v = .non ∧ Q (.ref x) H2) (E σ)) :
    wpAny (model X.prog X.w) X.A (call (.ref C) us) (EP X pins σ Q) X.xe s := by
  have hq := h (s.heap.objs.size + 1) s.heap.objs.size (I.hok.fresh (Nat.le_succ _)) (I.hok.fresh (Nat.le_refl _)) (Nat.ne_of_lt (Nat.lt_succ_self _))
  have I2 := Inv.made (C := C) I
  have r2 : Vals (V.ref (s.heap.objs.size + 1) :: (vs ++ dvs)) (Value.ref (s.heap.objs.size + 1) :: (us ++ ds)) := .cons rfl (r.append hd)
  have hl : (Value.ref (s.heap.objs.size + 1) :: us ++ ds).length = ps.length := by
    have e := r2.length
    rw [F.len _ _ _ _ hq] at e
    exact e.symm
  refine wpAny_call (make_map (f := f) I.kIn M.makes M.init (beq_iff_eq.mp M.fn) (codeAny_mono (F.run _ X.stack _ _ ⟨Value.ref (s.heap.objs.size + 1) :: us, []⟩ (Value.ref (s.heap.objs.size + 1) :: (us ++ ds)) _ _ (E σ) (hr.make C us [])
    (I2.env0.make C us []) (hb _ (Value.ref (s.heap.objs.size + 1) :: us) I2.kIn hl) r2 hq) fun r s' hq' => ?_))
  cases r with
  | error e => exact hx pins _ _ e s' I2 hq'
  | ok fl =>
    cases fl with
    | ret u =>
      obtain ⟨v, H', I3, rv, ev, q3⟩ := I2.after hq'
      subst ev
      exact ⟨rv, ⟨V.ref (s.heap.objs.size + 1), H', I3, rfl, q3⟩⟩
    | next => exact False.elim hq'
    | brk => exact False.elim hq'
    | cont => exact False.elim hq'
def tMakeS (C : Addr) (sp : Sp) (dvs : List V) (E : L2.St → XK) (t : TA) : TE := fun σ H Q => t σ H fun vs H1 => ∀ x dx, H1 x = none → H1 dx = none → dx ≠ x → sp (.ref x :: (vs ++ dvs)) (upd (upd H1 dx (.own x)) x (.ins C dx [])) (fun v H2 => v = .non ∧ Q (.ref x) H2) (E σ)
theorem pe_makeS (M : Mk X.K C f) (F : FnOk X.prog X.w X.K X.mg X.base CX k f fd ps sp) (hr : Room (k + 1) X.A) (hg : Gl X x) (hm : X.mg x = some (.ref C)) (hb : Binds X.K fd ps ds) (hd : Vals dvs ds) (hx : ∀ σ, PassesAt CX X σ (E σ))
    (ha : PA X (e :: es) t) (hdb : (x == ("__debug__" : Str)) = false := by decide) (he : starEach (e :: es) X.env = (false, eval e X.env) :: starEach es X.env := by rfl) (hpl : (backTo pos (starEach es X.env)).any (·.1) = false := by rfl) :
    PE X (.Call (.Name x p) (e :: es) [] pos) (tMakeS C sp dvs E t) := by
  refine ⟨fun pins s σ H Q I h => ?_⟩
  refine wpAny_Call_Name_kw (ld_glob I hg hm ?_ hdb)
  refine PySem.W.callWith_K (h₀ := X.base) I.ok.mod.kin M.kp (thn (ha.run pos pins s σ H _ I h) fun us s1 ⟨vs, H1, I1, r, q⟩ => ⟨I1.kIn, ?_⟩) he hpl
  exact run_makeS M F hr hb hd (hx σ) I1 r q
def tMethS (C : Addr) (m : Str) (sp : Sp) (E : L2.St → XK) (ta : TE) (t : TA) : TE := fun σ H Q => ta σ H fun x H1 => ∃ a dx fs, x = .ref a ∧ H1 a = some (.ins C dx fs) ∧ fs.lookup m = none ∧ t σ H1 fun vs H2 => sp (x :: vs) H2 Q (E σ)
theorem pe_methS {pl : Sem Bool} (he : PE X o ta) (c : Cls X.K C) (hm : Meth X.K C m f) (F : FnOk X.prog X.w X.K X.mg X.base CX k f fd ps sp) (hr : Room k X.A) (hb : Binds X.K fd ps []) (hx : ∀ σ, PassesAt CX X σ (E σ)) (ha : PA X (e :: es) t)
    (hst : starEach (e :: es) X.env = (false, eval e X.env) :: starEach es X.env := by rfl) (hpl : (backTo pos (starEach es X.env)).any (·.1) = false := by rfl)
    (ht : eval (.Call (.Attribute o m apos) (e :: es) [] pos) X.env = (do
      let ov ← eval o X.env
      standAt apos.atName
      let (f, first) ← holding [ov] (getMethod ov m pl)
      callWith pos f first (backTo pos (starEach (e :: es) X.env)) (backToKw pos (keywordEach [] X.env))) := by rfl) :
    PE X (.Call (.Attribute o m apos) (e :: es) [] pos) (tMethS C m sp E ta t) := by
  refine ⟨fun pins s σ H Q I h => ?_⟩
  refine PySem.W.methodCall_KW (pl := pl) (thn (he.run pins s σ H _ I h) fun u s1 ⟨x, H1, I1, rx, a, dx, fs, ex, ea, l, q⟩ => ?_) ht
  subst ex
  obtain rfl : u = Value.ref a := rx
  refine getmeth_ok I1 ea c hm l ?_
  refine PySem.W.callWith_K (first := [.ref a]) (h₀ := X.base) I.ok.mod.kin hm.kp (thn (ha.run pos pins s1 σ H1 _ I1 q) fun us s2 ⟨vs, H2, I2, r, q2⟩ => ⟨I2.kIn, ?_⟩) hst hpl
  exact run_fnS (us := .ref a :: us) (vs := .ref a :: vs) F hr hb (hx σ) I2 (.cons rfl r) q2
end
section
variable {X : Cx} {C : Addr} {x : Str} {p pos : Pos}
/-- raise C(), C without an __init__ of its own -/
theorem pmk_mk0 (T : OexC X.K C) (iC : PySem.W.findIn X.K (.ref C) "__init__" = some (some (.builtin "ValueError.__init__"))) (hg : Gl X x) (hm : X.mg x = some (.ref C)) (hdb : (x == ("__debug__" : Str)) = false := by decide) :
    PMk X (.Call (.Name x p) [] [] pos) (fun _ H Q => Q (.ref C) none H) := by
  intro pins s σ H Q I h
  refine wpAny_Call_Name_kw (ld_glob I hg hm ?_ hdb)
  refine PySem.W.callWith_K0 (first := []) I.kIn T.kC ?_
  show wpAny _ _ (call (.ref C) []) _ _ _
  have RS : Raises X (.ref C) := raises_own T.exC T.tyC
  obtain ⟨nm, q, N, bs, bm, sn, sub, ab, col, dd, k0, k1, k2, k3, k5, hC, hbm⟩ := T.cls
  obtain ⟨hp, g, dr, tk, os⟩ := s
  have up : hp.objs.size ≤ hp.objs.size + 1 := Nat.le_succ _
  have kk : ∀ b o, hp.get? b = some o → ((hp.push (PySem.W.kdv_tup [])).push (PySem.HandSPX.excO C hp.objs.size)).get? b = some o := fun b o y => Heap.get?_push_of_some _ (Heap.get?_push_of_some _ y)
  have he : ((hp.push (PySem.W.kdv_tup [])).push (PySem.HandSPX.excO C hp.objs.size)).get? (hp.objs.size + 1) = some (PySem.HandSPX.excO C hp.objs.size) := by heap_get
  have hnew : hp.get? (hp.objs.size + 1) = none := by
    cases z : hp.get? (hp.objs.size + 1) with
    | none => rfl
    | some o => exact absurd (Heap.lt_size z) (Nat.not_lt.mpr (Nat.le_succ _))
  have I2 : Inv X pins σ (upd H (hp.objs.size + 1) (exo (hp.objs.size + 1) C none)) ⟨(hp.push (PySem.W.kdv_tup [])).push (PySem.HandSPX.excO C hp.objs.size), g, dr, tk, os⟩ :=
    I.laid (t' := tk) (a := hp.objs.size + 1) (o := exo (hp.objs.size + 1) C none) (h' := (hp.push (PySem.W.kdv_tup [])).push (PySem.HandSPX.excO C hp.objs.size)) kk up (exo_ok he)
  refine wpAny_call (PySem.ExV.own_call (fv := .builtin "ValueError.__init__") F.excBase_ValueError (fun Y => PySem.HandSPX.refsVE_contains Y bm hbm) (I.kIn _ _ hC) (PySem.W.looks_findIn I.kIn iC) (fun self => .of_pure (F.excBase_ValueError.init.bind self)) (Nat.zero_le _)
    (PySem.HandSPX.init_base F.excBase_ValueError (fun Y => PySem.HandSPX.refsVE_contains Y bm hbm) (I2.kIn _ _ hC) he (Nat.zero_le _) fun h' t2 kh hx => ?_))
  refine ⟨rfl, hp.objs.size + 1, _, _, ⟨hp, g, dr, tk, os⟩, H, .ref C, none, rfl, I, fun b o y => kh b o (Nat.ne_of_lt (Nat.lt_succ_of_lt (Heap.lt_size y))) (kk b o y), hnew, hx, ⟨rfl, rfl⟩, rfl, rfl, I.hok.fresh up, rfl, I.bare, RS, h⟩
end
/-- isinstance(e, c), e the exception that the suite holds, without a dict -/
def rIsE0 (K : PySem.W.Frag) (cls : Value) (d : Option Addr) (D a : Addr) : List V → Hp → VK → Prop := fun xs H Q => ∃ (c : V) (cv : Value) (b : Bool), xs = [.ref a, c] ∧ cls = .ref D ∧ d = none ∧ ClsV c cv ∧ PySem.W.kitOne K (.ref D) cv = some b ∧ Q (.bl b) H
theorem call_isE0 {X : Cx} {a D : Addr} {cls : Value} {d : Option Addr} {oe : Obj} {pn : List (Addr × Obj)} (C : ExcC X.K D) (hz : Zc cls d oe) (hf : ∃ vs, oe.data = .fields vs) : CallR (X.suite a ((a, oe) :: pn)) (.builtin "isinstance") (rIsE0 X.K cls d D a) := by
  intro pins s σ H xs us Q I r h
  obtain ⟨c, cv, b, rfl, ec, ed, k, e, q⟩ := h
  obtain ⟨u1, u2, rfl, r1, r2⟩ := vals2 r
  cases r1
  have e2 := k.eq r2
  subst e2 ec ed
  obtain ⟨hget, _⟩ := I.pin (a, oe) (List.mem_append.mpr (.inl List.mem_cons_self))
  obtain ⟨vs, hv⟩ := hf
  have J : PySem.W.InstAt s.heap a oe D none := ⟨hget, hz.1, by unfold PySem.W.notCls; rw [hv] <;> rfl, by rw [hz.2]; exact True.intro⟩
  exact PySem.W.kia_one (PySem.W.ek_kitx C.hg C.hk C.hs C.hd C.ha C.hn C.ht C.hm) I.kIn J e (fun z => nomatch z) fun tk => ⟨.bl b, H, I.kept (t' := tk) fun _ _ z => z, rfl, q⟩
theorem pe_bmK {X : Cx} {K : PySem.W.Frag} {c : Expr} {T : String} {r : V → List V → Hp → VK → Prop} {to : TE} {t : TA} (hK : X.K = K) (h : PE X c (tBM X.K T r to t)) : PE X c (tBM K T r to t) := hK ▸ h
theorem call_isE1 {X : Cx} {K : PySem.W.Frag} {a D : Addr} {cls : Value} {d : Option Addr} {oe : Obj} {pn : List (Addr × Obj)} (hK : X.K = K) (C : ExcC K D) (hz : Zc cls d oe) (hf : ∃ vs, oe.data = .fields vs) : CallR (X.suite a ((a, oe) :: pn)) (.builtin "isinstance") (rIsE0 K cls d D a) := by
  subst hK
  exact call_isE0 C hz hf
end MS

/-! xs == [], xs != [] and t != (), whatever stands in them -/
namespace NL
open PySem PySem.Spec PyProof.Rows L2
def rNeNil (K : PySem.W.Frag) : R2 := fun x y H Q => ∃ a b xs, x = .ref a ∧ y = .ref b ∧ SqL K H a xs ∧ SqL K H b [] ∧ Q (.bl (!decide (xs.length = 0))) H
theorem op_neNil {X : Cx} (hu : X.A.units + 64 < cLine) : OpR X (compareOp .NotEq) (rNeNil X.K) := by
  intro pins s σ H x y v u Q I rx ry h
  obtain ⟨a, b, xs, rfl, rfl, ha, hb, q⟩ := h
  cases (show v = Value.ref a from rx)
  cases (show u = Value.ref b from ry)
  obtain ⟨us, r1, p1, _⟩ := I.list ha
  obtain ⟨ws, r2, p2, _⟩ := I.list hb
  cases r2
  have l1 := r1.length
  have un : X.A.units < cLine := by omega
  show wpAny _ _ (richCompare .NotEq _ _) _ _ _
  by_cases hx : xs.length = 0
  · rw [decide_eq_true hx] at q
    have hz : us.toArray.size = ([] : List Value).toArray.size := by rw [List.size_toArray, List.size_toArray, ← l1, hx]; rfl
    refine (SeqAt.RcNeAt.lists (e := fun _ => true) p1.isList p2.isList hz un fun j h1 h2 => absurd h2 (Nat.not_lt_zero j)) X.prog X.w _ _ ?_
    refine ⟨.bl false, H, I, ?_, q⟩
    show Value.bool _ = Value.bool false
    rw [show ((List.range us.toArray.size).all fun _ => true) = true from List.all_eq_true.mpr fun _ _ => rfl]
    rfl
  · rw [decide_eq_false hx] at q
    refine (SeqAt.RcNeAt.lists_lengths p1.isList p2.isList ?_ un) X.prog X.w _ _ ⟨.bl true, H, I, rfl, q⟩
    rw [bne_iff_ne, List.size_toArray, List.size_toArray, ← l1]
    exact hx
end NL
namespace NT
open PySem PySem.Spec PyProof.Rows L2
def rNeT0 (K : PySem.W.Frag) : R2 := fun x y H Q => ∃ a b xs, x = .ref a ∧ y = .ref b ∧ SqT K H a xs ∧ SqT K H b [] ∧ Q (.bl (!decide (xs.length = 0))) H
theorem op_neT0 {X : Cx} (hu : X.A.units + 64 < cLine) : OpR X (compareOp .NotEq) (rNeT0 X.K) := by
  intro pins s σ H x y v u Q I rx ry h
  obtain ⟨a, b, xs, rfl, rfl, ha, hb, q⟩ := h
  cases (show v = Value.ref a from rx)
  cases (show u = Value.ref b from ry)
  obtain ⟨us, r1, p1, _⟩ := I.tuple ha
  obtain ⟨ws, r2, p2, _⟩ := I.tuple hb
  cases r2
  have l1 := r1.length
  have un : X.A.units < cLine := by omega
  show wpAny _ _ (richCompare .NotEq _ _) _ _ _
  refine (SeqAt.RcNeAt.tuples (e := fun _ => true) p1 p2 un fun j h1 h2 => absurd h2 (Nat.not_lt_zero j)) X.prog X.w _ _ ?_
  refine ⟨.bl (!decide (xs.length = 0)), H, I, ?_, q⟩
  show Value.bool _ = Value.bool _
  rw [show ((List.range (min us.toArray.size ([] : List Value).toArray.size)).all fun _ => true) = true from List.all_eq_true.mpr fun _ _ => rfl, List.size_toArray, List.size_toArray, ← l1, Bool.true_and]
  rfl
end NT

namespace Law
open PySem PySem.Spec PyProof.Rows L2 Evl
def top (i : Nat) : Stmt := PySem.Challenge.pw_wordskips_k04_searchers_refused.main.body.getD i (.Pass ⟨0, 0, 0, 0⟩)
abbrev s_wall : Stmt := top 0
abbrev N_wall : List Str := ["k"]
theorem sc_wall : FnScope N_wall ["k"] (defScope s_wall) := ⟨rfl, rfl, rfl, by decide +kernel, rfl, by decide +kernel, by decide +kernel⟩
abbrev s_is_list : Stmt := top 2
abbrev N_is_list : List Str := ["value"]
theorem sc_is_list : FnScope N_is_list ["value"] (defScope s_is_list) := ⟨rfl, rfl, rfl, by decide +kernel, rfl, by decide +kernel, by decide +kernel⟩
abbrev s_is_integer : Stmt := top 3
abbrev N_is_integer : List Str := ["value"]
theorem sc_is_integer : FnScope N_is_integer ["value"] (defScope s_is_integer) := ⟨rfl, rfl, rfl, by decide +kernel, rfl, by decide +kernel, by decide +kernel⟩
abbrev s_is_whole : Stmt := top 4
abbrev N_is_whole : List Str := ["value", "low", "high"]
theorem sc_is_whole : FnScope N_is_whole ["value", "low", "high"] (defScope s_is_whole) := ⟨rfl, rfl, rfl, by decide +kernel, rfl, by decide +kernel, by decide +kernel⟩
abbrev s_are_letters : Stmt := top 5
abbrev N_are_letters : List Str := ["value", "sign"]
theorem sc_are_letters : FnScope N_are_letters ["value"] (defScope s_are_letters) := ⟨rfl, rfl, rfl, by decide +kernel, rfl, by decide +kernel, by decide +kernel⟩
abbrev s_kept : Stmt := top 13
abbrev N_kept : List Str := ["value", "part", "key"]
theorem sc_kept : FnScope N_kept ["value"] (defScope s_kept) := ⟨rfl, rfl, rfl, by decide +kernel, rfl, by decide +kernel, by decide +kernel⟩
abbrev s_first_wrong : Stmt := top 16
abbrev N_first_wrong : List Str := ["tree", "letters", "width", "states", "waiting", "number", "part", "depth", "inner"]
theorem sc_first_wrong : FnScope N_first_wrong ["tree", "letters", "width", "states"] (defScope s_first_wrong) := ⟨rfl, rfl, rfl, by decide +kernel, rfl, by decide +kernel, by decide +kernel⟩
abbrev s_all_parts : Stmt := top 17
abbrev N_all_parts : List Str := ["tree", "waiting", "found", "part", "inner"]
theorem sc_all_parts : FnScope N_all_parts ["tree"] (defScope s_all_parts) := ⟨rfl, rfl, rfl, by decide +kernel, rfl, by decide +kernel, by decide +kernel⟩
abbrev s_renamed : Stmt := top 18
abbrev N_renamed : List Str := ["tree", "names", "head", "number", "rest", "inner"]
theorem sc_renamed : FnScope N_renamed ["tree", "names"] (defScope s_renamed) := ⟨rfl, rfl, rfl, by decide +kernel, rfl, by decide +kernel, by decide +kernel⟩
abbrev s_tree_text : Stmt := top 19
abbrev N_tree_text : List Str := ["letters", "tree", "head", "number", "rest", "branches", "letter", "inner", "inside"]
theorem sc_tree_text : FnScope N_tree_text ["letters", "tree"] (defScope s_tree_text) := ⟨rfl, rfl, rfl, by decide +kernel, rfl, by decide +kernel, by decide +kernel⟩
abbrev s_rough_tree : Stmt := top 20
abbrev N_rough_tree : List Str := ["letters", "line", "words", "word"]
theorem sc_rough_tree : FnScope N_rough_tree ["letters", "line"] (defScope s_rough_tree) := ⟨rfl, rfl, rfl, by decide +kernel, rfl, by decide +kernel, by decide +kernel⟩
abbrev s_is_part : Stmt := top 21
abbrev N_is_part : List Str := ["part", "letters", "width", "states", "head", "number", "rest"]
theorem sc_is_part : FnScope N_is_part ["part", "letters", "width", "states"] (defScope s_is_part) := ⟨rfl, rfl, rfl, by decide +kernel, rfl, by decide +kernel, by decide +kernel⟩
abbrev s_within : Stmt := top 22
abbrev N_within : List Str := ["part"]
theorem sc_within : FnScope N_within ["part"] (defScope s_within) := ⟨rfl, rfl, rfl, by decide +kernel, rfl, by decide +kernel, by decide +kernel⟩
abbrev s_taken_tree : Stmt := top 23
abbrev N_taken_tree : List Str := ["letters", "words", "depth", "head", "slide", "number", "place"]
theorem sc_taken_tree : FnScope N_taken_tree ["letters", "words", "depth"] (defScope s_taken_tree) := ⟨rfl, rfl, rfl, by decide +kernel, rfl, by decide +kernel, by decide +kernel⟩
abbrev s_taken_branches : Stmt := top 24
abbrev N_taken_branches : List Str := ["letters", "words", "depth", "trees", "_"]
theorem sc_taken_branches : FnScope N_taken_branches ["letters", "words", "depth"] (defScope s_taken_branches) := ⟨rfl, rfl, rfl, by decide +kernel, rfl, by decide +kernel, by decide +kernel⟩
abbrev s_taken : Stmt := top 25
abbrev N_taken : List Str := ["words"]
theorem sc_taken : FnScope N_taken ["words"] (defScope s_taken) := ⟨rfl, rfl, rfl, by decide +kernel, rfl, by decide +kernel, by decide +kernel⟩
abbrev s_taken_number : Stmt := top 26
abbrev N_taken_number : List Str := ["words", "word"]
theorem sc_taken_number : FnScope N_taken_number ["words"] (defScope s_taken_number) := ⟨rfl, rfl, rfl, by decide +kernel, rfl, by decide +kernel, by decide +kernel⟩
abbrev s_is_width : Stmt := top 32
abbrev N_is_width : List Str := ["text"]
theorem sc_is_width : FnScope N_is_width ["text"] (defScope s_is_width) := ⟨rfl, rfl, rfl, by decide +kernel, rfl, by decide +kernel, by decide +kernel⟩
abbrev s_lpen : Stmt := top 34
abbrev N_lpen : List Str := ["_law_script"]
theorem sc_lpen : FnScope N_lpen ["_law_script"] (defScope s_lpen) := ⟨rfl, rfl, rfl, by decide +kernel, rfl, by decide +kernel, by decide +kernel⟩
abbrev s_ldraw : Stmt := top 35
abbrev N_ldraw : List Str := ["_law_pen_here", "_law_many", "_law_digit", "_law_k", "_law_cells", "_law_cell", "_law_mix"]
theorem sc_ldraw : FnScope N_ldraw ["_law_pen_here", "_law_many"] (defScope s_ldraw) := ⟨rfl, rfl, rfl, by decide +kernel, rfl, by decide +kernel, by decide +kernel⟩
abbrev s_lpick : Stmt := top 36
abbrev N_lpick : List Str := ["_law_pen_here", "_law_some"]
theorem sc_lpick : FnScope N_lpick ["_law_pen_here", "_law_some"] (defScope s_lpick) := ⟨rfl, rfl, rfl, by decide +kernel, rfl, by decide +kernel, by decide +kernel⟩
abbrev s_lletters : Stmt := top 37
abbrev N_lletters : List Str := ["_law_pen_here", "_law_small", "_law_first_here", "_law_pace", "_law_k"]
theorem sc_lletters : FnScope N_lletters ["_law_pen_here"] (defScope s_lletters) := ⟨rfl, rfl, rfl, by decide +kernel, rfl, by decide +kernel, by decide +kernel⟩
abbrev s_ltree : Stmt := top 38
abbrev N_ltree : List Str := ["_law_pen_here", "_law_letters_here", "_law_width", "_law_states", "_law_depth", "_law_way", "_law_place", "_law_letter"]
theorem sc_ltree : FnScope N_ltree ["_law_pen_here", "_law_letters_here", "_law_width", "_law_states", "_law_depth"] (defScope s_ltree) := ⟨rfl, rfl, rfl, by decide +kernel, rfl, by decide +kernel, by decide +kernel⟩
abbrev s_ltrees : Stmt := top 39
abbrev N_ltrees : List Str := ["_law_pen_here", "_law_letters_here", "_law_width", "_law_many", "_law_depth", "_law_k"]
theorem sc_ltrees : FnScope N_ltrees ["_law_pen_here", "_law_letters_here", "_law_width", "_law_many", "_law_depth"] (defScope s_ltrees) := ⟨rfl, rfl, rfl, by decide +kernel, rfl, by decide +kernel, by decide +kernel⟩
abbrev s_lmet : Stmt := top 40
abbrev N_lmet : List Str := ["_law_letters_here", "_law_width", "_law_states", "e"]
theorem sc_lmet : FnScope N_lmet ["_law_letters_here", "_law_width", "_law_states"] (defScope s_lmet) := ⟨rfl, rfl, rfl, by decide +kernel, rfl, by decide +kernel, by decide +kernel⟩
abbrev s_lis_within : Stmt := top 41
abbrev N_lis_within : List Str := ["_law_value", "_law_low", "_law_high"]
theorem sc_lis_within : FnScope N_lis_within ["_law_value", "_law_low", "_law_high"] (defScope s_lis_within) := ⟨rfl, rfl, rfl, by decide +kernel, rfl, by decide +kernel, by decide +kernel⟩
abbrev s_lis_head : Stmt := top 42
abbrev N_lis_head : List Str := ["_law_value", "_law_world"]
theorem sc_lis_head : FnScope N_lis_head ["_law_value", "_law_world"] (defScope s_lis_head) := ⟨rfl, rfl, rfl, by decide +kernel, rfl, by decide +kernel, by decide +kernel⟩
abbrev s_lfirst : Stmt := top 43
abbrev N_lfirst : List Str := ["_law_state", "_law_world", "_law_waiting", "_law_number", "_law_value", "_law_level", "_law_part"]
theorem sc_lfirst : FnScope N_lfirst ["_law_state", "_law_world"] (defScope s_lfirst) := ⟨rfl, rfl, rfl, by decide +kernel, rfl, by decide +kernel, by decide +kernel⟩
abbrev s_ldue : Stmt := top 44
abbrev N_ldue : List Str := ["_law_letters_here", "_law_width", "_law_states", "_law_total", "_law_state", "_law_is_bad", "_law_number"]
theorem sc_ldue : FnScope N_ldue ["_law_letters_here", "_law_width", "_law_states"] (defScope s_ldue) := ⟨rfl, rfl, rfl, by decide +kernel, rfl, by decide +kernel, by decide +kernel⟩
abbrev s_lbent : Stmt := top 45
abbrev N_lbent : List Str := ["_law_pen_here", "_law_tree_here", "_law_width", "_law_states", "_law_kind", "_law_number", "_law_rest", "_law_at", "_law_strange", "_law_odd", "_law_some"]
theorem sc_lbent : FnScope N_lbent ["_law_pen_here", "_law_tree_here", "_law_width", "_law_states"] (defScope s_lbent) := ⟨rfl, rfl, rfl, by decide +kernel, rfl, by decide +kernel, by decide +kernel⟩
abbrev s_lfull : Stmt := top 46
abbrev N_lfull : List Str := ["_law_letters_here", "_law_depth", "_law_part", "_law_letter"]
theorem sc_lfull : FnScope N_lfull ["_law_letters_here", "_law_depth"] (defScope s_lfull) := ⟨rfl, rfl, rfl, by decide +kernel, rfl, by decide +kernel, by decide +kernel⟩
abbrev s_law : Stmt := top 47
abbrev N_law : List Str := ["_law_script", "_law_pen_here", "_law_turn", "_law_letters_here", "_law_width", "_law_many", "_law_states", "_law_lap", "_law_at", "_law_odd_width", "_law_few", "_law_odd", "_law_deep", "_law_k", "_law_wide"]
theorem sc_law : FnScope N_law ["_law_script"] (defScope s_law) := ⟨rfl, rfl, rfl, by decide +kernel, rfl, by decide +kernel, by decide +kernel⟩
abbrev s_BadLetters_init : Stmt := inClass (top 8) 0
abbrev N_BadLetters_init : List Str := ["self", "letters"]
theorem sc_BadLetters_init : FnScope N_BadLetters_init ["self", "letters"] (defScope s_BadLetters_init) := ⟨rfl, rfl, rfl, by decide +kernel, rfl, by decide +kernel, by decide +kernel⟩
abbrev s_BadWidth_init : Stmt := inClass (top 9) 0
abbrev N_BadWidth_init : List Str := ["self", "width"]
theorem sc_BadWidth_init : FnScope N_BadWidth_init ["self", "width"] (defScope s_BadWidth_init) := ⟨rfl, rfl, rfl, by decide +kernel, rfl, by decide +kernel, by decide +kernel⟩
abbrev s_TooMany_init : Stmt := inClass (top 10) 0
abbrev N_TooMany_init : List Str := ["self", "what", "many", "most"]
theorem sc_TooMany_init : FnScope N_TooMany_init ["self", "what", "many", "most"] (defScope s_TooMany_init) := ⟨rfl, rfl, rfl, by decide +kernel, rfl, by decide +kernel, by decide +kernel⟩
abbrev s_BadTree_init : Stmt := inClass (top 11) 0
abbrev N_BadTree_init : List Str := ["self", "state", "node"]
theorem sc_BadTree_init : FnScope N_BadTree_init ["self", "state", "node"] (defScope s_BadTree_init) := ⟨rfl, rfl, rfl, by decide +kernel, rfl, by decide +kernel, by decide +kernel⟩
abbrev s_Searcher_init : Stmt := inClass (top 31) 0
abbrev N_Searcher_init : List Str := ["self", "letters", "width", "states", "many", "state", "tree", "node", "nodes", "same"]
theorem sc_Searcher_init : FnScope N_Searcher_init ["self", "letters", "width", "states"] (defScope s_Searcher_init) := ⟨rfl, rfl, rfl, by decide +kernel, rfl, by decide +kernel, by decide +kernel⟩

/-! ### the pen -/
def penK (c : Addr) (op lf : Int) : List (Key × V) := [(.inr "cells", .ref c), (.inr "opened", .int op), (.inr "left", .int lf)]
structure PenI where
  d : Addr
  c : Addr
  ns : List Int
def PenAt (p : PenI) (H0 H : Hp) (n : Nat) : Prop := Ex H0 H ∧ H0 p.d = none ∧ H0 p.c = some (.lst (p.ns.map V.int)) ∧ p.ns.length ≤ 63 ∧
  ∃ (op : Nat) (lf : Int), op ≤ n ∧ H p.d = some (.dK (penK p.c op lf))
theorem PenAt.ex {p : PenI} {H0 H H1 : Hp} {n : Nat} (P : PenAt p H0 H n) (e : Ex H H1) : PenAt p H0 H1 n := by
  obtain ⟨e0, h0, hc, hl, op, lf, ho, hd⟩ := P
  exact ⟨e0.trans e, h0, hc, hl, op, lf, ho, e p.d _ hd⟩
theorem PenAt.le {p : PenI} {H0 H : Hp} {n m : Nat} (P : PenAt p H0 H n) (h : n ≤ m) : PenAt p H0 H m := by
  obtain ⟨e0, h0, hc, hl, op, lf, ho, hd⟩ := P
  exact ⟨e0, h0, hc, hl, op, lf, Nat.le_trans ho h, hd⟩
theorem PenAt.dict {p : PenI} {H0 H : Hp} {n : Nat} (P : PenAt p H0 H n) : ∃ kvs, H p.d = some (.dK kvs) := by
  obtain ⟨_, _, _, _, op, lf, _, h⟩ := P
  exact ⟨_, h⟩
theorem PenAt.lst_ne {p : PenI} {H0 H : Hp} {a : Addr} {n : Nat} {xs : List V} (P : PenAt p H0 H n) (h : H a = some (.lst xs)) : a ≠ p.d := by
  obtain ⟨kvs, h2⟩ := P.dict
  exact ne_of h h2 (by intro z; cases z)
/-- an object made meanwhile may change -/
theorem PenAt.upd {p : PenI} {H0 H : Hp} {a : Addr} {n : Nat} {o : HO} (P : PenAt p H0 H n) (h : H0 a = none) (hd : a ≠ p.d) : PenAt p H0 (upd H a o) n := by
  obtain ⟨e0, h0, hc, hl, op, lf, ho, hd'⟩ := P
  exact ⟨e0.mut h, h0, hc, hl, op, lf, ho, by rw [upd_ne hd.symm]; exact hd'⟩
/-- one more object kept, and let go again -/
theorem PenAt.keep {p : PenI} {H0 H : Hp} {a : Addr} {n : Nat} {o : HO} (P : PenAt p H0 H n) (h : H a = some o) (hd : a ≠ p.d) : PenAt p (L2.upd H0 a o) H n := by
  obtain ⟨e0, h0, hc, r⟩ := P
  refine ⟨fun b u e => ?_, by rw [upd_ne hd.symm]; exact h0, ?_, r⟩
  · by_cases q : b = a
    · subst q
      rw [upd_same] at e
      rw [h, e]
    · rw [upd_ne q] at e
      exact e0 b u e
  · by_cases q : p.c = a
    · have e2 := e0 _ _ hc
      rw [q, h] at e2
      rw [q, upd_same, e2]
    · rw [upd_ne q]
      exact hc
theorem PenAt.drop {p : PenI} {H0 H H' : Hp} {a : Addr} {n m : Nat} {o : HO} (P : PenAt p H0 H n) (h : H a = some o) (P' : PenAt p (L2.upd H0 a o) H' m) : PenAt p H0 H' m := by
  refine ⟨fun b u e => ?_, P.2.1, P.2.2.1, P'.2.2.2⟩
  by_cases q : b = a
  · subst q
    have e2 := P.1 _ _ e
    rw [h] at e2
    exact P'.1 _ _ (by rw [upd_same, e2])
  · exact P'.1 _ _ (by rw [upd_ne q]; exact e)
theorem cells_opened : ¬ (("cells" : Str) = "opened") := by decide +kernel
theorem cells_left : ¬ (("cells" : Str) = "left") := by decide +kernel
theorem opened_left : ¬ (("opened" : Str) = "left") := by decide +kernel
theorem get_cells (c : Addr) (op lf : Int) : valV (penK c op lf) (.inr "cells") = some (.ref c) := by
  unfold valV penK
  rw [List.find?_cons_of_pos (by simp)]
  rfl
theorem get_opened (c : Addr) (op lf : Int) : valV (penK c op lf) (.inr "opened") = some (.int op) := by
  unfold valV penK
  rw [List.find?_cons_of_neg (by simpa using cells_opened), List.find?_cons_of_pos (by simp)]
  rfl
theorem get_left (c : Addr) (op lf : Int) : valV (penK c op lf) (.inr "left") = some (.int lf) := by
  unfold valV penK
  rw [List.find?_cons_of_neg (by simpa using cells_left), List.find?_cons_of_neg (by simpa using opened_left), List.find?_cons_of_pos (by simp)]
  rfl
theorem put_opened (c : Addr) (op lf x : Int) : putK (penK c op lf) (.inr "opened") (.int x) = penK c x lf := by
  unfold putK penK
  simp [cells_opened, opened_left, cells_left, Ne.symm opened_left]
theorem put_left (c : Addr) (op lf x : Int) : putK (penK c op lf) (.inr "left") (.int x) = penK c op x := by
  unfold putK penK
  simp [cells_opened, opened_left, cells_left]
theorem dget_of {H : Hp} {d : Addr} {kvs : List (Key × V)} {k : Str} {v : V} (e : H d = some (.dK kvs)) (h : valV kvs (.inr k) = some v) : DGet H d (.str k) (some v) := by
  rw [← h]
  exact DGet.k (k := .inr k) e
theorem dput_of {H : Hp} {d : Addr} {kvs kvs' : List (Key × V)} {k : Str} {v : V} (e : H d = some (.dK kvs)) (hl : kvs.length < 100) (h : putK kvs (.inr k) v = kvs') : DPut H d (.str k) v (upd H d (.dK kvs')) := by
  rw [← h]
  exact DPut.k (k := .inr k) e (Nat.lt_of_lt_of_le hl (by decide))

/-! ### lists of ints as data -/
theorem lay_ints : ∀ ns : List Int, PyData.canLayAll0 (ns.map PyData.int) = true
  | [] => rfl
  | n :: r => by
    show (PyData.canLay0 (.int n) && PyData.canLayAll0 (r.map PyData.int)) = true
    rw [lay_ints r]
    rfl
theorem depth_ints : ∀ ns : List Int, PyData.depthAll (ns.map PyData.int) = 0
  | [] => rfl
  | n :: r => by
    show max (PyData.depth (.int n)) (PyData.depthAll (r.map PyData.int)) = 0
    rw [depth_ints r]
    rfl
theorem shaped_ints (ns : List Int) : SeqAt.shaped (.list (ns.map PyData.int)) = true := by
  unfold SeqAt.shaped
  have e1 : (PyData.list (ns.map PyData.int)).canLay0 = true := lay_ints ns
  have e2 : (PyData.list (ns.map PyData.int)).depth = 1 := by
    show PyData.depthAll (ns.map PyData.int) + 1 = 1
    rw [depth_ints]
  rw [e1, e2]
  rfl
theorem dp_ints {K : PySem.W.Frag} {H : Hp} : ∀ ns : List Int, DpAll K H (ns.map V.int) (ns.map PyData.int)
  | [] => .nil
  | n :: r => .cons (.int n) (dp_ints r)
theorem eqv_nil (ns : List Int) : PyData.eqv (.list (ns.map PyData.int)) (.list []) = ns.isEmpty := by
  cases ns <;> rfl

/-! ### what is known of a def that is called -/
structure Kn (P : Program) (w : World) (K : PySem.W.Frag) (mg : Str → Option Value) (base : Heap) (x : Str) (ps : List Str) (k : Nat) (sp : Sp) where
  f : Addr
  fd : FuncData
  ok : FnOk P w K mg base CX0 k f fd ps sp
  g : mg x = some (.ref f)
  kp : PySem.W.keepIn K (.ref f) = true
  b : Binds K fd ps []
structure Tx (mg : Str → Option Value) where
  len : mg "len" = none
  int : mg "int" = none
  bool : mg "bool" = none
  abs : mg "abs" = none
  min : mg "min" = none
  list : mg "list" = none
  all : mg "all" = none
  range : mg "range" = none
  isinstance : mg "isinstance" = none
  str : mg "str" = none
  set : mg "set" = none
  tuple : mg "tuple" = none
  dict : mg "dict" = none
  enumerate : mg "enumerate" = none
  reversed : mg "reversed" = none
  sum : mg "sum" = none
  k_DEEPEST : Tok
  m_DEEPEST : mg "DEEPEST" = some (.int 40 k_DEEPEST)
  k_MOST_WIDTH : Tok
  m_MOST_WIDTH : mg "MOST_WIDTH" = some (.int 8 k_MOST_WIDTH)
  k_MOST_STATES : Tok
  m_MOST_STATES : mg "MOST_STATES" = some (.int 64 k_MOST_STATES)
  k_MOST_NODES : Tok
  m_MOST_NODES : mg "MOST_NODES" = some (.int 3000 k_MOST_NODES)

def spPen (K : PySem.W.Frag) : Sp := fun vs H Q _ => ∃ (a : Addr) (ns : List Int), vs = [.ref a] ∧ SqL K H a (ns.map V.int) ∧ ns.length ≤ 63 ∧ ∀ p H0 H', Ex H H0 → PenAt p H0 H' 0 → Q (.ref p.d) H'
def spDraw : Sp := fun vs H Q _ => ∃ (p : PenI) (H0 : Hp) (n : Nat) (m : Int), vs = [.ref p.d, .int m] ∧ PenAt p H0 H n ∧ n < 1000000 ∧ 0 < m ∧ m < 1000 ∧ ∀ H' r, PenAt p H0 H' (n + 1) → 0 ≤ r → r < m → Q (.int r) H'

section
variable {P : Program} {w : World} {K : PySem.W.Frag} {mg : Str → Option Value} {base : Heap}
theorem ok_pen {f : Addr} {fd : FuncData} (F : Fun K "_law_pen" "_law_pen" s_lpen f fd) (T : Tx mg) : FnOk P w K mg base CX0 1 f fd ["_law_script"] (spPen K) := by
  refine F.ok sc_lpen (fun vs H Q E h => ?_) (fun cdv A outer s H vs Q E hr h => ?_)
  · obtain ⟨a, ns, rfl, _⟩ := h
    rfl
  · obtain ⟨a, ns, rfl, hS, hl, q⟩ := h
    refine ⟨_, (pss_one (ps_ret (pe_disp (pps_cons pe_str (pe_callTy call_list_of (by rfl) T.list PyProof.Rows.boot_list (pa_cons (pe_slice sl_list (pv 0) po_none (po_some pe_int)) pa_nil)) (pps_cons pe_str pe_int (pps_cons pe_str pe_int pps_nil))) (by rfl) (by rfl) (fun z => by cases z) (by decide)))), ?_⟩
    intro d hd
    have e1 : Ex H (upd H d (.dK [])) := Ex.new hd
    refine ⟨.ref a, rfl, 63, rfl, a, _, rfl, ex_l e1 hS, fun c hc => ?_⟩
    have e2 := e1.trans (Ex.new (o := .lst (cutV (ns.map V.int) none (some 63))) hc)
    refine ⟨c, _, rfl, .inl (.inl (.inl upd_same)), fun c2 hc2 => ?_⟩
    have e3 := e2.trans (Ex.new (o := .lst (cutV (ns.map V.int) none (some 63))) hc2)
    have ncd : c ≠ d := fun z => by rw [z, upd_same] at hc; cases hc
    have nc2c : c2 ≠ c := fun z => by rw [z, upd_same] at hc2; cases hc2
    have nc2d : c2 ≠ d := fun z => by rw [z, upd_ne ncd.symm, upd_same] at hc2; cases hc2
    refine ⟨by rw [upd_ne nc2d.symm, upd_ne ncd.symm, upd_same], penK c2 0 0, rfl, (by show 3 ≤ 15; decide), ?_⟩
    have em : mergeK [] (penK c2 0 0) = penK c2 0 0 := by
      unfold mergeK penK
      simp [putK, cells_opened, opened_left, cells_left]
    rw [em]
    have el : ((cutV (ns.map V.int) none (some 63)) : List V) = ((ns.drop (HT.sIx ns.length 0 none)).take (HT.sIx ns.length ns.length (some 63) - HT.sIx ns.length 0 none)).map V.int := by
      unfold cutV
      rw [List.length_map, List.map_take, List.map_drop]
    have hn2 : H c2 = none := by
      rw [upd_ne nc2c, upd_ne nc2d] at hc2
      exact hc2
    refine q ⟨d, c2, (ns.drop (HT.sIx ns.length 0 none)).take (HT.sIx ns.length ns.length (some 63) - HT.sIx ns.length 0 none)⟩ (upd H c2 (.lst (cutV (ns.map V.int) none (some 63)))) _ (Ex.new hn2) ⟨fun b u e => ?_, ?_, ?_, ?_, 0, 0, Nat.le_refl _, upd_same⟩
    · have nbd : b ≠ d := fun z => by
        rw [z, upd_ne nc2d.symm, hd] at e
        cases e
      rw [upd_ne nbd]
      by_cases z : b = c2
      · subst z
        rw [upd_same] at e ⊢
        exact e
      · rw [upd_ne z] at e ⊢
        exact (e1.trans (Ex.new hc)) _ _ e
    · exact (upd_ne nc2d.symm).trans hd
    · show upd H c2 _ c2 = _
      rw [upd_same, el]
    · rw [List.length_take, List.length_drop]
      omega
theorem ok_draw {f : Addr} {fd : FuncData} (F : Fun K "_law_draw" "_law_draw" s_ldraw f fd) (T : Tx mg) : FnOk P w K mg base CX0 1 f fd ["_law_pen_here", "_law_many"] spDraw := by
  refine F.ok sc_ldraw (fun vs H Q E h => ?_) (fun cdv A outer s H vs Q E hr h => ?_)
  · obtain ⟨p, H0, n, m, rfl, _⟩ := h
    rfl
  · obtain ⟨⟨d, c, ns⟩, H0, n, m, rfl, ⟨e0, h0, hc0, hl, op, lf, ho, hd⟩, hn, hm0, hm1, q⟩ := h
    have hc : H c = some (.lst (ns.map V.int)) := e0 _ _ hc0
    dsimp only at h0 hl hd q ⊢
    have ncd : c ≠ d := ne_of hc hd (by intro z; cases z)
    have fin : ∀ (o2 : Nat) (l2 : Int) (H' : Hp), Ex H0 H' → H' c = some (.lst (ns.map V.int)) → H' d = some (.dK (penK c o2 l2)) → o2 ≤ n + 1 → PenAt ⟨d, c, ns⟩ H0 H' (n + 1) :=
      fun o2 l2 H' x1 x2 x3 x4 => ⟨x1, h0, hc0, hl, o2, l2, x4, x3⟩
    refine ⟨_, (pss_cons (ps_if (pt_cmpR op_gt (pe_dget (hu_of hr) (pv 0) pe_str (fun _ _ => rfl)) pe_int (nomark _)) (pss_cons (ps_set (i := 2) sc_ldraw.nd rfl (Or.inl rfl) (pe_op op_mod (pe_callTy call_int1 (by rfl) T.int PyProof.Rows.boot_int (pa_cons (pe_dget (hu_of hr) (pv 0) pe_str (fun _ _ => rfl)) pa_nil)) (pv 1)))
      (pss_cons (ps_dput (hu_of hr) (pv 0) pe_str (pe_op op_fdivN (pe_dget (hu_of hr) (pv 0) pe_str (fun _ _ => rfl)) (pv 1)) rfl)
      (pss_one (ps_ret (pv 2))))) pss_nil)
      (pss_cons (ps_par (i := 3) (j := 4) (by rfl) sc_ldraw.nd rfl rfl (by decide) rfl rfl (pa_cons (pe_dget (hu_of hr) (pv 0) pe_str (fun _ _ => rfl)) (pa_cons (pe_dget (hu_of hr) (pv 0) pe_str (fun _ _ => rfl)) pa_nil)) (by rfl))
      (pss_cons (ps_dput (hu_of hr) (pv 0) pe_str (pe_op op_add (pv 3) pe_int) rfl)
      (pss_cons (ps_if (pt_cmpR (op_eqD hr.units) (pv 4) (pe_lst pa_nil) (nomark _)) (pss_one (ps_ret (pe_op op_mod (pe_callTy call_int1 (by rfl) T.int PyProof.Rows.boot_int (pa_cons (pe_op op_add (pe_op op_mul pe_int (pv 3)) pe_int) pa_nil)) (pv 1)))) pss_nil)
      (pss_cons (ps_set (i := 5) sc_ldraw.nd rfl (Or.inl rfl) (pe_ix ix_list (pv 4) (pe_op op_mod (pe_callTy call_int1 (by rfl) T.int PyProof.Rows.boot_int (pa_cons (pv 3) pa_nil)) (pe_callB call_len_seq (by rfl) T.len PySem.boot_len (pa_cons (pv 4) pa_nil))) (fun _ _ => rfl)))
      (pss_cons (ps_if (PW.pt (pw_and (pt_cmpR op_lt (pv 3) (pe_callB call_len_seq (by rfl) T.len PySem.boot_len (pa_cons (pv 4) pa_nil)) (nomark _)) (pw_and1 (pt_cmpR op_ge (pe_callB call_abs (by rfl) T.abs (by decide +kernel) (pa_cons (pv 5) pa_nil)) (pe_op op_pow pe_int pe_int) (nomark _))))) (pss_cons (ps_dput (hu_of hr) (pv 0) pe_str (pe_op op_fdivN (pe_op op_sub (pe_callB call_abs (by rfl) T.abs (by decide +kernel) (pa_cons (pv 5) pa_nil)) (pe_op op_pow pe_int pe_int)) (pv 1)) rfl)
      (pss_one (ps_ret (pe_op op_mod (pe_callTy call_int1 (by rfl) T.int PyProof.Rows.boot_int (pa_cons (pe_op op_sub (pe_callB call_abs (by rfl) T.abs (by decide +kernel) (pa_cons (pv 5) pa_nil)) (pe_op op_pow pe_int pe_int)) pa_nil)) (pv 1))))) pss_nil)
      (pss_cons (ps_set (i := 6) sc_ldraw.nd rfl (Or.inl rfl) (pe_op op_mod (pe_callTy call_int1 (by rfl) T.int PyProof.Rows.boot_int (pa_cons (pe_op op_add (pe_op op_add (pe_op op_add (pe_op op_mul (pe_op op_mod (pe_callTy call_int1 (by rfl) T.int PyProof.Rows.boot_int (pa_cons (pv 5) pa_nil)) pe_int) pe_int) (pe_op op_mul (pe_op op_mul pe_int (pv 3)) (pv 3))) (pe_op op_mul pe_int (pv 3))) pe_int) pa_nil)) pe_int))
      (pss_cons (ps_set (i := 6) sc_ldraw.nd rfl (Or.inl rfl) (pe_op op_mod (pe_callTy call_int1 (by rfl) T.int PyProof.Rows.boot_int (pa_cons (pe_op op_add (pe_op op_add (pe_op op_mul (pv 6) (pv 6)) (pe_op op_mul pe_int (pv 6))) (pe_op op_mul pe_int (pv 3))) pa_nil)) pe_int))
      (pss_one (ps_ret (pe_op op_mod (pe_callTy call_int1 (by rfl) T.int PyProof.Rows.boot_int (pa_cons (pe_op op_fdivN (pe_op op_mod (pe_callTy call_int1 (by rfl) T.int PyProof.Rows.boot_int (pa_cons (pe_op op_mul (pv 6) (pe_op op_add (pv 6) pe_int)) pa_nil)) pe_int) pe_int) pa_nil)) (pv 1)))))))))))), ?_⟩
    refine ⟨_, rfl, d, .int lf, rfl, dget_of hd (get_left _ _ _), _, _, rfl, rfl, _, rfl, ite2 (fun hp => ?_) (fun hp => ?_)⟩
    · refine ⟨_, rfl, d, .int lf, rfl, dget_of hd (get_left _ _ _), .inl ⟨_, rfl, ?_⟩⟩
      refine ⟨_, rfl, _, _, rfl, rfl, hm0, ?_⟩
      refine ⟨_, rfl, d, .int lf, rfl, dget_of hd (get_left _ _ _), _, rfl, _, _, rfl, rfl, ⟨by omega, by omega⟩, ?_⟩
      refine ⟨_, rfl, d, _, rfl, dput_of hd (by show 3 < 100; decide) (put_left _ _ _ _), ?_⟩
      refine ⟨_, rfl, ?_⟩
      exact q _ _ (fin op _ _ (e0.mut h0) (by rw [upd_ne ncd]; exact hc) upd_same (by omega)) (Int.emod_nonneg _ (by omega)) (Int.emod_lt_of_pos _ hm0)
    · refine ⟨_, rfl, d, _, rfl, dget_of hd (get_opened _ _ _), _, rfl, d, _, rfl, dget_of hd (get_cells _ _ _), _, _, rfl, ?_⟩
      refine ⟨_, rfl, _, _, rfl, rfl, _, rfl, d, _, rfl, dput_of hd (by show 3 < 100; decide) (put_opened _ _ _ _), ?_⟩
      have x1 : Ex H0 (upd H d (.dK (penK c ((op : Int) + 1) lf))) := e0.mut h0
      have hc1 : (upd H d (.dK (penK c ((op : Int) + 1) lf))) c = some (.lst (ns.map V.int)) := by
        rw [upd_ne ncd]
        exact hc
      have hd1 : (upd H d (.dK (penK c ((op : Int) + 1) lf))) d = some (.dK (penK c ((op + 1 : Nat) : Int) lf)) := upd_same
      generalize (upd H d (.dK (penK c ((op : Int) + 1) lf))) = H1 at x1 hc1 hd1 ⊢
      -- if cells == []
      refine ⟨_, rfl, Nat.zero_le _, fun el hel => ?_⟩
      have x2 := x1.trans (Ex.new (o := .lst []) hel)
      have hc2 : (upd H1 el (.lst [])) c = some (.lst (ns.map V.int)) := Ex.new hel _ _ hc1
      have hd2 : (upd H1 el (.lst [])) d = some (.dK (penK c ((op + 1 : Nat) : Int) lf)) := Ex.new hel _ _ hd1
      refine ⟨.list (ns.map PyData.int), .list [], .lst (sq_of hc2) (dp_ints ns), .lst (xs := []) (sq_of upd_same) .nil, shaped_ints ns, rfl, _, rfl, ?_⟩
      rw [eqv_nil]
      generalize (upd H1 el (.lst [])) = H2 at x2 hc2 hd2 ⊢
      cases hns : ns.isEmpty with
      | true =>
        refine iteT ?_
        refine ⟨_, rfl, _, _, rfl, rfl, .inl (by decide), _, _, rfl, rfl, .inl ⟨_, rfl, _, rfl, _, _, rfl, rfl, hm0, ?_⟩⟩
        exact q _ _ (fin _ _ _ x2 hc2 hd2 (by omega)) (Int.emod_nonneg _ (by omega)) (Int.emod_lt_of_pos _ hm0)
      | false =>
        refine iteF ?_
        have hpos : 0 < ns.length := by
          cases ns with
          | nil => cases hns
          | cons x r => exact Nat.succ_pos _
        have hL : (0 : Int) < ((ns.map V.int).length : Int) := by
          rw [List.length_map]
          omega
        -- cell = cells[int(k) % len(cells)]
        obtain ⟨i, hi⟩ : ∃ i : Nat, (op : Int) % ((ns.map V.int).length : Int) = (i : Int) := ⟨((op : Int) % ((ns.map V.int).length : Int)).toNat, (Int.toNat_of_nonneg (Int.emod_nonneg _ (by omega))).symm⟩
        have hi2 : i < ns.length := by
          have := Int.emod_lt_of_pos (op : Int) hL
          rw [hi, List.length_map] at this
          omega
        have hat : atI (ns.map V.int) ((op : Int) % ((ns.map V.int).length : Int)) = some (V.int ns[i]) := by
          rw [hi]
          exact atI_nat (by rw [List.getElem?_map, List.getElem?_eq_getElem hi2]; rfl)
        refine ⟨_, rfl, _, rfl, .inl ⟨_, rfl, _, rfl, c, _, rfl, .inl (sq_of hc2), _, _, rfl, rfl, hL, c, _, _, _, rfl, rfl, sq_of hc2, hat, ?_⟩⟩
        generalize ns[i] = x
        -- the test
        have hcell : ∀ {σ : L2.St} {H' : Hp}, σ[5]? = some (some (V.int x)) → Ev (tVar 5) σ H' (V.int x) := fun h => ev_var h
        dsimp only [gName]
        refine q_when (b := decide ((op : Int) < ((ns.map V.int).length : Int)) && decide ((10 : Int) ^ (18 : Int).toNat ≤ (if x < 0 then -x else x)))
          (et_and (fun H4 e4 Q4 q4 => ?_) (fun _ H4 e4 Q4 q4 => ?_)) (fun hb H3 e3 => ?_) (fun hb H3 e3 => ?_)
        · exact ⟨_, rfl, _, rfl, c, _, rfl, .inl (sq_of (e4 _ _ hc2)), _, _, rfl, rfl, _, rfl, q4 _ (Ex.refl _)⟩
        · exact ⟨_, rfl, _, rfl, _, _, rfl, rfl, ⟨by decide, by decide, by decide⟩, _, _, rfl, rfl, _, rfl, q4 _ (Ex.refl _)⟩
        · have x3 := x2.trans e3
          refine ⟨_, rfl, _, rfl, _, _, rfl, rfl, ⟨by decide, by decide, by decide⟩, _, _, rfl, rfl, _, rfl, _, _, rfl, rfl, ⟨by omega, by omega⟩, ?_⟩
          refine ⟨_, rfl, d, _, rfl, dput_of (e3 _ _ hd2) (by show 3 < 100; decide) (put_left _ _ _ _), ?_⟩
          refine ⟨_, rfl, _, rfl, _, _, rfl, rfl, ⟨by decide, by decide, by decide⟩, _, _, rfl, rfl, .inl ⟨_, rfl, _, rfl, _, _, rfl, rfl, hm0, ?_⟩⟩
          exact q _ _ (fin _ _ _ (x3.mut h0) (by rw [upd_ne ncd]; exact e3 _ _ hc2) upd_same (by omega)) (Int.emod_nonneg _ (by omega)) (Int.emod_lt_of_pos _ hm0)
        · have x3 := x2.trans e3
          have b1 : (0 : Int) ≤ x % 4294965521 := Int.emod_nonneg _ (by decide)
          have b2 : x % 4294965521 < 4294965521 := Int.emod_lt_of_pos _ (by decide)
          refine ⟨_, rfl, .inl ⟨_, rfl, _, _, rfl, rfl, (by show (0 : Int) < _; decide), _, _, rfl, rfl, .inr ⟨by decide, by decide⟩, ?_⟩⟩
          refine ⟨_, rfl, _, _, rfl, rfl, .inl ⟨by decide, by decide⟩, _, rfl, _, _, rfl, rfl, .inr ⟨by omega, by omega⟩, _, _, rfl, rfl, ?_⟩
          refine ⟨_, rfl, _, _, rfl, rfl, .inl ⟨by decide, by decide⟩, _, _, rfl, rfl, _, _, rfl, rfl, .inl ⟨_, rfl, _, _, rfl, rfl, (by show (0 : Int) < _; decide), ?_⟩⟩
          generalize hy : (x % 4294965521 * 43793 + 25999 * (op : Int) * (op : Int) + 839 * (op : Int) + 67) % 4294965583 = y
          have b3 : 0 ≤ y := by rw [← hy]; exact Int.emod_nonneg _ (by decide)
          have b4 : y < 4294965583 := by rw [← hy]; exact Int.emod_lt_of_pos _ (by decide)
          refine ⟨_, rfl, _, rfl, _, _, rfl, rfl, .inl ⟨by omega, by omega⟩, _, rfl, _, _, rfl, rfl, .inl ⟨by decide, by decide⟩, _, _, rfl, rfl, ?_⟩
          refine ⟨_, rfl, _, _, rfl, rfl, .inl ⟨by decide, by decide⟩, _, _, rfl, rfl, .inl ⟨_, rfl, _, _, rfl, rfl, (by show (0 : Int) < _; decide), ?_⟩⟩
          generalize hz : (y * y + 40163 * y + 31 * (op : Int)) % 4294965511 = z
          have b5 : 0 ≤ z := by rw [← hz]; exact Int.emod_nonneg _ (by decide)
          have b6 : z < 4294965511 := by rw [← hz]; exact Int.emod_lt_of_pos _ (by decide)
          refine ⟨_, rfl, _, rfl, _, _, rfl, rfl, _, _, rfl, rfl, .inl ⟨by omega, by omega⟩, .inl ⟨_, rfl, _, _, rfl, rfl, (by show (0 : Int) < _; decide), _, _, rfl, rfl, ⟨by decide, by decide⟩, .inl ⟨_, rfl, _, rfl, _, _, rfl, rfl, hm0, ?_⟩⟩⟩
          exact q _ _ (fin _ _ _ x3 (e3 _ _ hc2) (e3 _ _ hd2) (by omega)) (Int.emod_nonneg _ (by omega)) (Int.emod_lt_of_pos _ hm0)
end
end Law

namespace Law
open PySem PySem.Spec PyProof.Rows L2 Evl
theorem sz_le {n : Nat} (h : n < 1000) : n ≤ sizeLine := Nat.le_trans (Nat.le_of_lt h) (by decide)
theorem at_draw {α : Type} {xs : List α} {r : Int} (h0 : 0 ≤ r) (h1 : r < (xs.length : Int)) : ∃ v, v ∈ xs ∧ atI xs r = some v := by
  obtain ⟨j, rfl⟩ : ∃ j : Nat, r = (j : Int) := ⟨r.toNat, (Int.toNat_of_nonneg h0).symm⟩
  have hj : j < xs.length := by omega
  exact ⟨xs[j], List.getElem_mem hj, atI_nat (List.getElem?_eq_getElem hj)⟩
def spPickS : Sp := fun vs H Q _ => ∃ (p : PenI) (H0 : Hp) (n : Nat) (z : Str), vs = [.ref p.d, .str z] ∧ PenAt p H0 H n ∧ n < 1000000 ∧ 0 < z.length ∧ z.length < 1000 ∧ ∀ H' c, PenAt p H0 H' (n + 1) → c ∈ z.cps.toList → Q (.str ⟨#[c]⟩) H'
def spPickL : Sp := fun vs H Q _ => ∃ (p : PenI) (H0 : Hp) (a : Addr) (n : Nat) (xs : List V), vs = [.ref p.d, .ref a] ∧ PenAt p H0 H n ∧ n < 1000000 ∧ H a = some (.lst xs) ∧ 0 < xs.length ∧ xs.length < 1000 ∧ ∀ H' v, PenAt p H0 H' (n + 1) → v ∈ xs → Q v H'
section
variable {P : Program} {w : World} {K : PySem.W.Frag} {mg : Str → Option Value} {base : Heap}
theorem ok_pickS {f : Addr} {fd : FuncData} (F : Fun K "_law_pick" "_law_pick" s_lpick f fd) (T : Tx mg) (c_ldraw : Kn P w K mg base "_law_draw" ["_law_pen_here", "_law_many"] 1 spDraw) : FnOk P w K mg base CX0 2 f fd ["_law_pen_here", "_law_some"] spPickS := by
  refine F.ok sc_lpick (fun vs H Q E h => ?_) (fun cdv A outer s H vs Q E hr h => ?_)
  · obtain ⟨p, H0, n, z, rfl, _⟩ := h
    rfl
  · obtain ⟨p, H0, n, z, rfl, P0, hn, hz0, hz1, q⟩ := h
    have ez : z.length = z.cps.toList.length := by simp [Str.length]
    refine ⟨_, (pss_one (ps_ret (pe_ix ix_str (pv 1) (pe_call c_ldraw.ok (hr.mono (by decide)) (by rfl) c_ldraw.g c_ldraw.kp c_ldraw.b .nil pass0 (pa_cons (pv 0) (pa_cons (pe_callB call_len_str (by rfl) T.len PySem.boot_len (pa_cons (pv 1) pa_nil)) pa_nil))) (fun _ _ => rfl)))), ?_⟩
    refine ⟨_, rfl, _, rfl, _, rfl, z, rfl, sz_le hz1, p, H0, n, _, rfl, P0, hn, by omega, by omega, fun H' r P1 r0 r1 => ?_⟩
    obtain ⟨c, hc, ha⟩ := at_draw (xs := z.cps.toList) r0 (by rw [← ez]; exact r1)
    exact ⟨z, r, c, rfl, rfl, sz_le hz1, ha, q _ _ P1 hc⟩
theorem ok_pickL {f : Addr} {fd : FuncData} (F : Fun K "_law_pick" "_law_pick" s_lpick f fd) (T : Tx mg) (c_ldraw : Kn P w K mg base "_law_draw" ["_law_pen_here", "_law_many"] 1 spDraw) : FnOk P w K mg base CX0 2 f fd ["_law_pen_here", "_law_some"] spPickL := by
  refine F.ok sc_lpick (fun vs H Q E h => ?_) (fun cdv A outer s H vs Q E hr h => ?_)
  · obtain ⟨p, H0, a, n, xs, rfl, _⟩ := h
    rfl
  · obtain ⟨p, H0, a, n, xs, rfl, P0, hn, hx, hz0, hz1, q⟩ := h
    refine ⟨_, (pss_one (ps_ret (pe_ix ix_list (pv 1) (pe_call c_ldraw.ok (hr.mono (by decide)) (by rfl) c_ldraw.g c_ldraw.kp c_ldraw.b .nil pass0 (pa_cons (pv 0) (pa_cons (pe_callB call_len_seq (by rfl) T.len PySem.boot_len (pa_cons (pv 1) pa_nil)) pa_nil))) (fun _ _ => rfl)))), ?_⟩
    refine ⟨_, rfl, _, rfl, _, rfl, a, xs, rfl, .inl (sq_of hx), p, upd H0 a (.lst xs), n, _, rfl, P0.keep hx (P0.lst_ne hx), hn, by omega, by omega, fun H' r P1 r0 r1 => ?_⟩
    obtain ⟨v, hv, ha⟩ := at_draw (xs := xs) r0 r1
    exact ⟨a, xs, r, v, rfl, rfl, sq_of (P1.1 _ _ upd_same), ha, q _ _ (P0.drop hx P1) hv⟩
end
end Law

namespace Law
open PySem PySem.Spec PyProof.Rows L2 Evl
def sg (c : Nat) : Str := ⟨#[c]⟩
def tx (l : List Nat) : Str := ⟨l.toArray⟩
theorem tx_len (l : List Nat) : (tx l).length = l.length := by simp [tx, Str.length]
theorem tx_list (l : List Nat) : (tx l).cps.toList = l := rfl
theorem tx_of (z : Str) : tx z.cps.toList = z := TL.ext_tl rfl
theorem sg_len (c : Nat) : (sg c).length = 1 := rfl
theorem joinL_nil : ∀ cs : List Nat, TL.joinL [] (cs.map fun c => [c]) = cs
  | [] => rfl
  | [c] => rfl
  | c :: d :: r => by
    show [c] ++ ([] ++ TL.joinL [] ((d :: r).map fun c => [c])) = c :: d :: r
    rw [joinL_nil (d :: r)]
    rfl
theorem join_sg (cs : List Nat) : Txt.join (Str.ofString "") (cs.map sg) = tx cs := by
  refine TL.ext_tl ?_
  rw [TL.join_eq, TL.tl_join, List.map_map, show TL.tl (Str.ofString "") = [] by decide +kernel]
  exact joinL_nil cs
theorem join_size (cs : List Nat) : ((cs.map sg).map (·.length)).sum = cs.length := by
  induction cs with
  | nil => rfl
  | cons c r ih =>
    show 1 + ((r.map sg).map (·.length)).sum = r.length + 1
    rw [ih, Nat.add_comm]
/-- the signs joined -/
theorem join_done {K : PySem.W.Frag} {H : Hp} {D : Addr} {cs : List Nat} {Q : VK} (hD : H D = some (.lst ((cs.map sg).map V.str))) (hl : cs.length ≤ 1000000) (q : Q (.str (tx cs)) H) :
    ∃ (a : Str) (p : Addr), ∃ ys : List Str, V.str (Str.ofString "") = .str a ∧ [V.ref D] = [.ref p] ∧ (SqL K H p (ys.map V.str) ∨ SqT K H p (ys.map V.str)) ∧ (ys.map (·.length)).sum + ys.length * a.length ≤ 16777216 ∧ Q (.str (Txt.join a ys)) H := by
  refine ⟨_, D, cs.map sg, rfl, rfl, .inl (sq_of hD), ?_, ?_⟩
  · rw [join_size, show (Str.ofString "").length = 0 from rfl]
    omega
  · rw [join_sg]
    exact q
def lets (f p n : Nat) : List Nat := (List.range n).map fun k => 97 + (f + p * k) % 26
def paces : List Nat := [1, 3, 5, 7, 9, 11, 15, 17, 19, 21, 23, 25]
def spLetters : Sp := fun vs H Q _ => ∃ (p : PenI) (H0 : Hp) (n : Nat), vs = [.ref p.d] ∧ PenAt p H0 H n ∧ n < 900000 ∧ ∀ H' f q m, PenAt p H0 H' (n + 3) → f < 26 → q ∈ paces → 2 ≤ m → m ≤ 4 → Q (.str (tx (lets f q m))) H'
theorem abc_at (r : Int) : ∃ c, atI (Str.ofString "abcdefghijklmnopqrstuvwxyz").cps.toList (r % 26) = some c ∧ c = 97 + (r % 26).toNat := by
  have h0 : 0 ≤ r % 26 := Int.emod_nonneg _ (by decide)
  have h1 : r % 26 < 26 := Int.emod_lt_of_pos _ (by decide)
  generalize hi : (r % 26) = i at h0 h1
  obtain ⟨j, rfl⟩ : ∃ j : Nat, i = (j : Int) := ⟨i.toNat, (Int.toNat_of_nonneg h0).symm⟩
  have hj : j < 26 := by omega
  have key : ∀ j : Nat, j < 26 → (Str.ofString "abcdefghijklmnopqrstuvwxyz").cps.toList[j]? = some (97 + j) := by decide +kernel
  exact ⟨97 + j, atI_nat (key j hj), by simp⟩
theorem paces_le : ∀ x ∈ paces, x ≤ 25 := by decide
theorem lets_succ (f p n : Nat) : lets f p (n + 1) = lets f p n ++ [97 + (f + p * n) % 26] := by
  unfold lets
  rw [List.range_succ, List.map_append]
  rfl
theorem lets_len (f p n : Nat) : (lets f p n).length = n := by
  unfold lets
  rw [List.length_map, List.length_range]
theorem sg_snoc (cs : List Nat) (c : Nat) : ((cs.map sg).map V.str) ++ [.str (sg c)] = ((cs ++ [c]).map sg).map V.str := by
  rw [List.map_append, List.map_append]
  rfl
theorem fresh0 {p : PenI} {H0 H : Hp} {n : Nat} {a : Addr} (P : PenAt p H0 H n) (h : H a = none) : H0 a = none := fresh_back P.1 h
theorem fresh_ne {p : PenI} {H0 H : Hp} {n : Nat} {a : Addr} (P : PenAt p H0 H n) (h : H a = none) : a ≠ p.d := by
  obtain ⟨kvs, h2⟩ := P.dict
  intro e
  rw [e, h2] at h
  cases h
section
variable {P : Program} {w : World} {K : PySem.W.Frag} {mg : Str → Option Value} {base : Heap}
theorem ok_letters {f : Addr} {fd : FuncData} (F : Fun K "_law_letters" "_law_letters" s_lletters f fd) (T : Tx mg) (c_ldraw : Kn P w K mg base "_law_draw" ["_law_pen_here", "_law_many"] 1 spDraw)
    (c_pickL : Kn P w K mg base "_law_pick" ["_law_pen_here", "_law_some"] 2 spPickL) : FnOk P w K mg base CX0 3 f fd ["_law_pen_here"] spLetters := by
  refine F.ok sc_lletters (fun vs H Q E h => ?_) (fun cdv A outer s H vs Q E hr h => ?_)
  · obtain ⟨p, H0, n, rfl, _⟩ := h
    rfl
  · obtain ⟨p, H0, n, rfl, P0, hn, q⟩ := h
    refine ⟨_, (pss_cons (ps_asg (pe_tup (pa_cons pe_str (pa_cons (pe_call c_ldraw.ok (hr.mono (by decide)) (by rfl) c_ldraw.g c_ldraw.kp c_ldraw.b .nil pass0 (pa_cons (pv 0) (pa_cons pe_int pa_nil))) pa_nil))) (pg_tup (by rfl) (pgs_cons (pg_name (i := 1) sc_lletters.nd rfl (Or.inr rfl)) (pgs_cons (pg_name (i := 2) sc_lletters.nd rfl (Or.inr rfl)) pgs_nil))))
      (pss_cons (ps_set (i := 3) sc_lletters.nd rfl (Or.inr rfl) (pe_call c_pickL.ok (hr.mono (by decide)) (by rfl) c_pickL.g c_pickL.kp c_pickL.b .nil pass0 (pa_cons (pv 0) (pa_cons (pe_lst (pa_cons pe_int (pa_cons pe_int (pa_cons pe_int (pa_cons pe_int (pa_cons pe_int (pa_cons pe_int (pa_cons pe_int (pa_cons pe_int (pa_cons pe_int (pa_cons pe_int (pa_cons pe_int (pa_cons pe_int pa_nil))))))))))))) pa_nil))))
      (pss_one (ps_ret (pe_join pe_str (pe_lc (own := [("_law_k", 4)]) (g := gName 4) (tt := tYes) rfl sc_lletters.nd (pi_range1 (by rfl) T.range (pa_cons (pe_op op_add pe_int (pe_call c_ldraw.ok (hr.mono (by decide)) (by rfl) c_ldraw.g c_ldraw.kp c_ldraw.b .nil pass0 (pa_cons (pv 0) (pa_cons pe_int pa_nil)))) pa_nil)) (blkOk_by (N := N_lletters) (sc := defScope s_lletters) (by decide +kernel)) (fun _ _ _ _ _ => (pg_name (i := 4) sc_lletters.nd rfl (Or.inl rfl))) (fun _ _ _ _ _ => pts_nil) (fun _ _ _ _ _ => (pe_ix ix_str (pv 1) (pe_op op_mod (pe_callTy call_int1 (by rfl) T.int PyProof.Rows.boot_int (pa_cons (pe_op op_add (pv 2) (pe_op op_mul (pv 3) (pv 4))) pa_nil)) pe_int) (fun _ _ => rfl))))))))), ?_⟩
    refine ⟨_, rfl, p, H0, n, 26, rfl, P0, by omega, by decide, by decide, fun H1 r P1 r0 r1 => ⟨by show 2 ≤ sizeLine; decide, fun t ht => ?_⟩⟩
    refine ⟨t, _, rfl, .inl (.inl upd_same), rfl, _, _, rfl, _, _, rfl, rfl, ?_⟩
    have P2 := P1.ex (Ex.new (o := .tup [V.str (Str.ofString "abcdefghijklmnopqrstuvwxyz"), V.int r]) ht)
    generalize (upd H1 t (.tup [V.str (Str.ofString "abcdefghijklmnopqrstuvwxyz"), V.int r])) = H2 at P2 ⊢
    refine ⟨_, rfl, by show 12 ≤ sizeLine; decide, fun l hl => ⟨p, H0, l, n + 1, _, rfl, P2.ex (Ex.new hl), by omega, upd_same, by show 0 < 12; decide, by show 12 < 1000; decide, fun H3 v P3 hv => ?_⟩⟩
    obtain ⟨pc, hpc, rfl⟩ : ∃ pc : Nat, pc ∈ paces ∧ v = .int pc := by
      have hv2 : v ∈ paces.map fun pc => V.int ((pc : Nat) : Int) := hv
      obtain ⟨x, h1, h2⟩ := List.mem_map.mp hv2
      exact ⟨x, h1, h2.symm⟩
    refine ⟨⟨_, rfl⟩, _, rfl, p, H0, n + 2, 3, rfl, P3, by omega, by decide, by decide, fun H4 r2 P4 s0 s1 => ⟨_, _, rfl, rfl, _, rfl, by omega, by omega, fun D hD => ?_⟩⟩
    obtain ⟨m, hm⟩ : ∃ m : Nat, (2 + r2).toNat = m := ⟨_, rfl⟩
    obtain ⟨fr, rfl⟩ : ∃ fr : Nat, r = (fr : Int) := ⟨r.toNat, (Int.toNat_of_nonneg r0).symm⟩
    rw [hm]
    have pc1 := paces_le pc hpc
    have d0 := fresh0 P4 hD
    have d1 := fresh_ne P4 hD
    refine lc_range (lo := 0) (n := m) (fun i H => PenAt p H0 H (n + 3) ∧ H D = some (.lst (((lets fr pc i).map sg).map V.str))) ⟨(P4.upd d0 d1).le (by omega), upd_same⟩ (fun i H hi hw => ?_) (fun H hw => ?_)
    · refine ⟨rfl, _, rfl, _, rfl, _, rfl, _, rfl, _, _, rfl, rfl, .inl ⟨by omega, by omega⟩, _, _, rfl, rfl, .inl ⟨_, rfl, _, _, rfl, rfl, (by show (0 : Int) < 26; decide), ?_⟩⟩
      obtain ⟨c, hc1, hc2⟩ := abc_at ((fr : Int) + (pc : Int) * ((0 : Int) + (i : Int)))
      refine ⟨_, _, c, rfl, rfl, by decide +kernel, hc1, _, hw.2, ?_, hw.1.upd d0 d1, ?_⟩
      · rw [List.length_map, List.length_map, lets_len]
        exact Nat.lt_of_lt_of_le (show i < 100 by omega) (by decide)
      · rw [upd_same]
        refine congrArg (fun l => some (HO.lst l)) ?_
        rw [lets_succ, ← sg_snoc]
        have e : c = 97 + (fr + pc * i) % 26 := by
          rw [hc2]
          have e1 : ((fr : Int) + (pc : Int) * ((0 : Int) + (i : Int))) = ((fr + pc * i : Nat) : Int) := by
            rw [Int.zero_add]
            simp
          rw [e1]
          omega
        rw [e]
        rfl
    · exact join_done hw.2 (by unfold lets; rw [List.length_map, List.length_range]; omega) (q _ _ _ _ hw.1 (by omega) hpc (by omega) (by omega))
end
end Law

namespace Law
open PySem PySem.Spec PyProof.Rows L2 Evl TR
theorem fold_app (l : List (Array Nat)) : ∀ a : Array Nat, (l.foldl (· ++ ·) a).toList = a.toList ++ (l.map Array.toList).flatten := by
  induction l with
  | nil => intro a; simp
  | cons x r ih =>
    intro a
    rw [List.foldl_cons, ih, List.map_cons, List.flatten_cons, Array.toList_append, List.append_assoc]
theorem mul_tx (l : List Nat) {n : Int} (h : 1 ≤ n) : Txt.mul (tx l) n = tx (List.replicate n.toNat l).flatten := by
  refine TL.ext_tl ?_
  unfold Txt.mul
  rw [if_neg (by omega)]
  by_cases q : (n == 1 || (tx l).length == 0) = true
  · rw [if_pos q]
    rw [Bool.or_eq_true, beq_iff_eq, beq_iff_eq] at q
    rcases q with q | q
    · subst q
      show l = (List.replicate 1 l).flatten
      simp
    · rw [tx_len] at q
      have e : l = [] := List.length_eq_zero_iff.mp q
      subst e
      show ([] : List Nat) = (List.replicate n.toNat []).flatten
      simp
  · rw [if_neg q]
    show (List.foldl (· ++ ·) #[] (List.replicate n.toNat (tx l).cps)).toList = (List.replicate n.toNat l).flatten
    rw [fold_app, List.map_replicate]
    rfl
theorem rep_len (n : Nat) (l : List Nat) : (List.replicate n l).flatten.length = n * l.length := by
  induction n with
  | zero => simp
  | succ k ih => rw [List.replicate_succ, List.flatten_cons, List.length_append, ih, Nat.succ_mul, Nat.add_comm]
theorem cut_to (l : List Nat) (k : Nat) : cutS (tx l) none (some (k : Int)) = tx (l.take k) := by
  refine TL.ext_tl ?_
  show (List.take _ (List.drop _ l)) = l.take k
  rw [HT.sIx_none, HT.sIx_nat, tx_len, Nat.sub_zero, List.drop_zero]
  rw [List.take_eq_take_iff]
  omega
theorem cut_from (l : List Nat) (k : Nat) : cutS (tx l) (some (k : Int)) none = tx (l.drop k) := by
  refine TL.ext_tl ?_
  show (List.take _ (List.drop _ l)) = l.drop k
  rw [HT.sIx_none, HT.sIx_nat, tx_len]
  by_cases h : k ≤ l.length
  · rw [Nat.min_eq_left h, List.take_of_length_le (by rw [List.length_drop]; omega)]
  · rw [Nat.min_eq_right (by omega), Nat.sub_self, List.take_zero, List.drop_eq_nil_of_le (by omega)]
theorem cut_mid (l : List Nat) (a b : Nat) : cutS (tx l) (some (a : Int)) (some ((a : Int) + (b : Int))) = tx ((l.drop a).take b) := by
  refine TL.ext_tl ?_
  show (List.take _ (List.drop _ l)) = (l.drop a).take b
  rw [show (a : Int) + (b : Int) = ((a + b : Nat) : Int) by omega, HT.sIx_nat, HT.sIx_nat, tx_len]
  by_cases h : a ≤ l.length
  · rw [Nat.min_eq_left h, List.take_eq_take_iff, List.length_drop]
    omega
  · have x1 : min a l.length = l.length := by omega
    have x2 : min (a + b) l.length = l.length := by omega
    rw [x1, x2, List.drop_length, List.drop_eq_nil_of_le (show l.length ≤ a by omega), List.take_nil, List.take_nil]
theorem join_bound (cs : List Nat) (h : cs.length ≤ 1000000) : ((cs.map sg).map (·.length)).sum + (cs.map sg).length * (Str.ofString "").length ≤ 16777216 := by
  rw [join_size, show (Str.ofString "").length = 0 from rfl]
  omega
theorem tx_le {l : List Nat} (h : l.length < 1000) : (tx l).length ≤ sizeLine := by
  rw [tx_len]
  exact sz_le h
theorem sg_tx (c : Nat) : sg c = tx [c] := rfl
theorem mem_rep {n : Nat} {l : List Nat} {c : Nat} (h : c ∈ (List.replicate n l).flatten) : c ∈ l := by
  obtain ⟨m, hm, hc⟩ := List.mem_flatten.mp h
  rw [List.eq_of_mem_replicate hm] at hc
  exact hc
theorem tx_app (l m : List Nat) : tx l ++ tx m = tx (l ++ m) := by
  refine TL.ext_tl ?_
  rw [TL.tl_append]
  rfl
theorem sgs_of (l : List Nat) : ST.signsOf (tx l) = l.map sg := rfl
theorem tx_size (l : List Nat) : (tx l).cps.size = l.length := by simp [tx]
theorem tx_at {l : List Nat} {i c : Nat} (h : (tx l).cps[i]? = some c) : l[i]? = some c := by
  rw [← h]
  simp [tx]
theorem sg_inj2 {c d : Nat} (h : sg c = sg d) : c = d := by
  have h2 : (sg c).cps.toList = (sg d).cps.toList := by rw [h]
  exact List.head_eq_of_cons_eq h2
theorem dct_nodup {l : List Nat} (h : l.Nodup) : ∀ i, i ≤ l.length → ST.dct (l.map sg) i = i
  | 0, _ => rfl
  | i + 1, hi => by
    have ih := dct_nodup h i (by omega)
    unfold ST.dct
    have hno : (((l.map sg).take i).any (· == (l.map sg).getD i Str.empty)) = false := by
      rw [Bool.eq_false_iff]
      intro q
      rw [List.any_eq_true] at q
      obtain ⟨x, hx, he⟩ := q
      rw [beq_iff_eq] at he
      have hi2 : i < l.length := by omega
      have e1 : (l.map sg).getD i Str.empty = sg l[i] := by
        rw [List.getD_eq_getElem?_getD, List.getElem?_map, List.getElem?_eq_getElem hi2]
        rfl
      rw [e1] at he
      obtain ⟨j, hj, ej⟩ := List.mem_iff_getElem.mp hx
      rw [List.length_take, List.length_map] at hj
      have ej2 : sg (l[j]'(by omega)) = x := by
        rw [← ej, List.getElem_take, List.getElem_map]
      have e2 : l[j]'(by omega) = l[i] := sg_inj2 (ej2.trans he)
      exact List.pairwise_iff_getElem.mp h j i (by omega) hi2 (by omega) e2
    rw [hno]
    show (if false = true then _ else _) = i + 1
    rw [if_neg (by decide), ih]
/-- letters: two to four different small ones -/
structure LG (l : List Nat) : Prop where
  lo : 2 ≤ l.length
  hi : l.length ≤ 4
  az : ∀ c ∈ l, 97 ≤ c ∧ c ≤ 122
  nd : l.Nodup
theorem lets_good {f p m : Nat} (hf : f < 26) (hp : p ∈ paces) (h1 : 2 ≤ m) (h2 : m ≤ 4) : LG (lets f p m) := by
  refine ⟨by rw [lets_len]; exact h1, by rw [lets_len]; exact h2, fun c hc => ?_, ?_⟩
  · unfold lets at hc
    obtain ⟨k, _, rfl⟩ := List.mem_map.mp hc
    omega
  · have key : ∀ f : Nat, f < 26 → ∀ p ∈ paces, (lets f p 2).Nodup ∧ (lets f p 3).Nodup ∧ (lets f p 4).Nodup := by decide +kernel
    obtain ⟨a, b, c⟩ := key f hf p hp
    have hm : m = 2 ∨ m = 3 ∨ m = 4 := by omega
    rcases hm with rfl | rfl | rfl <;> assumption
def spAreL : Sp := fun vs H Q _ => ∃ L : List Nat, vs = [.str (tx L)] ∧ LG L ∧ ∀ H', Ex H H' → Q (.bl true) H'
theorem kit_lt {K : PySem.W.Frag} : PySem.W.kitAny K (.type "list") [.type "list", .type "tuple"] = some true :=
  kitAny_cons (b := true) (kit_ty (by decide +kernel)) (fun h => by cases h) fun _ => rfl
theorem kit_tt {K : PySem.W.Frag} : PySem.W.kitAny K (.type "tuple") [.type "list", .type "tuple"] = some true :=
  kitAny_cons (b := false) (kit_ty (by decide +kernel)) (fun _ => kitAny_cons (b := true) (kit_ty (by decide +kernel)) (fun h => by cases h) fun _ => rfl) fun h => by cases h
theorem kit_ss {K : PySem.W.Frag} : PySem.W.kitOne K (.type "str") (.type "str") = some true := kit_ty (by decide +kernel)
theorem kit_ii {K : PySem.W.Frag} : PySem.W.kitOne K (.type "int") (.type "int") = some true := kit_ty (by decide +kernel)
theorem kit_ib {K : PySem.W.Frag} : PySem.W.kitOne K (.type "int") (.type "bool") = some false := kit_ty (by decide +kernel)
def spIsQ : Sp := fun vs H Q _ => ∃ (a : Addr) (k : Bool) (xs : List V), vs = [.ref a] ∧ H a = some (ob k xs) ∧ ∀ H', Ex H H' → Q (.bl true) H'
def spIsInt : Sp := fun vs H Q _ => ∃ v : Int, vs = [.int v] ∧ ∀ H', Ex H H' → Q (.bl true) H'
def spWhole : Sp := fun vs H Q _ => ∃ v lo hi : Int, vs = [.int v, .int lo, .int hi] ∧ lo ≤ v ∧ v ≤ hi ∧ ∀ H', Ex H H' → Q (.bl true) H'
def spIsPart : Sp := fun vs H Q _ => ∃ (t : Tr) (v : V) (k : Bool) (L : List Nat) (w n : Nat), vs = [v, .str (tx L), .int (w : Int), .int (n : Int)] ∧ TA k H v t ∧ t.ok L.length w n ∧ L.length ≤ 10 ∧ ∀ H', Ex H H' → Q (.bl true) H'
def spWithin : Sp := fun vs H Q _ => ∃ (t : Tr) (v : V) (k : Bool) (H0 : Hp), vs = [v] ∧ TA k H0 v t ∧ Ex H0 H ∧ ∀ r H' us, Ex H H' → H r = none → H' r = some (.lst us) → Kids k H0 us t.kids → Q (.ref r) H'
theorem go_ne_read : ¬ (V.str (Str.ofString "go") = V.str (Str.ofString "read")) := fun h => absurd (V.str.inj h) (by decide +kernel)
theorem go_ne_tell : ¬ (V.str (Str.ofString "go") = V.str (Str.ofString "tell")) := fun h => absurd (V.str.inj h) (by decide +kernel)
theorem tell_ne_read : ¬ (V.str (Str.ofString "tell") = V.str (Str.ofString "read")) := fun h => absurd (V.str.inj h) (by decide +kernel)
theorem tell_ne_go : ¬ (V.str (Str.ofString "tell") = V.str (Str.ofString "go")) := fun h => absurd (V.str.inj h) (by decide +kernel)
theorem read_ne_go : ¬ (V.str (Str.ofString "read") = V.str (Str.ofString "go")) := fun h => absurd (V.str.inj h) (by decide +kernel)
theorem read_ne_tell : ¬ (V.str (Str.ofString "read") = V.str (Str.ofString "tell")) := fun h => absurd (V.str.inj h) (by decide +kernel)
theorem iteD {c A B : Prop} [Decidable c] (hc : c) (h : A) : if decide c = true then A else B := by
  rw [if_pos (decide_eq_true hc)]
  exact h
theorem iteDn {c A B : Prop} [Decidable c] (hc : ¬ c) (h : B) : if decide c = true then A else B := by
  rw [if_neg (by rw [decide_eq_true_eq]; exact hc)]
  exact h
section
variable {P : Program} {w : World} {K : PySem.W.Frag} {mg : Str → Option Value} {base : Heap}
theorem le_a {c : Nat} (h : 97 ≤ c) : (!decide ((sg c).cps.toList < (Str.ofString "a").cps.toList)) = true := by
  rw [show (Str.ofString "a").cps.toList = [97] by decide +kernel, show (sg c).cps.toList = [c] from rfl]
  rw [decide_eq_false]
  · rfl
  · intro q
    rw [List.cons_lt_cons_iff] at q
    rcases q with q | ⟨_, q⟩
    · omega
    · exact absurd q (by simp)
theorem le_z {c : Nat} (h : c ≤ 122) : (!decide ((Str.ofString "z").cps.toList < (sg c).cps.toList)) = true := by
  rw [show (Str.ofString "z").cps.toList = [122] by decide +kernel, show (sg c).cps.toList = [c] from rfl]
  rw [decide_eq_false]
  · rfl
  · intro q
    rw [List.cons_lt_cons_iff] at q
    rcases q with q | ⟨_, q⟩
    · omega
    · exact absurd q (by simp)
theorem lc_str {x : Str} {g : TG} {tt : TT} {te : TE} {vs : List Nat} {σ : L2.St} {H1 : Hp} {D : Addr} {Qd : Hp → Prop} (Pv : Nat → Hp → Prop) (h0 : Pv 0 (upd H1 D (.lst [])))
    (hs : ∀ i c H, x.cps[i]? = some c → Pv i H → g (.str ⟨#[c]⟩) (wipe σ vs) H fun σ2 H2 => wipe σ2 vs = wipe σ vs ∧ tt σ2 H2 fun b H3 =>
      if b = true then te σ2 H3 fun z H4 => ∃ acc, H4 D = some (.lst acc) ∧ acc.length < sizeLine ∧ Pv (i + 1) (upd H4 D (.lst (acc ++ [z]))) else Pv (i + 1) H3) (hd : ∀ H, Pv x.cps.size H → Qd H) :
    ∃ W : Nat → Nat → Hp → Prop, (∃ m, W 0 m (upd H1 D (.lst []))) ∧ ∀ i m H, W i m H →
      ((Its x).stop i H ∧ Qd H) ∨ ((Its x).go i H ∧ ∃ Nx : Hp → Prop, (∀ H', Nx H' → ∃ m', m' < m ∧ W (i + 1) m' H') ∧ ∀ v H', (Its x).yld i H v H' → g v (wipe σ vs) H' fun σ2 H2 => wipe σ2 vs = wipe σ vs ∧ tt σ2 H2 fun b H3 =>
        if b = true then te σ2 H3 fun z H4 => ∃ acc, H4 D = some (.lst acc) ∧ acc.length < sizeLine ∧ Nx (upd H4 D (.lst (acc ++ [z]))) else Nx H3) := by
  refine ⟨fun i m H => i + m = x.cps.size ∧ Pv i H, ⟨_, Nat.zero_add _, h0⟩, ?_⟩
  rintro i m H ⟨e, p⟩
  by_cases hm : m = 0
  · have e2 : i = x.cps.size := by omega
    refine .inl ⟨by show x.cps.size ≤ i; omega, hd H ?_⟩
    rw [← e2]
    exact p
  · refine .inr ⟨by show i < x.cps.size; omega, Pv (i + 1), fun H' p' => ⟨m - 1, by omega, by omega, p'⟩, ?_⟩
    rintro v H' ⟨rfl, c, hc, rfl⟩
    exact hs i c _ hc p
theorem bl_snoc' (bs : List Bool) (b : Bool) : bs.map V.bl ++ [.bl b] = (bs ++ [b]).map V.bl := by
  rw [List.map_append]
  rfl
theorem all_yes (n : Nat) : (List.replicate n true).all id = true := by
  rw [List.all_eq_true]
  intro x hx
  rw [List.eq_of_mem_replicate hx]
  rfl
end
end Law

namespace Law
open PySem PySem.Spec PyProof.Rows L2 Evl TR GX
/-- the builtin type of what stands there -/
def Tn (T : String) : Gt → Prop
  | .int _ => T = "int"
  | .str _ => T = "str"
  | .bl _ => T = "bool"
  | .oth => T = "NoneType" ∨ T = "dict"
  | .seq k _ => T = if k = true then "tuple" else "list"
theorem GA.ty {K : PySem.W.Frag} {H : Hp} {v : V} {g : Gt} (h : GA H v g) : ∃ T, TyX K H v (.type T) ∧ Tn T g := by
  cases h with
  | int i => exact ⟨_, .base (.int i), rfl⟩
  | str z => exact ⟨_, .base (.str z), rfl⟩
  | bl b => exact ⟨_, .base (.bl b), rfl⟩
  | non => exact ⟨_, .base .non, .inl rfl⟩
  | dct h => exact ⟨_, .base (.dK h), .inr rfl⟩
  | @seq a k vs gs h r =>
    cases k
    · exact ⟨_, .base (.lst h), rfl⟩
    · exact ⟨_, .base (.tup h), rfl⟩
def isSq : Gt → Bool
  | .seq _ _ => true
  | _ => false
def isI : Gt → Bool
  | .int _ => true
  | _ => false
def isS : Gt → Bool
  | .str _ => true
  | _ => false
def isIB : Gt → Bool
  | .int _ => true
  | .bl _ => true
  | _ => false
def isB : Gt → Bool
  | .bl _ => true
  | _ => false
theorem kit_l {K : PySem.W.Frag} {T : String} {g : Gt} (h : Tn T g) : PySem.W.kitAny K (.type T) [.type "list", .type "tuple"] = some (isSq g) := by
  have no : ∀ T : String, PySem.W.kitOne K (.type T) (.type "list") = some false → PySem.W.kitOne K (.type T) (.type "tuple") = some false → PySem.W.kitAny K (.type T) [.type "list", .type "tuple"] = some false := fun T h1 h2 =>
    kitAny_cons (b := false) h1 (fun _ => kitAny_cons (b := false) h2 (fun _ => rfl) fun h => by cases h) fun h => by cases h
  cases g with
  | int i => cases h; exact no _ (kit_ty (by decide +kernel)) (kit_ty (by decide +kernel))
  | str z => cases h; exact no _ (kit_ty (by decide +kernel)) (kit_ty (by decide +kernel))
  | bl b => cases h; exact no _ (kit_ty (by decide +kernel)) (kit_ty (by decide +kernel))
  | oth =>
    rcases h with rfl | rfl
    · exact no _ (kit_ty (by decide +kernel)) (kit_ty (by decide +kernel))
    · exact no _ (kit_ty (by decide +kernel)) (kit_ty (by decide +kernel))
  | seq k gs =>
    cases k
    · cases h; exact kit_lt
    · cases h; exact kit_tt
theorem kit_i {K : PySem.W.Frag} {T : String} {g : Gt} (h : Tn T g) : PySem.W.kitOne K (.type T) (.type "int") = some (isIB g) := by
  cases g with
  | int i => cases h; show PySem.W.kitOne K (.type "int") (.type "int") = some true; exact kit_ty (by decide +kernel)
  | str z => cases h; show PySem.W.kitOne K (.type "str") (.type "int") = some false; exact kit_ty (by decide +kernel)
  | bl b => cases h; show PySem.W.kitOne K (.type "bool") (.type "int") = some true; exact kit_ty (by decide +kernel)
  | oth =>
    rcases h with rfl | rfl
    · show PySem.W.kitOne K (.type "NoneType") (.type "int") = some false; exact kit_ty (by decide +kernel)
    · show PySem.W.kitOne K (.type "dict") (.type "int") = some false; exact kit_ty (by decide +kernel)
  | seq k gs =>
    cases k
    · cases h; show PySem.W.kitOne K (.type "list") (.type "int") = some false; exact kit_ty (by decide +kernel)
    · cases h; show PySem.W.kitOne K (.type "tuple") (.type "int") = some false; exact kit_ty (by decide +kernel)
theorem kit_b {K : PySem.W.Frag} {T : String} {g : Gt} (h : Tn T g) : PySem.W.kitOne K (.type T) (.type "bool") = some (isB g) := by
  cases g with
  | int i => cases h; show PySem.W.kitOne K (.type "int") (.type "bool") = some false; exact kit_ty (by decide +kernel)
  | str z => cases h; show PySem.W.kitOne K (.type "str") (.type "bool") = some false; exact kit_ty (by decide +kernel)
  | bl b => cases h; show PySem.W.kitOne K (.type "bool") (.type "bool") = some true; exact kit_ty (by decide +kernel)
  | oth =>
    rcases h with rfl | rfl
    · show PySem.W.kitOne K (.type "NoneType") (.type "bool") = some false; exact kit_ty (by decide +kernel)
    · show PySem.W.kitOne K (.type "dict") (.type "bool") = some false; exact kit_ty (by decide +kernel)
  | seq k gs =>
    cases k
    · cases h; show PySem.W.kitOne K (.type "list") (.type "bool") = some false; exact kit_ty (by decide +kernel)
    · cases h; show PySem.W.kitOne K (.type "tuple") (.type "bool") = some false; exact kit_ty (by decide +kernel)
theorem kit_s {K : PySem.W.Frag} {T : String} {g : Gt} (h : Tn T g) : PySem.W.kitOne K (.type T) (.type "str") = some (isS g) := by
  cases g with
  | int i => cases h; show PySem.W.kitOne K (.type "int") (.type "str") = some false; exact kit_ty (by decide +kernel)
  | str z => cases h; show PySem.W.kitOne K (.type "str") (.type "str") = some true; exact kit_ty (by decide +kernel)
  | bl b => cases h; show PySem.W.kitOne K (.type "bool") (.type "str") = some false; exact kit_ty (by decide +kernel)
  | oth =>
    rcases h with rfl | rfl
    · show PySem.W.kitOne K (.type "NoneType") (.type "str") = some false; exact kit_ty (by decide +kernel)
    · show PySem.W.kitOne K (.type "dict") (.type "str") = some false; exact kit_ty (by decide +kernel)
  | seq k gs =>
    cases k
    · cases h; show PySem.W.kitOne K (.type "list") (.type "str") = some false; exact kit_ty (by decide +kernel)
    · cases h; show PySem.W.kitOne K (.type "tuple") (.type "str") = some false; exact kit_ty (by decide +kernel)
theorem eqS_of {K : PySem.W.Frag} {H : Hp} {v : V} {g : Gt} {z : Str} {Q : VK} (h : GA H v g) (q : Q (.bl (hd z g)) H) : ES.rEqS K v (.str z) H Q := by
  cases h with
  | int i => exact .inl ⟨rfl, by rw [decide_eq_false (fun z => by cases z)]; exact q⟩
  | str y =>
    refine .inl ⟨rfl, ?_⟩
    have : decide (V.str y = V.str z) = hd z (.str y) := by
      show _ = decide (y = z)
      rw [decide_eq_decide]
      exact ⟨fun h => V.str.inj h, fun h => by rw [h]⟩
    rw [this]
    exact q
  | bl b => exact .inl ⟨rfl, by rw [decide_eq_false (fun z => by cases z)]; exact q⟩
  | non => exact .inl ⟨rfl, by rw [decide_eq_false (fun z => by cases z)]; exact q⟩
  | dct h => exact .inr ⟨_, _, rfl, rfl, .inr (.inr ⟨_, h⟩), q⟩
  | @seq a k vs gs h r =>
    cases k
    · exact .inr ⟨_, _, rfl, rfl, .inl ⟨_, sq_of h⟩, q⟩
    · exact .inr ⟨_, _, rfl, rfl, .inr (.inl ⟨_, st_of h⟩), q⟩
def spIsLG : Sp := fun vs H Q _ => ∃ (v : V) (g : Gt), vs = [v] ∧ GA H v g ∧ ∀ H', Ex H H' → Q (.bl (isSq g)) H'
def spIsIG : Sp := fun vs H Q _ => ∃ (v : V) (g : Gt), vs = [v] ∧ GA H v g ∧ Q (.bl (isI g)) H
def spWhG : Sp := fun vs H Q _ => ∃ (v : V) (g : Gt) (lo hi : Int), vs = [v, .int lo, .int hi] ∧ GA H v g ∧ ∀ H', Ex H H' → Q (.bl (whole lo hi g)) H'
def spPartG : Sp := fun vs H Q _ => ∃ (v : V) (g : Gt) (L : List Nat) (w n : Nat), vs = [v, .str (tx L), .int (w : Int), .int (n : Int)] ∧ GA H v g ∧ L.length ≤ 10 ∧ ∀ H', Ex H H' → Q (.bl (isP L.length w n g)) H'
def spWithG : Sp := fun vs H Q _ => ∃ (v : V) (g : Gt) (l w n : Nat) (H0 : Hp), vs = [v] ∧ GA H0 v g ∧ isP l w n g = true ∧ Ex H0 H ∧ ∀ r H' us, Ex H H' → H r = none → H' r = some (.lst us) → GAs H0 us (kids g) → Q (.ref r) H'
section
variable {P : Program} {w : World} {K : PySem.W.Frag} {mg : Str → Option Value} {base : Heap}
theorem ok_isLG {f : Addr} {fd : FuncData} (F : Fun K "is_list" "is_list" s_is_list f fd) (T : Tx mg) : FnOk P w K mg base CX0 1 f fd ["value"] spIsLG := by
  refine F.ok sc_is_list (fun vs H Q E h => ?_) (fun cdv A outer s H vs Q E hr h => ?_)
  · obtain ⟨v, g, rfl, _⟩ := h
    rfl
  · obtain ⟨v, g, rfl, hg, q⟩ := h
    refine ⟨_, (pss_one (ps_ret (pe_callB call_isiT (by rfl) T.isinstance PyProof.Rows.boot_isinstance (pa_cons (pv 0) (pa_cons (pe_tup (pa_cons (pe_bltn (v := .ty "list") (by rfl) T.list PyProof.Rows.boot_list rfl) (pa_cons (pe_bltn (v := .ty "tuple") (by rfl) T.tuple PyProof.Rows.boot_tuple rfl) pa_nil))) pa_nil))))), ?_⟩
    refine ⟨_, rfl, by show 2 ≤ sizeLine; decide, fun t ht => ?_⟩
    obtain ⟨TT, ty, tn⟩ := GA.ty (K := K) (GA.ex (Ex.new ht) hg)
    exact ⟨_, t, _, _, _, _, rfl, upd_same, .cons (.ty _) (.cons (.ty _) .nil), ty, kit_l tn, q _ (Ex.new ht)⟩
theorem ok_isIG {f : Addr} {fd : FuncData} (F : Fun K "is_integer" "is_integer" s_is_integer f fd) (T : Tx mg) : FnOk P w K mg base CX0 1 f fd ["value"] spIsIG := by
  refine F.ok sc_is_integer (fun vs H Q E h => ?_) (fun cdv A outer s H vs Q E hr h => ?_)
  · obtain ⟨v, g, rfl, _⟩ := h
    rfl
  · obtain ⟨v, g, rfl, hg, q⟩ := h
    obtain ⟨TT, ty, tn⟩ := GA.ty (K := K) hg
    refine ⟨_, (pss_one (ps_ret (pe_and (pe_callB call_isi (by rfl) T.isinstance PyProof.Rows.boot_isinstance (pa_cons (pv 0) (pa_cons (pe_bltn (v := .ty "int") (by rfl) T.int PyProof.Rows.boot_int rfl) pa_nil))) (pe_one (pe_not (pe_callB call_isi (by rfl) T.isinstance PyProof.Rows.boot_isinstance (pa_cons (pv 0) (pa_cons (pe_bltn (v := .ty "bool") (by rfl) T.bool PyProof.Rows.boot_bool rfl) pa_nil)))))))), ?_⟩
    refine ⟨_, rfl, _, _, _, _, _, rfl, .ty _, ty, kit_i tn, _, rfl, ?_⟩
    cases g with
    | int i => exact ⟨_, rfl, _, _, _, _, _, rfl, .ty _, ty, kit_b tn, _, rfl, q⟩
    | bl b => exact ⟨_, rfl, _, _, _, _, _, rfl, .ty _, ty, kit_b tn, _, rfl, q⟩
    | str z => exact q
    | oth => exact q
    | seq k gs => exact q
theorem ok_whG {f : Addr} {fd : FuncData} (F : Fun K "is_whole" "is_whole" s_is_whole f fd) (T : Tx mg) (c_is_integer : Kn P w K mg base "is_integer" ["value"] 1 spIsIG) : FnOk P w K mg base CX0 2 f fd ["value", "low", "high"] spWhG := by
  refine F.ok sc_is_whole (fun vs H Q E h => ?_) (fun cdv A outer s H vs Q E hr h => ?_)
  · obtain ⟨v, g, lo, hi, rfl, _⟩ := h
    rfl
  · obtain ⟨v, g, lo, hi, rfl, hg, q⟩ := h
    refine ⟨_, (pss_one (ps_ret (pe_and (pe_call c_is_integer.ok (hr.mono (by decide)) (by rfl) c_is_integer.g c_is_integer.kp c_is_integer.b .nil pass0 (pa_cons (pv 0) pa_nil)) (pe_one (pe_chain op_le op_le (pv 1) (pv 0) (pv 2)))))), ?_⟩
    have q0 := q H (Ex.refl _)
    refine ⟨_, rfl, v, g, rfl, hg, _, rfl, ?_⟩
    cases hg with
    | int i =>
      refine ⟨_, rfl, _, rfl, _, _, rfl, rfl, _, rfl, ?_⟩
      have e : whole lo hi (.int i) = (decide (lo ≤ i) && decide (i ≤ hi)) := rfl
      rw [e] at q0
      cases hl : decide (lo ≤ i) with
      | true =>
        rw [hl, Bool.true_and] at q0
        exact ⟨_, rfl, _, _, rfl, rfl, q0⟩
      | false =>
        rw [hl, Bool.false_and] at q0
        exact q0
    | str z => exact q0
    | bl b => exact q0
    | non => exact q0
    | dct h => exact q0
    | seq h r => exact q0
end
end Law

namespace Law
open PySem PySem.Spec PyProof.Rows L2 Evl TR GX
theorem gas3 {H : Hp} {vs : List V} {gs : List Gt} (h : GAs H vs gs) (hl : gs.length = 3) : ∃ x y z h1 h2 h3, vs = [x, y, z] ∧ gs = [h1, h2, h3] ∧ GA H x h1 ∧ GA H y h2 ∧ GA H z h3 := by
  cases h with
  | nil => cases hl
  | cons a h =>
    cases h with
    | nil => cases hl
    | cons b h =>
      cases h with
      | nil => cases hl
      | cons c h =>
        cases h with
        | nil => exact ⟨_, _, _, _, _, _, rfl, rfl, a, b, c⟩
        | cons d h => cases hl
section
variable {P : Program} {w : World} {K : PySem.W.Frag} {mg : Str → Option Value} {base : Heap}
theorem ok_partG {f : Addr} {fd : FuncData} (F : Fun K "_is_part" "_is_part" s_is_part f fd) (T : Tx mg) (c_is_list : Kn P w K mg base "is_list" ["value"] 1 spIsLG)
    (c_is_whole : Kn P w K mg base "is_whole" ["value", "low", "high"] 2 spWhG) : FnOk P w K mg base CX0 3 f fd ["part", "letters", "width", "states"] spPartG := by
  refine F.ok sc_is_part (fun vs H Q E h => ?_) (fun cdv A outer s H vs Q E hr h => ?_)
  · obtain ⟨v, g, L, wd, n, rfl, _⟩ := h
    rfl
  · obtain ⟨v, g, L, wd, n, rfl, hg, hL, q⟩ := h
    refine ⟨_, (pss_cons (ps_if (PW.pt (pw_or (pt_not (pt_val (pe_call c_is_list.ok (hr.mono (by decide)) (by rfl) c_is_list.g c_is_list.kp c_is_list.b .nil pass0 (pa_cons (pv 0) pa_nil)))) (pw_or1 (pt_cmpR op_ne (pe_callB call_len_seq (by rfl) T.len PySem.boot_len (pa_cons (pv 0) pa_nil)) pe_int (nomark _))))) (pss_one (ps_ret pe_bl)) pss_nil)
      (pss_cons (ps_asg (pv 0) (TR.pg_seq (by rfl) (pgs_cons (pg_name (i := 4) sc_is_part.nd rfl (Or.inl rfl)) (pgs_cons (pg_name (i := 5) sc_is_part.nd rfl (Or.inl rfl)) (pgs_cons (pg_name (i := 6) sc_is_part.nd rfl (Or.inl rfl)) pgs_nil)))))
      (pss_cons (ps_if (pt_cmpR (ES.op_eqS hr.units) (pv 4) pe_str (nomark _)) (pss_one (ps_ret (pe_and (pe_call c_is_whole.ok (hr.mono (by decide)) (by rfl) c_is_whole.g c_is_whole.kp c_is_whole.b .nil pass0 (pa_cons (pv 5) (pa_cons pe_int (pa_cons (pv 2) pa_nil)))) (pe_and (pe_call c_is_list.ok (hr.mono (by decide)) (by rfl) c_is_list.g c_is_list.kp c_is_list.b .nil pass0 (pa_cons (pv 6) pa_nil)) (pe_one (pe_cmpR op_eq (pe_callB call_len_seq (by rfl) T.len PySem.boot_len (pa_cons (pv 6) pa_nil)) (pe_callB call_len_str (by rfl) T.len PySem.boot_len (pa_cons (pv 1) pa_nil)) (nomark _))))))) pss_nil)
      (pss_cons (ps_if (pt_cmpR (ES.op_eqS hr.units) (pv 4) pe_str (nomark _)) (pss_one (ps_ret (pe_call c_is_whole.ok (hr.mono (by decide)) (by rfl) c_is_whole.g c_is_whole.kp c_is_whole.b .nil pass0 (pa_cons (pv 5) (pa_cons pe_int (pa_cons pe_int pa_nil)))))) pss_nil)
      (pss_cons (ps_if (pt_cmpR (ES.op_eqS hr.units) (pv 4) pe_str (nomark _)) (pss_one (ps_ret (pe_and (pe_call c_is_whole.ok (hr.mono (by decide)) (by rfl) c_is_whole.g c_is_whole.kp c_is_whole.b .nil pass0 (pa_cons (pv 5) (pa_cons pe_int (pa_cons (pe_op op_add (pv 2) pe_int) pa_nil)))) (pe_one (pe_call c_is_whole.ok (hr.mono (by decide)) (by rfl) c_is_whole.g c_is_whole.kp c_is_whole.b .nil pass0 (pa_cons (pv 6) (pa_cons pe_int (pa_cons (pe_op op_sub (pv 3) pe_int) pa_nil)))))))) pss_nil)
      (pss_one (ps_ret pe_bl))))))), ?_⟩
    refine ⟨_, rfl, v, g, rfl, hg, fun H1 e1 => ⟨_, rfl, ?_⟩⟩
    have q1 := q H1 e1
    cases hg with
    | int i => exact q1
    | str z => exact q1
    | bl b => exact q1
    | non => exact q1
    | dct h => exact q1
    | @seq a k vs gs h r =>
      have lk := r.len
      refine ⟨_, rfl, a, _, rfl, ob_seq (e1 _ _ h), rfl, _, rfl, ite2 (fun hb => ?_) (fun hb => ?_)⟩
      · have nl : gs.length ≠ 3 := fun z => by
          rw [lk, z] at hb
          cases hb
        have ef : isP L.length wd n (.seq k gs) = false := by
          unfold isP
          split
          · rename_i h1 h2 h3 he
            cases he
            exact absurd rfl nl
          · rfl
        rw [ef] at q1
        exact q1
      · have l3 : gs.length = 3 := by
          rw [lk] at hb
          refine Decidable.byContradiction fun z => hb ?_
          rw [decide_eq_false (fun e => z (by have := V.int.inj e; omega))]
          rfl
        obtain ⟨x, y, z, g1, g2, g3, rfl, rfl, hx, hy, hz⟩ := gas3 r l3
        refine ⟨_, rfl, gSeq_of (e1 _ _ h) rfl ⟨_, _, rfl, _, _, rfl, _, _, rfl, rfl, ?_⟩⟩
        have eP : isP L.length wd n (.seq k [g1, g2, g3]) = (if hd "read" g1 = true then whole 0 wd g2 && seqN L.length g3 else if hd "tell" g1 = true then whole 0 2 g2 else if hd "go" g1 = true then whole 1 ((wd : Int) + 1) g2 && whole 0 ((n : Int) - 1) g3 else false) := rfl
        rw [eP] at q
        refine ⟨_, rfl, eqS_of (GA.ex e1 hx) ⟨_, rfl, ?_⟩⟩
        cases h1 : hd "read" g1 with
        | true =>
          simp only [h1, if_true] at q
          refine ⟨_, rfl, _, rfl, y, g2, 0, _, rfl, GA.ex e1 hy, fun H2 e2 => ?_⟩
          cases hw : whole 0 wd g2 with
          | false =>
            rw [hw, Bool.false_and] at q
            exact ⟨_, rfl, q _ (e1.trans e2)⟩
          | true =>
            rw [hw, Bool.true_and] at q
            refine ⟨_, rfl, ?_⟩
            refine ⟨_, rfl, z, g3, rfl, GA.ex (e1.trans e2) hz, fun H3 e3 => ?_⟩
            have e13 := (e1.trans e2).trans e3
            have q3 := q _ e13
            cases hz with
            | @seq b k' us gs' hbb r' =>
              refine ⟨_, rfl, ?_⟩
              refine ⟨_, rfl, b, _, rfl, ob_seq (e13 _ _ hbb), _, rfl, _, rfl, tx_le (by omega), rfl, ?_⟩
              have ee : decide (V.int ((us.length : Nat) : Int) = V.int (((tx L).length : Nat) : Int)) = seqN L.length (.seq k' gs') := by
                show _ = decide (gs'.length = L.length)
                rw [decide_eq_decide, tx_len, r'.len]
                constructor
                · intro z; have := V.int.inj z; omega
                · intro z; rw [z]
              show Q (V.bl (decide (V.int ((us.length : Nat) : Int) = V.int (((tx L).length : Nat) : Int)))) _
              rw [ee]
              exact q3
            | int i => exact ⟨_, rfl, q3⟩
            | str z => exact ⟨_, rfl, q3⟩
            | bl b => exact ⟨_, rfl, q3⟩
            | non => exact ⟨_, rfl, q3⟩
            | dct h => exact ⟨_, rfl, q3⟩
        | false =>
          simp only [h1] at q
          refine ⟨_, rfl, eqS_of (GA.ex e1 hx) ⟨_, rfl, ?_⟩⟩
          cases h2 : hd "tell" g1 with
          | true =>
            simp only [h2, if_true] at q
            exact ⟨_, rfl, y, g2, 0, 2, rfl, GA.ex e1 hy, fun H2 e2 => q _ (e1.trans e2)⟩
          | false =>
            simp only [h2] at q
            refine ⟨_, rfl, eqS_of (GA.ex e1 hx) ⟨_, rfl, ?_⟩⟩
            cases h3 : hd "go" g1 with
            | false =>
              simp only [h3] at q
              exact q _ e1
            | true =>
              simp only [h3, if_true] at q
              refine ⟨_, rfl, _, rfl, _, _, rfl, rfl, y, g2, 1, _, rfl, GA.ex e1 hy, fun H2 e2 => ?_⟩
              cases hw : whole 1 ((wd : Int) + 1) g2 with
              | false =>
                rw [hw, Bool.false_and] at q
                exact ⟨_, rfl, q _ (e1.trans e2)⟩
              | true =>
                rw [hw, Bool.true_and] at q
                refine ⟨_, rfl, ?_⟩
                exact ⟨_, rfl, _, rfl, _, _, rfl, rfl, z, g3, 0, _, rfl, GA.ex (e1.trans e2) hz, fun H3 e3 => q _ ((e1.trans e2).trans e3)⟩
end
end Law

namespace Law
open PySem PySem.Spec PyProof.Rows L2 Evl TR GX
theorem hd_str {z : Str} {g : Gt} (h : hd z g = true) : g = .str z := by
  cases g with
  | str y =>
    have : y = z := of_decide_eq_true h
    rw [this]
  | int _ => cases h
  | bl _ => cases h
  | oth => cases h
  | seq _ _ => cases h
theorem seqN_inv {n : Nat} {g : Gt} (h : seqN n g = true) : ∃ k gs, g = .seq k gs ∧ gs.length = n := by
  cases g with
  | seq k gs => exact ⟨k, gs, rfl, of_decide_eq_true h⟩
  | int _ => cases h
  | bl _ => cases h
  | oth => cases h
  | str _ => cases h
theorem whole_inv {lo hi : Int} {g : Gt} (h : whole lo hi g = true) : ∃ i, g = .int i ∧ lo ≤ i ∧ i ≤ hi := by
  cases g with
  | int i =>
    have h2 : (decide (lo ≤ i) && decide (i ≤ hi)) = true := h
    rw [Bool.and_eq_true, decide_eq_true_eq, decide_eq_true_eq] at h2
    exact ⟨i, rfl, h2.1, h2.2⟩
  | seq _ _ => cases h
  | bl _ => cases h
  | oth => cases h
  | str _ => cases h
theorem isP_inv {l w n : Nat} {g : Gt} (h : isP l w n g = true) : ∃ k g1 g2 g3, g = .seq k [g1, g2, g3] ∧
    ((g1 = .str "read" ∧ (∃ i, g2 = .int i) ∧ ∃ k' gs, g3 = .seq k' gs ∧ gs.length = l) ∨ (g1 = .str "tell" ∧ ∃ i, g2 = .int i) ∨ (g1 = .str "go" ∧ (∃ i, g2 = .int i) ∧ ∃ j, g3 = .int j ∧ 0 ≤ j ∧ j ≤ (n : Int) - 1)) := by
  unfold isP at h
  split at h
  · rename_i k g1 g2 g3
    refine ⟨k, g1, g2, g3, rfl, ?_⟩
    split at h
    · rename_i h1
      rw [Bool.and_eq_true] at h
      obtain ⟨i, e, _, _⟩ := whole_inv h.1
      exact .inl ⟨hd_str h1, ⟨i, e⟩, seqN_inv h.2⟩
    · split at h
      · rename_i h1
        obtain ⟨i, e, _, _⟩ := whole_inv h
        exact .inr (.inl ⟨hd_str h1, i, e⟩)
      · split at h
        · rename_i h1
          rw [Bool.and_eq_true] at h
          obtain ⟨i, e, _, _⟩ := whole_inv h.1
          exact .inr (.inr ⟨hd_str h1, ⟨i, e⟩, whole_inv h.2⟩)
        · cases h
  · cases h
theorem hd_rr : hd "read" (.str "read") = true := by decide +kernel
theorem hd_rt : hd "read" (.str "tell") = false := by decide +kernel
theorem hd_rg : hd "read" (.str "go") = false := by decide +kernel
theorem hd_tt : hd "tell" (.str "tell") = true := by decide +kernel
theorem hd_tg : hd "tell" (.str "go") = false := by decide +kernel
theorem kids_eq {k : Bool} {g1 g2 g3 : Gt} : kids (.seq k [g1, g2, g3]) = if hd "read" g1 = true then (match g3 with
      | .seq _ gs => gs
      | _ => []) else if hd "tell" g1 = true then [g3] else [] := rfl
theorem kids_read {k k' : Bool} {g2 : Gt} {gs : List Gt} : kids (.seq k [.str "read", g2, .seq k' gs]) = gs := by
  rw [kids_eq, if_pos hd_rr]
theorem kids_tell {k : Bool} {g2 g3 : Gt} : kids (.seq k [.str "tell", g2, g3]) = [g3] := by
  rw [kids_eq, if_neg (by rw [hd_rt]; simp), if_pos hd_tt]
theorem kids_go {k : Bool} {g2 g3 : Gt} : kids (.seq k [.str "go", g2, g3]) = [] := by
  rw [kids_eq, if_neg (by rw [hd_rg]; simp), if_neg (by rw [hd_tg]; simp)]
theorem ga3 {H : Hp} {v : V} {k : Bool} {g1 g2 g3 : Gt} (h : GA H v (.seq k [g1, g2, g3])) : ∃ a x y z, v = .ref a ∧ H a = some (ob k [x, y, z]) ∧ GA H x g1 ∧ GA H y g2 ∧ GA H z g3 := by
  cases h with
  | seq h r =>
    obtain ⟨x, y, z, h1, h2, h3, rfl, e, a, b, c⟩ := gas3 r rfl
    cases e
    exact ⟨_, x, y, z, rfl, h, a, b, c⟩
theorem ga_str {H : Hp} {v : V} {z : Str} (h : GA H v (.str z)) : v = .str z := by
  cases h
  rfl
theorem ga_int {H : Hp} {v : V} {i : Int} (h : GA H v (.int i)) : v = .int i := by
  cases h
  rfl
theorem ga_seq {H : Hp} {v : V} {k : Bool} {gs : List Gt} (h : GA H v (.seq k gs)) : ∃ a vs, v = .ref a ∧ H a = some (ob k vs) ∧ GAs H vs gs := by
  cases h with
  | seq h r => exact ⟨_, _, rfl, h, r⟩
section
variable {P : Program} {w : World} {K : PySem.W.Frag} {mg : Str → Option Value} {base : Heap}
theorem ok_withG {f : Addr} {fd : FuncData} (F : Fun K "_within" "_within" s_within f fd) (T : Tx mg) : FnOk P w K mg base CX0 1 f fd ["part"] spWithG := by
  refine F.ok sc_within (fun vs H Q E h => ?_) (fun cdv A outer s H vs Q E hr h => ?_)
  · obtain ⟨v, g, l, w, n, H0, rfl, _⟩ := h
    rfl
  · obtain ⟨v, g, l, w, n, H0, rfl, hg, hp, e0, q⟩ := h
    refine ⟨_, (pss_cons (ps_if (pt_cmpR op_eq (pe_ix ix_seq (pv 0) pe_int (fun _ _ => rfl)) pe_str (nomark _)) (pss_one (ps_ret (pe_callTy call_list_of (by rfl) T.list PyProof.Rows.boot_list (pa_cons (pe_ix ix_seq (pv 0) pe_int (fun _ _ => rfl)) pa_nil)))) pss_nil)
      (pss_cons (ps_if (pt_cmpR op_eq (pe_ix ix_seq (pv 0) pe_int (fun _ _ => rfl)) pe_str (nomark _)) (pss_one (ps_ret (pe_lst (pa_cons (pe_ix ix_seq (pv 0) pe_int (fun _ _ => rfl)) pa_nil)))) pss_nil)
      (pss_one (ps_ret (pe_lst pa_nil))))), ?_⟩
    obtain ⟨k, g1, g2, g3, rfl, h⟩ := isP_inv hp
    obtain ⟨a, x, y, z, rfl, ha, hx, hy, hz⟩ := ga3 hg
    rcases h with ⟨rfl, ⟨i, rfl⟩, k', gs, rfl, hl⟩ | ⟨rfl, i, rfl⟩ | ⟨rfl, ⟨i, rfl⟩, _⟩
    · cases ga_str hx
      obtain ⟨b, us, rfl, hb, r⟩ := ga_seq hz
      refine ⟨_, rfl, ix_at (e0 _ _ ha) (atI_nat (j := 0) rfl) ⟨rfl, _, rfl, iteD rfl ?_⟩⟩
      refine ⟨_, rfl, ix_at (e0 _ _ ha) (atI_nat (j := 2) rfl) ⟨b, _, rfl, ob_seq (e0 _ _ hb), fun r0 hr0 => q r0 _ _ (Ex.new hr0) hr0 upd_same ?_⟩⟩
      rw [kids_read]
      exact r
    · cases ga_str hx
      refine ⟨_, rfl, ix_at (e0 _ _ ha) (atI_nat (j := 0) rfl) ⟨rfl, _, rfl, iteDn tell_ne_read ?_⟩⟩
      refine ⟨_, rfl, ix_at (e0 _ _ ha) (atI_nat (j := 0) rfl) ⟨rfl, _, rfl, iteD rfl ?_⟩⟩
      refine ⟨_, rfl, ix_at (e0 _ _ ha) (atI_nat (j := 2) rfl) ⟨by show 1 ≤ sizeLine; decide, fun r0 hr0 => q r0 _ _ (Ex.new hr0) hr0 upd_same ?_⟩⟩
      rw [kids_tell]
      exact .cons hz .nil
    · cases ga_str hx
      refine ⟨_, rfl, ix_at (e0 _ _ ha) (atI_nat (j := 0) rfl) ⟨rfl, _, rfl, iteDn go_ne_read ?_⟩⟩
      refine ⟨_, rfl, ix_at (e0 _ _ ha) (atI_nat (j := 0) rfl) ⟨rfl, _, rfl, iteDn go_ne_tell ?_⟩⟩
      refine ⟨Nat.zero_le _, fun r0 hr0 => q r0 _ _ (Ex.new hr0) hr0 upd_same ?_⟩
      rw [kids_go]
      exact .nil
end
end Law

namespace Law
open PySem PySem.Spec PyProof.Rows L2 Evl TR GX
def fwG (l w n : Nat) (g : Gt) : Bool × Nat := fwF l w n g.size [(g, 1)] 0
def fwV (r : Bool × Nat) : V := if r.1 = true then .int (r.2 : Nat) else .non
def spFWG : Sp := fun vs H Q _ => ∃ (v : V) (g : Gt) (L : List Nat) (w n : Nat), vs = [v, .str (tx L), .int (w : Int), .int (n : Int)] ∧ GA H v g ∧ L.length ≤ 10 ∧ g.size ≤ 10000 ∧ ∀ H', Ex H H' → Q (fwV (fwG L.length w n g)) H'
theorem pop_last {α : Type} (us : List α) (x : α) : (us ++ [x])[(us ++ [x]).length - 1]? = some x := by
  rw [List.length_append]
  simp
theorem take_next' {α : Type} {l : List α} {i : Nat} {x : α} (h : l[i]? = some x) : l.take (i + 1) = l.take i ++ [x] := by
  rw [List.take_add_one, h]
  rfl
theorem rev_get {α : Type} {l : List α} {i : Nat} {x : α} (h : l[l.length - 1 - i]? = some x) (hi : i < l.length) : l.reverse[i]? = some x := by
  rw [List.getElem?_reverse hi]
  exact h
theorem tot_pos {p : Gt × Nat} : 1 ≤ tot [p] := by
  have := size_pos p.1
  unfold tot
  simp only [List.map_cons, List.map_nil, Gt.sizes]
  omega
theorem tot_rev (gs : List Gt) (d : Nat) : tot (gs.reverse.map fun x => (x, d)) = Gt.sizes gs := by
  rw [tot_map, sizes_rev]
theorem tot_one (g : Gt) (d : Nat) : tot [(g, d)] = g.size := by
  unfold tot
  simp only [List.map_cons, List.map_nil, Gt.sizes]
  omega
section
variable {P : Program} {w : World} {K : PySem.W.Frag} {mg : Str → Option Value} {base : Heap}
theorem ok_fwG {f : Addr} {fd : FuncData} (F : Fun K "first_wrong" "first_wrong" s_first_wrong f fd) (T : Tx mg) (c_is_part : Kn P w K mg base "_is_part" ["part", "letters", "width", "states"] 3 spPartG)
    (c_within : Kn P w K mg base "_within" ["part"] 1 spWithG) : FnOk P w K mg base CX0 4 f fd ["tree", "letters", "width", "states"] spFWG := by
  refine F.ok sc_first_wrong (fun vs H Q E h => ?_) (fun cdv A outer s H vs Q E hr h => ?_)
  · obtain ⟨v, g, L, wd, n, rfl, _⟩ := h
    rfl
  · obtain ⟨v, g, L, wd, n, rfl, hT, hL, hsz, q⟩ := h
    obtain ⟨R, hR⟩ : ∃ R, fwG L.length wd n g = R := ⟨_, rfl⟩
    rw [hR] at q
    refine ⟨_, (pss_cons (ps_set (i := 4) sc_first_wrong.nd rfl (Or.inl rfl) (pe_lst (pa_cons (pe_tup (pa_cons (pv 0) (pa_cons pe_int pa_nil))) pa_nil)))
      (pss_cons (ps_set (i := 5) sc_first_wrong.nd rfl (Or.inl rfl) pe_int)
      (pss_cons (ps_while PassesOwn.never (pt_truth (pv 4) (by intro _; rfl)) (pss_cons (ps_asg (pe_bm0 PySem.F.plainAttrs_list PySem.F.slot_list_pop PySem.F.type_list_pop mt_pop (pv 4)) (pg_tup (by rfl) (pgs_cons (pg_name (i := 6) sc_first_wrong.nd rfl (Or.inl rfl)) (pgs_cons (pg_name (i := 7) sc_first_wrong.nd rfl (Or.inr rfl)) pgs_nil))))
      (pss_cons (ps_if (PW.pt (pw_or (pt_cmpR op_gt (pv 7) (pe_glob (v := .int 40) rfl T.m_DEEPEST ⟨_, rfl⟩) (nomark _)) (pw_or1 (pt_not (pt_val (pe_call c_is_part.ok (hr.mono (by decide)) (by rfl) c_is_part.g c_is_part.kp c_is_part.b .nil pass0 (pa_cons (pv 6) (pa_cons (pv 1) (pa_cons (pv 2) (pa_cons (pv 3) pa_nil)))))))))) (pss_one (ps_ret (pv 5))) pss_nil)
      (pss_cons (ps_expr (pe_bm PySem.F.plainAttrs_list PySem.F.slot_list_extend PySem.F.type_list_extend mt_extend (pv 4) (pa_cons (pe_lc (own := [("inner", 8)]) (g := gName 8) (tt := tYes) rfl sc_first_wrong.nd (pi_reversed (by rfl) T.reversed (pa_cons (pe_call c_within.ok (hr.mono (by decide)) (by rfl) c_within.g c_within.kp c_within.b .nil pass0 (pa_cons (pv 6) pa_nil)) pa_nil)) (blkOk_by (N := N_first_wrong) (sc := defScope s_first_wrong) (by decide +kernel)) (fun _ _ _ _ _ => (pg_name (i := 8) sc_first_wrong.nd rfl (Or.inl rfl))) (fun _ _ _ _ _ => pts_nil) (fun _ _ _ _ _ => (pe_tup (pa_cons (pv 8) (pa_cons (pe_op op_add (pv 7) pe_int) pa_nil))))) pa_nil)))
      (pss_one (ps_aug (i := 5) sc_first_wrong.nd rfl (Or.inl rfl) pe_int ip_add))))))
      (pss_one (ps_ret pe_non))))), ?_⟩
    refine ⟨_, rfl, by show 2 ≤ sizeLine; decide, fun t1 ht1 => ⟨by show 1 ≤ sizeLine; decide, fun l hl => ?_⟩⟩
    have hl0 : H l = none := fresh_back (Ex.new ht1) hl
    have e1 := (Ex.new (o := .tup [v, .int 1]) ht1).trans (Ex.new (o := .lst [V.ref t1]) hl)
    refine ⟨fun m σ H' => ∃ (st : List V) (ps : List (Gt × Nat)) (nm : Nat) (y6 y7 y8 : Option V), σ = [some v, some (.str (tx L)), some (.int (wd : Int)), some (.int (n : Int)), some (.ref l), some (.int (nm : Nat)), y6, y7, y8] ∧
        Ex H H' ∧ H' l = some (.lst st) ∧ Stk H H' st ps ∧ tot ps ≤ m ∧ m ≤ 10000 ∧ fwF L.length wd n m ps.reverse nm = R,
      ⟨g.size, [.ref t1], [(g, 1)], 0, none, none, none, rfl, e1, upd_same, .cons (Ex.new hl _ _ upd_same) hT .nil, by rw [tot_one]; omega, hsz, hR⟩, fun m σ H' hw => ?_⟩
    obtain ⟨st, ps, nm, y6, y7, y8, rfl, e2, hst, S, hm, hm2, hf⟩ := hw
    refine ⟨_, rfl, !st.isEmpty, .inl ⟨st, sq_of hst, rfl⟩, ?_⟩
    cases st with
    | nil =>
      refine iteF ?_
      cases S
      rw [List.reverse_nil, fw_nil] at hf
      rw [← hf] at q
      exact q _ e2
    | cons s0 srest =>
      refine iteT ?_
      obtain ⟨us, r, pv_, pt, d, qs, eS, eP, S', hr, hTA⟩ := S.last (by intro z; cases z)
      rw [eS] at hst
      rw [eP, tot_app, tot_one] at hm
      rw [eP, List.reverse_append, List.reverse_cons, List.reverse_nil, List.nil_append, List.singleton_append] at hf
      have hsp := size_pos pt
      obtain ⟨m', rfl⟩ : ∃ m', m = m' + 1 := ⟨m - 1, by omega⟩
      have nrl : r ≠ l := fun z => by
        rw [z, hst] at hr
        cases hr
      refine ⟨fun σ2 H2 => ∃ m2, m2 < m' + 1 ∧ ∃ (st : List V) (ps : List (Gt × Nat)) (nm : Nat) (y6 y7 y8 : Option V), σ2 = [some v, some (.str (tx L)), some (.int (wd : Int)), some (.int (n : Int)), some (.ref l), some (.int (nm : Nat)), y6, y7, y8] ∧
        Ex H H2 ∧ H2 l = some (.lst st) ∧ Stk H H2 st ps ∧ tot ps ≤ m2 ∧ m2 ≤ 10000 ∧ fwF L.length wd n m2 ps.reverse nm = R, fun σ2 H2 h => h, ?_⟩
      refine ⟨_, rfl, .inl ⟨rfl, _, sq_of hst⟩, l, _, _, rfl, rfl, hst, pop_last _ _, ?_⟩
      rw [List.dropLast_concat]
      have e3 : Ex H (L2.upd H' l (.lst us)) := e2.mut hl0
      have hl3 : (L2.upd H' l (.lst us)) l = some (.lst us) := upd_same
      have hr3 : (L2.upd H' l (.lst us)) r = some (.tup [pv_, .int (d : Nat)]) := by
        rw [upd_ne nrl]
        exact hr
      have S3 := S'.upd (a := l) (o := .lst us) fun xs hh => by
        rw [hst] at hh
        cases hh
      generalize (L2.upd H' l (.lst us)) = H3 at e3 hl3 hr3 S3 ⊢
      refine ⟨r, _, rfl, st_of hr3, rfl, _, _, rfl, _, _, rfl, rfl, ?_⟩
      unfold fwF at hf
      by_cases hd : d > 40
      · rw [if_pos (.inl hd)] at hf
        rw [← hf] at q
        refine ⟨_, rfl, _, _, rfl, rfl, _, rfl, iteD (by omega) ?_⟩
        exact ⟨_, rfl, q _ e3⟩
      refine ⟨_, rfl, _, _, rfl, rfl, _, rfl, iteDn (by omega) ?_⟩
      refine ⟨_, rfl, _, rfl, _, rfl, _, rfl, pv_, pt, L, wd, n, rfl, GA.ex e3 hTA, hL, fun H4 e4 => ?_⟩
      have e34 := e3.trans e4
      cases hp : isP L.length wd n pt with
      | false =>
        rw [if_pos (.inr hp)] at hf
        rw [← hf] at q
        refine ⟨_, rfl, ?_⟩
        exact ⟨_, rfl, q _ e34⟩
      | true =>
      rw [if_neg (by rw [hp]; simp; omega)] at hf
      refine ⟨_, rfl, ?_⟩
      refine ⟨_, rfl, .inl ⟨rfl, _, sq_of (e4 _ _ hl3)⟩, ?_⟩
      refine ⟨_, rfl, pv_, pt, L.length, wd, n, H, rfl, hTA, hp, e34, fun r2 H5 ks e5 hr2 hks KK => ?_⟩
      have e35 := e34.trans e5
      have lks := KK.len
      have ksz := kids_size pt
      have lkz := len_sizes (kids pt)
      refine ⟨r2, ks, rfl, sq_of hks, fun D hD => ?_⟩
      refine lc_it (walk_rev (K := K) (a := r2) (xs := ks)) (fun i H6 => Ex H5 H6 ∧ ∃ zs, H6 D = some (.lst zs) ∧ Stk H H6 zs (((kids pt).reverse.take i).map fun x => (x, d + 1))) ⟨Ex.new hD, [], upd_same, .nil⟩ (fun i H6 _ hw => sq_of (hw.1 _ _ hks)) (fun i x H6 H7 hi hw hy => ?_) (fun H6 hw => ?_)
      · obtain ⟨e6, zs, hzs, Z⟩ := hw
        obtain ⟨rfl, hx⟩ := hy
        obtain ⟨kt, hkt, hka⟩ := KK.get hx
        have hi2 : i < (kids pt).length := by omega
        have hkt2 : (kids pt).reverse[i]? = some kt := rev_get (by rw [← lks]; exact hkt) hi2
        have lz := Z.len
        refine ⟨rfl, _, rfl, _, rfl, _, _, rfl, rfl, by show 2 ≤ sizeLine; decide, fun q2 hq2 => ?_⟩
        have nDq : D ≠ q2 := fun z => by
          rw [z, hq2] at hzs
          cases hzs
        refine ⟨zs, Ex.new hq2 _ _ hzs, ?_, (e6.trans (Ex.new hq2)).mut hD, zs ++ [.ref q2], upd_same, ?_⟩
        · have : zs.length ≤ i := by
            rw [lz, List.length_map, List.length_take]
            exact Nat.min_le_left _ _
          exact sz_lt (by omega)
        · rw [take_next' hkt2, List.map_append]
          refine Stk.upd ((Z.ex (Ex.new hq2)).app (.cons upd_same hka .nil)) fun xs hh => ?_
          rw [upd_ne nDq, hzs] at hh
          cases hh
      · obtain ⟨e6, zs, hzs, Z⟩ := hw
        rw [lks, ← List.length_reverse, List.take_length] at Z
        have e46 := e5.trans e6
        have lz := Z.len
        have lu := S3.len
        rw [List.length_map, List.length_reverse] at lz
        have l5 := len_tot qs
        have hl6 : H6 l = some (.lst us) := e46 _ _ (e4 _ _ hl3)
        refine ⟨l, D, us, zs, rfl, rfl, hl6, hzs, sz_of (by omega), ?_⟩
        refine ⟨_, rfl, _, _, rfl, rfl, m', Nat.lt_succ_self _, us ++ zs, qs ++ (kids pt).reverse.map fun x => (x, d + 1), nm + 1, _, _, _, rfl, (e35.trans e6).mut hl0, upd_same, ?_, ?_, by omega, ?_⟩
        · refine Stk.upd ((S3.ex (e4.trans e46)).app Z) fun xs hh => ?_
          rw [hl6] at hh
          cases hh
        · rw [tot_app, tot_rev]
          omega
        · rw [List.reverse_append, ← List.map_reverse, List.reverse_reverse]
          exact hf
end
end Law

namespace Law
open PySem PySem.Spec PyProof.Rows L2 Evl TR GX
def spAllG : Sp := fun vs H Q _ => ∃ (v : V) (g : Gt) (l w n d : Nat), vs = [v] ∧ GA H v g ∧ Rt l w n d g ∧ g.size ≤ 10000 ∧ ∀ r H' us, Ex H H' → H r = none → H' r = some (.lst us) → us.length = cntF g.size [g] 0 → Q (.ref r) H'
def Same1 (xs : List V) (n : Nat) : Prop := ∀ q : Nat, q < n → atI xs (q : Int) = some (.int (q : Nat))
def spRenG (d : Nat) : Sp := fun vs H Q _ => ∃ (v : V) (g : Gt) (l w n : Nat) (an : Addr) (xs : List V), vs = [v, .ref an] ∧ GA H v g ∧ Rt l w n d g ∧ H an = some (.lst xs) ∧ Same1 xs n ∧ g.size ≤ 10000 ∧ ∀ H' v', Ex H H' → Q v' H'
theorem _root_.GX.Rt.isP {l w n d : Nat} {g : Gt} (h : Rt l w n d g) : GX.isP l w n g = true := by
  cases h with
  | mk h _ => exact h
theorem _root_.GX.Rt.kid {l w n d : Nat} {g x : Gt} (h : Rt l w n (d + 1) g) (hx : x ∈ kids g) : Rt l w n d x := by
  cases h with
  | mk _ h => exact h x hx
theorem _root_.GX.Rt.more {l w n d : Nat} {g : Gt} (h : Rt l w n d g) : ∀ {m : Nat}, d ≤ m → Rt l w n m g := by
  induction h with
  | @mk d g hp _ ih =>
    intro m hm
    obtain ⟨m', rfl⟩ : ∃ m', m = m' + 1 := ⟨m - 1, by omega⟩
    exact .mk hp fun x hx => ih x hx (by omega)
section
variable {P : Program} {w : World} {K : PySem.W.Frag} {mg : Str → Option Value} {base : Heap}
theorem ok_allG {f : Addr} {fd : FuncData} (F : Fun K "all_parts" "all_parts" s_all_parts f fd) (T : Tx mg) (c_within : Kn P w K mg base "_within" ["part"] 1 spWithG) : FnOk P w K mg base CX0 2 f fd ["tree"] spAllG := by
  refine F.ok sc_all_parts (fun vs H Q E h => ?_) (fun cdv A outer s H vs Q E hr h => ?_)
  · obtain ⟨v, g, l, w, n, d, rfl, _⟩ := h
    rfl
  · obtain ⟨v, g, l, wd, n, d, rfl, hT, hR, hsz, q⟩ := h
    obtain ⟨N, hN⟩ : ∃ N, cntF g.size [g] 0 = N := ⟨_, rfl⟩
    rw [hN] at q
    refine ⟨_, (pss_cons (ps_set (i := 1) sc_all_parts.nd rfl (Or.inl rfl) (pe_lst (pa_cons (pv 0) pa_nil)))
      (pss_cons (ps_set (i := 2) sc_all_parts.nd rfl (Or.inl rfl) (pe_lst pa_nil))
      (pss_cons (ps_while PassesOwn.never (pt_truth (pv 1) (by intro _; rfl)) (pss_cons (ps_set (i := 3) sc_all_parts.nd rfl (Or.inl rfl) (pe_bm0 PySem.F.plainAttrs_list PySem.F.slot_list_pop PySem.F.type_list_pop mt_pop (pv 1)))
      (pss_cons (ps_expr (pe_bm PySem.F.plainAttrs_list PySem.F.slot_list_append PySem.F.type_list_append mt_append (pv 2) (pa_cons (pv 3) pa_nil)))
      (pss_one (ps_expr (pe_bm PySem.F.plainAttrs_list PySem.F.slot_list_extend PySem.F.type_list_extend mt_extend (pv 1) (pa_cons (pe_lc (own := [("inner", 4)]) (g := gName 4) (tt := tYes) rfl sc_all_parts.nd (pi_reversed (by rfl) T.reversed (pa_cons (pe_call c_within.ok (hr.mono (by decide)) (by rfl) c_within.g c_within.kp c_within.b .nil pass0 (pa_cons (pv 3) pa_nil)) pa_nil)) (blkOk_by (N := N_all_parts) (sc := defScope s_all_parts) (by decide +kernel)) (fun _ _ _ _ _ => (pg_name (i := 4) sc_all_parts.nd rfl (Or.inl rfl))) (fun _ _ _ _ _ => pts_nil) (fun _ _ _ _ _ => (pv 4))) pa_nil)))))))
      (pss_one (ps_ret (pv 2)))))), ?_⟩
    refine ⟨_, rfl, by show 1 ≤ sizeLine; decide, fun l1 hl1 => ?_⟩
    have e0 := Ex.new (o := .lst [v]) hl1
    refine ⟨Nat.zero_le _, fun l2 hl2 => ?_⟩
    have hl20 : H l2 = none := fresh_back e0 hl2
    have e1 := e0.trans (Ex.new (o := .lst []) hl2)
    have n12 : l1 ≠ l2 := fun z => by
      rw [← z, upd_same] at hl2
      cases hl2
    refine ⟨fun m σ H' => ∃ (st : List V) (ts : List Gt) (fs : List V) (y3 y4 : Option V), σ = [some v, some (.ref l1), some (.ref l2), y3, y4] ∧ Ex H H' ∧ H' l1 = some (.lst st) ∧ GAs H st ts ∧ (∀ x ∈ ts, Rt l wd n d x) ∧ H' l2 = some (.lst fs) ∧ Gt.sizes ts ≤ m ∧ fs.length + m ≤ 10000 ∧ cntF m ts.reverse fs.length = N,
      ⟨g.size, [v], [g], [], none, none, rfl, e1, Ex.new hl2 _ _ upd_same, .cons hT .nil, fun x hx => by rw [List.mem_singleton.mp hx]; exact hR, upd_same, by simp only [Gt.sizes]; omega, by show 0 + g.size ≤ 10000; omega, hN⟩, fun m σ H' hw => ?_⟩
    obtain ⟨st, ts, fs, y3, y4, rfl, e2, hst, KK, hall, hfs, hm, hm2, hc⟩ := hw
    refine ⟨_, rfl, !st.isEmpty, .inl ⟨st, sq_of hst, rfl⟩, ?_⟩
    cases st with
    | nil =>
      refine iteF ?_
      cases KK
      rw [List.reverse_nil, GX.cnt_nil] at hc
      exact ⟨_, rfl, q l2 _ fs e2 hl20 hfs hc⟩
    | cons s0 srest =>
      refine iteT ?_
      obtain ⟨us, x, rs, pt, eS, eP, K', hTA⟩ := KK.last (by intro z; cases z)
      rw [eS] at hst
      subst eP
      rw [sizes_app] at hm
      rw [List.reverse_append, List.reverse_cons, List.reverse_nil, List.nil_append, List.singleton_append] at hc
      simp only [Gt.sizes] at hm
      have hsp := size_pos pt
      obtain ⟨m', rfl⟩ : ∃ m', m = m' + 1 := ⟨m - 1, by omega⟩
      have hk := kids_size pt
      have hpt := hall pt (List.mem_append_right _ List.mem_cons_self)
      have hc2 : cntF m' (kids pt ++ rs.reverse) (fs.length + 1) = N := hc
      refine ⟨fun σ2 H2 => ∃ m2, m2 < m' + 1 ∧ ∃ (st : List V) (ts : List Gt) (fs : List V) (y3 y4 : Option V), σ2 = [some v, some (.ref l1), some (.ref l2), y3, y4] ∧ Ex H H2 ∧ H2 l1 = some (.lst st) ∧ GAs H st ts ∧ (∀ x ∈ ts, Rt l wd n d x) ∧ H2 l2 = some (.lst fs) ∧ Gt.sizes ts ≤ m2 ∧ fs.length + m2 ≤ 10000 ∧ cntF m2 ts.reverse fs.length = N, fun σ2 H2 h => h, ?_⟩
      refine ⟨_, rfl, .inl ⟨rfl, _, sq_of hst⟩, l1, _, _, rfl, rfl, hst, pop_last _ _, ?_⟩
      rw [List.dropLast_concat]
      have e3 : Ex H (L2.upd H' l1 (.lst us)) := e2.mut hl1
      have hl3 : (L2.upd H' l1 (.lst us)) l1 = some (.lst us) := upd_same
      have hf3 : (L2.upd H' l1 (.lst us)) l2 = some (.lst fs) := by
        rw [upd_ne n12.symm]
        exact hfs
      generalize (L2.upd H' l1 (.lst us)) = H3 at e3 hl3 hf3 ⊢
      refine ⟨_, rfl, .inl ⟨rfl, _, sq_of hf3⟩, _, rfl, l2, _, _, rfl, rfl, hf3, sz_lt (by omega), ?_⟩
      have e4 : Ex H (L2.upd H3 l2 (.lst (fs ++ [x]))) := e3.mut hl20
      have hl4 : (L2.upd H3 l2 (.lst (fs ++ [x]))) l1 = some (.lst us) := by
        rw [upd_ne n12]
        exact hl3
      have hf4 : (L2.upd H3 l2 (.lst (fs ++ [x]))) l2 = some (.lst (fs ++ [x])) := upd_same
      generalize (L2.upd H3 l2 (.lst (fs ++ [x]))) = H4 at e4 hl4 hf4 ⊢
      refine ⟨_, rfl, .inl ⟨rfl, _, sq_of hl4⟩, ?_⟩
      refine ⟨_, rfl, x, pt, l, wd, n, H, rfl, hTA, hpt.isP, e4, fun r2 H5 ks e5 hr2 hks KX => ?_⟩
      have lks := KX.len
      have ltk := len_sizes (kids pt)
      refine ⟨r2, ks, rfl, sq_of hks, fun D hD => ?_⟩
      refine lc_it (walk_rev (K := K) (a := r2) (xs := ks)) (fun i H6 => Ex H5 H6 ∧ H6 D = some (.lst (ks.reverse.take i))) ⟨Ex.new hD, upd_same⟩ (fun i H6 _ hw => sq_of (hw.1 _ _ hks)) (fun i z H6 H7 hi hw hy => ?_) (fun H6 hw => ?_)
      · obtain ⟨e6, hz⟩ := hw
        obtain ⟨rfl, hx⟩ := hy
        refine ⟨rfl, _, rfl, _, hz, ?_, e6.mut hD, ?_⟩
        · rw [List.length_take]
          exact sz_lt (by omega)
        · rw [upd_same, take_next' (rev_get hx hi)]
      · obtain ⟨e6, hz⟩ := hw
        rw [← List.length_reverse, List.take_length] at hz
        have hl6 := e6 _ _ (e5 _ _ hl4)
        have lu := K'.len
        have ltr := len_sizes rs
        refine ⟨l1, D, us, ks.reverse, rfl, rfl, hl6, hz, sz_of (by rw [List.length_reverse]; omega), ?_⟩
        refine ⟨m', Nat.lt_succ_self _, us ++ ks.reverse, rs ++ (kids pt).reverse, fs ++ [x], _, _, rfl, ((e4.trans e5).trans e6).mut hl1, upd_same, K'.app KX.rev, fun y hy => ?_, ?_, ?_, ?_, ?_⟩
        · rcases List.mem_append.mp hy with h | h
          · exact hall y (List.mem_append_left _ h)
          · have hy2 := List.mem_reverse.mp h
            cases d with
            | zero => cases hpt
            | succ d' => exact (hpt.kid hy2).more (Nat.le_succ _)
        · rw [upd_ne n12.symm]
          exact e6 _ _ (e5 _ _ hf4)
        · rw [sizes_app, sizes_rev]
          omega
        · rw [List.length_append]
          show fs.length + 1 + m' ≤ 10000
          omega
        · rw [List.reverse_append, List.reverse_reverse, List.length_append]
          exact hc2
theorem ok_renG {f : Addr} {fd : FuncData} (F : Fun K "renamed" "renamed" s_renamed f fd) (T : Tx mg) (g : mg "renamed" = some (.ref f)) (b : Binds K fd ["tree", "names"] []) : ∀ d : Nat, FnOk P w K mg base CX0 (d + 1) f fd ["tree", "names"] (spRenG d)
  | 0 => by
    refine F.ok sc_renamed (fun vs H Q E h => ?_) (fun cdv A outer s H vs Q E hr h => ?_)
    · obtain ⟨v, g, l, wd, n, an, xs, rfl, _⟩ := h
      rfl
    · obtain ⟨v, g, l, wd, n, an, xs, rfl, hT, hR, _⟩ := h
      cases hR
  | d + 1 => by
    have c_renamed : Kn P w K mg base "renamed" ["tree", "names"] (d + 1) (spRenG d) := ⟨f, fd, ok_renG F T g b d, g, F.kp, b⟩
    refine F.ok sc_renamed (fun vs H Q E h => ?_) (fun cdv A outer s H vs Q E hr h => ?_)
    · obtain ⟨v, g, l, wd, n, an, xs, rfl, _⟩ := h
      rfl
    · obtain ⟨v, gg, l, wd, n, an, xs, rfl, hT, hR, han, hS, hsz, q⟩ := h
      refine ⟨_, (pss_cons (ps_asg (pv 0) (TR.pg_seq (by rfl) (pgs_cons (pg_name (i := 2) sc_renamed.nd rfl (Or.inl rfl)) (pgs_cons (pg_name (i := 3) sc_renamed.nd rfl (Or.inl rfl)) (pgs_cons (pg_name (i := 4) sc_renamed.nd rfl (Or.inl rfl)) pgs_nil)))))
      (pss_cons (ps_if (pt_cmpR op_eq (pv 2) pe_str (nomark _)) (pss_one (ps_ret (pe_tup (pa_cons (pv 2) (pa_cons (pv 3) (pa_cons (pe_ix ix_list (pv 1) (pv 4) (fun _ _ => rfl)) pa_nil)))))) pss_nil)
      (pss_cons (ps_if (pt_cmpR op_eq (pv 2) pe_str (nomark _)) (pss_one (ps_ret (pe_tup (pa_cons (pv 2) (pa_cons (pv 3) (pa_cons (pe_call c_renamed.ok (hr.mono (by omega)) (by rfl) c_renamed.g c_renamed.kp c_renamed.b .nil pass0 (pa_cons (pv 4) (pa_cons (pv 1) pa_nil))) pa_nil)))))) pss_nil)
      (pss_one (ps_ret (pe_tup (pa_cons (pv 2) (pa_cons (pv 3) (pa_cons (pe_callTy call_tuple_of (by rfl) T.tuple PyProof.Rows.boot_tuple (pa_cons (pe_lc (own := [("inner", 5)]) (g := gName 5) (tt := tYes) rfl sc_renamed.nd (TR.pi_seq (pv 4)) (blkOk_by (N := N_renamed) (sc := defScope s_renamed) (by decide +kernel)) (fun _ _ _ _ _ => (pg_name (i := 5) sc_renamed.nd rfl (Or.inl rfl))) (fun _ _ _ _ _ => pts_nil) (fun _ _ _ _ _ => (pe_call c_renamed.ok (hr.mono (by omega)) (by rfl) c_renamed.g c_renamed.kp c_renamed.b .nil pass0 (pa_cons (pv 5) (pa_cons (pv 1) pa_nil))))) pa_nil)) pa_nil))))))))), ?_⟩
      have hkid := fun x hx => hR.kid (x := x) hx
      have hks := kids_size gg
      obtain ⟨k, g1, g2, g3, rfl, h⟩ := isP_inv hR.isP
      obtain ⟨a, x, y, z, rfl, ha, hx, hy, hz⟩ := ga3 hT
      rcases h with ⟨rfl, ⟨i, rfl⟩, k', gs, rfl, hl⟩ | ⟨rfl, i, rfl⟩ | ⟨rfl, ⟨i, rfl⟩, j, rfl, j0, j1⟩
      · cases ga_str hx
        rw [kids_read] at hkid hks
        obtain ⟨b', us, rfl, hb, r0⟩ := ga_seq hz
        have lks := r0.len
        have ltk := len_sizes gs
        refine ⟨_, rfl, gSeq_of ha rfl ⟨_, _, rfl, _, _, rfl, _, _, rfl, rfl, ?_⟩⟩
        refine ⟨_, rfl, rfl, _, rfl, iteDn read_ne_go ?_⟩
        refine ⟨_, rfl, rfl, _, rfl, iteDn read_ne_tell ?_⟩
        refine ⟨_, rfl, _, rfl, ?_⟩
        cases k'
        · refine .inl ⟨_, rfl, b', rfl, ⟨us, sq_of hb⟩, fun D hD => lc_it (walk_list (K := K) (a := b') (xs := us)) (fun i H6 => Ex H H6 ∧ ∃ zs, H6 D = some (.lst zs) ∧ zs.length ≤ i) ⟨Ex.new hD, [], upd_same, Nat.le_refl _⟩ (fun i H6 _ hw => sq_of (hw.1 _ _ hb)) (fun i x H6 H7 hi hw hy => ?_) (fun H6 hw => ?_)⟩
          · obtain ⟨e6, zs, hz, lz⟩ := hw
            obtain ⟨rfl, hx⟩ := hy
            obtain ⟨kt, hkt, hka⟩ := r0.get hx
            have mem := List.mem_of_getElem? hkt
            have sk := size_mem mem
            refine ⟨rfl, _, rfl, _, rfl, x, kt, l, wd, n, an, xs, rfl, GA.ex e6 hka, hkid kt mem, e6 _ _ han, hS, by omega, fun H8 v8 e8 => ?_⟩
            exact ⟨zs, e8 _ _ hz, sz_lt (by omega), (e6.trans e8).mut hD, zs ++ [v8], upd_same, by rw [List.length_append]; show zs.length + 1 ≤ i + 1; omega⟩
          · obtain ⟨e6, zs, hz, lz⟩ := hw
            refine ⟨D, zs, rfl, .inl ⟨sq_of hz, fun t2 ht2 => ⟨by show 3 ≤ sizeLine; decide, fun r hr2 => ?_⟩⟩⟩
            exact q _ _ ((e6.trans (Ex.new ht2)).trans (Ex.new hr2))
        · refine .inr ⟨_, rfl, b', rfl, ⟨us, st_of hb⟩, fun D hD => lc_it (walk_tup (K := K) (a := b') (xs := us)) (fun i H6 => Ex H H6 ∧ ∃ zs, H6 D = some (.lst zs) ∧ zs.length ≤ i) ⟨Ex.new hD, [], upd_same, Nat.le_refl _⟩ (fun i H6 _ hw => st_of (hw.1 _ _ hb)) (fun i x H6 H7 hi hw hy => ?_) (fun H6 hw => ?_)⟩
          · obtain ⟨e6, zs, hz, lz⟩ := hw
            obtain ⟨rfl, hx⟩ := hy
            obtain ⟨kt, hkt, hka⟩ := r0.get hx
            have mem := List.mem_of_getElem? hkt
            have sk := size_mem mem
            refine ⟨rfl, _, rfl, _, rfl, x, kt, l, wd, n, an, xs, rfl, GA.ex e6 hka, hkid kt mem, e6 _ _ han, hS, by omega, fun H8 v8 e8 => ?_⟩
            exact ⟨zs, e8 _ _ hz, sz_lt (by omega), (e6.trans e8).mut hD, zs ++ [v8], upd_same, by rw [List.length_append]; show zs.length + 1 ≤ i + 1; omega⟩
          · obtain ⟨e6, zs, hz, lz⟩ := hw
            refine ⟨D, zs, rfl, .inl ⟨sq_of hz, fun t2 ht2 => ⟨by show 3 ≤ sizeLine; decide, fun r hr2 => ?_⟩⟩⟩
            exact q _ _ ((e6.trans (Ex.new ht2)).trans (Ex.new hr2))
      · cases ga_str hx
        rw [kids_tell] at hkid hks
        refine ⟨_, rfl, gSeq_of ha rfl ⟨_, _, rfl, _, _, rfl, _, _, rfl, rfl, ?_⟩⟩
        refine ⟨_, rfl, rfl, _, rfl, iteDn tell_ne_go ?_⟩
        refine ⟨_, rfl, rfl, _, rfl, iteD rfl ?_⟩
        simp only [Gt.sizes] at hks
        refine ⟨_, rfl, _, rfl, _, rfl, _, rfl, z, g3, l, wd, n, an, xs, rfl, hz, hkid g3 (List.mem_singleton.mpr rfl), han, hS, by omega, fun H1 v1 e1 => ⟨by show 3 ≤ sizeLine; decide, fun r hr2 => ?_⟩⟩
        exact q _ _ (e1.trans (Ex.new hr2))
      · cases ga_str hx
        cases ga_int hz
        obtain ⟨jn, rfl⟩ : ∃ jn : Nat, j = (jn : Int) := ⟨j.toNat, (Int.toNat_of_nonneg j0).symm⟩
        refine ⟨_, rfl, gSeq_of ha rfl ⟨_, _, rfl, _, _, rfl, _, _, rfl, rfl, ?_⟩⟩
        refine ⟨_, rfl, rfl, _, rfl, iteD rfl ?_⟩
        exact ⟨_, rfl, _, rfl, _, rfl, _, rfl, an, _, _, _, rfl, rfl, sq_of han, hS _ (by omega), by show 3 ≤ sizeLine; decide, fun r hr2 => q _ _ (Ex.new hr2)⟩
end
end Law

namespace Law
open PySem PySem.Spec PyProof.Rows L2 Evl EK
/-- a value without parts, as data -/
inductive Fl : V → PyData → Prop
  | non : Fl .non .none
  | bl (b : Bool) : Fl (.bl b) (.bool b)
  | int (i : Int) : Fl (.int i) (.int i)
  | str (z : Str) : Fl (.str z) (.str z)
inductive Fls : List V → List PyData → Prop
  | nil : Fls [] []
  | cons {v : V} {d : PyData} {vs : List V} {ds : List PyData} : Fl v d → Fls vs ds → Fls (v :: vs) (d :: ds)
theorem Fls.get {vs : List V} {ds : List PyData} (h : Fls vs ds) : ∀ {i : Nat} {v : V}, vs[i]? = some v → ∃ d, Fl v d := by
  induction h with
  | nil => intro i v h; cases h
  | @cons v d vs ds h1 _ ih =>
    intro i u hu
    cases i with
    | zero => cases hu; exact ⟨d, h1⟩
    | succ i => exact ih hu
/-- the values that errors keep -/
inductive AV (H : Hp) : V → PyData → Prop
  | flat {v : V} {d : PyData} : Fl v d → AV H v d
  | tup {a : Addr} {vs : List V} {ds : List PyData} : H a = some (.tup vs) → Fls vs ds → vs.length ≤ 50 → AV H (.ref a) (.tuple ds)
  | lst {a : Addr} {vs : List V} {ds : List PyData} : H a = some (.lst vs) → Fls vs ds → vs.length ≤ 50 → AV H (.ref a) (.list ds)
  | emp {a : Addr} : H a = some (.dK []) → AV H (.ref a) (.dict [])
  | one {a : Addr} {k : Str} {i : Int} : H a = some (.dK [(.inr k, .int i)]) → AV H (.ref a) (.dict [(.str k, .int i)])
theorem AV.ex {H H' : Hp} {v : V} {d : PyData} (h : AV H v d) (e : Ex H H') : AV H' v d := by
  cases h with
  | flat f => exact .flat f
  | tup h f l => exact .tup (e _ _ h) f l
  | lst h f l => exact .lst (e _ _ h) f l
  | emp h => exact .emp (e _ _ h)
  | one h => exact .one (e _ _ h)
theorem Fl.de {K : PySem.W.Frag} {H : Hp} {v : V} {d : PyData} (h : Fl v d) : DY.DE K H v d := by
  cases h with
  | non => exact .non
  | bl b => exact .bl b
  | int i => exact .int i
  | str z => exact .str z
theorem Fls.de {K : PySem.W.Frag} {H : Hp} {vs : List V} {ds : List PyData} (h : Fls vs ds) : DY.DEs K H vs ds := by
  induction h with
  | nil => exact .nil
  | cons h1 _ ih => exact .cons h1.de ih
theorem AV.de {K : PySem.W.Frag} {H : Hp} {v : V} {d : PyData} (h : AV H v d) : DY.DE K H v d := by
  cases h with
  | flat f => exact f.de
  | tup h f l => exact .tup (st_of h) f.de
  | lst h f l => exact .lst (sq_of h) f.de
  | emp h => exact .emp h
  | one h => exact .one h
theorem Fl.kinds {K : PySem.W.Frag} {v : V} {d : PyData} (h : Fl v d) (H : Hp) : ∃ t, TyX K H v t ∧ PySem.W.kitOne K t (.type "list") = some false ∧ PySem.W.kitOne K t (.type "tuple") = some false ∧ PySem.W.kitOne K t (.type "dict") = some false := by
  cases h with
  | non => exact ⟨_, .base .non, kit_ty (by decide +kernel), kit_ty (by decide +kernel), kit_ty (by decide +kernel)⟩
  | bl b => exact ⟨_, .base (.bl b), kit_ty (by decide +kernel), kit_ty (by decide +kernel), kit_ty (by decide +kernel)⟩
  | int n => exact ⟨_, .base (.int n), kit_ty (by decide +kernel), kit_ty (by decide +kernel), kit_ty (by decide +kernel)⟩
  | str z => exact ⟨_, .base (.str z), kit_ty (by decide +kernel), kit_ty (by decide +kernel), kit_ty (by decide +kernel)⟩
theorem kl_l {K : PySem.W.Frag} : PySem.W.kitOne K (.type "list") (.type "list") = some true := kit_ty (by decide +kernel)
theorem kt_l {K : PySem.W.Frag} : PySem.W.kitOne K (.type "tuple") (.type "list") = some false := kit_ty (by decide +kernel)
theorem kt_t {K : PySem.W.Frag} : PySem.W.kitOne K (.type "tuple") (.type "tuple") = some true := kit_ty (by decide +kernel)
theorem kd_l {K : PySem.W.Frag} : PySem.W.kitOne K (.type "dict") (.type "list") = some false := kit_ty (by decide +kernel)
theorem kd_t {K : PySem.W.Frag} : PySem.W.kitOne K (.type "dict") (.type "tuple") = some false := kit_ty (by decide +kernel)
theorem kd_d {K : PySem.W.Frag} : PySem.W.kitOne K (.type "dict") (.type "dict") = some true := kit_ty (by decide +kernel)
def spKf : Sp := fun vs H Q _ => ∃ v d, vs = [v] ∧ Fl v d ∧ Q v H
def spKept : Sp := fun vs H Q _ => ∃ v d, vs = [v] ∧ AV H v d ∧ ∀ v' H', Ex H H' → AV H' v' d → Q v' H'
section
variable {P : Program} {w : World} {K : PySem.W.Frag} {mg : Str → Option Value} {base : Heap}
theorem ok_kf {f : Addr} {fd : FuncData} (F : Fun K "_kept" "_kept" s_kept f fd) (T : Tx mg) : FnOk P w K mg base CX0 1 f fd ["value"] spKf := by
  refine F.ok sc_kept (fun vs H Q E h => ?_) (fun cdv A outer s H vs Q E hr h => ?_)
  · obtain ⟨v, d, rfl, _⟩ := h
    rfl
  · obtain ⟨v, d, rfl, hv, q⟩ := h
    refine ⟨_, (pss_cons (ps_if (pt_val (pe_callB call_isi (by rfl) T.isinstance PyProof.Rows.boot_isinstance (pa_cons (pv 0) (pa_cons (pe_bltn (v := .ty "list") (by rfl) T.list PyProof.Rows.boot_list rfl) pa_nil)))) (pss_one ps_never) pss_nil)
      (pss_cons (ps_if (pt_val (pe_callB call_isi (by rfl) T.isinstance PyProof.Rows.boot_isinstance (pa_cons (pv 0) (pa_cons (pe_bltn (v := .ty "tuple") (by rfl) T.tuple PyProof.Rows.boot_tuple rfl) pa_nil)))) (pss_one ps_never) pss_nil)
      (pss_cons (ps_if (pt_val (pe_callB call_isi (by rfl) T.isinstance PyProof.Rows.boot_isinstance (pa_cons (pv 0) (pa_cons (pe_bltn (v := .ty "dict") (by rfl) T.dict PyProof.Rows.boot_dict rfl) pa_nil)))) (pss_one ps_never) pss_nil)
      (pss_one (ps_ret (pv 0)))))), ?_⟩
    obtain ⟨t, ty, k1, k2, k3⟩ := hv.kinds (K := K) H
    refine ⟨_, rfl, _, _, _, _, false, rfl, .ty _, ty, k1, false, rfl, iteF ?_⟩
    refine ⟨_, rfl, _, _, _, _, false, rfl, .ty _, ty, k2, false, rfl, iteF ?_⟩
    refine ⟨_, rfl, _, _, _, _, false, rfl, .ty _, ty, k3, false, rfl, iteF ?_⟩
    exact ⟨_, rfl, q⟩
theorem ok_kept {f : Addr} {fd : FuncData} (F : Fun K "_kept" "_kept" s_kept f fd) (T : Tx mg) (c_kept : Kn P w K mg base "_kept" ["value"] 1 spKf) : FnOk P w K mg base CX0 2 f fd ["value"] spKept := by
  refine F.ok sc_kept (fun vs H Q E h => ?_) (fun cdv A outer s H vs Q E hr h => ?_)
  · obtain ⟨v, d, rfl, _⟩ := h
    rfl
  · obtain ⟨v, d, rfl, hv, q⟩ := h
    refine ⟨_, (pss_cons (ps_if (pt_val (pe_callB call_isi (by rfl) T.isinstance PyProof.Rows.boot_isinstance (pa_cons (pv 0) (pa_cons (pe_bltn (v := .ty "list") (by rfl) T.list PyProof.Rows.boot_list rfl) pa_nil)))) (pss_one (ps_ret (pe_lc (own := [("part", 1)]) (g := gName 1) (tt := tYes) rfl sc_kept.nd (pi_list (pv 0)) (blkOk_by (N := N_kept) (sc := defScope s_kept) (by decide +kernel)) (fun _ _ _ _ _ => (pg_name (i := 1) sc_kept.nd rfl (Or.inl rfl))) (fun _ _ _ _ _ => pts_nil) (fun _ _ _ _ _ => (pe_call c_kept.ok (hr.mono (by decide)) (by rfl) c_kept.g c_kept.kp c_kept.b .nil pass0 (pa_cons (pv 1) pa_nil)))))) pss_nil)
      (pss_cons (ps_if (pt_val (pe_callB call_isi (by rfl) T.isinstance PyProof.Rows.boot_isinstance (pa_cons (pv 0) (pa_cons (pe_bltn (v := .ty "tuple") (by rfl) T.tuple PyProof.Rows.boot_tuple rfl) pa_nil)))) (pss_one (ps_ret (pe_callTy call_tuple_of (by rfl) T.tuple PyProof.Rows.boot_tuple (pa_cons (pe_lc (own := [("part", 1)]) (g := gName 1) (tt := tYes) rfl sc_kept.nd (pi_tup (pv 0)) (blkOk_by (N := N_kept) (sc := defScope s_kept) (by decide +kernel)) (fun _ _ _ _ _ => (pg_name (i := 1) sc_kept.nd rfl (Or.inl rfl))) (fun _ _ _ _ _ => pts_nil) (fun _ _ _ _ _ => (pe_call c_kept.ok (hr.mono (by decide)) (by rfl) c_kept.g c_kept.kp c_kept.b .nil pass0 (pa_cons (pv 1) pa_nil)))) pa_nil)))) pss_nil)
      (pss_cons (ps_if (pt_val (pe_callB call_isi (by rfl) T.isinstance PyProof.Rows.boot_isinstance (pa_cons (pv 0) (pa_cons (pe_bltn (v := .ty "dict") (by rfl) T.dict PyProof.Rows.boot_dict rfl) pa_nil)))) (pss_one (ps_ret (pe_lock (pe_dc (own := [("key", 2)]) (g := gName 2) (tt := tYes) rfl sc_kept.nd (pi_keys (pv 0)) (blkOk_by (N := N_kept) (sc := defScope s_kept) (by decide +kernel)) (fun _ _ _ _ _ => (pg_name (i := 2) sc_kept.nd rfl (Or.inl rfl))) (fun _ _ _ _ _ => pts_nil) (fun _ _ _ _ _ => (pv 2)) (fun _ _ _ _ _ => (pe_call c_kept.ok (hr.mono (by decide)) (by rfl) c_kept.g c_kept.kp c_kept.b .nil pass0 (pa_cons (pe_dget (hu_of hr) (pv 0) (pv 2) (fun _ _ => rfl)) pa_nil))))))) pss_nil)
      (pss_one (ps_ret (pv 0)))))), ?_⟩
    cases hv with
    | flat hv =>
      obtain ⟨t, ty, k1, k2, k3⟩ := hv.kinds (K := K) H
      refine ⟨_, rfl, _, _, _, _, false, rfl, .ty _, ty, k1, false, rfl, iteF ?_⟩
      refine ⟨_, rfl, _, _, _, _, false, rfl, .ty _, ty, k2, false, rfl, iteF ?_⟩
      refine ⟨_, rfl, _, _, _, _, false, rfl, .ty _, ty, k3, false, rfl, iteF ?_⟩
      exact ⟨_, rfl, q _ _ (Ex.refl _) (.flat hv)⟩
    | @lst a xs ds ha fx hl =>
      refine ⟨_, rfl, _, _, _, _, true, rfl, .ty _, .base (.lst ha), kl_l, true, rfl, iteT ?_⟩
      refine ⟨_, rfl, a, rfl, ⟨_, sq_of ha⟩, fun D hD => ?_⟩
      refine lc_list (fun i H' => Ex H H' ∧ H D = none ∧ H' D = some (.lst (xs.take i))) ⟨Ex.new hD, hD, upd_same⟩ (fun i H' _ p => sq_of (p.1 _ _ ha)) (fun i x H' hx p => ?_) (fun H' p => ?_)
      · obtain ⟨e, h0, hz⟩ := p
        obtain ⟨d, fd⟩ := fx.get hx
        refine ⟨rfl, ?_⟩
        refine ⟨_, rfl, _, _, rfl, fd, _, hz, ?_, e.mut h0, h0, ?_⟩
        · rw [List.length_take]
          exact Nat.lt_of_le_of_lt (Nat.min_le_right _ _) (Nat.lt_of_le_of_lt hl (by decide))
        · rw [upd_same, List.take_add_one, hx]
          rfl
      · obtain ⟨e, h0, hz⟩ := p
        rw [List.take_length] at hz
        exact q _ _ e (.lst hz fx hl)
    | @tup a xs ds ha fx hl =>
      refine ⟨_, rfl, _, _, _, _, false, rfl, .ty _, .base (.tup ha), kt_l, false, rfl, iteF ?_⟩
      refine ⟨_, rfl, _, _, _, _, true, rfl, .ty _, .base (.tup ha), kt_t, true, rfl, iteT ?_⟩
      refine ⟨_, rfl, a, rfl, ⟨_, st_of ha⟩, fun D hD => ?_⟩
      refine lc_tup (fun i H' => Ex H H' ∧ H D = none ∧ H' D = some (.lst (xs.take i))) ⟨Ex.new hD, hD, upd_same⟩ (fun i H' _ p => st_of (p.1 _ _ ha)) (fun i x H' hx p => ?_) (fun H' p => ?_)
      · obtain ⟨e, h0, hz⟩ := p
        obtain ⟨d, fd⟩ := fx.get hx
        refine ⟨rfl, ?_⟩
        refine ⟨_, rfl, _, _, rfl, fd, _, hz, ?_, e.mut h0, h0, ?_⟩
        · rw [List.length_take]
          exact Nat.lt_of_le_of_lt (Nat.min_le_right _ _) (Nat.lt_of_le_of_lt hl (by decide))
        · rw [upd_same, List.take_add_one, hx]
          rfl
      · obtain ⟨e, h0, hz⟩ := p
        rw [List.take_length] at hz
        refine ⟨D, _, rfl, .inl ⟨sq_of hz, fun p hp => ?_⟩⟩
        exact q _ _ (e.trans (Ex.new hp)) (.tup upd_same fx hl)
    | @emp a ha =>
      refine ⟨_, rfl, _, _, _, _, false, rfl, .ty _, .base (.dK ha), kd_l, false, rfl, iteF ?_⟩
      refine ⟨_, rfl, _, _, _, _, false, rfl, .ty _, .base (.dK ha), kd_t, false, rfl, iteF ?_⟩
      refine ⟨_, rfl, _, _, _, _, true, rfl, .ty _, .base (.dK ha), kd_d, true, rfl, iteT ?_⟩
      refine ⟨a, _, ha, True.intro, fun od => ?_⟩
      refine ⟨_, rfl, a, od, rfl, .inl ⟨[], upd_same, fun D hD => ⟨fun i m H' => i = 0 ∧ H' = upd (upd H a (.frz od (.dK []))) D (.dK []), ⟨0, rfl, rfl⟩, ?_⟩⟩⟩
      rintro i m H' ⟨rfl, rfl⟩
      have ne : D ≠ a := fun z => by
        rw [z, upd_same] at hD
        cases hD
      have hD2 : H D = none := by
        rw [upd_ne ne] at hD
        exact hD
      have hfz : (upd (upd H a (.frz od (.dK []))) D (.dK [])) a = some (.frz od (.dK [])) := by
        rw [upd_ne ne.symm, upd_same]
      refine .inl ⟨⟨hfz, Nat.le_refl _⟩, hfz, ?_⟩
      refine q _ _ (fun b o e => ?_) (.emp (by rw [upd_ne ne, upd_same]))
      by_cases hb : b = a
      · subst hb
        rw [upd_same, ← ha, e]
      · rw [upd_ne hb, upd_ne (fun z => by rw [z, hD2] at e; cases e), upd_ne hb]
        exact e
    | @one a k n ha =>
      refine ⟨_, rfl, _, _, _, _, false, rfl, .ty _, .base (.dK ha), kd_l, false, rfl, iteF ?_⟩
      refine ⟨_, rfl, _, _, _, _, false, rfl, .ty _, .base (.dK ha), kd_t, false, rfl, iteF ?_⟩
      refine ⟨_, rfl, _, _, _, _, true, rfl, .ty _, .base (.dK ha), kd_d, true, rfl, iteT ?_⟩
      refine ⟨a, _, ha, True.intro, fun od => ?_⟩
      refine ⟨_, rfl, a, od, rfl, .inl ⟨[(.inr k, .int n)], upd_same, fun D hD => ⟨fun i m H' => (i = 0 ∧ m = 1 ∧ H' = upd (upd H a (.frz od (.dK [(.inr k, .int n)]))) D (.dK [])) ∨ (i = 1 ∧ m = 0 ∧ H' = upd (upd H a (.frz od (.dK [(.inr k, .int n)]))) D (.dK [(.inr k, .int n)])), ⟨1, .inl ⟨rfl, rfl, rfl⟩⟩, ?_⟩⟩⟩
      have ne : D ≠ a := fun z => by
        rw [z, upd_same] at hD
        cases hD
      have hD2 : H D = none := by
        rw [upd_ne ne] at hD
        exact hD
      have hfz : ∀ o, (upd (upd H a (.frz od (.dK [(.inr k, .int n)]))) D o) a = some (.frz od (.dK [(.inr k, .int n)])) := fun o => by
        rw [upd_ne ne.symm, upd_same]
      rintro i m H' (⟨rfl, rfl, rfl⟩ | ⟨rfl, rfl, rfl⟩)
      · refine .inr ⟨⟨hfz _, by show 0 < 1; decide⟩, fun H' => H' = upd (upd H a (.frz od (.dK [(.inr k, .int n)]))) D (.dK [(.inr k, .int n)]), fun H' h => ⟨0, by omega, .inr ⟨rfl, rfl, h⟩⟩, ?_⟩
        rintro x H' ⟨rfl, kk, vv, hkv, rfl⟩
        cases hkv
        refine ⟨rfl, ?_⟩
        refine ⟨_, rfl, _, rfl, _, rfl, a, .int n, rfl, .inl ⟨_, .inr k, .inr ⟨od, hfz _⟩, rfl, ?_⟩, _, _, rfl, .int n, [], .inr k, rfl, upd_same, by show 0 < sizeLine; decide, ?_⟩
        · simp [valV]
        · rw [upd_upd]
          rfl
      · refine .inl ⟨⟨hfz _, Nat.le_refl _⟩, hfz _, ?_⟩
        refine q _ _ (fun b o e => ?_) (.one (by rw [upd_ne ne, upd_same]))
        by_cases hb : b = a
        · subst hb
          rw [upd_same, ← ha, e]
        · rw [upd_ne hb, upd_ne (fun z => by rw [z, hD2] at e; cases e), upd_ne hb]
          exact e
end
/-- what the __init__ of an error leaves -/
def ErE (H : Hp) (a C : Addr) (fs : List (Str × V)) (H' : Hp) : Prop := ∃ dx, H' a = some (exo a C (some dx)) ∧ H' dx = some (exd dx fs) ∧ H dx = none ∧ dx ≠ a ∧ ∀ b o, H b = some o → b ≠ a → H' b = some o
/-- the error stands -/
structure Ers (H : Hp) (a C dx : Addr) (fs : List (Str × V)) (H' : Hp) : Prop where
  o : H' a = some (exo a C (some dx))
  x : H' dx = some (exd dx fs)
  n : H dx = none
  ne : dx ≠ a
  k : ∀ b o, H b = some o → b ≠ a → H' b = some o
theorem AV.keep {H H' : Hp} {a C : Addr} {d : Option Addr} {v : V} {x : PyData} (h : AV H v x) (ha : H a = some (exo a C d)) (k : ∀ b o, H b = some o → b ≠ a → H' b = some o) : AV H' v x := by
  cases h with
  | flat f => exact .flat f
  | tup h f l => exact .tup (k _ _ h (fun z => by rw [z, ha] at h; cases h)) f l
  | lst h f l => exact .lst (k _ _ h (fun z => by rw [z, ha] at h; cases h)) f l
  | emp h => exact .emp (k _ _ h (fun z => by rw [z, ha] at h; cases h))
  | one h => exact .one (k _ _ h (fun z => by rw [z, ha] at h; cases h))
theorem ers_new {H H1 : Hp} {a C dx : Addr} {f : Str} {v : V} (ha : H a = some (exo a C none)) (e : Ex H H1) (hd : H1 dx = none) (hne : dx ≠ a) : Ers H a C dx [(f, v)] (upd (upd H1 dx (exd dx [(f, v)])) a (exo a C (some dx))) where
  o := upd_same
  x := by rw [upd_ne hne, upd_same]
  n := by
    cases q : H dx with
    | none => rfl
    | some o =>
      have := e _ _ q
      rw [hd] at this
      cases this
  ne := hne
  k := fun b o z nb => by
    have z1 := e _ _ z
    rw [upd_ne nb, upd_ne (fun y => by rw [y, hd] at z1; cases z1)]
    exact z1
theorem ers_put {H H1 H2 : Hp} {a C dx : Addr} {f : Str} {v : V} {fs : List (Str × V)} (E : Ers H a C dx fs H1) (e : Ex H1 H2) : Ers H a C dx ((f, v) :: fs) (upd H2 dx (exd dx ((f, v) :: fs))) where
  o := by rw [upd_ne E.ne.symm]; exact e _ _ E.o
  x := upd_same
  n := E.n
  ne := E.ne
  k := fun b o z nb => by
    rw [upd_ne (fun y => by rw [y, E.n] at z; cases z)]
    exact e _ _ (E.k b o z nb)
/-- a value that stood when the first field was stored -/
theorem AV.over {H : Hp} {dx : Addr} {x : PyData} {fs gs : List (Str × V)} {v : V} (h : AV H v x) (hd : H dx = some (exd dx gs)) : AV (upd H dx (exd dx fs)) v x := by
  have ne : ∀ {b : Addr} {o : HO}, H b = some o → (∀ z : exd dx gs = o, False) → b ≠ dx := fun hb hn z => by
    rw [z, hd] at hb
    exact hn (Option.some.inj hb)
  cases h with
  | flat f => exact .flat f
  | tup h f l => exact .tup (by rw [upd_ne (ne h (fun z => by cases z))]; exact h) f l
  | lst h f l => exact .lst (by rw [upd_ne (ne h (fun z => by cases z))]; exact h) f l
  | emp h => exact .emp (by rw [upd_ne (ne h (fun z => by cases z))]; exact h)
  | one h => exact .one (by rw [upd_ne (ne h (fun z => by cases z))]; exact h)
theorem AV.newx {H : Hp} {a C dx : Addr} {fs : List (Str × V)} {v : V} {x : PyData} (h : AV H v x) (ha : H a = some (exo a C none)) (hd : H dx = none) : AV (upd (upd H dx (exd dx fs)) a (exo a C (some dx))) v x :=
  h.keep ha fun b o z nb => by
    rw [upd_ne nb, upd_ne (fun y => by rw [y, hd] at z; cases z)]
    exact z
def spE1 (C : Addr) (f : Str) : Sp := fun vs H Q _ => ∃ a v d, vs = [.ref a, v] ∧ H a = some (exo a C none) ∧ AV H v d ∧ ∀ dx v' H', Ers H a C dx [(f, v')] H' → AV H' v' d → Q .non H'
def spE2 (C : Addr) (f g : Str) : Sp := fun vs H Q _ => ∃ a v d u e, vs = [.ref a, v, u] ∧ H a = some (exo a C none) ∧ AV H v d ∧ AV H u e ∧ ∀ dx v' u' H', Ers H a C dx [(g, u'), (f, v')] H' → AV H' v' d → AV H' u' e → Q .non H'
def spE3 (C : Addr) (f g h : Str) : Sp := fun vs H Q _ => ∃ a v d u e w b, vs = [.ref a, v, u, w] ∧ H a = some (exo a C none) ∧ AV H v d ∧ AV H u e ∧ AV H w b ∧ ∀ dx v' u' w' H', Ers H a C dx [(h, w'), (g, u'), (f, v')] H' → AV H' v' d → AV H' u' e → AV H' w' b → Q .non H'
/-- the base -/
structure BaseC (K : PySem.W.Frag) (mg : Str → Option Value) (C0 : Addr) : Prop where
  g : mg "SkipsError" = some (.ref C0)
  r : ClX.CRead K C0 (.type "type")
  v : PySem.W.findCls K (.ref C0) (.type "type") "__init__" = some (.val (.builtin "ValueError.__init__"))
section
variable {P : Program} {w : World} {K : PySem.W.Frag} {mg : Str → Option Value} {base : Heap}
theorem ok_BadLetters {f C C0 : Addr} {fd : FuncData} (F : Fun K "__init__" "BadLetters.__init__" s_BadLetters_init f fd) (T : Tx mg) (B0 : BaseC K mg C0) (O : OexC K C) (N : PySem.W.findIn K (.ref C) "letters" = some none) (c_kept : Kn P w K mg base "_kept" ["value"] 2 spKept) :
    FnOk P w K mg base CX0 3 f fd ["self", "letters"] (spE1 C "letters") := by
  refine F.ok sc_BadLetters_init (fun vs H Q E h => ?_) (fun cdv A outer s H vs Q E hr h => ?_)
  · obtain ⟨a, v, d, rfl, _⟩ := h
    rfl
  · obtain ⟨a, v, d, rfl, ha, hv, q⟩ := h
    obtain ⟨g_SkipsError, R_SkipsError, V_SkipsError⟩ := B0
    refine ⟨_, (pss_cons (ps_expr (EK.pe_skinit (by rfl) g_SkipsError R_SkipsError V_SkipsError (pa_cons (pv 0) (pa_cons pe_str pa_nil))))
      (pss_one (ps_ost (pv 0) (pe_call c_kept.ok (hr.mono (by decide)) (by rfl) c_kept.g c_kept.kp c_kept.b .nil pass0 (pa_cons (pv 1) pa_nil))))), ?_⟩
    refine ⟨_, rfl, a, C, _, rfl, by show 1 ≤ 1000; decide, O, ha, ?_⟩
    refine ⟨_, rfl, v, d, rfl, hv, fun v' H1 e1 hv1 => ⟨_, rfl, a, C, rfl, O, N, .inl ⟨e1 _ _ ha, fun dx hd hne => ?_⟩⟩⟩
    exact q dx v' _ (ers_new ha e1 hd hne) (hv1.newx (e1 _ _ ha) hd)
theorem ok_BadWidth {f C C0 : Addr} {fd : FuncData} (F : Fun K "__init__" "BadWidth.__init__" s_BadWidth_init f fd) (T : Tx mg) (B0 : BaseC K mg C0) (O : OexC K C) (N : PySem.W.findIn K (.ref C) "width" = some none) (c_kept : Kn P w K mg base "_kept" ["value"] 2 spKept) :
    FnOk P w K mg base CX0 3 f fd ["self", "width"] (spE1 C "width") := by
  refine F.ok sc_BadWidth_init (fun vs H Q E h => ?_) (fun cdv A outer s H vs Q E hr h => ?_)
  · obtain ⟨a, v, d, rfl, _⟩ := h
    rfl
  · obtain ⟨a, v, d, rfl, ha, hv, q⟩ := h
    obtain ⟨g_SkipsError, R_SkipsError, V_SkipsError⟩ := B0
    refine ⟨_, (pss_cons (ps_expr (EK.pe_skinit (by rfl) g_SkipsError R_SkipsError V_SkipsError (pa_cons (pv 0) (pa_cons pe_str pa_nil))))
      (pss_one (ps_ost (pv 0) (pe_call c_kept.ok (hr.mono (by decide)) (by rfl) c_kept.g c_kept.kp c_kept.b .nil pass0 (pa_cons (pv 1) pa_nil))))), ?_⟩
    refine ⟨_, rfl, a, C, _, rfl, by show 1 ≤ 1000; decide, O, ha, ?_⟩
    refine ⟨_, rfl, v, d, rfl, hv, fun v' H1 e1 hv1 => ⟨_, rfl, a, C, rfl, O, N, .inl ⟨e1 _ _ ha, fun dx hd hne => ?_⟩⟩⟩
    exact q dx v' _ (ers_new ha e1 hd hne) (hv1.newx (e1 _ _ ha) hd)
theorem ok_BadTree {f C C0 : Addr} {fd : FuncData} (F : Fun K "__init__" "BadTree.__init__" s_BadTree_init f fd) (T : Tx mg) (B0 : BaseC K mg C0) (O : OexC K C) (N1 : PySem.W.findIn K (.ref C) "state" = some none) (N2 : PySem.W.findIn K (.ref C) "node" = some none) (c_kept : Kn P w K mg base "_kept" ["value"] 2 spKept) :
    FnOk P w K mg base CX0 3 f fd ["self", "state", "node"] (spE2 C "state" "node") := by
  refine F.ok sc_BadTree_init (fun vs H Q E h => ?_) (fun cdv A outer s H vs Q E hr h => ?_)
  · obtain ⟨a, v, d, u, e, rfl, _⟩ := h
    rfl
  · obtain ⟨a, v, d, u, e, rfl, ha, hv, hu, q⟩ := h
    obtain ⟨g_SkipsError, R_SkipsError, V_SkipsError⟩ := B0
    refine ⟨_, (pss_cons (ps_expr (EK.pe_skinit (by rfl) g_SkipsError R_SkipsError V_SkipsError (pa_cons (pv 0) (pa_cons pe_str pa_nil))))
      (pss_cons (ps_ost (pv 0) (pe_call c_kept.ok (hr.mono (by decide)) (by rfl) c_kept.g c_kept.kp c_kept.b .nil pass0 (pa_cons (pv 1) pa_nil)))
      (pss_one (ps_ost (pv 0) (pe_call c_kept.ok (hr.mono (by decide)) (by rfl) c_kept.g c_kept.kp c_kept.b .nil pass0 (pa_cons (pv 2) pa_nil)))))), ?_⟩
    refine ⟨_, rfl, a, C, _, rfl, by show 1 ≤ 1000; decide, O, ha, ?_⟩
    refine ⟨_, rfl, v, d, rfl, hv, fun v' H1 e1 hv1 => ⟨_, rfl, a, C, rfl, O, N1, .inl ⟨e1 _ _ ha, fun dx hd hne => ?_⟩⟩⟩
    have E1 := ers_new (f := "state") (v := v') ha e1 hd hne
    have hv2 := hv1.newx (fs := [("state", v')]) (e1 _ _ ha) hd
    have hu2 := hu.keep ha E1.k
    refine ⟨_, rfl, u, e, rfl, hu2, fun u' H3 e3 hu3 => ⟨_, rfl, a, C, rfl, O, N2, .inr ⟨dx, _, e3 _ _ E1.o, e3 _ _ E1.x, by show 1 ≤ 900; decide, ?_⟩⟩⟩
    exact q dx v' u' _ (ers_put E1 e3) ((hv2.ex e3).over (e3 _ _ E1.x)) (hu3.over (e3 _ _ E1.x))
theorem ok_TooMany {f C C0 : Addr} {fd : FuncData} (F : Fun K "__init__" "TooMany.__init__" s_TooMany_init f fd) (T : Tx mg) (B0 : BaseC K mg C0) (O : OexC K C) (N1 : PySem.W.findIn K (.ref C) "what" = some none) (N2 : PySem.W.findIn K (.ref C) "many" = some none) (N3 : PySem.W.findIn K (.ref C) "most" = some none)
    (c_kept : Kn P w K mg base "_kept" ["value"] 2 spKept) : FnOk P w K mg base CX0 3 f fd ["self", "what", "many", "most"] (spE3 C "what" "many" "most") := by
  refine F.ok sc_TooMany_init (fun vs H Q E h => ?_) (fun cdv A outer s H vs Q E hr h => ?_)
  · obtain ⟨a, v, d, u, e, z, b, rfl, _⟩ := h
    rfl
  · obtain ⟨a, v, d, u, e, z, b, rfl, ha, hv, hu, hz, q⟩ := h
    obtain ⟨g_SkipsError, R_SkipsError, V_SkipsError⟩ := B0
    refine ⟨_, (pss_cons (ps_expr (EK.pe_skinit (by rfl) g_SkipsError R_SkipsError V_SkipsError (pa_cons (pv 0) (pa_cons pe_str pa_nil))))
      (pss_cons (ps_ost (pv 0) (pe_call c_kept.ok (hr.mono (by decide)) (by rfl) c_kept.g c_kept.kp c_kept.b .nil pass0 (pa_cons (pv 1) pa_nil)))
      (pss_cons (ps_ost (pv 0) (pe_call c_kept.ok (hr.mono (by decide)) (by rfl) c_kept.g c_kept.kp c_kept.b .nil pass0 (pa_cons (pv 2) pa_nil)))
      (pss_one (ps_ost (pv 0) (pe_call c_kept.ok (hr.mono (by decide)) (by rfl) c_kept.g c_kept.kp c_kept.b .nil pass0 (pa_cons (pv 3) pa_nil))))))), ?_⟩
    refine ⟨_, rfl, a, C, _, rfl, by show 1 ≤ 1000; decide, O, ha, ?_⟩
    refine ⟨_, rfl, v, d, rfl, hv, fun v' H1 e1 hv1 => ⟨_, rfl, a, C, rfl, O, N1, .inl ⟨e1 _ _ ha, fun dx hd hne => ?_⟩⟩⟩
    have E1 := ers_new (f := "what") (v := v') ha e1 hd hne
    have hv2 := hv1.newx (fs := [("what", v')]) (e1 _ _ ha) hd
    refine ⟨_, rfl, u, e, rfl, hu.keep ha E1.k, fun u' H3 e3 hu3 => ⟨_, rfl, a, C, rfl, O, N2, .inr ⟨dx, _, e3 _ _ E1.o, e3 _ _ E1.x, by show 1 ≤ 900; decide, ?_⟩⟩⟩
    have E2 := ers_put (f := "many") (v := u') E1 e3
    have hv4 := (hv2.ex e3).over (fs := [("many", u'), ("what", v')]) (e3 _ _ E1.x)
    have hu4 := hu3.over (fs := [("many", u'), ("what", v')]) (e3 _ _ E1.x)
    refine ⟨_, rfl, z, b, rfl, hz.keep ha E2.k, fun z' H5 e5 hz5 => ⟨_, rfl, a, C, rfl, O, N3, .inr ⟨dx, _, e5 _ _ E2.o, e5 _ _ E2.x, by show 2 ≤ 900; decide, ?_⟩⟩⟩
    exact q dx v' u' z' _ (ers_put E2 e5) ((hv4.ex e5).over (e5 _ _ E2.x)) ((hu4.ex e5).over (e5 _ _ E2.x)) (hz5.over (e5 _ _ E2.x))
end
end Law

namespace TR
open PySem PySem.Spec L2 Evl
def rLenQ (K : PySem.W.Frag) : List V → Hp → VK → Prop := fun xs H Q => ∃ p ys, xs = [.ref p] ∧ (SqL K H p ys ∨ SqT K H p ys) ∧ Q (.int ys.length) H
end TR
namespace Law
open PySem PySem.Spec PyProof.Rows L2 Evl TR GX EK
/-- a value that is no text -/
def NoS (K : PySem.W.Frag) (H : Hp) (v : V) : Prop := ∃ t, TyX K H v t ∧ PySem.W.kitOne K t (.type "str") = some false
def azB (c : Nat) : Bool := decide (97 ≤ c) && decide (c ≤ 122)
def areB (x : List Nat) : Bool := decide (2 ≤ x.length ∧ x.length ≤ 4) && (x.all azB && decide (ST.dct (x.map sg) x.length = x.length))
theorem areB_good {L : List Nat} (h : LG L) : areB L = true := by
  unfold areB
  rw [decide_eq_true (show 2 ≤ L.length ∧ L.length ≤ 4 from ⟨h.lo, h.hi⟩), decide_eq_true (dct_nodup h.nd _ (Nat.le_refl _)), Bool.and_true, Bool.true_and, List.all_eq_true]
  intro c hc
  have := h.az c hc
  unfold azB
  rw [decide_eq_true this.1, decide_eq_true this.2]
  rfl
theorem a_dec (c : Nat) : (!decide ((sg c).cps.toList < (Str.ofString "a").cps.toList)) = decide (97 ≤ c) := by
  by_cases h : 97 ≤ c
  · rw [le_a h, decide_eq_true h]
  · rw [decide_eq_false h, show (Str.ofString "a").cps.toList = [97] by decide +kernel, show (sg c).cps.toList = [c] from rfl, decide_eq_true]
    · rfl
    · rw [List.cons_lt_cons_iff]
      exact .inl (by omega)
theorem z_dec (c : Nat) : (!decide ((Str.ofString "z").cps.toList < (sg c).cps.toList)) = decide (c ≤ 122) := by
  by_cases h : c ≤ 122
  · rw [le_z h, decide_eq_true h]
  · rw [decide_eq_false h, show (Str.ofString "z").cps.toList = [122] by decide +kernel, show (sg c).cps.toList = [c] from rfl, decide_eq_true]
    · rfl
    · rw [List.cons_lt_cons_iff]
      exact .inl (by omega)
def spAreG (K : PySem.W.Frag) : Sp := fun vs H Q _ => ∃ v, vs = [v] ∧ ((∃ x, v = .str (tx x) ∧ x.length < 500 ∧ ∀ H', Ex H H' → Q (.bl (areB x)) H') ∨ (NoS K H v ∧ Q (.bl false) H))
theorem tx_all (z : Str) : z = tx z.cps.toList := by
  cases z
  simp [tx]
abbrev lcR (g : TG) (tt : TT) (tl : TE) (vs : List Nat) (σ : L2.St) (Q : Addr → Hp → Prop) : It → Hp → Prop := fun J H1 => ∀ D, H1 D = none → ∃ W : Nat → Nat → Hp → Prop, (∃ m, W 0 m (upd H1 D (.lst []))) ∧ ∀ i m H, W i m H →
  (J.stop i H ∧ Q D H) ∨ (J.go i H ∧ ∃ Nx : Hp → Prop, (∀ H', Nx H' → ∃ m', m' < m ∧ W (i + 1) m' H') ∧ ∀ x H', J.yld i H x H' → g x (wipe σ vs) H' fun σ2 H2 => wipe σ2 vs = wipe σ vs ∧ tt σ2 H2 fun b H3 =>
    if b = true then tl σ2 H3 fun y H4 => ∃ acc, H4 D = some (.lst acc) ∧ acc.length < sizeLine ∧ Nx (upd H4 D (.lst (acc ++ [y]))) else Nx H3)
/-- a walk over a list or a tuple, in a comprehension -/
theorem lcq {K : PySem.W.Frag} {te tl : TE} {g : TG} {tt : TT} {vs : List Nat} {σ : L2.St} {H : Hp} {Q : Addr → Hp → Prop} {a : Addr} {k : Bool} {xs : List V} (h : H a = some (ob k xs)) (hv : ∀ R : VK, R (.ref a) H → te σ H R) (Pv : Addr → Nat → Hp → Prop)
    (h0 : ∀ D, H D = none → Pv D 0 (upd H D (.lst []))) (hk : ∀ D i H', H D = none → Pv D i H' → Ex H H')
    (hs : ∀ D i x H', H D = none → xs[i]? = some x → Pv D i H' → g x (wipe σ vs) H' fun σ2 H2 => wipe σ2 vs = wipe σ vs ∧ tt σ2 H2 fun b H3 =>
      if b = true then tl σ2 H3 fun y H4 => ∃ acc, H4 D = some (.lst acc) ∧ acc.length < sizeLine ∧ Pv D (i + 1) (upd H4 D (.lst (acc ++ [y]))) else Pv D (i + 1) H3)
    (hd : ∀ D H', H D = none → Pv D xs.length H' → Q D H') : iList K te σ H (lcR g tt tl vs σ Q) ∨ iTup K te σ H (lcR g tt tl vs σ Q) := by
  cases k
  · exact .inl (hv _ ⟨a, rfl, ⟨xs, sq_of h⟩, fun D hD => lc_list (Pv D) (h0 D hD) (fun i H' _ p => sq_of (hk D i H' hD p _ _ h)) (fun i x H' hx p => hs D i x H' hD hx p) (fun H' p => hd D H' hD p)⟩)
  · exact .inr (hv _ ⟨a, rfl, ⟨xs, st_of h⟩, fun D hD => lc_tup (Pv D) (h0 D hD) (fun i H' _ p => st_of (hk D i H' hD p _ _ h)) (fun i x H' hx p => hs D i x H' hD hx p) (fun H' p => hd D H' hD p)⟩)
/-- .. in a loop over enumerate -/
theorem forq {K : PySem.W.Frag} {ta : TA} {g : TG} {tb : TS} {D : Ends} {σ : L2.St} {H : Hp} {a : Addr} {k : Bool} {xs : List V} (h : H a = some (ob k xs)) (hv : ∀ R : List V → Hp → Prop, R [.ref a] H → ta σ H R) (Pv : Nat → L2.St → Hp → Prop) (h0 : Pv 0 σ H)
    (hk : ∀ i σ H', Pv i σ H' → Ex H H')
    (hs : ∀ (i : Nat) (x : V) (T : Addr) (σ : L2.St) (H : Hp), xs[i]? = some x → Pv i σ H → H T = none → g (.ref T) σ (upd H T (.tup [.int (i : Nat), x])) fun σ2 H2 => tb { D with nx := Pv (i + 1), ct := Pv (i + 1), bk := D.nx } σ2 H2)
    (hd : ∀ σ H, Pv xs.length σ H → D.nx σ H) : tFor (iEnumQ K ta) g tb D σ H := by
  cases k
  · exact .inl (hv _ ⟨a, xs, rfl, sq_of h, EN.for_enumL Pv h0 (fun i σ H' p => sq_of (hk i σ H' p _ _ h)) hs hd⟩)
  · exact .inr (hv _ ⟨a, xs, rfl, st_of h, EN.for_enumT Pv h0 (fun i σ H' p => st_of (hk i σ H' p _ _ h)) hs hd⟩)
/-- what of the text the class has -/
structure SC (K : PySem.W.Frag) (C : Addr) : Prop where
  cl : Cls K C
  nl : NoAttr K C "letters"
  nw : NoAttr K C "width"
  ns : NoAttr K C "states"
  nn : NoAttr K C "nodes"
theorem same_rg (n : Nat) : Same1 (rgV 0 (n : Int)) n := by
  intro q hq
  unfold rgV
  rw [show (((n : Int) - 0).toNat) = n by omega]
  refine atI_nat ?_
  rw [List.getElem?_map, List.getElem?_range hq]
  show some (V.int (0 + (q : Int))) = _
  rw [Int.zero_add]
theorem AV.via {H H' : Hp} {v : V} {x : PyData} (h : AV H v x) (k : ∀ b o, H b = some o → (∀ xs, o = .tup xs → H' b = some o) ∧ (∀ xs, o = .lst xs → H' b = some o) ∧ (∀ xs, o = .dK xs → H' b = some o)) : AV H' v x := by
  cases h with
  | flat f => exact .flat f
  | tup h f l => exact .tup ((k _ _ h).1 _ rfl) f l
  | lst h f l => exact .lst ((k _ _ h).2.1 _ rfl) f l
  | emp h => exact .emp ((k _ _ h).2.2 _ rfl)
  | one h => exact .one ((k _ _ h).2.2 _ rfl)
theorem raise_endN {H1 H2 : Hp} {a C dx : Addr} {fs : List (Str × V)} {E : XK} (ha : H1 a = none) (e : Ers (upd H1 a (exo a C none)) a C dx fs H2)
    (q : ∀ d H', Ex H1 H' → H1 d = none → H' d = some (.xd fs) → (∀ v x, AV H2 v x → AV H' v x) → E (.ref C) (some d) H') :
    V.non = .non ∧ ∃ (d : Addr) (fs' : List (Str × V)), H2 a = some (exo a C (some d)) ∧ H2 d = some (exd d fs') ∧ H1 d = none ∧ E (.ref C) (some d) (upd (del H2 a) d (.xd fs')) := by
  have hd : H1 dx = none := by
    have := e.n
    rw [upd_ne e.ne] at this
    exact this
  have keep : ∀ b o, H2 b = some o → b ≠ a → b ≠ dx → (upd (del H2 a) dx (.xd fs)) b = some o := fun b o h n1 n2 => by
    rw [upd_ne n2, del_ne n1]
    exact h
  refine ⟨rfl, dx, _, e.o, e.x, hd, q dx _ (fun b o h => ?_) hd upd_same fun v x hv => ?_⟩
  · have nb : b ≠ a := fun z => by rw [z, ha] at h; cases h
    have nx : b ≠ dx := fun z => by rw [z, hd] at h; cases h
    exact keep b o (e.k b o (by rw [upd_ne nb]; exact h) nb) nb nx
  · refine hv.via fun b o h => ?_
    have go : (∀ z : exo a C (some dx) = o, False) → (∀ z : exd dx fs = o, False) → (upd (del H2 a) dx (.xd fs)) b = some o := fun h1 h2 => by
      refine keep b o h (fun z => ?_) (fun z => ?_)
      · rw [z, e.o] at h
        exact h1 (Option.some.inj h)
      · rw [z, e.x] at h
        exact h2 (Option.some.inj h)
    refine ⟨fun xs z => ?_, fun xs z => ?_, fun xs z => ?_⟩ <;> subst z <;> exact go (fun z => by cases z) (fun z => by cases z)
structure ErrC (K : PySem.W.Frag) (C f C0 : Addr) : Prop where
  o : OexC K C
  i : PySem.W.findIn K (.ref C) "__init__" = some (some (.ref f))
  t : PySem.W.typeIn K (.ref f) = some (.type "function")
  x : XfC K C
  e : ExcC K C
  s : PySem.W.kitOne K (.ref C) (.ref C0) = some true
structure Kn' (P : Program) (w : World) (K : PySem.W.Frag) (mg : Str → Option Value) (base : Heap) (CX : CXT) (x : Str) (ps : List Str) (k : Nat) (sp : Sp) where
  f : Addr
  fd : FuncData
  ok : FnOk P w K mg base CX k f fd ps sp
  g : mg x = some (.ref f)
  kp : PySem.W.keepIn K (.ref f) = true
  b : Binds K fd ps []
/-- letters that are none -/
def OddL (K : PySem.W.Frag) (H : Hp) (v : V) : Prop := (∃ x, v = .str (tx x) ∧ x.length < 500 ∧ areB x = false) ∨ NoS K H v
theorem av_int {H : Hp} {v : V} {i : Int} (h : AV H v (.int i)) : v = .int i := by
  cases h with
  | flat f => cases f; rfl
theorem av_str {H : Hp} {v : V} {z : Str} (h : AV H v (.str z)) : v = .str z := by
  cases h with
  | flat f => cases f; rfl
section
variable {P : Program} {w : World} {K : PySem.W.Frag} {mg : Str → Option Value} {base : Heap}
theorem ok_areG {f : Addr} {fd : FuncData} (F : Fun K "are_letters" "are_letters" s_are_letters f fd) (T : Tx mg) : FnOk P w K mg base CX0 1 f fd ["value"] (spAreG K) := by
  refine F.ok sc_are_letters (fun vs H Q E h => ?_) (fun cdv A outer s H vs Q E hr h => ?_)
  · obtain ⟨v, rfl, _⟩ := h
    rfl
  · obtain ⟨v, rfl, h⟩ := h
    refine ⟨_, (pss_cons (ps_if (PW.pt (pw_or (pt_not (pt_val (pe_callB call_isi (by rfl) T.isinstance PyProof.Rows.boot_isinstance (pa_cons (pv 0) (pa_cons (pe_bltn (v := .ty "str") (by rfl) T.str PyProof.Rows.boot_str rfl) pa_nil))))) (pw_or1 (pt_not (pt_chain op_le op_le pe_int (pe_callB call_len_str (by rfl) T.len PySem.boot_len (pa_cons (pv 0) pa_nil)) pe_int))))) (pss_one (ps_ret pe_bl)) pss_nil)
      (pss_one (ps_ret (pe_and (pe_callB (cr_all rfl) (by rfl) T.all PyProof.Rows.boot_all (pa_cons (pe_lc (own := [("sign", 1)]) (g := gName 1) (tt := tYes) rfl sc_are_letters.nd (pi_str (pv 0)) (blkOk_by (N := N_are_letters) (sc := defScope s_are_letters) (by decide +kernel)) (fun _ _ _ _ _ => (pg_name (i := 1) sc_are_letters.nd rfl (Or.inl rfl))) (fun _ _ _ _ _ => pts_nil) (fun _ _ _ _ _ => (pe_chain op_le_str op_le_str pe_str (pv 1) pe_str))) pa_nil)) (pe_one (pe_cmpR op_eq (EN.pe_lenSetS rfl (by rfl) T.len (by rfl) T.set (pv 0)) (pe_callB call_len_str (by rfl) T.len PySem.boot_len (pa_cons (pv 0) pa_nil)) (nomark _))))))), ?_⟩
    rcases h with ⟨x, rfl, hx, q⟩ | ⟨⟨t, ty, kk⟩, q⟩
    · refine ⟨_, rfl, _, _, _, _, true, rfl, .ty _, .base (.str _), kit_ss, true, rfl, ?_⟩
      have q0 := q H (Ex.refl _)
      by_cases h2 : 2 ≤ x.length
      · by_cases h4 : x.length ≤ 4
        · refine ⟨_, rfl, _, rfl, tx_le (by omega), _, _, rfl, rfl, _, rfl, ite2 (fun _ => ?_) (fun hn => absurd (decide_eq_true (by rw [tx_len]; omega)) hn)⟩
          refine ⟨_, _, rfl, rfl, _, rfl, ite2 (fun hb => ?_) (fun _ => ?_)⟩
          · rw [tx_len, decide_eq_true (by omega)] at hb
            cases hb
          refine ⟨_, rfl, _, rfl, fun D hD => ?_⟩
          refine lc_str (x := tx x) (fun i H' => Ex H H' ∧ H' D = some (.lst (((x.take i).map azB).map V.bl))) ⟨Ex.new hD, upd_same⟩ (fun i c H' hic hw => ?_) (fun H' hw => ?_)
          · obtain ⟨e, hl⟩ := hw
            have hc := tx_at hic
            have hi := (List.getElem?_eq_some_iff.mp hc).1
            have fin : ∀ b : Bool, azB c = b → ∃ acc, H' D = some (.lst acc) ∧ acc.length < sizeLine ∧ Ex H (L2.upd H' D (.lst (acc ++ [V.bl b]))) ∧ (L2.upd H' D (.lst (acc ++ [V.bl b]))) D = some (.lst (((x.take (i + 1)).map azB).map V.bl)) := fun b hb => by
              refine ⟨_, hl, ?_, e.mut hD, ?_⟩
              · rw [List.length_map, List.length_map, List.length_take]
                exact sz_lt (by omega)
              · rw [upd_same, List.take_add_one, hc, List.map_append, List.map_append]
                show _ = some (HO.lst (_ ++ [V.bl (azB c)]))
                rw [hb]
            refine ⟨rfl, _, rfl, _, _, rfl, rfl, _, rfl, ite2 (fun hb => ?_) (fun hn => ?_)⟩
            · refine ⟨_, _, rfl, rfl, ?_⟩
              refine fin _ ?_
              have hb2 : (!decide ((sg c).cps.toList < (Str.ofString "a").cps.toList)) = true := hb
              rw [a_dec] at hb2
              unfold azB
              rw [hb2, Bool.true_and]
              exact (z_dec c).symm
            · refine fin _ ?_
              have hb2 : ¬ (!decide ((sg c).cps.toList < (Str.ofString "a").cps.toList)) = true := hn
              rw [a_dec, Bool.not_eq_true] at hb2
              unfold azB
              rw [hb2, Bool.false_and]
          · obtain ⟨e, hl⟩ := hw
            rw [tx_size, List.take_length] at hl
            refine ⟨D, _, rfl, sq_of hl, _, rfl, ?_⟩
            have q1 := q H' e
            have ea : areB x = ((x.map azB).all id && decide (ST.dct (x.map sg) x.length = x.length)) := by
              unfold areB
              rw [decide_eq_true (show 2 ≤ x.length ∧ x.length ≤ 4 from ⟨h2, h4⟩), Bool.true_and, List.all_map]
              rfl
            rw [ea] at q1
            cases hall : (x.map azB).all id with
            | false =>
              rw [hall, Bool.false_and] at q1
              exact q1
            | true =>
              rw [hall, Bool.true_and] at q1
              refine ⟨_, rfl, _, rfl, by rw [tx_size]; omega, _, rfl, _, rfl, tx_le (by omega), rfl, ?_⟩
              have e2 : decide (V.int ((ST.dct (ST.signsOf (tx x)) (tx x).cps.size : Nat) : Int) = V.int (((tx x).length : Nat) : Int)) = decide (ST.dct (x.map sg) x.length = x.length) := by
                rw [decide_eq_decide, sgs_of, tx_size, tx_len]
                constructor
                · intro z
                  have := V.int.inj z
                  omega
                · intro z
                  rw [z]
              show Q (V.bl (decide (V.int ((ST.dct (ST.signsOf (tx x)) (tx x).cps.size : Nat) : Int) = V.int (((tx x).length : Nat) : Int)))) H'
              rw [e2]
              exact q1
        · have ea : areB x = false := by
            unfold areB
            rw [decide_eq_false (fun z => h4 z.2), Bool.false_and]
          rw [ea] at q0
          refine ⟨_, rfl, _, rfl, tx_le (by omega), _, _, rfl, rfl, _, rfl, ite2 (fun _ => ?_) (fun _ => ?_)⟩
          · refine ⟨_, _, rfl, rfl, _, rfl, ite2 (fun _ => q0) (fun hb => absurd (by rw [tx_len, decide_eq_false (by omega)]; rfl) hb)⟩
          · exact ⟨_, rfl, q0⟩
      · have ea : areB x = false := by
          unfold areB
          rw [decide_eq_false (fun z => h2 z.1), Bool.false_and]
        rw [ea] at q0
        refine ⟨_, rfl, _, rfl, tx_le (by omega), _, _, rfl, rfl, _, rfl, ite2 (fun hb => absurd (of_decide_eq_true hb) (by rw [tx_len]; omega)) (fun _ => ?_)⟩
        exact ⟨_, rfl, q0⟩
    · exact ⟨_, rfl, _, _, _, _, false, rfl, .ty _, ty, kk, false, rfl, q⟩
end
end Law

namespace Law
open PySem PySem.Spec PyProof.Rows L2 Evl TR GX EK
/-- an error with its fields -/
def RzF (E : XK) (H : Hp) (C : Addr) (fs : List (Str × V)) : Prop := ∀ d H', Ex H H' → H d = none → H' d = some (.xd fs) → E (.ref C) (some d) H'
def RzD (E : XK) (H : Hp) (C : Addr) (f : Str) (x : PyData) : Prop := ∀ d v' H', Ex H H' → H d = none → H' d = some (.xd [(f, v')]) → AV H' v' x → E (.ref C) (some d) H'
theorem RzF.ex {E : XK} {H H' : Hp} {C : Addr} {fs : List (Str × V)} (h : RzF E H C fs) (e : Ex H H') : RzF E H' C fs := fun d H2 e2 hd hx => h d H2 (e.trans e2) (fresh_back e hd) hx
theorem RzD.ex {E : XK} {H H' : Hp} {C : Addr} {f : Str} {x : PyData} (h : RzD E H C f x) (e : Ex H H') : RzD E H' C f x := fun d v H2 e2 hd hx av => h d v H2 (e.trans e2) (fresh_back e hd) hx av
def cnt (g : Gt) : Nat := cntF g.size [g] 0
def tots (gs : List Gt) : Nat := (gs.map cnt).sum
def bads (l w n : Nat) : List Gt → Nat → Option (Nat × Nat)
  | [], _ => none
  | g :: r, i => if (fwG l w n g).1 = true then some (i, (fwG l w n g).2) else bads l w n r (i + 1)
inductive DueS where
  | ok
  | width
  | states (m : Nat)
  | tree (i m : Nat)
  | nodes (m : Nat)
def dueS (l : Nat) (gw : Gt) (gs : List Gt) : DueS := match gw with
  | .int (.ofNat w) => if w = 0 ∨ w > 8 then .width else if gs.length = 0 ∨ gs.length > 64 then .states gs.length else match bads l w gs.length gs 0 with
    | some (i, m) => .tree i m
    | none => if tots gs > 3000 then .nodes (tots gs) else .ok
  | _ => .width
theorem dueS_width {l : Nat} {gw : Gt} {gs : List Gt} (h : whole 1 8 gw = false) : dueS l gw gs = .width := by
  unfold dueS
  split
  · rename_i w
    have h2 : (decide ((1 : Int) ≤ (w : Int)) && decide ((w : Int) ≤ 8)) = false := h
    rw [if_pos]
    rw [Bool.and_eq_false_iff, decide_eq_false_iff_not, decide_eq_false_iff_not] at h2
    omega
  · rfl
theorem dueS_right {l w : Nat} {gs : List Gt} (h1 : 1 ≤ w) (h8 : w ≤ 8) : dueS l (.int (w : Int)) gs = if gs.length = 0 ∨ gs.length > 64 then .states gs.length else match bads l w gs.length gs 0 with
    | some (i, m) => .tree i m
    | none => if tots gs > 3000 then .nodes (tots gs) else .ok := by
  show (if w = 0 ∨ w > 8 then DueS.width else _) = _
  rw [if_neg (by omega)]
theorem bads_at {l w n : Nat} : ∀ {gs : List Gt} {k i : Nat} {g : Gt}, gs[i]? = some g → (fwG l w n g).1 = true → (∀ j x, j < i → gs[j]? = some x → (fwG l w n x).1 = false) → bads l w n gs k = some (k + i, (fwG l w n g).2)
  | x :: r, k, 0, g, h, hb, _ => by
    cases h
    unfold bads
    rw [if_pos hb]
    rfl
  | x :: r, k, i + 1, g, h, hb, hl => by
    unfold bads
    rw [if_neg (by rw [hl 0 x (Nat.succ_pos _) rfl]; simp), bads_at (k := k + 1) (i := i) h hb fun j y hj hy => hl (j + 1) y (by omega) hy]
    have : k + 1 + i = k + (i + 1) := by omega
    rw [this]
theorem bads_none {l w n : Nat} : ∀ {gs : List Gt} {k : Nat}, (∀ x ∈ gs, (fwG l w n x).1 = false) → bads l w n gs k = none
  | [], _, _ => rfl
  | x :: r, k, h => by
    unfold bads
    rw [if_neg (by rw [h x (List.mem_cons_self ..)]; simp)]
    exact bads_none fun y hy => h y (List.mem_cons_of_mem _ hy)
theorem fwG_cnt {l w n : Nat} {g : Gt} (h : (fwG l w n g).1 = false) : (fwG l w n g).2 = cnt g := by
  have : fwF l w n g.size [(g, 1)] 0 = (false, (fwG l w n g).2) := by
    rw [← h]
    rfl
  exact (fw_cnt this).symm
theorem fwG_rt {l w n : Nat} {g : Gt} (h : (fwG l w n g).1 = false) : Rt l w n 40 g := by
  have : fwF l w n g.size [(g, 1)] 0 = (false, (fwG l w n g).2) := by
    rw [← h]
    rfl
  exact fw_rt this (by rw [tot_one]; exact Nat.le_refl _) (g, 1) (List.mem_singleton.mpr rfl)
theorem sum_int : ∀ gs : List Gt, (gs.map fun g => (cnt g : Int)).sum = ((tots gs : Nat) : Int)
  | [] => rfl
  | g :: r => by
    unfold tots
    rw [List.map_cons, List.sum_cons, sum_int r, List.map_cons, List.sum_cons]
    unfold tots
    omega
/-- which errors are met -/
def MetS (E : XK) (Q : VK) (H : Hp) (CW CM CT : Addr) (dw : PyData) (due : DueS) : Prop := match due with
  | .ok => ∀ H', Ex H H' → Q .non H'
  | .width => RzD E H CW "width" dw
  | .states m => RzF E H CM [("most", .int 64), ("many", .int (m : Nat)), ("what", .str "states")]
  | .tree i m => RzF E H CT [("node", .int (m : Nat)), ("state", .int (i : Nat))]
  | .nodes m => RzF E H CM [("most", .int 3000), ("many", .int (m : Nat)), ("what", .str "nodes")]
def spInitG (K : PySem.W.Frag) (C CL CW CM CT : Addr) : Sp := fun vs H Q E => ∃ (o dx sa : Addr) (v vw : V) (gw : Gt) (dw : PyData) (kt : Bool) (xs : List V) (gs : List Gt) (H0 : Hp), vs = [.ref o, v, vw, .ref sa] ∧ Ex H0 H ∧ H0 o = none ∧ H o = some (.ins C dx []) ∧ H0 sa = some (ob kt xs) ∧ GAs H0 xs gs ∧ GA H0 vw gw ∧ AV H0 vw dw ∧
  gs.length < 1000 ∧ (∀ g ∈ gs, g.size ≤ 10000) ∧ ((∃ L, v = .str (tx L) ∧ LG L ∧ MetS E Q H0 CW CM CT dw (dueS L.length gw gs)) ∨ (∃ d, AV H0 v d ∧ OddL K H0 v ∧ RzD E H0 CL "letters" d))
theorem TyOf_ex {K : PySem.W.Frag} {H H' : Hp} {v : V} {t : Value} (h : TyOf K H v t) (e : Ex H H') : TyOf K H' v t := by
  cases h with
  | non => exact .non
  | bl x => exact .bl x
  | int i => exact .int i
  | str x => exact .str x
  | flt x => exact .flt x
  | lst h => exact .lst (e _ _ h)
  | frz h => exact .frz (e _ _ h)
  | tup h => exact .tup (e _ _ h)
  | dK h => exact .dK (e _ _ h)
  | dT h => exact .dT (e _ _ h)
  | ins h a b c d f => exact .ins (e _ _ h) a b c d f
theorem TyX_ex {K : PySem.W.Frag} {H H' : Hp} {v : V} {t : Value} (h : TyX K H v t) (e : Ex H H') : TyX K H' v t := by
  cases h with
  | base h => exact .base (TyOf_ex h e)
  | byt b => exact .byt b
  | set h => exact .set (e _ _ h)
  | kList h c => exact .kList h c
  | kTuple h c => exact .kTuple h c
  | kDict h c => exact .kDict h c
  | fTuple h => exact .fTuple (e _ _ h)
  | fDict h => exact .fDict (e _ _ h)
theorem NoS.ex {K : PySem.W.Frag} {H H' : Hp} {v : V} (h : NoS K H v) (e : Ex H H') : NoS K H' v := by
  obtain ⟨t, ty, k⟩ := h
  exact ⟨t, TyX_ex ty e, k⟩
theorem OddL.ex {K : PySem.W.Frag} {B B' : Hp} {v : V} (h : OddL K B v) (e : Ex B B') : OddL K B' v := by
  rcases h with h | ⟨t, ty, kk⟩
  · exact .inl h
  · exact .inr ⟨t, TyX_ex ty e, kk⟩
end Law

namespace Law
open PySem PySem.Spec PyProof.Rows L2 Evl TR GX EK
section
variable {P : Program} {w : World} {K : PySem.W.Frag} {mg : Str → Option Value} {base : Heap} {C_BadLetters C_BadWidth C_TooMany C_BadTree fL fW fM fT C0 : Addr} {fdL fdW fdM fdT : FuncData}
theorem ok_initG {f C : Addr} {fd : FuncData} (F : Fun K "__init__" "Searcher.__init__" s_Searcher_init f fd) (T : Tx mg) (S : SC K C) (E1 : ErrC K C_BadLetters fL C0) (E2 : ErrC K C_BadWidth fW C0) (E3 : ErrC K C_TooMany fM C0) (E4 : ErrC K C_BadTree fT C0)
    (g_BadLetters : mg "BadLetters" = some (.ref C_BadLetters)) (g_BadWidth : mg "BadWidth" = some (.ref C_BadWidth)) (g_TooMany : mg "TooMany" = some (.ref C_TooMany)) (g_BadTree : mg "BadTree" = some (.ref C_BadTree))
    (I_BadLetters : FnOk P w K mg base CX0 3 fL fdL ["self", "letters"] (spE1 C_BadLetters "letters")) (B_BadLetters : Binds K fdL ["self", "letters"] []) (I_BadWidth : FnOk P w K mg base CX0 3 fW fdW ["self", "width"] (spE1 C_BadWidth "width")) (B_BadWidth : Binds K fdW ["self", "width"] [])
    (I_TooMany : FnOk P w K mg base CX0 3 fM fdM ["self", "what", "many", "most"] (spE3 C_TooMany "what" "many" "most")) (B_TooMany : Binds K fdM ["self", "what", "many", "most"] []) (I_BadTree : FnOk P w K mg base CX0 3 fT fdT ["self", "state", "node"] (spE2 C_BadTree "state" "node")) (B_BadTree : Binds K fdT ["self", "state", "node"] [])
    (c_are_letters : Kn P w K mg base "are_letters" ["value"] 1 (spAreG K))
    (c_is_whole : Kn P w K mg base "is_whole" ["value", "low", "high"] 2 spWhG) (c_is_list : Kn P w K mg base "is_list" ["value"] 1 spIsLG) (c_first_wrong : Kn P w K mg base "first_wrong" ["tree", "letters", "width", "states"] 4 spFWG)
    (c_all_parts : Kn P w K mg base "all_parts" ["tree"] 2 spAllG) (c_renamed : Kn P w K mg base "renamed" ["tree", "names"] 41 (spRenG 40)) : FnOk P w K mg base (L2.CX P w) 42 f fd ["self", "letters", "width", "states"] (spInitG K C C_BadLetters C_BadWidth C_TooMany C_BadTree) := by
  refine F.okX sc_Searcher_init (fun vs H Q E h => ?_) (fun cdv A outer s H vs Q E hr h => ?_)
  · obtain ⟨o, dx, sa, v, vw, gw, dw, kt, xs, gs, H0, rfl, _⟩ := h
    rfl
  · obtain ⟨o, dx, sa, v, vw, gw, dw, kt, xs, gs, H0, rfl, e0, ho0, ho, hsa, GG, hgw, haw, n1000, hsz, h⟩ := h
    obtain ⟨O_BadLetters, i_BadLetters, t_BadLetters, _, _, _⟩ := E1
    obtain ⟨O_BadWidth, i_BadWidth, t_BadWidth, _, _, _⟩ := E2
    obtain ⟨O_TooMany, i_TooMany, t_TooMany, _, _, _⟩ := E3
    obtain ⟨O_BadTree, i_BadTree, t_BadTree, _, _, _⟩ := E4
    have lks := GG.len
    refine ⟨_, (pss_cons (ps_if (pt_not (pt_val (pe_call c_are_letters.ok (hr.mono (by decide)) (by rfl) c_are_letters.g c_are_letters.kp c_are_letters.b .nil pass0 (pa_cons (pv 1) pa_nil)))) (pss_one (ps_raise rfl (takes_of rfl rfl rfl rfl) (pmk_oex O_BadLetters i_BadLetters t_BadLetters I_BadLetters (hr.mono (by decide)) B_BadLetters .nil pass0 (by rfl) g_BadLetters (pa_cons (pv 1) pa_nil)))) pss_nil)
      (pss_cons (ps_if (pt_not (pt_val (pe_call c_is_whole.ok (hr.mono (by decide)) (by rfl) c_is_whole.g c_is_whole.kp c_is_whole.b .nil pass0 (pa_cons (pv 2) (pa_cons pe_int (pa_cons (pe_glob (v := .int 8) rfl T.m_MOST_WIDTH ⟨_, rfl⟩) pa_nil)))))) (pss_one (ps_raise rfl (takes_of rfl rfl rfl rfl) (pmk_oex O_BadWidth i_BadWidth t_BadWidth I_BadWidth (hr.mono (by decide)) B_BadWidth .nil pass0 (by rfl) g_BadWidth (pa_cons (pv 2) pa_nil)))) pss_nil)
      (pss_cons (ps_set (i := 4) sc_Searcher_init.nd rfl (Or.inl rfl) (pe_ifExp (pt_val (pe_call c_is_list.ok (hr.mono (by decide)) (by rfl) c_is_list.g c_is_list.kp c_is_list.b .nil pass0 (pa_cons (pv 3) pa_nil))) (pe_callB call_len_seq (by rfl) T.len PySem.boot_len (pa_cons (pv 3) pa_nil)) pe_int))
      (pss_cons (ps_if (pt_not (pt_chain op_le op_le pe_int (pv 4) (pe_glob (v := .int 64) rfl T.m_MOST_STATES ⟨_, rfl⟩))) (pss_one (ps_raise rfl (takes_of rfl rfl rfl rfl) (pmk_oex O_TooMany i_TooMany t_TooMany I_TooMany (hr.mono (by decide)) B_TooMany .nil pass0 (by rfl) g_TooMany (pa_cons pe_str (pa_cons (pv 4) (pa_cons (pe_glob (v := .int 64) rfl T.m_MOST_STATES ⟨_, rfl⟩) pa_nil)))))) pss_nil)
      (pss_cons (ps_for (passes_of rfl) rfl (TR.pi_enumQ (by rfl) T.enumerate (pa_cons (pv 3) pa_nil)) (pg_tup (by rfl) (pgs_cons (pg_name (i := 5) sc_Searcher_init.nd rfl (Or.inl rfl)) (pgs_cons (pg_name (i := 6) sc_Searcher_init.nd rfl (Or.inl rfl)) pgs_nil))) (pss_cons (ps_set (i := 7) sc_Searcher_init.nd rfl (Or.inl rfl) (pe_call c_first_wrong.ok (hr.mono (by decide)) (by rfl) c_first_wrong.g c_first_wrong.kp c_first_wrong.b .nil pass0 (pa_cons (pv 6) (pa_cons (pv 1) (pa_cons (pv 2) (pa_cons (pv 4) pa_nil))))))
      (pss_one (ps_if (pt_cmpR op_notN (pv 7) pe_non (nomark _)) (pss_one (ps_raise rfl (takes_of rfl rfl rfl rfl) (pmk_oex O_BadTree i_BadTree t_BadTree I_BadTree (hr.mono (by decide)) B_BadTree .nil pass0 (by rfl) g_BadTree (pa_cons (pv 5) (pa_cons (pv 7) pa_nil))))) pss_nil))))
      (pss_cons (ps_set (i := 8) sc_Searcher_init.nd rfl (Or.inl rfl) (pe_callB (cr_sum rfl) (by rfl) T.sum (by decide +kernel) (pa_cons (pe_lc (own := [("tree", 6)]) (g := gName 6) (tt := tYes) rfl sc_Searcher_init.nd (TR.pi_seq (pv 3)) (blkOk_by (N := N_Searcher_init) (sc := defScope s_Searcher_init) (by decide +kernel)) (fun _ _ _ _ _ => (pg_name (i := 6) sc_Searcher_init.nd rfl (Or.inl rfl))) (fun _ _ _ _ _ => pts_nil) (fun _ _ _ _ _ => (pe_callB (show CallR _ _ (TR.rLenQ K) from call_len_seq) (by rfl) T.len PySem.boot_len (pa_cons (pe_call c_all_parts.ok (hr.mono (by decide)) (by rfl) c_all_parts.g c_all_parts.kp c_all_parts.b .nil pass0 (pa_cons (pv 6) pa_nil)) pa_nil)))) pa_nil)))
      (pss_cons (ps_if (pt_cmpR op_gt (pv 8) (pe_glob (v := .int 3000) rfl T.m_MOST_NODES ⟨_, rfl⟩) (nomark _)) (pss_one (ps_raise rfl (takes_of rfl rfl rfl rfl) (pmk_oex O_TooMany i_TooMany t_TooMany I_TooMany (hr.mono (by decide)) B_TooMany .nil pass0 (by rfl) g_TooMany (pa_cons pe_str (pa_cons (pv 8) (pa_cons (pe_glob (v := .int 3000) rfl T.m_MOST_NODES ⟨_, rfl⟩) pa_nil)))))) pss_nil)
      (pss_cons (ps_set (i := 9) sc_Searcher_init.nd rfl (Or.inr rfl) (pe_listRg rfl (by rfl) T.list (prg_1 (by rfl) T.range (pv 4))))
      (pss_cons (ps_fld (pv 0) (pv 1) rfl)
      (pss_cons (ps_fld (pv 0) (pv 2) rfl)
      (pss_cons (ps_fld (pv 0) (pe_callTy call_tuple_of (by rfl) T.tuple PyProof.Rows.boot_tuple (pa_cons (pe_lc (own := [("tree", 6)]) (g := gName 6) (tt := tYes) rfl sc_Searcher_init.nd (TR.pi_seq (pv 3)) (blkOk_by (N := N_Searcher_init) (sc := defScope s_Searcher_init) (by decide +kernel)) (fun _ _ _ _ _ => (pg_name (i := 6) sc_Searcher_init.nd rfl (Or.inl rfl))) (fun _ _ _ _ _ => pts_nil) (fun _ _ _ _ _ => (pe_call c_renamed.ok (hr.mono (by decide)) (by rfl) c_renamed.g c_renamed.kp c_renamed.b .nil pass0 (pa_cons (pv 6) (pa_cons (pv 9) pa_nil))))) pa_nil)) rfl)
      (pss_one (ps_fld (pv 0) (pv 8) rfl))))))))))))), ?_⟩
    rcases h with ⟨L, rfl, hL, hm⟩ | ⟨d, hv, ho1, q⟩
    rotate_left
    · rcases ho1 with ⟨x, rfl, hx, hb⟩ | hn
      · refine ⟨_, rfl, _, rfl, .inl ⟨x, rfl, hx, fun H1 e1 => ?_⟩⟩
        rw [hb]
        refine ⟨false, rfl, ?_⟩
        exact ⟨_, rfl, by show 1 ≤ 1000; decide, fun a ha => ⟨a, _, d, rfl, upd_same, hv.ex ((e0.trans e1).trans (Ex.new ha)), fun dx v' H3 er av => raise_endN ha er fun d3 H4 e4 hd hx tr => (q.ex (e0.trans e1)) d3 v' H4 e4 hd hx (tr _ _ av)⟩⟩
      · refine ⟨_, rfl, _, rfl, .inr ⟨hn.ex e0, false, rfl, ?_⟩⟩
        exact ⟨_, rfl, by show 1 ≤ 1000; decide, fun a ha => ⟨a, _, d, rfl, upd_same, hv.ex (e0.trans (Ex.new ha)), fun dx v' H3 er av => raise_endN ha er fun d3 H4 e4 hd hx tr => (q.ex e0) d3 v' H4 e4 hd hx (tr _ _ av)⟩⟩
    have hL2 := hL.hi
    refine ⟨_, rfl, _, rfl, .inl ⟨L, rfl, by omega, fun H1 e1 => ?_⟩⟩
    rw [areB_good hL]
    refine ⟨true, rfl, ?_⟩
    have e01 := e0.trans e1
    refine ⟨_, rfl, vw, gw, 1, 8, rfl, GA.ex e01 hgw, fun H2 e2 => ?_⟩
    have e02 := e01.trans e2
    cases hw : whole 1 8 gw with
    | false =>
      rw [dueS_width hw] at hm
      refine ⟨_, rfl, ?_⟩
      exact ⟨_, rfl, by show 1 ≤ 1000; decide, fun a ha => ⟨a, _, dw, rfl, upd_same, haw.ex (e02.trans (Ex.new ha)), fun dx v' H3 er av => raise_endN ha er fun d3 H4 e4 hd hx tr => (RzD.ex hm e02) d3 v' H4 e4 hd hx (tr _ _ av)⟩⟩
    | true =>
    obtain ⟨wi, rfl, w1, w8⟩ := whole_inv hw
    obtain ⟨wd, rfl⟩ : ∃ wd : Nat, wi = (wd : Int) := ⟨wi.toNat, (Int.toNat_of_nonneg (by omega)).symm⟩
    cases ga_int hgw
    rw [dueS_right (by omega) (by omega)] at hm
    refine ⟨_, rfl, ?_⟩
    have hs2 := e02 _ _ hsa
    refine ⟨_, rfl, .ref sa, .seq kt gs, rfl, .seq hs2 (GAs.ex e02 GG), fun H3 e3 => ⟨_, rfl, ?_⟩⟩
    have e03 := e02.trans e3
    have hs3 := e3 _ _ hs2
    refine ⟨_, rfl, sa, _, rfl, ob_seq hs3, ?_⟩
    have many : ∀ (fs : Str) (nn mo : Int) (H5 : Hp), Ex H0 H5 → RzF E H0 C_TooMany [("most", .int mo), ("many", .int nn), ("what", .str fs)] → ∀ a, H5 a = none →
        spE3 C_TooMany "what" "many" "most" (.ref a :: ([V.str fs, .int nn, .int mo] ++ [])) (upd H5 a (exo a C_TooMany none)) (fun v' H2 => v' = .non ∧ ∃ (d : Addr) (fs' : List (Str × V)), H2 a = some (exo a C_TooMany (some d)) ∧ H2 d = some (exd d fs') ∧ H5 d = none ∧ E (.ref C_TooMany) (some d) (upd (del H2 a) d (.xd fs'))) (fun _ _ _ => False) := fun fs nn mo H5 e5 q5 a ha =>
      ⟨a, _, _, _, _, _, _, rfl, upd_same, .flat (.str _), .flat (.int _), .flat (.int _), fun dx v' u' w' H3 er a1 a2 a3 => by
        cases av_str a1
        cases av_int a2
        cases av_int a3
        exact raise_endN ha er fun d3 H4 e4 hd hx _ => (q5.ex e5) d3 H4 e4 hd hx⟩
    by_cases n0 : gs.length = 0
    · rw [if_pos (.inl n0)] at hm
      refine ⟨_, rfl, _, _, rfl, rfl, _, rfl, iteDn (by omega) ?_⟩
      refine ⟨_, rfl, _, rfl, by show 3 ≤ 1000; decide, many "states" _ 64 _ e03 ?_⟩
      rw [lks]
      exact hm
    by_cases n64 : gs.length > 64
    · rw [if_pos (.inr n64)] at hm
      refine ⟨_, rfl, _, _, rfl, rfl, _, rfl, iteD (by omega) ⟨_, _, rfl, rfl, _, rfl, ite2 (fun _ => ?_) (fun hb => ?_)⟩⟩
      · refine ⟨_, rfl, by show 3 ≤ 1000; decide, many "states" _ 64 _ e03 ?_⟩
        rw [lks]
        exact hm
      · rw [decide_eq_false (by omega)] at hb
        exact absurd rfl hb
    rw [if_neg (by omega)] at hm
    refine ⟨_, rfl, _, _, rfl, rfl, _, rfl, iteD (by omega) ⟨_, _, rfl, rfl, _, rfl, ite2 (fun hb => ?_) (fun _ => ?_)⟩⟩
    · rw [decide_eq_true (by omega)] at hb
      cases hb
    refine forq hs3 (fun R h => ⟨_, rfl, h⟩) (fun i σ H' => ∃ y5 y6 y7 : Option V, σ = [some (.ref o), some (.str (tx L)), some (.int (wd : Int)), some (.ref sa), some (.int (xs.length : Nat)), y5, y6, y7, none, none] ∧ Ex H3 H' ∧ ∀ j x, j < i → gs[j]? = some x → (fwG L.length wd gs.length x).1 = false) ⟨none, none, none, rfl, Ex.refl _, fun j x hj => absurd hj (Nat.not_lt_zero _)⟩ (fun i σ H' p => by obtain ⟨_, _, _, _, e, _⟩ := p; exact e) (fun i x T' σ H' hx p hT => ?_) (fun σ H' p => ?_)
    · obtain ⟨y5, y6, y7, rfl, e7, hall⟩ := p
      have e8 := e7.trans (Ex.new (o := .tup [.int (i : Nat), x]) hT)
      obtain ⟨t, ht, hta⟩ := GG.get hx
      have mem := List.mem_of_getElem? ht
      have tsz := hsz t mem
      refine ⟨T', _, rfl, .inl (.inl upd_same), rfl, _, _, rfl, _, _, rfl, rfl, ?_⟩
      refine ⟨_, rfl, _, rfl, _, rfl, _, rfl, x, t, L, wd, gs.length, by rw [lks]; rfl, GA.ex (e03.trans e8) hta, by omega, tsz, fun H4 e9 => ?_⟩
      cases hfw : (fwG L.length wd gs.length t).1 with
      | true =>
        rw [bads_at ht hfw hall] at hm
        have eV : fwV (fwG L.length wd gs.length t) = .int ((fwG L.length wd gs.length t).2 : Nat) := by
          unfold fwV
          rw [if_pos hfw]
        rw [eV]
        refine ⟨_, rfl, rfl, _, rfl, ite2 (fun _ => ?_) (fun hb => absurd (by simp) hb)⟩
        refine ⟨_, rfl, _, rfl, by show 2 ≤ 1000; decide, fun a ha => ⟨a, _, _, _, _, rfl, upd_same, .flat (.int _), .flat (.int _), fun dx v' u' H5 er a1 a2 => ?_⟩⟩
        cases av_int a1
        cases av_int a2
        rw [Nat.zero_add] at hm
        exact raise_endN ha er fun d3 H6 e6 hd hx _ => (RzF.ex hm ((e03.trans e8).trans e9)) d3 H6 e6 hd hx
      | false =>
        have eV : fwV (fwG L.length wd gs.length t) = .non := by
          unfold fwV
          rw [if_neg (by rw [hfw]; simp)]
        rw [eV]
        refine ⟨_, rfl, rfl, _, rfl, ite2 (fun hb => absurd hb (by decide)) (fun _ => ?_)⟩
        refine ⟨_, _, _, rfl, e8.trans e9, fun j y hj hy => ?_⟩
        by_cases hji : j = i
        · rw [hji, ht] at hy
          cases hy
          exact hfw
        · exact hall j y (by omega) hy
    obtain ⟨y5, y6, y7, rfl, e7, hall⟩ := p
    rw [lks] at hall
    have hgood : ∀ x ∈ gs, (fwG L.length wd gs.length x).1 = false := fun x hx => by
      obtain ⟨j, hj, rfl⟩ := List.mem_iff_getElem.mp hx
      exact hall j _ hj (List.getElem?_eq_getElem hj)
    rw [bads_none hgood] at hm
    have hs4 := e7 _ _ hs3
    have e8 := e03.trans e7
    refine lcq hs4 (fun R h => ⟨_, rfl, h⟩) (fun D i H'' => Ex H' H'' ∧ H'' D = some (.lst (((gs.take i).map fun t => (cnt t : Int)).map V.int))) (fun D hD => ⟨Ex.new hD, upd_same⟩) (fun D i H'' _ p => p.1) (fun D i x H'' hD hx p => ?_) (fun D H'' hD p => ?_)
    · obtain ⟨e9, hz⟩ := p
      obtain ⟨t, ht, hta⟩ := GG.get hx
      have mem := List.mem_of_getElem? ht
      have tsz := hsz t mem
      have hi := (List.getElem?_eq_some_iff.mp ht).1
      refine ⟨rfl, _, rfl, x, t, L.length, wd, gs.length, 40, rfl, GA.ex (e8.trans e9) hta, fwG_rt (hgood t mem), by omega, fun r H5 us e10 hr hus hl => ?_⟩
      refine ⟨r, us, rfl, .inl (sq_of hus), _, e10 _ _ hz, ?_, (e9.trans e10).mut hD, ?_⟩
      · rw [List.length_map, List.length_map, List.length_take]
        exact sz_lt (by omega)
      · rw [upd_same, take_next' ht, List.map_append, List.map_append, hl]
        rfl
    obtain ⟨e9, hz⟩ := p
    rw [lks, List.take_length] at hz
    refine ⟨D, _, rfl, sq_of hz, ?_⟩
    rw [sum_int]
    have e89 := e8.trans e9
    by_cases nt : tots gs > 3000
    · simp only [nt, if_true] at hm
      refine ⟨_, rfl, _, _, rfl, rfl, _, rfl, ite2 (fun _ => ?_) (fun hb => absurd (decide_eq_true (by omega)) hb)⟩
      exact ⟨_, rfl, by show 3 ≤ 1000; decide, many "nodes" _ 3000 _ e89 hm⟩
    simp only [nt] at hm
    refine ⟨_, rfl, _, _, rfl, rfl, _, rfl, ite2 (fun hb => absurd (of_decide_eq_true hb) (by omega)) (fun _ => ?_)⟩
    refine ⟨_, rfl, _, rfl, RgOk.of_le (by omega) (by omega) (by omega) (by omega), fun an han => ?_⟩
    have eA := e89.trans (Ex.new (o := .lst (rgV 0 (xs.length : Int))) han)
    have hoA := ((((e1.trans e2).trans e3).trans ((e7.trans e9).trans (Ex.new (o := .lst (rgV 0 (xs.length : Int))) han))) _ _ ho)
    have hanA : (upd H'' an (.lst (rgV 0 (xs.length : Int)))) an = some (.lst (rgV 0 (xs.length : Int))) := upd_same
    generalize (upd H'' an (.lst (rgV 0 (xs.length : Int)))) = HA at eA hoA hanA ⊢
    have nao : an ≠ o := ne_of hanA hoA (by intro z; cases z)
    refine ⟨_, rfl, _, rfl, o, C, dx, _, rfl, hoA, S.cl, S.nl, by show 0 < 1000; decide, ?_⟩
    have eB := eA.mut (o := .ins C dx (putF "letters" (.str (tx L)) [])) ho0
    have hoB : (upd HA o (.ins C dx (putF "letters" (.str (tx L)) []))) o = _ := upd_same
    have hanB := (upd_ne (H := HA) (o := .ins C dx (putF "letters" (.str (tx L)) [])) nao).trans hanA
    generalize (upd HA o (.ins C dx (putF "letters" (.str (tx L)) []))) = HB at eB hoB hanB ⊢
    refine ⟨_, rfl, _, rfl, o, C, dx, _, rfl, hoB, S.cl, S.nw, by show 1 < 1000; decide, ?_⟩
    generalize hf2 : putF "width" (.int (wd : Int)) (putF "letters" (.str (tx L)) []) = f2
    have lf2 : f2.length < 1000 := by
      rw [← hf2]
      show 2 < 1000
      decide
    have eC := eB.mut (o := .ins C dx f2) ho0
    have hoC : (upd HB o (.ins C dx f2)) o = _ := upd_same
    have hanC := (upd_ne (H := HB) (o := .ins C dx f2) nao).trans hanB
    generalize (upd HB o (.ins C dx f2)) = HC at eC hoC hanC ⊢
    refine lcq (eC _ _ hsa) (fun R h => ⟨_, rfl, h⟩) (fun D i H'' => Ex HC H'' ∧ ∃ zs, H'' D = some (.lst zs) ∧ zs.length ≤ i) (fun D hD => ⟨Ex.new hD, [], upd_same, Nat.le_refl _⟩) (fun D i H'' _ p => p.1) (fun D i x H'' hD hx p => ?_) (fun D H'' hD p => ?_)
    · obtain ⟨e9, zs, hz, lz⟩ := p
      obtain ⟨t, ht, hta⟩ := GG.get hx
      have mem := List.mem_of_getElem? ht
      have hi := (List.getElem?_eq_some_iff.mp ht).1
      have tsz := hsz t mem
      refine ⟨rfl, _, rfl, _, rfl, x, t, L.length, wd, gs.length, an, _, rfl, GA.ex (eC.trans e9) hta, fwG_rt (hgood t mem), e9 _ _ hanC, ?_, by omega, fun H8 v8 e10 => ?_⟩
      · rw [← lks]
        exact same_rg _
      exact ⟨zs, e10 _ _ hz, sz_lt (by omega), (e9.trans e10).mut hD, zs ++ [v8], upd_same, by rw [List.length_append]; show zs.length + 1 ≤ i + 1; omega⟩
    obtain ⟨e9, zs, hz, lz⟩ := p
    refine ⟨D, zs, rfl, .inl ⟨sq_of hz, fun t2 ht2 => ?_⟩⟩
    have e10 := e9.trans (Ex.new (o := .tup zs) ht2)
    have hoD := e10 _ _ hoC
    have ht3 : (upd H'' t2 (.tup zs)) t2 = some (.tup zs) := upd_same
    have eD := eC.trans e10
    generalize (upd H'' t2 (.tup zs)) = HD at hoD ht3 eD ⊢
    refine ⟨_, rfl, o, C, dx, _, rfl, hoD, S.cl, S.ns, lf2, ?_⟩
    refine ⟨_, rfl, _, rfl, o, C, dx, _, rfl, upd_same, S.cl, S.nn, ?_, ?_⟩
    · rw [← hf2]
      show 3 < 1000
      decide
    exact hm _ ((eD.mut ho0).mut ho0)
end
end Law

namespace TR
open PySem PySem.Spec L2 Evl
/-! ### trees of tuples do not change with a list -/
mutual
theorem TA.upd {H : Hp} {a : Addr} {o : HO} (hn : ∀ xs, H a ≠ some (.tup xs)) : ∀ {t : Tr} {v : V}, TA true H v t → TA true (L2.upd H a o) v t
  | _, _, .go (a := r) h => .go (by rw [upd_ne (fun q : r = a => hn _ (by rw [← q]; exact h))]; exact h)
  | _, _, .tell (a := r) h r1 => .tell (by rw [upd_ne (fun q : r = a => hn _ (by rw [← q]; exact h))]; exact h) (TA.upd hn r1)
  | _, _, .read (a := r) (b := b) h hb r1 => .read (by rw [upd_ne (fun q : r = a => hn _ (by rw [← q]; exact h))]; exact h) (by rw [upd_ne (fun q : b = a => hn _ (by rw [← q]; exact hb))]; exact hb) (TAs.upd hn r1)
theorem TAs.upd {H : Hp} {a : Addr} {o : HO} (hn : ∀ xs, H a ≠ some (.tup xs)) : ∀ {ts : Trs} {vs : List V}, TAs true H vs ts → TAs true (L2.upd H a o) vs ts
  | _, _, .nil => .nil
  | _, _, .cons h r => .cons (TA.upd hn h) (TAs.upd hn r)
end
theorem Kids.upd {H : Hp} {a : Addr} {o : HO} (hn : ∀ xs, H a ≠ some (.tup xs)) : ∀ {vs : List V} {ts : List Tr}, Kids true H vs ts → Kids true (L2.upd H a o) vs ts
  | _, _, .nil => .nil
  | _, _, .cons h r => .cons (h.upd hn) (Kids.upd hn r)
theorem Kids.tas {k : Bool} {H : Hp} : ∀ {ts : Trs} {vs : List V}, Kids k H vs ts.list → TAs k H vs ts
  | .nil, _, .nil => .nil
  | .cons _ _, _, .cons h r => .cons h (Kids.tas r)
def Trs.of : List Tr → Trs
  | [] => .nil
  | t :: r => .cons t (Trs.of r)
theorem Trs.of_list : ∀ l : List Tr, (Trs.of l).list = l
  | [] => rfl
  | t :: r => congrArg (t :: ·) (Trs.of_list r)
theorem Trs.ok_of {l w n : Nat} : ∀ {ts : List Tr}, (∀ t ∈ ts, t.ok l w n) → (Trs.of ts).ok l w n
  | [], _ => True.intro
  | t :: r, h => ⟨h t List.mem_cons_self, Trs.ok_of fun x hx => h x (List.mem_cons_of_mem _ hx)⟩
theorem Trs.depth_of {d : Nat} : ∀ {ts : List Tr}, (∀ t ∈ ts, t.depth ≤ d) → (Trs.of ts).depth ≤ d
  | [], _ => Nat.zero_le _
  | t :: r, h => Nat.max_le.mpr ⟨h t List.mem_cons_self, Trs.depth_of fun x hx => h x (List.mem_cons_of_mem _ hx)⟩
theorem total_le {s : Nat} : ∀ {ts : List Tr}, (∀ t ∈ ts, t.size ≤ s) → TR.total ts ≤ ts.length * s
  | [], _ => Nat.zero_le _
  | t :: r, h => by
    have h1 := h t List.mem_cons_self
    have h2 := total_le (ts := r) fun x hx => h x (List.mem_cons_of_mem _ hx)
    show t.size + TR.total r ≤ (r.length + 1) * s
    rw [Nat.succ_mul]
    omega
end TR
namespace Law
open PySem PySem.Spec PyProof.Rows L2 Evl TR
theorem PenAt.both {p : PenI} {H0 H : Hp} {a : Addr} {n : Nat} {o : HO} (P : PenAt p H0 H n) (hd : a ≠ p.d) (hc : a ≠ p.c) : PenAt p (L2.upd H0 a o) (L2.upd H a o) n := by
  obtain ⟨e0, h0, hc0, hl, op, lf, ho, hd'⟩ := P
  refine ⟨fun b u e => ?_, by rw [upd_ne hd.symm]; exact h0, by rw [upd_ne hc.symm]; exact hc0, hl, op, lf, ho, by rw [upd_ne hd.symm]; exact hd'⟩
  by_cases q : b = a
  · subst q
    rw [upd_same] at e ⊢
    exact e
  · rw [upd_ne q] at e ⊢
    exact e0 b u e
theorem fresh_nc {p : PenI} {H0 H : Hp} {n : Nat} {a : Addr} (P : PenAt p H0 H n) (h : H a = none) : a ≠ p.c := fun e => by
  rw [e, P.1 _ _ P.2.2.1] at h
  cases h
/-- one more object made -/
theorem PenAt.made {p : PenI} {H0 H : Hp} {a : Addr} {n : Nat} {o : HO} (P : PenAt p H0 H n) (h : H a = none) : PenAt p (L2.upd H0 a o) (L2.upd H a o) n ∧ Ex H0 (L2.upd H0 a o) :=
  ⟨P.both (fresh_ne P h) (fresh_nc P h), Ex.new (fresh0 P h)⟩
/-- draws of a tree, its size -/
def nd : Nat → Nat
  | 0 => 2
  | d + 1 => 2 + 4 * nd d
def sz : Nat → Nat
  | 0 => 1
  | d + 1 => 1 + 4 * sz d
theorem nd_pos : ∀ d, 2 ≤ nd d
  | 0 => Nat.le_refl _
  | d + 1 => Nat.le_add_right _ _
theorem sz_pos : ∀ d, 1 ≤ sz d
  | 0 => Nat.le_refl _
  | d + 1 => Nat.le_add_right _ _
def spTree (k : Nat) : Sp := fun vs H Q _ => ∃ (p : PenI) (H0 : Hp) (n d : Nat) (L : List Nat) (w m : Nat), vs = [.ref p.d, .str (tx L), .int (w : Int), .int (m : Int), .int (d : Int)] ∧ d < k ∧ PenAt p H0 H n ∧ n + nd d < 900000 ∧ 2 ≤ L.length ∧ L.length ≤ 4 ∧ 1 ≤ w ∧ w ≤ 8 ∧ 1 ≤ m ∧ m ≤ 64 ∧
  ∀ H1 H' v t, Ex H0 H1 → PenAt p H1 H' (n + nd d) → TR.TA true H1 v t → t.ok L.length w m → t.depth ≤ d + 1 → t.size ≤ sz d → Q v H'
section
variable {P : Program} {w : World} {K : PySem.W.Frag} {mg : Str → Option Value} {base : Heap}
theorem ok_tree {f : Addr} {fd : FuncData} (F : Fun K "_law_tree" "_law_tree" s_ltree f fd) (T : Tx mg) (g : mg "_law_tree" = some (.ref f)) (b : Binds K fd ["_law_pen_here", "_law_letters_here", "_law_width", "_law_states", "_law_depth"] [])
    (c_ldraw : Kn P w K mg base "_law_draw" ["_law_pen_here", "_law_many"] 1 spDraw) : ∀ k : Nat, FnOk P w K mg base CX0 (k + 2) f fd ["_law_pen_here", "_law_letters_here", "_law_width", "_law_states", "_law_depth"] (spTree k)
  | 0 => by
    refine F.ok sc_ltree (fun vs H Q E h => ?_) (fun cdv A outer s H vs Q E hr h => ?_)
    · obtain ⟨p, H0, n, d, L, wd, m, rfl, _⟩ := h
      rfl
    · obtain ⟨p, H0, n, d, L, wd, m, rfl, hk, _⟩ := h
      exact absurd hk (Nat.not_lt_zero _)
  | k + 1 => by
    have c_ltree : Kn P w K mg base "_law_tree" ["_law_pen_here", "_law_letters_here", "_law_width", "_law_states", "_law_depth"] (k + 2) (spTree k) := ⟨f, fd, ok_tree F T g b c_ldraw k, g, F.kp, b⟩
    refine F.ok sc_ltree (fun vs H Q E h => ?_) (fun cdv A outer s H vs Q E hr h => ?_)
    · obtain ⟨p, H0, n, d, L, wd, m, rfl, _⟩ := h
      rfl
    · obtain ⟨p, H0, n, d, L, wd, m, rfl, hk, P0, hn, l2, l4, w1, w8, m1, m64, q⟩ := h
      have ndp := nd_pos d
      refine ⟨_, (pss_cons (ps_set (i := 5) sc_ltree.nd rfl (Or.inl rfl) (pe_ifExp (pt_cmpR op_gt (pv 4) pe_int (nomark _)) (pe_call c_ldraw.ok (hr.mono (by omega)) (by rfl) c_ldraw.g c_ldraw.kp c_ldraw.b .nil pass0 (pa_cons (pv 0) (pa_cons pe_int pa_nil))) pe_int))
      (pss_cons (ps_if (pt_cmpR op_lt (pv 5) pe_int (nomark _)) (pss_cons (ps_set (i := 6) sc_ltree.nd rfl (Or.inl rfl) (pe_call c_ldraw.ok (hr.mono (by omega)) (by rfl) c_ldraw.g c_ldraw.kp c_ldraw.b .nil pass0 (pa_cons (pv 0) (pa_cons (pe_op op_add (pv 2) pe_int) pa_nil))))
      (pss_one (ps_ret (pe_tup (pa_cons pe_str (pa_cons (pv 6) (pa_cons (pe_callTy call_tuple_of (by rfl) T.tuple PyProof.Rows.boot_tuple (pa_cons (pe_lc (own := [("_law_letter", 7)]) (g := gName 7) (tt := tYes) rfl sc_ltree.nd (pi_str (pv 1)) (blkOk_by (N := N_ltree) (sc := defScope s_ltree) (by decide +kernel)) (fun _ _ _ _ _ => (pg_name (i := 7) sc_ltree.nd rfl (Or.inl rfl))) (fun _ _ _ _ _ => pts_nil) (fun _ _ _ _ _ => (pe_call c_ltree.ok (hr.mono (by omega)) (by rfl) c_ltree.g c_ltree.kp c_ltree.b .nil pass0 (pa_cons (pv 0) (pa_cons (pv 1) (pa_cons (pv 2) (pa_cons (pv 3) (pa_cons (pe_op op_sub (pv 4) pe_int) pa_nil)))))))) pa_nil)) pa_nil))))))) pss_nil)
      (pss_cons (ps_if (pt_cmpR op_eq (pv 5) pe_int (nomark _)) (pss_one (ps_ret (pe_tup (pa_cons pe_str (pa_cons (pe_call c_ldraw.ok (hr.mono (by omega)) (by rfl) c_ldraw.g c_ldraw.kp c_ldraw.b .nil pass0 (pa_cons (pv 0) (pa_cons pe_int pa_nil))) (pa_cons (pe_call c_ltree.ok (hr.mono (by omega)) (by rfl) c_ltree.g c_ltree.kp c_ltree.b .nil pass0 (pa_cons (pv 0) (pa_cons (pv 1) (pa_cons (pv 2) (pa_cons (pv 3) (pa_cons (pe_op op_sub (pv 4) pe_int) pa_nil)))))) pa_nil)))))) pss_nil)
      (pss_one (ps_ret (pe_tup (pa_cons pe_str (pa_cons (pe_op op_add pe_int (pe_call c_ldraw.ok (hr.mono (by omega)) (by rfl) c_ldraw.g c_ldraw.kp c_ldraw.b .nil pass0 (pa_cons (pv 0) (pa_cons (pe_op op_add (pv 2) pe_int) pa_nil)))) (pa_cons (pe_call c_ldraw.ok (hr.mono (by omega)) (by rfl) c_ldraw.g c_ldraw.kp c_ldraw.b .nil pass0 (pa_cons (pv 0) (pa_cons (pv 3) pa_nil))) pa_nil))))))))), ?_⟩
      refine ⟨_, rfl, _, _, rfl, rfl, _, rfl, ite2 (fun hb => ?_) (fun hb => ?_)⟩
      · have hd0 : 0 < (d : Int) := of_decide_eq_true hb
        obtain ⟨d', rfl⟩ : ∃ d', d = d' + 1 := ⟨d - 1, by omega⟩
        have nde : nd (d' + 1) = 2 + 4 * nd d' := rfl
        have sze : sz (d' + 1) = 1 + 4 * sz d' := rfl
        have ndp' := nd_pos d'
        have szp' := sz_pos d'
        have dm : (V.int (((d' + 1 : Nat) : Int) - 1)) = V.int (d' : Int) := congrArg V.int (by omega)
        refine ⟨_, rfl, p, H0, n, 6, rfl, P0, by omega, by decide, by decide, fun H1 r P1 r0 r1 => ?_⟩
        refine ⟨_, rfl, _, _, rfl, rfl, _, rfl, ite2 (fun hb1 => ?_) (fun hb1 => ?_)⟩
        · refine ⟨_, rfl, _, rfl, _, _, rfl, rfl, p, H0, n + 1, _, rfl, P1, by omega, by omega, by omega, fun H2 pl P2 p0 p1 => ?_⟩
          obtain ⟨pn, rfl⟩ : ∃ pn : Nat, pl = (pn : Int) := ⟨pl.toNat, (Int.toNat_of_nonneg p0).symm⟩
          refine ⟨_, rfl, _, rfl, _, rfl, fun D hD => ?_⟩
          have d0 := fresh0 P2 hD
          have d1 := fresh_ne P2 hD
          have d2 := fresh_nc P2 hD
          refine lc_str (x := tx L) (fun i H' => ∃ (Hb : Hp) (zs : List V) (ts : List Tr), Ex H0 Hb ∧ PenAt p Hb H' (n + 2 + i * nd d') ∧ Hb D = some (.lst zs) ∧ Kids true Hb zs ts ∧ ts.length = i ∧ ∀ t ∈ ts, t.ok L.length wd m ∧ t.depth ≤ d' + 1 ∧ t.size ≤ sz d')
            ⟨L2.upd H0 D (.lst []), [], [], Ex.new d0, (P2.both d1 d2).le (by omega), upd_same, .nil, rfl, fun t ht => nomatch ht⟩ (fun i c H' hic hw => ?_) (fun H' hw => ?_)
          · obtain ⟨Hb, zs, ts, e, Pb, hz, KK, hl, hall⟩ := hw
            have hi := (List.getElem?_eq_some_iff.mp (tx_at hic)).1
            have hi4 : (i + 1) * nd d' ≤ 4 * nd d' := Nat.mul_le_mul_right _ (by omega)
            rw [Nat.succ_mul] at hi4
            have lz := KK.len
            refine ⟨rfl, _, rfl, _, rfl, _, rfl, _, rfl, _, rfl, _, _, rfl, rfl, p, Hb, n + 2 + i * nd d', d', L, wd, m, congrArg (fun z => [V.ref p.d, V.str (tx L), V.int (wd : Int), V.int (m : Int), z]) dm, by omega, Pb, by omega, l2, l4, w1, w8, m1, m64, fun H3 H4 v t e3 P4 hta tok tdp tsz => ?_⟩
            refine ⟨zs, P4.1 _ _ (e3 _ _ hz), sz_lt (by omega), L2.upd H3 D (.lst (zs ++ [v])), zs ++ [v], ts ++ [t], (e.trans e3).mut d0, (P4.both d1 d2).le ?_, upd_same, ?_, ?_, ?_⟩
            · rw [Nat.succ_mul]
              omega
            · refine Kids.upd (fun ys hh => ?_) ((KK.ex e3).snoc hta)
              rw [e3 _ _ hz] at hh
              cases hh
            · rw [List.length_append, hl]
              rfl
            · intro x hx
              rcases List.mem_append.mp hx with h | h
              · exact hall x h
              · rw [List.mem_singleton.mp h]
                exact ⟨tok, tdp, tsz⟩
          · obtain ⟨Hb, zs, ts, e, Pb, hz, KK, hl, hall⟩ := hw
            rw [tx_size] at hl
            refine ⟨D, zs, rfl, .inl ⟨sq_of (Pb.1 _ _ hz), fun t2 ht2 => ⟨by show 3 ≤ sizeLine; decide, fun r2 hr2 => ?_⟩⟩⟩
            obtain ⟨Pc, ec⟩ := Pb.made (o := .tup zs) ht2
            obtain ⟨Pd, ed⟩ := Pc.made (o := .tup [.str "read", .int (pn : Int), .ref t2]) hr2
            have hn2 : L.length * nd d' ≤ 4 * nd d' := Nat.mul_le_mul_right _ l4
            have hs2 : L.length * sz d' ≤ 4 * sz d' := Nat.mul_le_mul_right _ l4
            have tot := total_le (s := sz d') fun t ht => (hall t ht).2.2
            rw [hl] at tot
            rw [tx_size] at Pd
            refine q _ _ _ (.read pn (Trs.of ts)) ((e.trans ec).trans ed) (Pd.le (by omega)) (.read upd_same (ed _ _ upd_same) ?_) ⟨by omega, ?_, Trs.ok_of fun t ht => (hall t ht).1⟩ ?_ ?_
            · refine Kids.tas ?_
              rw [Trs.of_list]
              exact KK.ex (ec.trans ed)
            · rw [Trs.of_list]
              exact hl
            · exact Nat.succ_le_succ (Trs.depth_of fun t ht => (hall t ht).2.1)
            · show (Trs.of ts).size + 1 ≤ _
              rw [← Trs.total, Trs.of_list]
              omega
        · refine ⟨_, rfl, rfl, _, rfl, ite2 (fun hb2 => ?_) (fun hb2 => ?_)⟩
          · refine ⟨_, rfl, p, H0, n + 1, 3, rfl, P1, by omega, by decide, by decide, fun H2 r2 P2 s0 s1 => ?_⟩
            obtain ⟨rn, rfl⟩ : ∃ rn : Nat, r2 = (rn : Int) := ⟨r2.toNat, (Int.toNat_of_nonneg s0).symm⟩
            refine ⟨_, rfl, _, rfl, _, rfl, _, rfl, _, rfl, _, _, rfl, rfl, p, H0, n + 2, d', L, wd, m, congrArg (fun z => [V.ref p.d, V.str (tx L), V.int (wd : Int), V.int (m : Int), z]) dm, by omega, P2, by omega, l2, l4, w1, w8, m1, m64, fun H3 H4 v t e3 P4 hta tok tdp tsz => ⟨by show 3 ≤ sizeLine; decide, fun r3 hr3 => ?_⟩⟩
            obtain ⟨Pd, ed⟩ := P4.made (o := .tup [.str "tell", .int (rn : Int), v]) hr3
            exact q _ _ _ (.tell rn t) (e3.trans ed) (Pd.le (by omega)) (.tell upd_same (hta.ex ed)) ⟨by omega, tok⟩ (Nat.succ_le_succ tdp) (by show t.size + 1 ≤ _; omega)
          · refine ⟨_, rfl, _, rfl, _, _, rfl, rfl, p, H0, n + 1, _, rfl, P1, by omega, by omega, by omega, fun H2 r2 P2 s0 s1 => ⟨_, _, rfl, rfl, ?_⟩⟩
            refine ⟨_, rfl, _, rfl, p, H0, n + 2, _, rfl, P2, by omega, by omega, by omega, fun H3 r3 P3 u0 u1 => ⟨by show 3 ≤ sizeLine; decide, fun r4 hr4 => ?_⟩⟩
            obtain ⟨an, rfl⟩ : ∃ an : Nat, r2 = (an : Int) := ⟨r2.toNat, (Int.toNat_of_nonneg s0).symm⟩
            obtain ⟨bn, rfl⟩ : ∃ bn : Nat, r3 = (bn : Int) := ⟨r3.toNat, (Int.toNat_of_nonneg u0).symm⟩
            obtain ⟨Pd, ed⟩ := P3.made (o := .tup [.str "go", .int (1 + (an : Int)), .int (bn : Int)]) hr4
            refine q _ _ _ (.go (1 + an) bn) ed (Pd.le (by omega)) (.go ?_) ⟨by omega, by omega, by omega⟩ (by show 1 ≤ _; omega) (by show 1 ≤ _; omega)
            rw [upd_same]
            rfl
      · have hd0 : d = 0 := by
          have : ¬ (0 < (d : Int)) := fun z => hb (decide_eq_true z)
          omega
        subst hd0
        have nde : nd 0 = 2 := rfl
        refine ⟨_, rfl, _, _, rfl, rfl, _, rfl, ite2 (fun hb1 => absurd (of_decide_eq_true hb1) (by decide)) (fun hb1 => ?_)⟩
        refine ⟨_, rfl, rfl, _, rfl, ite2 (fun hb2 => absurd hb2 (by decide)) (fun hb2 => ?_)⟩
        refine ⟨_, rfl, _, rfl, _, _, rfl, rfl, p, H0, n, _, rfl, P0, by omega, by omega, by omega, fun H2 r2 P2 s0 s1 => ⟨_, _, rfl, rfl, ?_⟩⟩
        refine ⟨_, rfl, _, rfl, p, H0, n + 1, _, rfl, P2, by omega, by omega, by omega, fun H3 r3 P3 u0 u1 => ⟨by show 3 ≤ sizeLine; decide, fun r4 hr4 => ?_⟩⟩
        obtain ⟨an, rfl⟩ : ∃ an : Nat, r2 = (an : Int) := ⟨r2.toNat, (Int.toNat_of_nonneg s0).symm⟩
        obtain ⟨bn, rfl⟩ : ∃ bn : Nat, r3 = (bn : Int) := ⟨r3.toNat, (Int.toNat_of_nonneg u0).symm⟩
        obtain ⟨Pd, ed⟩ := P3.made (o := .tup [.str "go", .int (1 + (an : Int)), .int (bn : Int)]) hr4
        refine q _ _ _ (.go (1 + an) bn) ed (Pd.le (by omega)) (.go ?_) ⟨by omega, by omega, by omega⟩ (by show 1 ≤ _; omega) (by show 1 ≤ 1; omega)
        rw [upd_same]
        rfl
/-- the states drawn -/
def spTrees : Sp := fun vs H Q _ => ∃ (p : PenI) (H0 : Hp) (n : Nat) (L : List Nat) (w m : Nat), vs = [.ref p.d, .str (tx L), .int (w : Int), .int (m : Int), .int 3] ∧ PenAt p H0 H n ∧ n < 800000 ∧ 2 ≤ L.length ∧ L.length ≤ 4 ∧ 1 ≤ w ∧ w ≤ 8 ∧ 1 ≤ m ∧ m ≤ 4 ∧
  ∀ H1 H' r vs ts, Ex H0 H1 → PenAt p H1 H' (n + 1000) → H0 r = none → H1 r = some (.lst vs) → Kids true H1 vs ts → ts.length = m → (∀ t ∈ ts, t.ok L.length w m ∧ t.depth ≤ 4 ∧ t.size ≤ 100) → Q (.ref r) H'
theorem ok_trees {f : Addr} {fd : FuncData} (F : Fun K "_law_trees" "_law_trees" s_ltrees f fd) (T : Tx mg) (c_ltree : Kn P w K mg base "_law_tree" ["_law_pen_here", "_law_letters_here", "_law_width", "_law_states", "_law_depth"] 6 (spTree 4)) :
    FnOk P w K mg base CX0 7 f fd ["_law_pen_here", "_law_letters_here", "_law_width", "_law_many", "_law_depth"] spTrees := by
  refine F.ok sc_ltrees (fun vs H Q E h => ?_) (fun cdv A outer s H vs Q E hr h => ?_)
  · obtain ⟨p, H0, n, L, wd, m, rfl, _⟩ := h
    rfl
  · obtain ⟨p, H0, n, L, wd, m, rfl, P0, hn, l2, l4, w1, w8, m1, m4, q⟩ := h
    refine ⟨_, (pss_one (ps_ret (pe_lc (own := [("_law_k", 5)]) (g := gName 5) (tt := tYes) rfl sc_ltrees.nd (pi_range1 (by rfl) T.range (pa_cons (pv 3) pa_nil)) (blkOk_by (N := N_ltrees) (sc := defScope s_ltrees) (by decide +kernel)) (fun _ _ _ _ _ => (pg_name (i := 5) sc_ltrees.nd rfl (Or.inl rfl))) (fun _ _ _ _ _ => pts_nil) (fun _ _ _ _ _ => (pe_call c_ltree.ok (hr.mono (by decide)) (by rfl) c_ltree.g c_ltree.kp c_ltree.b .nil pass0 (pa_cons (pv 0) (pa_cons (pv 1) (pa_cons (pv 2) (pa_cons (pv 3) (pa_cons (pv 4) pa_nil)))))))))), ?_⟩
    have n3 : nd 3 = 170 := rfl
    have z3 : sz 3 = 85 := rfl
    refine ⟨_, rfl, _, rfl, by omega, by omega, fun D hD => ?_⟩
    have d0 := fresh0 P0 hD
    have d1 := fresh_ne P0 hD
    have d2 := fresh_nc P0 hD
    refine lc_range (lo := 0) (n := m) (fun i H' => ∃ (Hb : Hp) (zs : List V) (ts : List Tr), Ex H0 Hb ∧ PenAt p Hb H' (n + i * 170) ∧ Hb D = some (.lst zs) ∧ Kids true Hb zs ts ∧ ts.length = i ∧ ∀ t ∈ ts, t.ok L.length wd m ∧ t.depth ≤ 4 ∧ t.size ≤ 100)
      ⟨L2.upd H0 D (.lst []), [], [], Ex.new d0, (P0.both d1 d2).le (by omega), upd_same, .nil, rfl, fun t ht => nomatch ht⟩ (fun i H' hi hw => ?_) (fun H' hw => ?_)
    · obtain ⟨Hb, zs, ts, e, Pb, hz, KK, hl, hall⟩ := hw
      have lz := KK.len
      refine ⟨rfl, _, rfl, _, rfl, _, rfl, _, rfl, _, rfl, p, Hb, n + i * 170, 3, L, wd, m, rfl, by decide, Pb, by omega, l2, l4, w1, w8, m1, by omega, fun H3 H4 v t e3 P4 hta tok tdp tsz => ?_⟩
      refine ⟨zs, P4.1 _ _ (e3 _ _ hz), sz_lt (by omega), L2.upd H3 D (.lst (zs ++ [v])), zs ++ [v], ts ++ [t], (e.trans e3).mut d0, (P4.both d1 d2).le (by omega), upd_same, ?_, ?_, ?_⟩
      · refine Kids.upd (fun ys hh => ?_) ((KK.ex e3).snoc hta)
        rw [e3 _ _ hz] at hh
        cases hh
      · rw [List.length_append, hl]
        rfl
      · intro x hx
        rcases List.mem_append.mp hx with h | h
        · exact hall x h
        · rw [List.mem_singleton.mp h]
          exact ⟨tok, tdp, by omega⟩
    · obtain ⟨Hb, zs, ts, e, Pb, hz, KK, hl, hall⟩ := hw
      exact q _ _ _ _ _ e (Pb.le (by omega)) d0 hz KK hl hall
end
end Law

namespace Law
open PySem PySem.Spec PyProof.Rows L2 Evl TR GX EK
theorem kit_tl {K : PySem.W.Frag} {T : String} {g : Gt} (h : Tn T g) : PySem.W.kitAny K (.type T) [.type "tuple", .type "list"] = some (isSq g) := by
  have no : ∀ T : String, PySem.W.kitOne K (.type T) (.type "list") = some false → PySem.W.kitOne K (.type T) (.type "tuple") = some false → PySem.W.kitAny K (.type T) [.type "tuple", .type "list"] = some false := fun T h1 h2 =>
    kitAny_cons (b := false) h2 (fun _ => kitAny_cons (b := false) h1 (fun _ => rfl) fun h => by cases h) fun h => by cases h
  cases g with
  | int i => cases h; exact no _ (kit_ty (by decide +kernel)) (kit_ty (by decide +kernel))
  | str z => cases h; exact no _ (kit_ty (by decide +kernel)) (kit_ty (by decide +kernel))
  | bl b => cases h; exact no _ (kit_ty (by decide +kernel)) (kit_ty (by decide +kernel))
  | oth =>
    rcases h with rfl | rfl
    · exact no _ (kit_ty (by decide +kernel)) (kit_ty (by decide +kernel))
    · exact no _ (kit_ty (by decide +kernel)) (kit_ty (by decide +kernel))
  | seq k gs =>
    cases k
    · cases h
      exact kitAny_cons (b := false) (kit_ty (by decide +kernel)) (fun _ => kitAny_cons (b := true) (kit_ty (by decide +kernel)) (fun h => by cases h) fun _ => rfl) fun h => by cases h
    · cases h
      exact kitAny_cons (b := true) (kit_ty (by decide +kernel)) (fun h => by cases h) fun _ => rfl
theorem deq {y z : Str} : decide (V.str y = V.str z) = hd z (.str y) := by
  show _ = decide (y = z)
  rw [decide_eq_decide]
  exact ⟨fun h => V.str.inj h, fun h => by rw [h]⟩
theorem hd_gg : hd "go" (.str "go") = true := by decide +kernel
theorem isP_eq {l w n : Nat} {k : Bool} {g1 g2 g3 : Gt} : isP l w n (.seq k [g1, g2, g3]) = (if hd "read" g1 = true then whole 0 w g2 && seqN l g3 else if hd "tell" g1 = true then whole 0 2 g2 else if hd "go" g1 = true then whole 1 ((w : Int) + 1) g2 && whole 0 ((n : Int) - 1) g3 else false) := rfl
theorem isP_len {l w n : Nat} {k : Bool} {gs : List Gt} (h : gs.length ≠ 3) : isP l w n (.seq k gs) = false := by
  unfold isP
  split
  · rename_i h1 h2 h3 he
    cases he
    exact absurd rfl h
  · rfl
def spLW : Sp := fun vs H Q _ => ∃ (v : V) (g : Gt) (lo hi : Int), vs = [v, .int lo, .int hi] ∧ GA H v g ∧ Q (.bl (whole lo hi g)) H
def spLH : Sp := fun vs H Q _ => ∃ (v : V) (g : Gt) (tw : Addr) (L : List Nat) (w n : Nat), vs = [v, .ref tw] ∧ GA H v g ∧ H tw = some (.tup [.str (tx L), .int (w : Int), .int (n : Int)]) ∧ L.length ≤ 10 ∧ ∀ H', Ex H H' → Q (.bl (isP L.length w n g)) H'
section
variable {P : Program} {w : World} {K : PySem.W.Frag} {mg : Str → Option Value} {base : Heap}
theorem ok_lw {f : Addr} {fd : FuncData} (F : Fun K "_law_is_within" "_law_is_within" s_lis_within f fd) (T : Tx mg) : FnOk P w K mg base CX0 1 f fd ["_law_value", "_law_low", "_law_high"] spLW := by
  refine F.ok sc_lis_within (fun vs H Q E h => ?_) (fun cdv A outer s H vs Q E hr h => ?_)
  · obtain ⟨v, g, lo, hi, rfl, _⟩ := h
    rfl
  · obtain ⟨v, g, lo, hi, rfl, hg, q⟩ := h
    obtain ⟨TT, ty, tn⟩ := GA.ty (K := K) hg
    refine ⟨_, (pss_one (ps_ret (pe_and (pe_callB call_isi (by rfl) T.isinstance PyProof.Rows.boot_isinstance (pa_cons (pv 0) (pa_cons (pe_bltn (v := .ty "int") (by rfl) T.int PyProof.Rows.boot_int rfl) pa_nil))) (pe_and (pe_not (pe_callB call_isi (by rfl) T.isinstance PyProof.Rows.boot_isinstance (pa_cons (pv 0) (pa_cons (pe_bltn (v := .ty "bool") (by rfl) T.bool PyProof.Rows.boot_bool rfl) pa_nil)))) (pe_and (pe_cmpR op_le (pv 1) (pv 0) (nomark _)) (pe_one (pe_cmpR op_le (pv 0) (pv 2) (nomark _)))))))), ?_⟩
    refine ⟨_, rfl, _, _, _, _, _, rfl, .ty _, ty, kit_i tn, _, rfl, ?_⟩
    cases hg with
    | int i =>
      refine ⟨_, rfl, _, _, _, _, _, rfl, .ty _, ty, kit_b tn, _, rfl, _, rfl, ?_⟩
      have e : whole lo hi (.int i) = (decide (lo ≤ i) && decide (i ≤ hi)) := rfl
      rw [e] at q
      refine ⟨_, rfl, _, rfl, _, _, rfl, rfl, _, rfl, ?_⟩
      cases hl : decide (lo ≤ i) with
      | true =>
        rw [hl, Bool.true_and] at q
        exact ⟨_, rfl, _, rfl, _, _, rfl, rfl, q⟩
      | false =>
        rw [hl, Bool.false_and] at q
        exact q
    | bl b => exact ⟨_, rfl, _, _, _, _, _, rfl, .ty _, ty, kit_b tn, _, rfl, _, rfl, q⟩
    | str z => exact q
    | non => exact q
    | dct h => exact q
    | seq h r => exact q
theorem ok_lh {f : Addr} {fd : FuncData} (F : Fun K "_law_is_head" "_law_is_head" s_lis_head f fd) (T : Tx mg) (c_lis_within : Kn P w K mg base "_law_is_within" ["_law_value", "_law_low", "_law_high"] 1 spLW) : FnOk P w K mg base CX0 2 f fd ["_law_value", "_law_world"] spLH := by
  refine F.ok sc_lis_head (fun vs H Q E h => ?_) (fun cdv A outer s H vs Q E hr h => ?_)
  · obtain ⟨v, g, tw, L, wd, n, rfl, _⟩ := h
    rfl
  · obtain ⟨v, g, tw, L, wd, n, rfl, hg, htw, hL, q⟩ := h
    refine ⟨_, (pss_cons (ps_if (PW.pt (pw_or (pt_not (pt_val (pe_callB call_isiT (by rfl) T.isinstance PyProof.Rows.boot_isinstance (pa_cons (pv 0) (pa_cons (pe_tup (pa_cons (pe_bltn (v := .ty "tuple") (by rfl) T.tuple PyProof.Rows.boot_tuple rfl) (pa_cons (pe_bltn (v := .ty "list") (by rfl) T.list PyProof.Rows.boot_list rfl) pa_nil))) pa_nil))))) (pw_or (pt_cmpR op_ne (pe_callB call_len_seq (by rfl) T.len PySem.boot_len (pa_cons (pv 0) pa_nil)) pe_int (nomark _)) (pw_or1 (pt_not (pt_val (pe_callB call_isi (by rfl) T.isinstance PyProof.Rows.boot_isinstance (pa_cons (pe_ix ix_seq (pv 0) pe_int (fun _ _ => rfl)) (pa_cons (pe_bltn (v := .ty "str") (by rfl) T.str PyProof.Rows.boot_str rfl) pa_nil))))))))) (pss_one (ps_ret pe_bl)) pss_nil)
      (pss_cons (ps_if (pt_cmpR op_eq (pe_ix ix_seq (pv 0) pe_int (fun _ _ => rfl)) pe_str (nomark _)) (pss_one (ps_ret (pe_and (pe_call c_lis_within.ok (hr.mono (by decide)) (by rfl) c_lis_within.g c_lis_within.kp c_lis_within.b .nil pass0 (pa_cons (pe_ix ix_seq (pv 0) pe_int (fun _ _ => rfl)) (pa_cons pe_int (pa_cons (pe_op op_add (pe_ix ix_tup (pv 1) pe_int (fun _ _ => rfl)) pe_int) pa_nil)))) (pe_one (pe_call c_lis_within.ok (hr.mono (by decide)) (by rfl) c_lis_within.g c_lis_within.kp c_lis_within.b .nil pass0 (pa_cons (pe_ix ix_seq (pv 0) pe_int (fun _ _ => rfl)) (pa_cons pe_int (pa_cons (pe_op op_sub (pe_ix ix_tup (pv 1) pe_int (fun _ _ => rfl)) pe_int) pa_nil)))))))) pss_nil)
      (pss_cons (ps_if (pt_cmpR op_eq (pe_ix ix_seq (pv 0) pe_int (fun _ _ => rfl)) pe_str (nomark _)) (pss_one (ps_ret (pe_call c_lis_within.ok (hr.mono (by decide)) (by rfl) c_lis_within.g c_lis_within.kp c_lis_within.b .nil pass0 (pa_cons (pe_ix ix_seq (pv 0) pe_int (fun _ _ => rfl)) (pa_cons pe_int (pa_cons pe_int pa_nil)))))) pss_nil)
      (pss_cons (ps_if (PW.pt (pw_or (pt_cmpR op_ne (pe_ix ix_seq (pv 0) pe_int (fun _ _ => rfl)) pe_str (nomark _)) (pw_or1 (pt_not (pt_val (pe_call c_lis_within.ok (hr.mono (by decide)) (by rfl) c_lis_within.g c_lis_within.kp c_lis_within.b .nil pass0 (pa_cons (pe_ix ix_seq (pv 0) pe_int (fun _ _ => rfl)) (pa_cons pe_int (pa_cons (pe_ix ix_tup (pv 1) pe_int (fun _ _ => rfl)) pa_nil))))))))) (pss_one (ps_ret pe_bl)) pss_nil)
      (pss_one (ps_ret (pe_and (pe_callB call_isiT (by rfl) T.isinstance PyProof.Rows.boot_isinstance (pa_cons (pe_ix ix_seq (pv 0) pe_int (fun _ _ => rfl)) (pa_cons (pe_tup (pa_cons (pe_bltn (v := .ty "tuple") (by rfl) T.tuple PyProof.Rows.boot_tuple rfl) (pa_cons (pe_bltn (v := .ty "list") (by rfl) T.list PyProof.Rows.boot_list rfl) pa_nil))) pa_nil))) (pe_one (pe_cmpR op_eq (pe_callB call_len_seq (by rfl) T.len PySem.boot_len (pa_cons (pe_ix ix_seq (pv 0) pe_int (fun _ _ => rfl)) pa_nil)) (pe_callB call_len_str (by rfl) T.len PySem.boot_len (pa_cons (pe_ix ix_tup (pv 1) pe_int (fun _ _ => rfl)) pa_nil)) (nomark _)))))))))), ?_⟩
    refine ⟨_, rfl, by show 2 ≤ sizeLine; decide, fun t ht => ?_⟩
    have e1 := Ex.new (o := .tup [.ty "tuple", .ty "list"]) ht
    obtain ⟨TT, ty, tn⟩ := GA.ty (K := K) (GA.ex e1 hg)
    refine ⟨_, t, _, _, _, _, rfl, upd_same, .cons (.ty _) (.cons (.ty _) .nil), ty, kit_tl tn, _, rfl, ?_⟩
    have q1 := q _ e1
    have htw1 := e1 _ _ htw
    cases hg with
    | int i => exact q1
    | str z => exact q1
    | bl b => exact q1
    | non => exact q1
    | dct h => exact q1
    | @seq a k vs gs h r =>
    have ha := e1 _ _ h
    have r1 := GAs.ex e1 r
    have lk := r.len
    refine ⟨_, rfl, a, _, rfl, ob_seq ha, rfl, _, rfl, ite2 (fun hb => ?_) (fun hb => ?_)⟩
    · rw [isP_len fun z => by rw [lk, z] at hb; cases hb] at q1
      exact q1
    have l3 : gs.length = 3 := by
      rw [lk] at hb
      refine Decidable.byContradiction fun z => hb ?_
      rw [decide_eq_false (fun e => z (by have := V.int.inj e; omega))]
      rfl
    obtain ⟨x, y, z, g1, g2, g3, rfl, rfl, hx, hy, hz⟩ := gas3 r1 l3
    obtain ⟨T1, ty1, tn1⟩ := GA.ty (K := K) hx
    refine ⟨_, rfl, ix_at ha (atI_nat (j := 0) rfl) ⟨_, _, _, _, _, rfl, .ty _, ty1, kit_s tn1, _, rfl, ?_⟩⟩
    rw [isP_eq] at q
    cases hx with
    | int i => exact q _ e1
    | bl b => exact q _ e1
    | non => exact q _ e1
    | dct h => exact q _ e1
    | seq h r => exact q _ e1
    | str u =>
    refine ⟨_, rfl, ix_at ha (atI_nat (j := 0) rfl) ⟨rfl, _, rfl, ?_⟩⟩
    rw [deq]
    cases hg : hd "go" (.str u) with
    | true =>
      cases (hd_str hg)
      rw [hd_rg, hd_tg, hd_gg] at q
      refine ⟨_, rfl, ix_at ha (atI_nat (j := 1) rfl) ⟨_, rfl, tw, _, _, _, rfl, rfl, st_of htw1, atI_nat (j := 1) rfl, _, _, rfl, rfl, y, g2, 1, _, rfl, hy, ?_⟩⟩
      have q2 : Q (.bl (whole 1 ((wd : Int) + 1) g2 && whole 0 ((n : Int) - 1) g3)) _ := q _ e1
      cases hw : whole 1 ((wd : Int) + 1) g2 with
      | false =>
        rw [hw, Bool.false_and] at q2
        exact ⟨_, rfl, q2⟩
      | true =>
        rw [hw, Bool.true_and] at q2
        exact ⟨_, rfl, _, rfl, ix_at ha (atI_nat (j := 2) rfl) ⟨_, rfl, tw, _, _, _, rfl, rfl, st_of htw1, atI_nat (j := 2) rfl, _, _, rfl, rfl, z, g3, 0, _, rfl, hz, q2⟩⟩
    | false =>
    refine ⟨_, rfl, ix_at ha (atI_nat (j := 0) rfl) ⟨rfl, _, rfl, ?_⟩⟩
    rw [deq]
    cases ht2 : hd "tell" (.str u) with
    | true =>
      cases (hd_str ht2)
      rw [hd_rt, hd_tt] at q
      exact ⟨_, rfl, ix_at ha (atI_nat (j := 1) rfl) ⟨y, g2, 0, 2, rfl, hy, q _ e1⟩⟩
    | false =>
    refine ⟨_, rfl, ix_at ha (atI_nat (j := 0) rfl) ⟨rfl, _, rfl, ?_⟩⟩
    rw [deq]
    cases hr2 : hd "read" (.str u) with
    | false =>
      rw [hr2, ht2, hg] at q
      exact q _ e1
    | true =>
    cases (hd_str hr2)
    rw [hd_rr] at q
    refine ⟨_, rfl, ix_at ha (atI_nat (j := 1) rfl) ⟨_, rfl, tw, _, _, _, rfl, rfl, st_of htw1, atI_nat (j := 1) rfl, y, g2, 0, _, rfl, hy, ?_⟩⟩
    have q2 : Q (.bl (whole 0 (wd : Int) g2 && seqN L.length g3)) _ := q _ e1
    cases hw : whole 0 (wd : Int) g2 with
    | false =>
      rw [hw, Bool.false_and] at q2
      exact ⟨_, rfl, q2⟩
    | true =>
    rw [hw] at q
    refine ⟨_, rfl, ?_⟩
    refine ⟨_, rfl, ix_at ha (atI_nat (j := 2) rfl) ⟨by show 2 ≤ sizeLine; decide, fun t3 ht3 => ?_⟩⟩
    have e3 := Ex.new (o := .tup [.ty "tuple", .ty "list"]) ht3
    have hz3 := GA.ex e3 hz
    obtain ⟨T3, ty3, tn3⟩ := GA.ty (K := K) hz3
    refine ⟨_, t3, _, _, _, _, rfl, upd_same, .cons (.ty _) (.cons (.ty _) .nil), ty3, kit_tl tn3, _, rfl, ?_⟩
    have q3 := q _ (e1.trans e3)
    cases hz3 with
    | int i => exact q3
    | str z => exact q3
    | bl b => exact q3
    | non => exact q3
    | dct h => exact q3
    | @seq b k' us gs' hbb r' =>
      refine ⟨_, rfl, ix_at (e3 _ _ ha) (atI_nat (j := 2) rfl) ⟨b, _, rfl, ob_seq hbb, _, rfl, tw, _, _, _, rfl, rfl, st_of (e3 _ _ htw1), atI_nat (j := 0) rfl, _, rfl, tx_le (by omega), rfl, ?_⟩⟩
      have ee : decide (V.int ((us.length : Nat) : Int) = V.int (((tx L).length : Nat) : Int)) = seqN L.length (.seq k' gs') := by
        show _ = decide (gs'.length = L.length)
        rw [decide_eq_decide, tx_len, r'.len]
        constructor
        · intro z; have := V.int.inj z; omega
        · intro z; rw [z]
      show Q (V.bl (decide (V.int ((us.length : Nat) : Int) = V.int (((tx L).length : Nat) : Int)))) _
      rw [ee]
      exact q3
end
end Law

namespace Law
open PySem PySem.Spec PyProof.Rows L2 Evl TR GX EK
def spLF : Sp := fun vs H Q _ => ∃ (v : V) (g : Gt) (tw : Addr) (L : List Nat) (w n : Nat), vs = [v, .ref tw] ∧ GA H v g ∧ H tw = some (.tup [.str (tx L), .int (w : Int), .int (n : Int)]) ∧ L.length ≤ 10 ∧ g.size ≤ 10000 ∧
  ∀ r H', Ex H H' → H' r = some (.tup [.bl (fwG L.length w n g).1, .int ((fwG L.length w n g).2 : Nat)]) → Q (.ref r) H'
section
variable {P : Program} {w : World} {K : PySem.W.Frag} {mg : Str → Option Value} {base : Heap}
theorem ok_lfirst {f : Addr} {fd : FuncData} (F : Fun K "_law_first" "_law_first" s_lfirst f fd) (T : Tx mg) (c_lis_head : Kn P w K mg base "_law_is_head" ["_law_value", "_law_world"] 2 spLH) : FnOk P w K mg base CX0 3 f fd ["_law_state", "_law_world"] spLF := by
  refine F.ok sc_lfirst (fun vs H Q E h => ?_) (fun cdv A outer s H vs Q E hr h => ?_)
  · obtain ⟨v, g, tw, L, wd, n, rfl, _⟩ := h
    rfl
  · obtain ⟨v, g, tw, L, wd, n, rfl, hT, htw, hL, hsz, q⟩ := h
    obtain ⟨R, hR⟩ : ∃ R, fwG L.length wd n g = R := ⟨_, rfl⟩
    rw [hR] at q
    refine ⟨_, (pss_cons (ps_par (i := 2) (j := 3) (by rfl) sc_lfirst.nd rfl rfl (by decide) rfl rfl (pa_cons (pe_lst (pa_cons (pe_tup (pa_cons (pv 0) (pa_cons pe_int pa_nil))) pa_nil)) (pa_cons pe_int pa_nil)) (by rfl))
      (pss_cons (ps_while PassesOwn.never (pt_cmpR (NL.op_neNil hr.units) (pv 2) (pe_lst pa_nil) (nomark _)) (pss_cons (ps_asg (pe_bm0 PySem.F.plainAttrs_list PySem.F.slot_list_pop PySem.F.type_list_pop mt_pop (pv 2)) (pg_tup (by rfl) (pgs_cons (pg_name (i := 4) sc_lfirst.nd rfl (Or.inl rfl)) (pgs_cons (pg_name (i := 5) sc_lfirst.nd rfl (Or.inr rfl)) pgs_nil))))
      (pss_cons (ps_if (PW.pt (pw_or (pt_cmpR op_gt (pv 5) pe_int (nomark _)) (pw_or1 (pt_not (pt_val (pe_call c_lis_head.ok (hr.mono (by decide)) (by rfl) c_lis_head.g c_lis_head.kp c_lis_head.b .nil pass0 (pa_cons (pv 4) (pa_cons (pv 1) pa_nil)))))))) (pss_one (ps_ret (pe_tup (pa_cons pe_bl (pa_cons (pv 3) pa_nil))))) pss_nil)
      (pss_cons (ps_set (i := 3) sc_lfirst.nd rfl (Or.inl rfl) (pe_op op_add (pv 3) pe_int))
      (pss_cons (ps_if (pt_cmpR op_eq (pe_ix ix_seq (pv 4) pe_int (fun _ _ => rfl)) pe_str (nomark _)) (pss_one (ps_expr (pe_bm PySem.F.plainAttrs_list PySem.F.slot_list_append PySem.F.type_list_append mt_append (pv 2) (pa_cons (pe_tup (pa_cons (pe_ix ix_seq (pv 4) pe_int (fun _ _ => rfl)) (pa_cons (pe_op op_add (pv 5) pe_int) pa_nil))) pa_nil)))) pss_nil)
      (pss_one (ps_if (pt_cmpR op_eq (pe_ix ix_seq (pv 4) pe_int (fun _ _ => rfl)) pe_str (nomark _)) (pss_one (ps_set (i := 2) sc_lfirst.nd rfl (Or.inl rfl) (pe_op op_cat (pv 2) (pe_lc (own := [("_law_part", 6)]) (g := gName 6) (tt := tYes) rfl sc_lfirst.nd (TR.pi_seq (pe_revL (pe_callTy call_list_of (by rfl) T.list PyProof.Rows.boot_list (pa_cons (pe_ix ix_seq (pv 4) pe_int (fun _ _ => rfl)) pa_nil)))) (blkOk_by (N := N_lfirst) (sc := defScope s_lfirst) (by decide +kernel)) (fun _ _ _ _ _ => (pg_name (i := 6) sc_lfirst.nd rfl (Or.inl rfl))) (fun _ _ _ _ _ => pts_nil) (fun _ _ _ _ _ => (pe_tup (pa_cons (pv 6) (pa_cons (pe_op op_add (pv 5) pe_int) pa_nil)))))))) pss_nil)))))))
      (pss_one (ps_ret (pe_tup (pa_cons pe_bl (pa_cons (pv 3) pa_nil))))))), ?_⟩
    refine ⟨_, rfl, by show 2 ≤ sizeLine; decide, fun t1 ht1 => ⟨by show 1 ≤ sizeLine; decide, fun l hl => ?_⟩⟩
    have hl0 : H l = none := fresh_back (Ex.new ht1) hl
    have e1 := (Ex.new (o := .tup [v, .int 1]) ht1).trans (Ex.new (o := .lst [V.ref t1]) hl)
    refine ⟨_, _, rfl, ?_⟩
    refine ⟨fun m σ H' => ∃ (l : Addr) (st : List V) (ps : List (Gt × Nat)) (nm : Nat) (y4 y5 y6 : Option V), σ = [some v, some (.ref tw), some (.ref l), some (.int (nm : Nat)), y4, y5, y6] ∧
        Ex H H' ∧ H l = none ∧ H' l = some (.lst st) ∧ Stk H H' st ps ∧ tot ps ≤ m ∧ m ≤ 10000 ∧ fwF L.length wd n m ps.reverse nm = R,
      ⟨g.size, l, [.ref t1], [(g, 1)], 0, none, none, none, rfl, e1, hl0, upd_same, .cons (Ex.new hl _ _ upd_same) hT .nil, by rw [tot_one]; omega, hsz, hR⟩, fun m σ H' hw => ?_⟩
    obtain ⟨l, st, ps, nm, y4, y5, y6, rfl, e2, hl0, hst, S, hm, hm2, hf⟩ := hw
    refine ⟨_, rfl, by show 0 ≤ sizeLine; decide, fun b hb => ⟨l, b, st, rfl, rfl, sq_of (Ex.new hb _ _ hst), sq_of upd_same, _, rfl, ?_⟩⟩
    have eb := e2.trans (Ex.new (o := .lst []) hb)
    have S := S.ex (Ex.new (o := .lst []) hb)
    have hst := Ex.new (o := .lst []) hb _ _ hst
    generalize (L2.upd H' b (.lst [])) = H' at eb S hst ⊢
    cases st with
    | nil =>
      refine iteF ?_
      cases S
      rw [List.reverse_nil, fw_nil] at hf
      rw [← hf] at q
      exact ⟨_, rfl, by show 2 ≤ sizeLine; decide, fun r hr2 => q r _ (eb.trans (Ex.new hr2)) upd_same⟩
    | cons s0 srest =>
      refine iteT ?_
      obtain ⟨us, r, pv_, pt, d, qs, eS, eP, S', hr, hTA⟩ := S.last (by intro z; cases z)
      rw [eS] at hst
      rw [eP, tot_app, tot_one] at hm
      rw [eP, List.reverse_append, List.reverse_cons, List.reverse_nil, List.nil_append, List.singleton_append] at hf
      have hsp := size_pos pt
      obtain ⟨m', rfl⟩ : ∃ m', m = m' + 1 := ⟨m - 1, by omega⟩
      have nrl : r ≠ l := fun z => by
        rw [z, hst] at hr
        cases hr
      refine ⟨fun σ2 H2 => ∃ m2, m2 < m' + 1 ∧ ∃ (l : Addr) (st : List V) (ps : List (Gt × Nat)) (nm : Nat) (y4 y5 y6 : Option V), σ2 = [some v, some (.ref tw), some (.ref l), some (.int (nm : Nat)), y4, y5, y6] ∧
        Ex H H2 ∧ H l = none ∧ H2 l = some (.lst st) ∧ Stk H H2 st ps ∧ tot ps ≤ m2 ∧ m2 ≤ 10000 ∧ fwF L.length wd n m2 ps.reverse nm = R, fun σ2 H2 h => h, ?_⟩
      refine ⟨_, rfl, .inl ⟨rfl, _, sq_of hst⟩, l, _, _, rfl, rfl, hst, pop_last _ _, ?_⟩
      rw [List.dropLast_concat]
      have e3 : Ex H (L2.upd H' l (.lst us)) := eb.mut hl0
      have hl3 : (L2.upd H' l (.lst us)) l = some (.lst us) := upd_same
      have hr3 : (L2.upd H' l (.lst us)) r = some (.tup [pv_, .int (d : Nat)]) := by
        rw [upd_ne nrl]
        exact hr
      have S3 := S'.upd (a := l) (o := .lst us) fun xs hh => by
        rw [hst] at hh
        cases hh
      generalize (L2.upd H' l (.lst us)) = H3 at e3 hl3 hr3 S3 ⊢
      refine ⟨r, _, rfl, st_of hr3, rfl, _, _, rfl, _, _, rfl, rfl, ?_⟩
      unfold fwF at hf
      by_cases hd : d > 40
      · rw [if_pos (.inl hd)] at hf
        rw [← hf] at q
        refine ⟨_, rfl, _, _, rfl, rfl, _, rfl, iteD (by omega) ?_⟩
        exact ⟨_, rfl, by show 2 ≤ sizeLine; decide, fun r hr2 => q r _ (e3.trans (Ex.new hr2)) upd_same⟩
      refine ⟨_, rfl, _, _, rfl, rfl, _, rfl, iteDn (by omega) ?_⟩
      refine ⟨_, rfl, _, rfl, pv_, pt, tw, L, wd, n, rfl, GA.ex e3 hTA, e3 _ _ htw, hL, fun H4 e4 => ?_⟩
      have e34 := e3.trans e4
      cases hp : isP L.length wd n pt with
      | false =>
        rw [if_pos (.inr hp)] at hf
        rw [← hf] at q
        refine ⟨_, rfl, ?_⟩
        exact ⟨_, rfl, by show 2 ≤ sizeLine; decide, fun r hr2 => q r _ (e34.trans (Ex.new hr2)) upd_same⟩
      | true =>
      rw [if_neg (by rw [hp]; simp; omega)] at hf
      refine ⟨_, rfl, ?_⟩
      refine ⟨_, rfl, _, _, rfl, rfl, ?_⟩
      obtain ⟨k, g1, g2, g3, rfl, h⟩ := isP_inv hp
      obtain ⟨a, x, y, z, rfl, ha, hx, hy, hz⟩ := ga3 hTA
      have ha4 := e34 _ _ ha
      have hl4 := e4 _ _ hl3
      have S4 := S3.ex e4
      have ksz := kids_size (.seq k [g1, g2, g3])
      rcases h with ⟨rfl, ⟨i, rfl⟩, k', gs, rfl, hlen⟩ | ⟨rfl, i, rfl⟩ | ⟨rfl, ⟨i, rfl⟩, j, rfl, j0, j1⟩
      · cases ga_str hx
        rw [kids_read] at ksz hf
        obtain ⟨b2, vs, rfl, hb2, r0⟩ := ga_seq hz
        have lks := r0.len
        have lkz := len_sizes gs
        refine ⟨_, rfl, ix_at ha4 (atI_nat (j := 0) rfl) ⟨rfl, _, rfl, iteDn read_ne_tell ?_⟩⟩
        refine ⟨_, rfl, ix_at ha4 (atI_nat (j := 0) rfl) ⟨rfl, _, rfl, iteD rfl ?_⟩⟩
        refine ⟨_, rfl, ?_⟩
        refine .inl ⟨_, rfl, ix_at ha4 (atI_nat (j := 2) rfl) ⟨b2, _, rfl, ob_seq (e34 _ _ hb2), fun r0_ hr0 => ⟨r0_, _, rfl, sq_of upd_same, fun r1 hr1 => ?_⟩⟩⟩
        have e5 := (Ex.new (o := .lst vs) hr0).trans (Ex.new (o := .lst vs.reverse) hr1)
        have hr1' : (L2.upd (L2.upd H4 r0_ (.lst vs)) r1 (.lst vs.reverse)) r1 = some (.lst vs.reverse) := upd_same
        generalize (L2.upd (L2.upd H4 r0_ (.lst vs)) r1 (.lst vs.reverse)) = H5 at e5 hr1' ⊢
        refine ⟨r1, rfl, ⟨_, sq_of hr1'⟩, fun D hD => ?_⟩
        refine lc_list (fun i H6 => Ex H5 H6 ∧ ∃ zs, H6 D = some (.lst zs) ∧ Stk H H6 zs ((gs.reverse.take i).map fun x => (x, d + 1))) ⟨Ex.new hD, [], upd_same, .nil⟩ (fun i H6 _ hw => sq_of (hw.1 _ _ hr1')) (fun i x H6 hx hw => ?_) (fun H6 hw => ?_)
        · obtain ⟨e6, zs, hzs, Z⟩ := hw
          obtain ⟨kt, hkt, hka⟩ := r0.rev.get hx
          have lz := Z.len
          have hi2 := (List.getElem?_eq_some_iff.mp hkt).1
          rw [List.length_reverse] at hi2
          refine ⟨rfl, _, rfl, _, rfl, _, _, rfl, rfl, by show 2 ≤ sizeLine; decide, fun q2 hq2 => ?_⟩
          have nDq : D ≠ q2 := fun z => by
            rw [z, hq2] at hzs
            cases hzs
          refine ⟨zs, Ex.new hq2 _ _ hzs, ?_, (e6.trans (Ex.new hq2)).mut hD, zs ++ [.ref q2], upd_same, ?_⟩
          · have : zs.length ≤ i := by
              rw [lz, List.length_map, List.length_take]
              exact Nat.min_le_left _ _
            exact sz_lt (by omega)
          · rw [take_next' hkt, List.map_append]
            refine Stk.upd ((Z.ex (Ex.new hq2)).app (.cons upd_same hka .nil)) fun xs hh => ?_
            rw [upd_ne nDq, hzs] at hh
            cases hh
        · obtain ⟨e6, zs, hzs, Z⟩ := hw
          rw [List.length_reverse, lks, ← List.length_reverse, List.take_length] at Z
          have e46 := e5.trans e6
          have lz := Z.len
          have lu := S3.len
          rw [List.length_map, List.length_reverse] at lz
          have l5 := len_tot qs
          have hl6 : H6 l = some (.lst us) := e46 _ _ hl4
          refine ⟨l, D, us, zs, rfl, rfl, hl6, hzs, sz_of (by omega), fun p hp2 => ?_⟩
          refine ⟨m', Nat.lt_succ_self _, p, us ++ zs, qs ++ gs.reverse.map fun x => (x, d + 1), nm + 1, _, _, _, rfl, (e34.trans e46).trans (Ex.new hp2), fresh_back (e34.trans e46) hp2, upd_same, ?_, ?_, by omega, ?_⟩
          · exact ((S4.ex e46).app Z).ex (Ex.new hp2)
          · rw [tot_app, tot_rev]
            omega
          · rw [List.reverse_append, ← List.map_reverse, List.reverse_reverse]
            exact hf
      · cases ga_str hx
        rw [kids_tell] at ksz hf
        simp only [Gt.sizes] at ksz
        refine ⟨_, rfl, ix_at ha4 (atI_nat (j := 0) rfl) ⟨rfl, _, rfl, iteD rfl ?_⟩⟩
        refine ⟨_, rfl, .inl ⟨rfl, _, sq_of hl4⟩, ?_⟩
        refine ⟨_, rfl, ix_at ha4 (atI_nat (j := 2) rfl) ⟨_, rfl, _, _, rfl, rfl, by show 2 ≤ sizeLine; decide, fun t2 ht2 => ?_⟩⟩
        have e5 := Ex.new (o := .tup [z, .int ((d : Nat) + 1)]) ht2
        have hl5 := e5 _ _ hl4
        have lu := S3.len
        have l5 := len_tot qs
        have ntl : t2 ≠ l := fun z => by
          rw [z, hl4] at ht2
          cases ht2
        refine ⟨l, _, _, rfl, rfl, hl5, sz_lt (by omega), ?_⟩
        have ha5 := (e34.trans e5).mut (o := .lst (us ++ [.ref t2])) hl0 _ _ ha
        refine ⟨_, rfl, ix_at ha5 (atI_nat (j := 0) rfl) ⟨rfl, _, rfl, iteDn tell_ne_read ?_⟩⟩
        refine ⟨m', Nat.lt_succ_self _, l, us ++ [.ref t2], qs ++ [(g3, d + 1)], nm + 1, _, _, _, rfl, (e34.trans e5).mut hl0, hl0, upd_same, ?_, ?_, by omega, ?_⟩
        · refine Stk.upd ((S4.ex e5).app (.cons upd_same hz .nil)) fun xs hh => ?_
          rw [hl5] at hh
          cases hh
        · rw [tot_app, tot_one]
          omega
        · rw [List.reverse_append]
          exact hf
      · cases ga_str hx
        rw [kids_go] at ksz hf
        simp only [Gt.sizes] at ksz
        refine ⟨_, rfl, ix_at ha4 (atI_nat (j := 0) rfl) ⟨rfl, _, rfl, iteDn go_ne_tell ?_⟩⟩
        refine ⟨_, rfl, ix_at ha4 (atI_nat (j := 0) rfl) ⟨rfl, _, rfl, iteDn go_ne_read ?_⟩⟩
        exact ⟨m', Nat.lt_succ_self _, l, us, qs, nm + 1, _, _, _, rfl, e34, hl0, hl4, S4, by omega, by omega, hf⟩
end
end Law

namespace Law
open PySem PySem.Spec PyProof.Rows L2 Evl TR GX EK
/-- what is due, as a value -/
def DueV (H H' : Hp) (vw v : V) : DueS → Prop
  | .ok => v = .non
  | .width => ∃ r, v = .ref r ∧ H' r = some (.tup [.str "width", vw])
  | .states m => ∃ r, v = .ref r ∧ H' r = some (.tup [.str "states", .int (m : Nat), .int 64])
  | .tree i m => ∃ r, v = .ref r ∧ H' r = some (.tup [.str "tree", .int (i : Nat), .int (m : Nat), .bl true])
  | .nodes m => ∃ r, v = .ref r ∧ H' r = some (.tup [.str "nodes", .int (m : Nat), .int 3000])
def spDue : Sp := fun vs H Q _ => ∃ (L : List Nat) (vw : V) (gw : Gt) (sa : Addr) (xs : List V) (gs : List Gt), vs = [.str (tx L), vw, .ref sa] ∧ L.length ≤ 10 ∧ GA H vw gw ∧ H sa = some (.lst xs) ∧ GAs H xs gs ∧ gs.length < 1000 ∧ (∀ g ∈ gs, g.size ≤ 10000) ∧
  ∀ v H', Ex H H' → DueV H H' vw v (dueS L.length gw gs) → Q v H'
section
variable {P : Program} {w : World} {K : PySem.W.Frag} {mg : Str → Option Value} {base : Heap}
theorem ok_ldue {f : Addr} {fd : FuncData} (F : Fun K "_law_due" "_law_due" s_ldue f fd) (T : Tx mg) (c_lis_within : Kn P w K mg base "_law_is_within" ["_law_value", "_law_low", "_law_high"] 1 spLW)
    (c_lfirst : Kn P w K mg base "_law_first" ["_law_state", "_law_world"] 3 spLF) : FnOk P w K mg base CX0 4 f fd ["_law_letters_here", "_law_width", "_law_states"] spDue := by
  refine F.ok sc_ldue (fun vs H Q E h => ?_) (fun cdv A outer s H vs Q E hr h => ?_)
  · obtain ⟨L, vw, gw, sa, xs, gs, rfl, _⟩ := h
    rfl
  · obtain ⟨L, vw, gw, sa, xs, gs, rfl, hL, hw, hsa, GG, hz, hsz, q⟩ := h
    have lks := GG.len
    refine ⟨_, (pss_cons (ps_if (pt_not (pt_val (pe_call c_lis_within.ok (hr.mono (by decide)) (by rfl) c_lis_within.g c_lis_within.kp c_lis_within.b .nil pass0 (pa_cons (pv 1) (pa_cons pe_int (pa_cons pe_int pa_nil)))))) (pss_one (ps_ret (pe_tup (pa_cons pe_str (pa_cons (pv 1) pa_nil))))) pss_nil)
      (pss_cons (ps_if (PW.pt (pw_or (pt_cmpR op_eq (pe_callB call_len_seq (by rfl) T.len PySem.boot_len (pa_cons (pv 2) pa_nil)) pe_int (nomark _)) (pw_or1 (pt_cmpR op_gt (pe_callB call_len_seq (by rfl) T.len PySem.boot_len (pa_cons (pv 2) pa_nil)) pe_int (nomark _))))) (pss_one (ps_ret (pe_tup (pa_cons pe_str (pa_cons (pe_callB call_len_seq (by rfl) T.len PySem.boot_len (pa_cons (pv 2) pa_nil)) (pa_cons pe_int pa_nil)))))) pss_nil)
      (pss_cons (ps_set (i := 3) sc_ldue.nd rfl (Or.inl rfl) pe_int)
      (pss_cons (ps_for PassesOwn.never rfl (pi_range1 (by rfl) T.range (pa_cons (pe_callB call_len_seq (by rfl) T.len PySem.boot_len (pa_cons (pv 2) pa_nil)) pa_nil)) (pg_name (i := 4) sc_ldue.nd rfl (Or.inl rfl)) (pss_cons (ps_asg (pe_call c_lfirst.ok (hr.mono (by decide)) (by rfl) c_lfirst.g c_lfirst.kp c_lfirst.b .nil pass0 (pa_cons (pe_ix ix_list (pv 2) (pv 4) (fun _ _ => rfl)) (pa_cons (pe_tup (pa_cons (pv 0) (pa_cons (pv 1) (pa_cons (pe_callB call_len_seq (by rfl) T.len PySem.boot_len (pa_cons (pv 2) pa_nil)) pa_nil)))) pa_nil))) (pg_tup (by rfl) (pgs_cons (pg_name (i := 5) sc_ldue.nd rfl (Or.inl rfl)) (pgs_cons (pg_name (i := 6) sc_ldue.nd rfl (Or.inl rfl)) pgs_nil))))
      (pss_cons (ps_if (pt_val (pv 5)) (pss_one (ps_ret (pe_tup (pa_cons pe_str (pa_cons (pv 4) (pa_cons (pv 6) (pa_cons pe_bl pa_nil))))))) pss_nil)
      (pss_one (ps_set (i := 3) sc_ldue.nd rfl (Or.inl rfl) (pe_op op_add (pv 3) (pv 6)))))))
      (pss_one (ps_ret (pe_ifExp (pt_cmpR op_gt (pv 3) pe_int (nomark _)) (pe_tup (pa_cons pe_str (pa_cons (pv 3) (pa_cons pe_int pa_nil)))) pe_non))))))), ?_⟩
    refine ⟨_, rfl, vw, gw, 1, 8, rfl, hw, ?_⟩
    cases hh : whole 1 8 gw with
    | false =>
      rw [dueS_width hh] at q
      refine ⟨_, rfl, ?_⟩
      exact ⟨_, rfl, by show 2 ≤ sizeLine; decide, fun r hr2 => q _ _ (Ex.new hr2) ⟨r, rfl, upd_same⟩⟩
    | true =>
    obtain ⟨wi, rfl, w1, w8⟩ := whole_inv hh
    obtain ⟨wd, rfl⟩ : ∃ wd : Nat, wi = (wd : Int) := ⟨wi.toNat, (Int.toNat_of_nonneg (by omega)).symm⟩
    cases ga_int hw
    rw [dueS_right (by omega) (by omega)] at q
    refine ⟨_, rfl, ?_⟩
    by_cases n0 : gs.length = 0
    · rw [if_pos (.inl n0)] at q
      refine ⟨_, rfl, sa, _, rfl, .inl (sq_of hsa), rfl, _, rfl, ite2 (fun _ => ?_) (fun hb => absurd (decide_eq_true (by rw [lks, n0]; rfl)) hb)⟩
      refine ⟨_, rfl, sa, _, rfl, .inl (sq_of hsa), by show 3 ≤ sizeLine; decide, fun r hr2 => q _ _ (Ex.new hr2) ⟨r, rfl, ?_⟩⟩
      rw [upd_same, lks]
    have n0' : ¬ (V.int (xs.length : Nat) = V.int 0) := fun z => n0 (by have := V.int.inj z; omega)
    by_cases n64 : gs.length > 64
    · rw [if_pos (.inr n64)] at q
      refine ⟨_, rfl, sa, _, rfl, .inl (sq_of hsa), rfl, _, rfl, ite2 (fun hb => ?_) (fun hb => ?_)⟩
      · exact absurd (of_decide_eq_true hb) n0'
      clear hb
      refine ⟨_, rfl, sa, _, rfl, .inl (sq_of hsa), _, _, rfl, rfl, _, rfl, iteD (by omega) ?_⟩
      refine ⟨_, rfl, sa, _, rfl, .inl (sq_of hsa), by show 3 ≤ sizeLine; decide, fun r hr2 => q _ _ (Ex.new hr2) ⟨r, rfl, ?_⟩⟩
      rw [upd_same, lks]
    rw [if_neg (by omega)] at q
    refine ⟨_, rfl, sa, _, rfl, .inl (sq_of hsa), rfl, _, rfl, ite2 (fun hb => ?_) (fun hb => ?_)⟩
    · exact absurd (of_decide_eq_true hb) n0'
    clear hb
    refine ⟨_, rfl, sa, _, rfl, .inl (sq_of hsa), _, _, rfl, rfl, _, rfl, iteDn (by omega) ?_⟩
    refine ⟨_, rfl, sa, _, rfl, .inl (sq_of hsa), _, rfl, by omega, by omega, ?_⟩
    rw [show ((xs.length : Nat) : Int).toNat = xs.length from rfl]
    refine for_range (lo := 0) (n := xs.length) (fun i σ H' => ∃ y4 y5 y6 : Option V, σ = [some (.str (tx L)), some (.int (wd : Int)), some (.ref sa), some (.int (tots (gs.take i) : Nat)), y4, y5, y6] ∧ Ex H H' ∧ ∀ j x, j < i → gs[j]? = some x → (fwG L.length wd gs.length x).1 = false)
      ⟨none, none, none, rfl, Ex.refl _, fun j x hj => absurd hj (Nat.not_lt_zero _)⟩ (fun i σ H' hi hw => ?_) (fun σ H' hw => ?_)
    · obtain ⟨y4, y5, y6, rfl, e1, hall⟩ := hw
      rw [Int.zero_add]
      obtain ⟨x, hx⟩ : ∃ x, xs[i]? = some x := ⟨_, List.getElem?_eq_getElem hi⟩
      obtain ⟨t, ht, hta⟩ := GG.get hx
      have mem := List.mem_of_getElem? ht
      have hs1 := e1 _ _ hsa
      refine ⟨_, rfl, _, rfl, sa, _, _, _, rfl, rfl, sq_of hs1, atI_nat hx, ?_⟩
      refine ⟨_, rfl, _, rfl, _, rfl, sa, _, rfl, .inl (sq_of hs1), by show 3 ≤ sizeLine; decide, fun tw htw => ?_⟩
      have e2 := e1.trans (Ex.new (o := .tup [.str (tx L), .int (wd : Int), .int (xs.length : Nat)]) htw)
      refine ⟨x, t, tw, L, wd, gs.length, rfl, GA.ex e2 hta, ?_, hL, hsz t mem, fun r H2 e3 hr => ?_⟩
      · rw [upd_same, lks]
      have e23 := e2.trans e3
      refine ⟨r, _, rfl, st_of hr, rfl, _, _, rfl, _, _, rfl, rfl, ?_⟩
      cases hf : (fwG L.length wd gs.length t).1 with
      | true =>
        rw [bads_at ht hf hall] at q
        refine ⟨_, rfl, _, rfl, ?_⟩
        refine ⟨_, rfl, _, rfl, by show 4 ≤ sizeLine; decide, fun r2 hr2 => q _ _ (e23.trans (Ex.new hr2)) ⟨r2, rfl, ?_⟩⟩
        rw [upd_same, Nat.zero_add]
      | false =>
        refine ⟨_, rfl, _, rfl, ?_⟩
        refine ⟨_, rfl, _, rfl, _, _, rfl, rfl, ?_⟩
        have ee : ((tots (gs.take i) : Nat) : Int) + ((fwG L.length wd gs.length t).2 : Nat) = ((tots (gs.take (i + 1)) : Nat) : Int) := by
          rw [take_next' ht, fwG_cnt hf]
          unfold tots
          rw [List.map_append, List.sum_append]
          simp only [List.map_cons, List.map_nil, List.sum_cons, List.sum_nil]
          omega
        refine ⟨some (.int (i : Nat)), some (.bl false), some (.int ((fwG L.length wd gs.length t).2 : Nat)), by rw [← ee]; rfl, e23, fun j y hj hy => ?_⟩
        by_cases hji : j = i
        · rw [hji, ht] at hy
          cases hy
          exact hf
        · exact hall j y (by omega) hy
    · obtain ⟨y4, y5, y6, rfl, e1, hall⟩ := hw
      rw [lks] at hall
      have hgood : ∀ x ∈ gs, (fwG L.length wd gs.length x).1 = false := fun x hx => by
        obtain ⟨j, hj, rfl⟩ := List.mem_iff_getElem.mp hx
        exact hall j _ hj (List.getElem?_eq_getElem hj)
      rw [bads_none hgood] at q
      rw [lks, List.take_length]
      by_cases nt : tots gs > 3000
      · simp only [nt, if_true] at q
        refine ⟨_, rfl, _, _, rfl, rfl, _, rfl, iteD (by omega) ?_⟩
        exact ⟨_, rfl, by show 3 ≤ sizeLine; decide, fun r2 hr2 => q _ _ (e1.trans (Ex.new hr2)) ⟨r2, rfl, upd_same⟩⟩
      · simp only [nt] at q
        refine ⟨_, rfl, _, _, rfl, rfl, _, rfl, iteDn (by omega) ?_⟩
        exact q _ _ e1 rfl
end
/-- a full tree over four letters -/
def fullT : Nat → Tr
  | 0 => .go 1 0
  | d + 1 => .read 0 (Trs.of (List.replicate 4 (fullT d)))
def spFull (k : Nat) : Sp := fun vs H Q _ => ∃ (d : Nat), vs = [.str "wxyz", .int (d : Int)] ∧ d < k ∧ ∀ v H', Ex H H' → TA true H' v (fullT d) → Q v H'
section
variable {P : Program} {w : World} {K : PySem.W.Frag} {mg : Str → Option Value} {base : Heap}
theorem ok_lfull {f : Addr} {fd : FuncData} (F : Fun K "_law_full" "_law_full" s_lfull f fd) (T : Tx mg) (g : mg "_law_full" = some (.ref f)) (b : Binds K fd ["_law_letters_here", "_law_depth"] []) : ∀ k : Nat, FnOk P w K mg base CX0 (k + 1) f fd ["_law_letters_here", "_law_depth"] (spFull k)
  | 0 => by
    refine F.ok sc_lfull (fun vs H Q E h => ?_) (fun cdv A outer s H vs Q E hr h => ?_)
    · obtain ⟨d, rfl, _⟩ := h
      rfl
    · obtain ⟨d, rfl, hd, _⟩ := h
      omega
  | k + 1 => by
    have c_lfull : Kn P w K mg base "_law_full" ["_law_letters_here", "_law_depth"] (k + 1) (spFull k) := ⟨f, fd, ok_lfull F T g b k, g, F.kp, b⟩
    refine F.ok sc_lfull (fun vs H Q E h => ?_) (fun cdv A outer s H vs Q E hr h => ?_)
    · obtain ⟨d, rfl, _⟩ := h
      rfl
    · obtain ⟨d, rfl, hd, q⟩ := h
      refine ⟨_, (pss_cons (ps_if (pt_cmpR op_eq (pv 1) pe_int (nomark _)) (pss_one (ps_ret (pe_tup (pa_cons pe_str (pa_cons pe_int (pa_cons pe_int pa_nil)))))) pss_nil)
      (pss_cons (ps_set (i := 2) sc_lfull.nd rfl (Or.inr rfl) (pe_call c_lfull.ok (hr.mono (by omega)) (by rfl) c_lfull.g c_lfull.kp c_lfull.b .nil pass0 (pa_cons (pv 0) (pa_cons (pe_op op_sub (pv 1) pe_int) pa_nil))))
      (pss_one (ps_ret (pe_tup (pa_cons pe_str (pa_cons pe_int (pa_cons (pe_callTy call_tuple_of (by rfl) T.tuple PyProof.Rows.boot_tuple (pa_cons (pe_lc (own := [("_law_letter", 3)]) (g := gName 3) (tt := tYes) rfl sc_lfull.nd (pi_str (pv 0)) (blkOk_by (N := N_lfull) (sc := defScope s_lfull) (by decide +kernel)) (fun _ _ _ _ _ => (pg_name (i := 3) sc_lfull.nd rfl (Or.inl rfl))) (fun _ _ _ _ _ => pts_nil) (fun _ _ _ _ _ => (pv 2))) pa_nil)) pa_nil)))))))), ?_⟩
      cases d with
      | zero =>
        refine ⟨_, rfl, rfl, _, rfl, iteD rfl ?_⟩
        refine ⟨by show 3 ≤ sizeLine; decide, fun r hr2 => q _ _ (Ex.new hr2) (.go upd_same)⟩
      | succ d =>
        refine ⟨_, rfl, rfl, _, rfl, iteDn (fun z => by have := V.int.inj z; omega) ?_⟩
        have dm : (V.int (((d + 1 : Nat) : Int) - 1)) = V.int (d : Int) := congrArg V.int (by omega)
        refine ⟨_, rfl, _, rfl, _, _, rfl, rfl, d, congrArg (fun z => [V.str "wxyz", z]) dm, by omega, fun v H1 e1 hv => ?_⟩
        refine ⟨_, rfl, _, rfl, fun D hD => ?_⟩
        refine lc_str (x := "wxyz") (fun i H' => Ex H1 H' ∧ H' D = some (.lst (List.replicate i v))) ⟨Ex.new hD, upd_same⟩ (fun i c H' hic hw => ?_) (fun H' hw => ?_)
        · obtain ⟨e2, hz⟩ := hw
          have hi := (Array.getElem?_eq_some_iff.mp hic).1
          have h4 : ("wxyz" : Str).cps.size = 4 := by decide +kernel
          refine ⟨rfl, _, rfl, _, hz, ?_, e2.mut hD, ?_⟩
          · rw [List.length_replicate]
            exact sz_lt (by omega)
          · rw [upd_same, List.replicate_succ']
        · obtain ⟨e2, hz⟩ := hw
          have h4 : ("wxyz" : Str).cps.size = 4 := by decide +kernel
          rw [h4] at hz
          refine ⟨D, _, rfl, .inl ⟨sq_of hz, fun t2 ht2 => ⟨by show 3 ≤ sizeLine; decide, fun r2 hr2 => ?_⟩⟩⟩
          have e3 := (e2.trans (Ex.new (o := .tup (List.replicate 4 v)) ht2))
          have e4 := Ex.new (o := .tup [.str "read", .int 0, .ref t2]) hr2
          have hv4 := (hv.ex e3).ex e4
          exact q _ _ (e1.trans (e3.trans e4)) (.read (ts := Trs.of (List.replicate 4 (fullT d))) (vs := List.replicate 4 v) upd_same (e4 _ _ upd_same) (.cons hv4 (.cons hv4 (.cons hv4 (.cons hv4 .nil)))))
end
end Law

namespace TR
open PySem PySem.Spec PyProof.Rows L2 Evl
/-! ### t + u of tuples, either may be empty -/
theorem cat_tup0 {prog : Program} {w : World} {A : Around} {E : Value → Shared → Prop} {s : Shared} {t b : Addr} {vs ws : List Value} {Q : Value → Shared → Prop} (ht : Heap.IsTuple s.heap t vs.toArray) (hb : Heap.IsTuple s.heap b ws.toArray) (hv : vs = [])
    (h : Q (.ref b) s) : wpAny (model prog w) A (binaryOp .Add (.ref t) (.ref b)) Q E s := by
  obtain ⟨⟨cls, dd, data, sl⟩, ho, hc, n, hd⟩ := id ht
  obtain ⟨⟨cls2, dd2, data2, sl2⟩, ho2, hc2, n2, hd2⟩ := id hb
  simp only at hc hd hc2 hd2
  subst hc hd hc2 hd2
  exact concat_meets ⟨_, ho, rfl⟩ ⟨_, ho2, rfl⟩ noFill_tuple_add seq_tuple_add PySem.F.slot_tuple_add PySem.F.entry_tuple_add (PySem.F.args_tuple_add_2 _ _)
    (tuple_addW0 t b vs.toArray ws.toArray n n2 dd dd2 sl sl2 (by simp [hv])) ⟨ho, ho2, h⟩
def rCatA : R2 := fun x y H Q => ∃ a b xs ys, x = .ref a ∧ y = .ref b ∧ H a = some (.tup xs) ∧ H b = some (.tup ys) ∧ xs.length + ys.length ≤ sizeLine ∧ ∀ p H', Ex H H' → H' p = some (.tup (xs ++ ys)) → Q (.ref p) H'
theorem op_catTA {X : Cx} : OpR X (binaryOp .Add) rCatA := by
  intro pins s σ H x y v u Q I rx ry h
  obtain ⟨a, b, xs, ys, rfl, rfl, ha, hb, hz, q⟩ := h
  by_cases hx : xs = []
  · subst hx
    cases rx
    cases ry
    obtain ⟨its, r1, p1, _⟩ := I.tuple (st_of ha)
    obtain ⟨its2, r2, p2, _⟩ := I.tuple (st_of hb)
    exact cat_tup0 p1 p2 (r1.nil_iff.mpr rfl) ⟨.ref b, H, I, rfl, q b H (Ex.refl _) hb⟩
  · refine op_catT pins s σ H (.ref a) (.ref b) v u Q I rx ry ⟨a, b, xs, ys, rfl, rfl, st_of ha, st_of hb, hx, hz, fun hy => ?_, fun _ p hp => q p _ (Ex.new hp) upd_same⟩
    refine q a H (Ex.refl _) ?_
    rw [hy, List.append_nil]
    exact ha
theorem cut_take (xs : List V) (k : Nat) : cutV xs none (some (k : Int)) = xs.take k := by
  unfold cutV
  rw [HT.sIx_none, HT.sIx_nat, Nat.sub_zero, List.drop_zero, List.take_eq_take_iff]
  omega
theorem cut_drop (xs : List V) (k : Nat) : cutV xs (some (k : Int)) none = xs.drop k := by
  unfold cutV
  rw [HT.sIx_none, HT.sIx_nat]
  by_cases h : k ≤ xs.length
  · rw [Nat.min_eq_left h, List.take_of_length_le (by rw [List.length_drop]; omega)]
  · rw [Nat.min_eq_right (by omega), List.drop_of_length_le (Nat.le_refl _), List.drop_of_length_le (show xs.length ≤ k by omega)]
    rw [List.take_nil]
end TR
namespace Law
open PySem PySem.Spec PyProof.Rows L2 Evl TR
theorem PenAt.keepE {p : PenI} {H0 H : Hp} {a : Addr} {n : Nat} {o : HO} (P : PenAt p H0 H n) (h : H a = some o) (hd : a ≠ p.d) : PenAt p (L2.upd H0 a o) H n ∧ Ex H0 (L2.upd H0 a o) := by
  refine ⟨P.keep h hd, fun b u e => ?_⟩
  by_cases q : b = a
  · subst q
    have e2 := P.1 _ _ e
    rw [h] at e2
    rw [upd_same, e2]
  · rw [upd_ne q]
    exact e
theorem tup_nd {p : PenI} {H0 H : Hp} {a : Addr} {n : Nat} {xs : List V} (P : PenAt p H0 H n) (h : H a = some (.tup xs)) : a ≠ p.d := by
  obtain ⟨kvs, h2⟩ := P.dict
  exact ne_of h h2 (by intro z; cases z)
theorem PenAt.now {p : PenI} {H0 H : Hp} {n : Nat} (P : PenAt p H0 H n) : PenAt p (del H p.d) H n ∧ Ex H0 (del H p.d) := by
  obtain ⟨e0, h0, hc, hl, op, lf, ho, hd⟩ := P
  have nc : p.c ≠ p.d := fun z => by
    rw [z, h0] at hc
    cases hc
  refine ⟨⟨fun b o h => ?_, del_same, by rw [del_ne nc]; exact e0 _ _ hc, hl, op, lf, ho, hd⟩, fun b o h => ?_⟩
  · by_cases hb : b = p.d
    · rw [hb, del_same] at h
      cases h
    · rw [del_ne hb] at h
      exact h
  · rw [del_ne (fun z => by rw [z, h0] at h; cases h)]
    exact e0 _ _ h
theorem cutL_to (xs : List V) (k : Nat) : cutV xs none (some (k : Int)) = xs.take k := by
  unfold cutV
  rw [HT.sIx_none, HT.sIx_nat, Nat.sub_zero, List.drop_zero, List.take_eq_take_iff]
  omega
theorem cutL_from (xs : List V) (k : Nat) : cutV xs (some (k : Int)) none = xs.drop k := by
  unfold cutV
  rw [HT.sIx_nat]
  by_cases h : k ≤ xs.length
  · rw [show min k xs.length = k by omega]
    refine List.take_of_length_le ?_
    rw [List.length_drop]
    exact Nat.le_refl _
  · rw [show min k xs.length = xs.length by omega, List.drop_eq_nil_of_le (show xs.length ≤ xs.length by omega), List.drop_eq_nil_of_le (show xs.length ≤ k by omega), List.take_nil]
theorem pick_now {p : PenI} {H0 H : Hp} {n : Nat} {a : Addr} {xs : List V} {Q : VK} {E : XK} (P : PenAt p H0 H n) (hn : n < 1000000) (h : H a = some (.lst xs)) (h0 : 0 < xs.length) (h1 : xs.length < 1000)
    (q : ∀ B H' v, Ex H0 B → (∀ b o, H b = some o → b ≠ p.d → B b = some o) → PenAt p B H' (n + 1) → v ∈ xs → Q v H') : spPickL [.ref p.d, .ref a] H Q E :=
  ⟨p, del H p.d, a, n, xs, rfl, P.now.1, hn, h, h0, h1, fun H' v P' hv => q _ H' v P.now.2 (fun b o hb nb => by rw [del_ne nb]; exact hb) P' hv⟩
theorem new_at {H : Hp} {a : Addr} {o : HO} (_ : H a = none) : (upd H a o) a = some o := upd_same
theorem at_new {H : Hp} {a b : Addr} {o o2 o3 : HO} (_ : H a = some o) : (upd (upd H b o2) a o3) a = some o3 := upd_same
theorem ex_new2 {H : Hp} {d : Addr} {o1 o2 : HO} (h : H d = none) : Ex H (upd (upd H d o1) d o2) := (Ex.new h).mut h
end Law
namespace Law
open PySem PySem.Spec PyProof.Rows L2 Evl TR GX EK
end Law
namespace GX
open PySem PySem.Spec PyProof.Rows L2 Evl TR
mutual
/-- the longest list or tuple in it -/
def Gt.wd : Gt → Nat
  | .seq _ gs => max gs.length (Gt.wds gs)
  | _ => 0
def Gt.wds : List Gt → Nat
  | [] => 0
  | g :: r => max g.wd (Gt.wds r)
end
theorem wd_mem : ∀ {a : List Gt} {g : Gt}, g ∈ a → g.wd ≤ Gt.wds a
  | x :: r, g, h => by
    simp only [Gt.wds]
    rcases List.mem_cons.mp h with q | q
    · rw [q]; omega
    · have := wd_mem q
      omega
theorem wds_le : ∀ {a : List Gt} {n : Nat}, (∀ g ∈ a, g.wd ≤ n) → Gt.wds a ≤ n
  | [], n, _ => by simp only [Gt.wds]; omega
  | g :: r, n, h => by
    have h1 := h g (List.mem_cons_self ..)
    have h2 := wds_le (a := r) fun x hx => h x (List.mem_cons_of_mem _ hx)
    simp only [Gt.wds]
    omega
theorem depths_le : ∀ {a : List Gt} {n : Nat}, (∀ g ∈ a, g.depth ≤ n) → Gt.depths a ≤ n
  | [], n, _ => by simp only [Gt.depths]; omega
  | g :: r, n, h => by
    have h1 := h g (List.mem_cons_self ..)
    have h2 := depths_le (a := r) fun x hx => h x (List.mem_cons_of_mem _ hx)
    simp only [Gt.depths]
    omega
theorem sizes_split {gs : List Gt} {i : Nat} {g : Gt} (h : gs[i]? = some g) (g' : Gt) : Gt.sizes (gs.take i ++ [g'] ++ gs.drop (i + 1)) + g.size = Gt.sizes gs + g'.size := by
  have hi := (List.getElem?_eq_some_iff.mp h).1
  have e : gs = gs.take i ++ (g :: gs.drop (i + 1)) := by
    have hg := (List.getElem?_eq_some_iff.mp h).2
    conv => lhs; rw [← List.take_append_drop i gs, List.drop_eq_getElem_cons hi, hg]
  have e2 := congrArg Gt.sizes e
  rw [sizes_app] at e2
  simp only [Gt.sizes] at e2
  rw [sizes_app, sizes_app]
  simp only [Gt.sizes]
  omega
end GX
namespace Law
open PySem PySem.Spec PyProof.Rows L2 Evl TR GX EK
theorem seq3_wd {k : Bool} {a b c : Gt} : (Gt.seq k [a, b, c]).wd = max 3 (max a.wd (max b.wd c.wd)) := by
  simp only [Gt.wd, Gt.wds, List.length_cons, List.length_nil]
  omega
def isT : Gt → Bool
  | .seq k _ => k
  | _ => false
theorem kit_tu {K : PySem.W.Frag} {T : String} {g : Gt} (h : Tn T g) : PySem.W.kitOne K (.type T) (.type "tuple") = some (isT g) := by
  cases g with
  | int i => cases h; show PySem.W.kitOne K (.type "int") (.type "tuple") = some false; exact kit_ty (by decide +kernel)
  | str z => cases h; show PySem.W.kitOne K (.type "str") (.type "tuple") = some false; exact kit_ty (by decide +kernel)
  | bl b => cases h; show PySem.W.kitOne K (.type "bool") (.type "tuple") = some false; exact kit_ty (by decide +kernel)
  | oth =>
    rcases h with rfl | rfl
    · show PySem.W.kitOne K (.type "NoneType") (.type "tuple") = some false; exact kit_ty (by decide +kernel)
    · show PySem.W.kitOne K (.type "dict") (.type "tuple") = some false; exact kit_ty (by decide +kernel)
  | seq k gs =>
    cases k
    · cases h; show PySem.W.kitOne K (.type "list") (.type "tuple") = some false; exact kit_ty (by decide +kernel)
    · cases h; show PySem.W.kitOne K (.type "tuple") (.type "tuple") = some true; exact kit_ty (by decide +kernel)
theorem cut2 {A : Prop} {N : L2.St → Hp → Prop} (Pv : L2.St → Hp → Prop) (hA : (∀ σ' H', Pv σ' H' → N σ' H') → A) (rest : ∀ σ' H', Pv σ' H' → N σ' H') : A := hA rest
/-- how a bent tree may have grown -/
structure Bd (g g' : Gt) : Prop where
  s : g'.size ≤ 2 * g.size + 20
  d : g'.depth ≤ g.depth + 3
  w : g'.wd ≤ g.wd + 6
def spBent (k : Nat) : Sp := fun vs H Q _ => ∃ (p : PenI) (H0 : Hp) (n : Nat) (g : Gt) (v : V) (w m : Nat), vs = [.ref p.d, v, .int (w : Int), .int (m : Int)] ∧ PenAt p H0 H n ∧ n + 5 * k < 900000 ∧ GA H0 v g ∧ g.depth < k ∧ g.size < 5000 ∧ g.wd < 900 ∧
  ∀ H1 H' v' g', Ex H0 H1 → PenAt p H1 H' (n + 5 * k) → GA H1 v' g' → Bd g g' → Q v' H'
theorem seq3_size {k : Bool} {a b c : Gt} : (Gt.seq k [a, b, c]).size = a.size + b.size + c.size + 1 := by
  simp only [Gt.size, Gt.sizes]
  omega
theorem seq3_depth {k : Bool} {a b c : Gt} : (Gt.seq k [a, b, c]).depth = max a.depth (max b.depth c.depth) + 1 := by
  simp only [Gt.depth, Gt.depths]
  omega
theorem slA {K : PySem.W.Frag} {H : Hp} {a : Addr} {xs : List V} {lo hi : Option Int} {Q : VK} (h : H a = some (.tup xs)) (q : ∀ p H', Ex H H' → H' p = some (.tup (cutV xs lo hi)) → Q (.ref p) H') : rSlA K (.ref a) lo hi H Q :=
  ⟨a, xs, rfl, st_of h, fun e => q a H (Ex.refl _) (by
    rw [h]
    unfold cutV
    rw [e.1, e.2, Nat.sub_zero, List.drop_zero, List.take_length]), fun _ p hp => q p _ (Ex.new hp) upd_same⟩
/-- a new tuple or list is kept -/
theorem keep_new {p : PenI} {B H : Hp} {n : Nat} {r : Addr} {k : Bool} {xs : List V} {gs : List Gt} (P : PenAt p B H n) (hr : H r = none) (G : GAs B xs gs) :
    PenAt p (upd B r (ob k xs)) (upd H r (ob k xs)) n ∧ Ex B (upd B r (ob k xs)) ∧ GA (upd B r (ob k xs)) (.ref r) (.seq k gs) := by
  have K := (P.ex (Ex.new (o := ob k xs) hr)).keepE upd_same (fresh_ne P hr)
  exact ⟨K.1, K.2, .seq upd_same (GAs.ex K.2 G)⟩
theorem keep_ex {p : PenI} {B H : Hp} {n : Nat} {r : Addr} {xs : List V} {gs : List Gt} (k : Bool) (P : PenAt p B H n) (hr : H r = none) (G : GAs B xs gs) :
    ∃ B', PenAt p B' (upd H r (ob k xs)) n ∧ Ex B B' ∧ GA B' (.ref r) (.seq k gs) ∧ ∀ l, B l = none → l ≠ r → B' l = none := by
  obtain ⟨K1, K2, K3⟩ := keep_new (k := k) P hr G
  exact ⟨_, K1, K2, K3, fun l hl nl => by rw [upd_ne nl]; exact hl⟩
/-- one of the things that a tree may be bent to -/
def GO (g : Gt) (B : Hp) (v : V) : Prop := ∃ g', GA B v g' ∧ Bd g g'
theorem GO.ex {g : Gt} {B B' : Hp} {v : V} (h : GO g B v) (e : Ex B B') : GO g B' v := by
  obtain ⟨g', a, b⟩ := h
  exact ⟨g', GA.ex e a, b⟩
/-- a small thing -/
structure Sm (g : Gt) : Prop where
  s : g.size ≤ 2
  d : g.depth ≤ 2
  w : g.wd ≤ 1
section
variable {a b c d g1 g2 g3 go : Gt} {k k' : Bool}
theorem bd3 (hs : a.size + b.size + c.size ≤ g1.size + g2.size + g3.size + 4) (hd : max a.depth (max b.depth c.depth) ≤ max g1.depth (max g2.depth g3.depth) + 3) (hw : max a.wd (max b.wd c.wd) ≤ max g1.wd (max g2.wd g3.wd) + 6) : Bd (.seq k [g1, g2, g3]) (.seq k' [a, b, c]) := by
  refine ⟨?_, ?_, ?_⟩
  · rw [seq3_size, seq3_size]; omega
  · rw [seq3_depth, seq3_depth]; omega
  · rw [seq3_wd, seq3_wd]; omega
end
section
variable {P : Program} {w : World} {K : PySem.W.Frag} {mg : Str → Option Value} {base : Heap}
theorem ok_bent {f : Addr} {fd : FuncData} (F : Fun K "_law_bent" "_law_bent" s_lbent f fd) (T : Tx mg) (g : mg "_law_bent" = some (.ref f)) (b : Binds K fd ["_law_pen_here", "_law_tree_here", "_law_width", "_law_states"] [])
    (c_ldraw : Kn P w K mg base "_law_draw" ["_law_pen_here", "_law_many"] 1 spDraw) (c_pickL : Kn P w K mg base "_law_pick" ["_law_pen_here", "_law_some"] 2 spPickL) : ∀ k : Nat, FnOk P w K mg base CX0 (k + 3) f fd ["_law_pen_here", "_law_tree_here", "_law_width", "_law_states"] (spBent k)
  | 0 => by
    refine F.ok sc_lbent (fun vs H Q E h => ?_) (fun cdv A outer s H vs Q E hr h => ?_)
    · obtain ⟨p, H0, n, g, v, wd, m, rfl, _⟩ := h
      rfl
    · obtain ⟨p, H0, n, g, v, wd, m, rfl, _, _, _, hd, _⟩ := h
      omega
  | k + 1 => by
    have c_lbent : Kn P w K mg base "_law_bent" ["_law_pen_here", "_law_tree_here", "_law_width", "_law_states"] (k + 3) (spBent k) := ⟨f, fd, ok_bent F T g b c_ldraw c_pickL k, g, F.kp, b⟩
    refine F.ok sc_lbent (fun vs H Q E h => ?_) (fun cdv A outer s H vs Q E hr h => ?_)
    · obtain ⟨p, H0, n, g, v, wd, m, rfl, _⟩ := h
      rfl
    · obtain ⟨p, H0, n, g, v, wd, m, rfl, P0, hn, hg, hdp, hs, hwd, q⟩ := h
      refine ⟨_, (pss_cons (ps_if (PW.pt (pw_or (pt_not (pt_val (pe_callB call_isi (by rfl) T.isinstance PyProof.Rows.boot_isinstance (pa_cons (pv 1) (pa_cons (pe_bltn (v := .ty "tuple") (by rfl) T.tuple PyProof.Rows.boot_tuple rfl) pa_nil))))) (pw_or1 (pt_cmpR op_ne (pe_callB call_len_seq (by rfl) T.len PySem.boot_len (pa_cons (pv 1) pa_nil)) pe_int (nomark _))))) (pss_one (ps_ret (pv 1))) pss_nil)
      (pss_cons (ps_asg (pv 1) (TR.pg_seq (by rfl) (pgs_cons (pg_name (i := 4) sc_lbent.nd rfl (Or.inl rfl)) (pgs_cons (pg_name (i := 5) sc_lbent.nd rfl (Or.inl rfl)) (pgs_cons (pg_name (i := 6) sc_lbent.nd rfl (Or.inl rfl)) pgs_nil)))))
      (pss_cons (ps_if (PW.pt (pw_and (pt_cmpR (ES.op_eqS hr.units) (pv 4) pe_str (nomark _)) (pw_and1 (pt_cmpR op_eq (pe_call c_ldraw.ok (hr.mono (by omega)) (by rfl) c_ldraw.g c_ldraw.kp c_ldraw.b .nil pass0 (pa_cons (pv 0) (pa_cons pe_int pa_nil))) pe_int (nomark _))))) (pss_one (ps_ret (pe_tup (pa_cons (pv 4) (pa_cons (pv 5) (pa_cons (pe_call c_lbent.ok (hr.mono (by omega)) (by rfl) c_lbent.g c_lbent.kp c_lbent.b .nil pass0 (pa_cons (pv 0) (pa_cons (pv 6) (pa_cons (pv 2) (pa_cons (pv 3) pa_nil))))) pa_nil)))))) pss_nil)
      (pss_cons (ps_if (PW.pt (pw_and (pt_cmpR (ES.op_eqS hr.units) (pv 4) pe_str (nomark _)) (pw_and (pt_val (pe_callB call_isi (by rfl) T.isinstance PyProof.Rows.boot_isinstance (pa_cons (pv 6) (pa_cons (pe_bltn (v := .ty "tuple") (by rfl) T.tuple PyProof.Rows.boot_tuple rfl) pa_nil)))) (pw_and (pt_cmpR (NT.op_neT0 hr.units) (pv 6) (pe_tup pa_nil) (nomark _)) (pw_and1 (pt_cmpR op_gt (pe_call c_ldraw.ok (hr.mono (by omega)) (by rfl) c_ldraw.g c_ldraw.kp c_ldraw.b .nil pass0 (pa_cons (pv 0) (pa_cons pe_int pa_nil))) pe_int (nomark _))))))) (pss_cons (ps_set (i := 7) sc_lbent.nd rfl (Or.inl rfl) (pe_call c_ldraw.ok (hr.mono (by omega)) (by rfl) c_ldraw.g c_ldraw.kp c_ldraw.b .nil pass0 (pa_cons (pv 0) (pa_cons (pe_callB call_len_seq (by rfl) T.len PySem.boot_len (pa_cons (pv 6) pa_nil)) pa_nil))))
      (pss_one (ps_ret (pe_tup (pa_cons (pv 4) (pa_cons (pv 5) (pa_cons (pe_op TR.op_catTA (pe_op TR.op_catTA (pe_slice sl_tupA (pv 6) po_none (po_some (pv 7))) (pe_tup (pa_cons (pe_call c_lbent.ok (hr.mono (by omega)) (by rfl) c_lbent.g c_lbent.kp c_lbent.b .nil pass0 (pa_cons (pv 0) (pa_cons (pe_ix ix_seq (pv 6) (pv 7) (fun _ _ => rfl)) (pa_cons (pv 2) (pa_cons (pv 3) pa_nil))))) pa_nil))) (pe_slice sl_tupA (pv 6) (po_some (pe_op op_add (pv 7) pe_int)) po_none)) pa_nil))))))) pss_nil)
      (pss_cons (ps_set (i := 8) sc_lbent.nd rfl (Or.inl rfl) (pe_lst (pa_cons pe_non (pa_cons pe_bl (pa_cons pe_str (pa_cons (pe_lst pa_nil) (pa_cons pe_dnewK (pa_cons (pe_tup pa_nil) (pa_cons (pe_disp (pps_cons pe_str pe_int pps_nil) (by rfl) (by rfl) (fun z => by cases z) (by decide)) (pa_cons (pe_lst (pa_cons pe_int pa_nil)) (pa_cons (pe_un un_neg pe_int) (pa_cons (pv 2) (pa_cons (pe_op op_add (pv 2) pe_int) (pa_cons (pe_op op_add (pv 2) pe_int) pa_nil))))))))))))))
      (pss_cons (ps_set (i := 9) sc_lbent.nd rfl (Or.inl rfl) (pe_call c_pickL.ok (hr.mono (by omega)) (by rfl) c_pickL.g c_pickL.kp c_pickL.b .nil pass0 (pa_cons (pv 0) (pa_cons (pe_op op_cat (pv 8) (pe_lst (pa_cons (pv 3) (pa_cons (pe_op op_sub (pv 3) pe_int) (pa_cons pe_int (pa_cons pe_int (pa_cons pe_int pa_nil))))))) pa_nil))))
      (pss_cons (ps_set (i := 10) sc_lbent.nd rfl (Or.inl rfl) (pe_lst (pa_cons (pe_tup (pa_cons (pv 9) (pa_cons (pv 5) (pa_cons (pv 6) pa_nil)))) (pa_cons (pe_tup (pa_cons (pv 4) (pa_cons (pv 9) (pa_cons (pv 6) pa_nil)))) (pa_cons (pe_tup (pa_cons (pv 4) (pa_cons (pv 5) (pa_cons (pv 9) pa_nil)))) (pa_cons (pe_tup (pa_cons (pv 4) (pa_cons (pv 5) pa_nil))) (pa_cons (pe_tup (pa_cons (pv 4) (pa_cons (pv 5) (pa_cons (pv 6) (pa_cons (pv 6) pa_nil))))) pa_nil)))))))
      (pss_cons (ps_set (i := 10) sc_lbent.nd rfl (Or.inl rfl) (pe_op op_cat (pv 10) (pe_lst (pa_cons (pv 9) (pa_cons (pe_tup (pa_cons pe_str (pa_cons (pv 5) (pa_cons (pv 6) pa_nil)))) (pa_cons (pe_tup (pa_cons pe_str (pa_cons (pv 9) (pa_cons pe_int pa_nil)))) (pa_cons (pe_tup (pa_cons pe_str (pa_cons (pv 9) (pa_cons (pv 6) pa_nil)))) (pa_cons (pe_tup (pa_cons pe_str (pa_cons (pv 9) (pa_cons (pv 6) pa_nil)))) pa_nil))))))))
      (pss_cons (ps_expr (pe_bm PySem.F.plainAttrs_list PySem.F.slot_list_append PySem.F.type_list_append mt_append (pv 10) (pa_cons (pe_lst (pa_cons (pv 4) (pa_cons (pv 5) (pa_cons (pv 6) pa_nil)))) pa_nil)))
      (pss_cons (ps_if (pt_val (pe_callB call_isi (by rfl) T.isinstance PyProof.Rows.boot_isinstance (pa_cons (pv 6) (pa_cons (pe_bltn (v := .ty "tuple") (by rfl) T.tuple PyProof.Rows.boot_tuple rfl) pa_nil)))) (pss_one (ps_set (i := 10) sc_lbent.nd rfl (Or.inl rfl) (pe_op op_cat (pv 10) (pe_lst (pa_cons (pe_tup (pa_cons (pv 4) (pa_cons (pv 5) (pa_cons (pe_op TR.op_catTA (pv 6) (pe_tup (pa_cons (pe_tup (pa_cons pe_str (pa_cons pe_int (pa_cons pe_int pa_nil)))) pa_nil))) pa_nil)))) (pa_cons (pe_tup (pa_cons (pv 4) (pa_cons (pv 5) (pa_cons (pe_slice sl_tupA (pv 6) (po_some pe_int) po_none) pa_nil)))) (pa_cons (pe_tup (pa_cons (pv 4) (pa_cons (pv 5) (pa_cons (pe_callTy call_list_of (by rfl) T.list PyProof.Rows.boot_list (pa_cons (pv 6) pa_nil)) pa_nil)))) pa_nil))))))) pss_nil)
      (pss_one (ps_ret (pe_call c_pickL.ok (hr.mono (by omega)) (by rfl) c_pickL.g c_pickL.kp c_pickL.b .nil pass0 (pa_cons (pv 0) (pa_cons (pv 10) pa_nil))))))))))))))), ?_⟩
      have hgH := GA.ex P0.1 hg
      obtain ⟨TT, ty, tn⟩ := GA.ty (K := K) hgH
      refine ⟨_, rfl, _, _, _, _, _, rfl, .ty _, ty, kit_tu tn, _, rfl, ?_⟩
      have same : Q v H := q H0 H v g (Ex.refl _) (P0.le (by omega)) hg ⟨by omega, by omega, by omega⟩
      cases hg with
      | int i => exact ⟨_, rfl, same⟩
      | str z => exact ⟨_, rfl, same⟩
      | bl b => exact ⟨_, rfl, same⟩
      | non => exact ⟨_, rfl, same⟩
      | dct h => exact ⟨_, rfl, same⟩
      | @seq a kk vs gs ha0 r0 =>
      cases kk with
      | false => exact ⟨_, rfl, same⟩
      | true =>
      have ha := P0.1 _ _ ha0
      have lk := r0.len
      refine ⟨_, rfl, a, _, rfl, ob_seq ha, rfl, _, rfl, ite2 (fun hb => ⟨_, rfl, same⟩) (fun hb => ?_)⟩
      have l3 : gs.length = 3 := by
        rw [lk] at hb
        refine Decidable.byContradiction fun z => hb ?_
        rw [decide_eq_false (fun e => z (by have := V.int.inj e; omega))]
        rfl
      obtain ⟨x, y, z, g1, g2, g3, rfl, rfl, hx, hy, hz⟩ := gas3 r0 l3
      clear same hgH ty tn r0 lk l3 hb
      rw [seq3_size] at hs
      rw [seq3_depth] at hdp
      rw [seq3_wd] at hwd
      refine ⟨_, rfl, gSeq_of ha rfl ⟨_, _, rfl, _, _, rfl, _, _, rfl, rfl, ?_⟩⟩
      refine' cut2 (fun σ' H' => σ' = [some (.ref p.d), some (.ref a), some (.int (wd : Nat)), some (.int (m : Nat)), some x, some y, some z, none, none, none, none] ∧ PenAt p H0 H' (n + 1)) (fun rest => ?_) ?_
      rotate_left
      · refine ⟨_, rfl, eqS_of (GA.ex P0.1 hx) ⟨_, rfl, ?_⟩⟩
        cases ht : GX.hd "tell" g1 with
        | false =>
          refine iteF (iteF ?_)
          exact rest _ _ ⟨rfl, P0.le (by omega)⟩
        | true =>
          refine ⟨_, rfl, p, H0, n, 2, rfl, P0, by omega, by decide, by decide, fun H1 r1 P1 r10 r11 => ⟨rfl, _, rfl, ite2 (fun _ => ?_) (fun _ => ?_)⟩⟩
          rotate_left
          · exact rest _ _ ⟨rfl, P1⟩
          refine ⟨_, rfl, _, rfl, _, rfl, _, rfl, _, rfl, _, rfl, p, H0, n + 1, g3, z, wd, m, rfl, P1, by omega, hz, by omega, by omega, by omega, fun H2 H3 v' g' e2 P2 hv' bd => ⟨by show 3 ≤ sizeLine; decide, fun r hr3 => ?_⟩⟩
          obtain ⟨K1, K2, K3⟩ := keep_new (k := true) P2 hr3 (.cons (GA.ex e2 hx) (.cons (GA.ex e2 hy) (.cons hv' .nil)))
          refine q _ _ _ _ (e2.trans K2) (K1.le (by omega)) K3 ⟨?_, ?_, ?_⟩
          · have := bd.s
            rw [seq3_size, seq3_size]
            omega
          · have := bd.d
            rw [seq3_depth, seq3_depth]
            omega
          · have := bd.w
            rw [seq3_wd, seq3_wd]
            omega
      · intro σ1 H1 hw
        obtain ⟨rfl, P1⟩ := hw
        clear P0 ha
        refine' cut2 (fun σ' H' => ∃ y7 : Option V, σ' = [some (.ref p.d), some (.ref a), some (.int (wd : Nat)), some (.int (m : Nat)), some x, some y, some z, y7, none, none, none] ∧ PenAt p H0 H' (n + 3)) (fun rest => ?_) ?_
        rotate_left
        · have hzH := GA.ex P1.1 hz
          obtain ⟨T3, ty3, tn3⟩ := GA.ty (K := K) hzH
          refine ⟨_, rfl, eqS_of (GA.ex P1.1 hx) ⟨_, rfl, ?_⟩⟩
          cases ht : GX.hd "read" g1 with
          | false =>
            refine iteF (iteF ?_)
            exact rest _ _ ⟨_, rfl, P1.le (by omega)⟩
          | true =>
            refine ⟨_, rfl, _, _, _, _, _, rfl, .ty _, ty3, kit_tu tn3, _, rfl, ?_⟩
            cases hz with
            | int i =>
              refine iteF (iteF ?_)
              exact rest _ _ ⟨_, rfl, P1.le (by omega)⟩
            | str z =>
              refine iteF (iteF ?_)
              exact rest _ _ ⟨_, rfl, P1.le (by omega)⟩
            | bl b =>
              refine iteF (iteF ?_)
              exact rest _ _ ⟨_, rfl, P1.le (by omega)⟩
            | non =>
              refine iteF (iteF ?_)
              exact rest _ _ ⟨_, rfl, P1.le (by omega)⟩
            | dct h =>
              refine iteF (iteF ?_)
              exact rest _ _ ⟨_, rfl, P1.le (by omega)⟩
            | @seq c kk us gs hc0 r3 =>
            cases kk with
            | false =>
              refine iteF (iteF ?_)
              exact rest _ _ ⟨_, rfl, P1.le (by omega)⟩
            | true =>
            have hc := P1.1 _ _ hc0
            have lk := r3.len
            refine ⟨_, rfl, by show 0 ≤ sizeLine; decide, fun u0 hu0 => ⟨c, u0, us, rfl, rfl, st_of ((Ex.new hu0) _ _ hc), st_of upd_same, _, rfl, ?_⟩⟩
            have PN := P1.ex (Ex.new (o := .tup []) hu0)
            by_cases h0 : us.length = 0
            · rw [decide_eq_true h0]
              refine iteF (iteF ?_)
              exact rest _ _ ⟨_, rfl, PN.le (by omega)⟩
            rw [decide_eq_false h0]
            refine ⟨_, rfl, p, H0, n + 1, 3, rfl, PN, by omega, by decide, by decide, fun H2 r2 P2 r20 r21 => ?_⟩
            have hsz3 : Gt.sizes gs + 1 = (Gt.seq true gs).size := by simp only [Gt.size]
            have hdz3 : Gt.depths gs + 1 = (Gt.seq true gs).depth := by simp only [Gt.depth]
            have hwz3 : max gs.length (Gt.wds gs) = (Gt.seq true gs).wd := by simp only [Gt.wd]
            refine ⟨_, _, rfl, rfl, _, rfl, ite2 (fun _ => ?_) (fun _ => ?_)⟩
            rotate_left
            · exact rest _ _ ⟨_, rfl, P2.le (by omega)⟩
            have hc2 := P2.1 _ _ hc0
            refine ⟨_, rfl, _, rfl, c, _, rfl, .inr (st_of hc2), p, H0, n + 1 + 1, _, rfl, P2, by omega, by omega, by omega, fun H3 r4 P3 r40 r41 => ?_⟩
            obtain ⟨at_, rfl⟩ : ∃ j : Nat, r4 = (j : Int) := ⟨r4.toNat, (Int.toNat_of_nonneg r40).symm⟩
            have hat : at_ < us.length := by omega
            have hc3 := P3.1 _ _ hc0
            obtain ⟨uu, huu⟩ : ∃ v, us[at_]? = some v := ⟨_, List.getElem?_eq_getElem hat⟩
            obtain ⟨gu, hgu, hga⟩ := r3.get huu
            have memu := List.mem_of_getElem? hgu
            have hsu := size_mem memu
            have hdu := depth_mem memu
            have hwu := wd_mem memu
            refine ⟨_, rfl, _, rfl, _, rfl, _, rfl, ?_⟩
            refine ⟨_, rfl, slA hc3 fun p1 H4 e4 h4 => ?_⟩
            rw [cut_take] at h4
            have P4 := P3.ex e4
            obtain ⟨P4k, ek1⟩ := P4.keepE h4 (tup_nd P4 h4)
            have hc4 := e4 _ _ hc3
            refine ⟨_, rfl, _, rfl, _, rfl, ix_at (k := true) hc4 (atI_nat huu) ⟨_, rfl, _, rfl, p, _, _, gu, uu, wd, m, rfl, P4k, by omega, GA.ex ek1 hga, by omega, by omega, by omega, fun B2 H5 v' g' e5 P5 hv' bd => ?_⟩⟩
            have h5 := P5.1 _ _ (e5 _ _ upd_same)
            have hc5 := P5.1 _ _ ((ek1.trans e5) _ _ hc0)
            refine ⟨by show 1 ≤ sizeLine; decide, fun q1 hq1 => ?_⟩
            have P6 := P5.ex (Ex.new (o := .tup [v']) hq1)
            refine ⟨p1, q1, _, _, rfl, rfl, (Ex.new hq1) _ _ h5, upd_same, ?_, fun p2 H6 e6 h6 => ?_⟩
            · rw [List.length_take]
              exact sz_le (by show min _ _ + 1 < 1000; omega)
            have P7 := P6.ex e6
            have hc6 := e6 _ _ ((Ex.new (o := .tup [v']) hq1) _ _ hc5)
            refine ⟨_, rfl, _, rfl, _, _, rfl, rfl, _, rfl, ?_⟩
            dsimp only [tNoPart]
            refine slA hc6 fun p3 H7 e7 h7 => ?_
            rw [show ((at_ : Int) + 1) = ((at_ + 1 : Nat) : Int) from rfl, cut_drop] at h7
            have P8 := P7.ex e7
            refine ⟨p2, p3, _, _, rfl, rfl, e7 _ _ h6, h7, ?_, fun p4 H8 e8 h8 => ?_⟩
            · rw [List.length_append, List.length_take, List.length_drop]
              exact sz_le (by show min _ _ + 1 + _ < 1000; omega)
            have P9 := P8.ex e8
            obtain ⟨P9k, ek9⟩ := P9.keepE h8 (tup_nd P9 h8)
            refine ⟨by show 3 ≤ sizeLine; decide, fun r hr9 => ?_⟩
            have eB := (ek1.trans e5).trans ek9
            have GG : GAs (upd B2 p4 (.tup (us.take at_ ++ [v'] ++ us.drop (at_ + 1)))) (us.take at_ ++ [v'] ++ us.drop (at_ + 1)) (gs.take at_ ++ [g'] ++ gs.drop (at_ + 1)) :=
              (((GAs.ex eB r3).take at_).app (.cons (GA.ex ek9 hv') .nil)).app ((GAs.ex eB r3).drop (at_ + 1))
            have G4 : GA (upd B2 p4 (.tup (us.take at_ ++ [v'] ++ us.drop (at_ + 1)))) (.ref p4) (.seq true (gs.take at_ ++ [g'] ++ gs.drop (at_ + 1))) := .seq (k := true) upd_same GG
            obtain ⟨K1, K2, K3⟩ := keep_new (k := true) P9k hr9 (.cons (GA.ex eB hx) (.cons (GA.ex eB hy) (.cons G4 .nil)))
            have hsp := sizes_split hgu g'
            have b1 := bd.s
            have b2 := bd.d
            have b3 := bd.w
            refine q _ _ _ _ (eB.trans K2) (K1.le (by omega)) K3 ⟨?_, ?_, ?_⟩
            · rw [seq3_size, seq3_size]
              simp only [Gt.size]
              omega
            · have hdd : Gt.depths (gs.take at_ ++ [g'] ++ gs.drop (at_ + 1)) ≤ Gt.depths gs + 3 := depths_le fun x hx => by
                rcases List.mem_append.mp hx with h | h
                · rcases List.mem_append.mp h with h | h
                  · have := depth_mem (List.mem_of_mem_take h); omega
                  · rw [List.mem_singleton.mp h]; omega
                · have := depth_mem (List.mem_of_mem_drop h); omega
              rw [seq3_depth, seq3_depth]
              simp only [Gt.depth]
              omega
            · have hww : Gt.wds (gs.take at_ ++ [g'] ++ gs.drop (at_ + 1)) ≤ Gt.wds gs + 6 := wds_le fun x hx => by
                rcases List.mem_append.mp hx with h | h
                · rcases List.mem_append.mp h with h | h
                  · have := wd_mem (List.mem_of_mem_take h); omega
                  · rw [List.mem_singleton.mp h]; omega
                · have := wd_mem (List.mem_of_mem_drop h); omega
              have hgl := (List.getElem?_eq_some_iff.mp hgu).1
              have hll : (gs.take at_ ++ [g'] ++ gs.drop (at_ + 1)).length = gs.length := by
                rw [List.length_append, List.length_append, List.length_take, List.length_drop]
                show min _ _ + 1 + _ = _
                omega
              rw [seq3_wd, seq3_wd]
              simp only [Gt.wd]
              omega
        · intro σ2 H2 hw
          obtain ⟨y7, rfl, P2⟩ := hw
          clear P1
          refine ⟨by show 0 ≤ sizeLine; decide, fun a1 h1 => ?_⟩
          have n1 := fresh_ne P2 h1
          have Q1 := P2.ex (Ex.new (o := .lst []) h1)
          refine fun a2 h2 => ?_
          have n2 := fresh_ne Q1 h2
          have Q2 := Q1.ex (Ex.new (o := .dK []) h2)
          refine ⟨by show 0 ≤ sizeLine; decide, fun a3 h3 => ?_⟩
          have n3 := fresh_ne Q2 h3
          have Q3 := Q2.ex (Ex.new (o := .tup []) h3)
          refine fun a4 h4 => ?_
          have n4 := fresh_ne Q3 h4
          have Q4 := Q3.ex (ex_new2 (o1 := .dK []) (o2 := .dK [(.inr "a", .int 1)]) h4)
          refine ⟨upd_same, [(.inr "a", .int 1)], rfl, by show 1 ≤ 15; decide, ?_⟩
          refine ⟨by show 1 ≤ sizeLine; decide, fun a5 h5 => ?_⟩
          have n5 := fresh_ne Q4 h5
          have Q5 := Q4.ex (Ex.new (o := .lst [.int 0]) h5)
          refine ⟨_, rfl, _, rfl, _, rfl, _, _, rfl, rfl, _, rfl, _, _, rfl, rfl, by show 12 ≤ sizeLine; decide, fun a6 h6 => ?_⟩
          have Q6 := Q5.ex (Ex.new (o := .lst [.non, .bl true, .str "0", .ref a1, .ref a2, .ref a3, .ref a4, .ref a5, .int (-1), .int (wd : Nat), .int ((wd : Nat) + 1), .int ((wd : Nat) + 2)]) h6)
          refine ⟨_, rfl, _, rfl, _, rfl, _, rfl, _, _, rfl, rfl, by show 5 ≤ sizeLine; decide, fun a7 h7 => ?_⟩
          have Q7 := Q6.ex (Ex.new (o := .lst [.int (m : Nat), .int ((m : Nat) - 1), .int 0, .int 3, .int 2]) h7)
          have x7 := Ex.new (o := .lst [.int (m : Nat), .int ((m : Nat) - 1), .int 0, .int 3, .int 2]) h7
          refine ⟨a6, a7, _, _, rfl, rfl, x7 _ _ upd_same, upd_same, by show 17 ≤ sizeLine; decide, fun a8 h8 => ?_⟩
          have Q8 := Q7.ex (Ex.new (o := .lst ([.non, .bl true, .str "0", .ref a1, .ref a2, .ref a3, .ref a4, .ref a5, .int (-1), .int (wd : Nat), .int ((wd : Nat) + 1), .int ((wd : Nat) + 2)] ++ [.int (m : Nat), .int ((m : Nat) - 1), .int 0, .int 3, .int 2])) h8)
          have x8 := Ex.new (o := .lst ([.non, .bl true, .str "0", .ref a1, .ref a2, .ref a3, .ref a4, .ref a5, .int (-1), .int (wd : Nat), .int ((wd : Nat) + 1), .int ((wd : Nat) + 2)] ++ [.int (m : Nat), .int ((m : Nat) - 1), .int 0, .int 3, .int 2])) h8
          have x6 := ((Ex.new (o := .lst [.non, .bl true, .str "0", .ref a1, .ref a2, .ref a3, .ref a4, .ref a5, .int (-1), .int (wd : Nat), .int ((wd : Nat) + 1), .int ((wd : Nat) + 2)]) h6).trans x7).trans x8
          have x5 := (Ex.new (o := .lst [.int 0]) h5).trans x6
          have x4 := (ex_new2 (o1 := .dK []) (o2 := .dK [(.inr "a", .int 1)]) h4).trans x5
          have x3 := (Ex.new (o := .tup []) h3).trans x4
          have x2 := (Ex.new (o := .dK []) h2).trans x3
          refine pick_now (E := fun _ _ _ => False) Q8 (by omega) upd_same (by show 0 < 17; decide) (by show 17 < 1000; decide) fun B H5 vo eB kB P5 hvo => ?_
          obtain ⟨go, hgo, sm⟩ : ∃ go, GA B vo go ∧ Sm go := by
            have smi : ∀ i, Sm (.int i) := fun i => ⟨by simp only [Gt.size]; decide, by simp only [Gt.depth]; decide, by simp only [Gt.wd]; decide⟩
            simp only [List.cons_append, List.nil_append, List.mem_cons, List.not_mem_nil, or_false] at hvo
            rcases hvo with rfl | rfl | rfl | rfl | rfl | rfl | rfl | rfl | rfl | rfl | rfl | rfl | rfl | rfl | rfl | rfl | rfl
            · exact ⟨.oth, .non, by decide, by decide, by decide⟩
            · exact ⟨.bl true, .bl _, by decide, by decide, by decide⟩
            · exact ⟨.str "0", .str _, by show 1 ≤ 2; decide, by show 1 ≤ 2; decide, by show 0 ≤ 1; decide⟩
            · exact ⟨.seq false [], .seq (k := false) (kB a1 _ (x2 _ _ upd_same) n1) .nil, by decide, by decide, by decide⟩
            · exact ⟨.oth, .dct (kB a2 _ (x3 _ _ upd_same) n2), by decide, by decide, by decide⟩
            · exact ⟨.seq true [], .seq (k := true) (kB a3 _ (x4 _ _ upd_same) n3) .nil, by decide, by decide, by decide⟩
            · exact ⟨.oth, .dct (kB a4 _ (x5 _ _ upd_same) n4), by decide, by decide, by decide⟩
            · exact ⟨.seq false [.int 0], .seq (k := false) (kB a5 _ (x6 _ _ upd_same) n5) (.cons (.int _) .nil), by decide, by decide, by decide⟩
            all_goals exact ⟨_, .int _, smi _⟩
          replace hx := GA.ex eB hx
          replace hy := GA.ex eB hy
          replace hz := GA.ex eB hz
          clear x2 x3 x4 x5 x6 x7 x8 Q8 Q7 Q6 Q5 Q4 Q3 Q2 Q1 kB hvo P2
          have sms := sm.s
          have smd := sm.d
          have smw := sm.w
          refine ⟨_, rfl, _, rfl, _, rfl, by show 3 ≤ sizeLine; decide, fun t1 k1 => ?_⟩
          obtain ⟨B1, R1, f1, G1, _⟩ := keep_ex true P5 k1 (.cons hgo (.cons hy (.cons hz .nil)))
          refine ⟨_, rfl, _, rfl, _, rfl, by show 3 ≤ sizeLine; decide, fun t2 k2 => ?_⟩
          obtain ⟨B2, R2, f2, G2, _⟩ := keep_ex true R1 k2 (.cons (GA.ex f1 hx) (.cons (GA.ex f1 hgo) (.cons (GA.ex f1 hz) .nil)))
          have f12 := f1.trans f2
          refine ⟨_, rfl, _, rfl, _, rfl, by show 3 ≤ sizeLine; decide, fun t3 k3 => ?_⟩
          obtain ⟨B3, R3, f3, G3, _⟩ := keep_ex true R2 k3 (.cons (GA.ex f12 hx) (.cons (GA.ex f12 hy) (.cons (GA.ex f12 hgo) .nil)))
          have f13 := f12.trans f3
          refine ⟨_, rfl, _, rfl, by show 2 ≤ sizeLine; decide, fun t4 k4 => ?_⟩
          obtain ⟨B4, R4, f4, G4, _⟩ := keep_ex true R3 k4 (.cons (GA.ex f13 hx) (.cons (GA.ex f13 hy) .nil))
          have f14 := f13.trans f4
          refine ⟨_, rfl, _, rfl, _, rfl, _, rfl, by show 4 ≤ sizeLine; decide, fun t5 k5 => ?_⟩
          obtain ⟨B5, R5, f5, G5, _⟩ := keep_ex true R4 k5 (.cons (GA.ex f14 hx) (.cons (GA.ex f14 hy) (.cons (GA.ex f14 hz) (.cons (GA.ex f14 hz) .nil))))
          have f15 := f14.trans f5
          have O5 : ∀ v ∈ [V.ref t1, .ref t2, .ref t3, .ref t4, .ref t5], GO (.seq true [g1, g2, g3]) B5 v := by
            intro v hv
            simp only [List.mem_cons, List.not_mem_nil, or_false] at hv
            rcases hv with rfl | rfl | rfl | rfl | rfl
            · exact ⟨_, GA.ex (f2.trans (f3.trans (f4.trans f5))) G1, bd3 (by omega) (by omega) (by omega)⟩
            · exact ⟨_, GA.ex (f3.trans (f4.trans f5)) G2, bd3 (by omega) (by omega) (by omega)⟩
            · exact ⟨_, GA.ex (f4.trans f5) G3, bd3 (by omega) (by omega) (by omega)⟩
            · refine ⟨_, GA.ex f5 G4, ⟨?_, ?_, ?_⟩⟩
              · rw [seq3_size]; simp only [Gt.size, Gt.sizes]; omega
              · rw [seq3_depth]; simp only [Gt.depth, Gt.depths]; omega
              · rw [seq3_wd]; simp only [Gt.wd, Gt.wds, List.length_cons, List.length_nil]; omega
            · refine ⟨_, G5, ⟨?_, ?_, ?_⟩⟩
              · rw [seq3_size]; simp only [Gt.size, Gt.sizes]; omega
              · rw [seq3_depth]; simp only [Gt.depth, Gt.depths]; omega
              · rw [seq3_wd]; simp only [Gt.wd, Gt.wds, List.length_cons, List.length_nil]; omega
          replace hx := GA.ex f15 hx
          replace hy := GA.ex f15 hy
          replace hz := GA.ex f15 hz
          replace hgo := GA.ex f15 hgo
          replace eB := eB.trans f15
          clear R1 R2 R3 R4 P5 G1 G2 G3 G4 G5 f1 f2 f3 f4 f5 f12 f13 f14 f15
          refine ⟨by show 5 ≤ sizeLine; decide, fun l1 m1 => ?_⟩
          have c1 := new_at (o := .lst [.ref t1, .ref t2, .ref t3, .ref t4, .ref t5]) m1
          have R6 := R5.ex (Ex.new (o := .lst [.ref t1, .ref t2, .ref t3, .ref t4, .ref t5]) m1)
          refine ⟨_, rfl, _, rfl, _, rfl, _, rfl, by show 3 ≤ sizeLine; decide, fun t6 k6 => ?_⟩
          have c6 := (Ex.new (o := ob true [.str "reads", y, z]) k6) _ _ c1
          obtain ⟨B6, R7, f6, G6, _⟩ := keep_ex true R6 k6 (.cons (.str _) (.cons hy (.cons hz .nil)))
          refine ⟨_, rfl, by show 3 ≤ sizeLine; decide, fun t7 k7 => ?_⟩
          have c7 := (Ex.new (o := ob true [.str "go", vo, .int 0]) k7) _ _ c6
          obtain ⟨B7, R8, f7, G7, _⟩ := keep_ex true R7 k7 (.cons (.str _) (.cons (GA.ex f6 hgo) (.cons (.int _) .nil)))
          have f67 := f6.trans f7
          refine ⟨_, rfl, _, rfl, by show 3 ≤ sizeLine; decide, fun t8 k8 => ?_⟩
          have c8 := (Ex.new (o := ob true [.str "tell", vo, z]) k8) _ _ c7
          obtain ⟨B8, R9, f8, G8, _⟩ := keep_ex true R8 k8 (.cons (.str _) (.cons (GA.ex f67 hgo) (.cons (GA.ex f67 hz) .nil)))
          have f68 := f67.trans f8
          refine ⟨_, rfl, _, rfl, by show 3 ≤ sizeLine; decide, fun t9 k9 => ?_⟩
          have c9 := (Ex.new (o := ob true [.str "read", vo, z]) k9) _ _ c8
          obtain ⟨B9, R10, f9, G9, _⟩ := keep_ex true R9 k9 (.cons (.str _) (.cons (GA.ex f68 hgo) (.cons (GA.ex f68 hz) .nil)))
          have f69 := f68.trans f9
          refine ⟨by show 5 ≤ sizeLine; decide, fun l2 m2 => ?_⟩
          have c2 := (Ex.new (o := .lst [vo, .ref t6, .ref t7, .ref t8, .ref t9]) m2) _ _ c9
          have R11 := R10.ex (Ex.new (o := .lst [vo, .ref t6, .ref t7, .ref t8, .ref t9]) m2)
          refine ⟨l1, l2, _, _, rfl, rfl, c2, upd_same, by show 10 ≤ sizeLine; decide, fun l3 m3 => ?_⟩
          have n3 := fresh0 R11 m3
          have n3d := fresh_ne R11 m3
          have O9 : ∀ v ∈ [V.ref t1, .ref t2, .ref t3, .ref t4, .ref t5] ++ [vo, .ref t6, .ref t7, .ref t8, .ref t9], GO (.seq true [g1, g2, g3]) B9 v := by
            intro v hv
            rcases List.mem_append.mp hv with h | h
            · exact (O5 v h).ex f69
            · have ss : ∀ z, (Gt.str z).size = 1 := fun z => by simp only [Gt.size]
              have sd : ∀ z, (Gt.str z).depth = 1 := fun z => by simp only [Gt.depth]
              have sw : ∀ z, (Gt.str z).wd = 0 := fun z => by simp only [Gt.wd]
              have is_ : ∀ z, (Gt.int z).size = 1 := fun z => by simp only [Gt.size]
              have id_ : ∀ z, (Gt.int z).depth = 1 := fun z => by simp only [Gt.depth]
              have iw : ∀ z, (Gt.int z).wd = 0 := fun z => by simp only [Gt.wd]
              have p1 := size_pos g1
              have p2 := size_pos g2
              have p3 := size_pos g3
              simp only [List.mem_cons, List.not_mem_nil, or_false] at h
              rcases h with rfl | rfl | rfl | rfl | rfl
              · exact ⟨go, GA.ex f69 hgo, ⟨by omega, by rw [seq3_depth]; omega, by omega⟩⟩
              · exact ⟨_, GA.ex (f7.trans (f8.trans f9)) G6, bd3 (by rw [ss]; omega) (by rw [sd]; omega) (by rw [sw]; omega)⟩
              · exact ⟨_, GA.ex (f8.trans f9) G7, bd3 (by rw [ss, is_]; omega) (by rw [sd, id_]; omega) (by rw [sw, iw]; omega)⟩
              · exact ⟨_, GA.ex f9 G8, bd3 (by rw [ss]; omega) (by rw [sd]; omega) (by rw [sw]; omega)⟩
              · exact ⟨_, G9, bd3 (by rw [ss]; omega) (by rw [sd]; omega) (by rw [sw]; omega)⟩
          have R12 := R11.ex (Ex.new (o := .lst ([V.ref t1, .ref t2, .ref t3, .ref t4, .ref t5] ++ [vo, .ref t6, .ref t7, .ref t8, .ref t9])) m3)
          have lLL : ([V.ref t1, .ref t2, .ref t3, .ref t4, .ref t5] ++ [vo, .ref t6, .ref t7, .ref t8, .ref t9]).length = 10 := rfl
          replace hx := GA.ex f69 hx
          replace hy := GA.ex f69 hy
          replace hz := GA.ex f69 hz
          replace eB := eB.trans f69
          clear R5 R6 R7 R8 R9 R10 R11 G6 G7 G8 G9 f6 f7 f8 f9 f67 f68 f69 c1 c2 c6 c7 c8 c9 O5 hgo
          generalize ([V.ref t1, .ref t2, .ref t3, .ref t4, .ref t5] ++ [vo, .ref t6, .ref t7, .ref t8, .ref t9]) = LL at O9 R12 lLL ⊢
          have hl3 := new_at (o := .lst LL) m3
          refine ⟨_, rfl, .inl ⟨rfl, _, sq_of hl3⟩, _, rfl, _, rfl, _, rfl, by show 3 ≤ sizeLine; decide, fun l4 m4 => ⟨l3, _, _, rfl, rfl, (Ex.new m4) _ _ hl3, sz_lt (by omega), ?_⟩⟩
          obtain ⟨B10, R13, f10, G10, k10⟩ := keep_ex false R12 m4 (.cons hx (.cons hy (.cons hz .nil)))
          have nl : l3 ≠ l4 := fun z => by
            rw [← z, hl3] at m4
            cases m4
          have b10 : B10 l3 = none := k10 l3 n3 nl
          have R14 := R13.upd (o := .lst (LL ++ [.ref l4])) b10 n3d
          have h14 := at_new (b := l4) (o2 := .lst [x, y, z]) (o3 := .lst (LL ++ [.ref l4])) hl3
          have O10 : ∀ v ∈ LL ++ [V.ref l4], GO (.seq true [g1, g2, g3]) B10 v := by
            intro v hv
            rcases List.mem_append.mp hv with h | h
            · exact (O9 v h).ex f10
            · rw [List.mem_singleton.mp h]
              exact ⟨_, G10, bd3 (by omega) (by omega) (by omega)⟩
          replace hx := GA.ex f10 hx
          replace hy := GA.ex f10 hy
          replace hz := GA.ex f10 hz
          replace eB := eB.trans f10
          have l10 : (LL ++ [V.ref l4]).length = 11 := by
            rw [List.length_append, lLL]
            rfl
          clear R12 R13 G10 k10 O9 f10 hl3 lLL
          generalize LL ++ [V.ref l4] = LM at O10 R14 h14 l10 ⊢
          refine' cut2 (fun σ' H' => ∃ (B : Hp) (l : Addr) (xs : List V) (y8 y9 : Option V), σ' = [some (.ref p.d), some (.ref a), some (.int (wd : Nat)), some (.int (m : Nat)), some x, some y, some z, y7, y8, y9, some (.ref l)] ∧ Ex H0 B ∧ PenAt p B H' (n + 4) ∧ H' l = some (.lst xs) ∧ 0 < xs.length ∧ xs.length < 1000 ∧ ∀ v ∈ xs, GO (.seq true [g1, g2, g3]) B v) (fun rest => ?_) ?_
          rotate_left
          · obtain ⟨T3, ty3, tn3⟩ := GA.ty (K := K) (GA.ex R14.1 hz)
            refine ⟨_, rfl, _, _, _, _, _, rfl, .ty _, ty3, kit_tu tn3, _, rfl, ?_⟩
            cases hz with
            | int i =>
              refine iteF ?_
              exact rest _ _ ⟨_, l3, LM, _, _, rfl, eB, R14.le (by omega), h14, by omega, by omega, O10⟩
            | str z =>
              refine iteF ?_
              exact rest _ _ ⟨_, l3, LM, _, _, rfl, eB, R14.le (by omega), h14, by omega, by omega, O10⟩
            | bl b =>
              refine iteF ?_
              exact rest _ _ ⟨_, l3, LM, _, _, rfl, eB, R14.le (by omega), h14, by omega, by omega, O10⟩
            | non =>
              refine iteF ?_
              exact rest _ _ ⟨_, l3, LM, _, _, rfl, eB, R14.le (by omega), h14, by omega, by omega, O10⟩
            | dct h =>
              refine iteF ?_
              exact rest _ _ ⟨_, l3, LM, _, _, rfl, eB, R14.le (by omega), h14, by omega, by omega, O10⟩
            | @seq c kk us gs hc0 r3 =>
            cases kk with
            | false =>
              refine iteF ?_
              exact rest _ _ ⟨_, l3, LM, _, _, rfl, eB, R14.le (by omega), h14, by omega, by omega, O10⟩
            | true =>
            refine iteT ?_
            have hsz3 : Gt.sizes gs + 1 = (Gt.seq true gs).size := by simp only [Gt.size]
            have hdz3 : Gt.depths gs + 1 = (Gt.seq true gs).depth := by simp only [Gt.depth]
            have hwz3 : max gs.length (Gt.wds gs) = (Gt.seq true gs).wd := by simp only [Gt.wd]
            have luz := r3.len
            have hc := R14.1 _ _ hc0
            refine ⟨_, rfl, _, rfl, _, rfl, _, rfl, by show 3 ≤ sizeLine; decide, fun q1 hq1 => ⟨by show 1 ≤ sizeLine; decide, fun q2 hq2 => ?_⟩⟩
            obtain ⟨C1, S1, a1_, K1, _⟩ := keep_ex true R14 hq1 (.cons (.str "go") (.cons (.int 1) (.cons (.int 0) .nil)))
            have S2 := S1.ex (Ex.new (o := .tup [.ref q1]) hq2)
            have hc2 := S2.1 _ _ (a1_ _ _ hc0)
            have h15 := (Ex.new (o := .tup [.ref q1]) hq2) _ _ ((Ex.new (o := ob true [.str "go", .int 1, .int 0]) hq1) _ _ h14)
            refine ⟨c, q2, _, _, rfl, rfl, hc2, upd_same, sz_le (by show us.length + 1 < 1000; omega), fun p1 H4 e4 h4 => ?_⟩
            have S3 := S2.ex e4
            obtain ⟨S3k, a3_⟩ := S3.keepE h4 (tup_nd S3 h4)
            have a13 := a1_.trans a3_
            have K3 : GA _ (.ref p1) (.seq true (gs ++ [.seq true [.str "go", .int 1, .int 0]])) := .seq (k := true) upd_same ((GAs.ex a13 r3).app (.cons (GA.ex a3_ K1) .nil))
            have h16 := e4 _ _ h15
            refine ⟨by show 3 ≤ sizeLine; decide, fun q3 hq3 => ?_⟩
            obtain ⟨C4, S4, a4_, K4, _⟩ := keep_ex true S3k hq3 (.cons (GA.ex a13 hx) (.cons (GA.ex a13 hy) (.cons K3 .nil)))
            have a14 := a13.trans a4_
            have h17 := (Ex.new (o := ob true [x, y, .ref p1]) hq3) _ _ h16
            refine ⟨_, rfl, _, rfl, _, rfl, _, rfl, ?_⟩
            dsimp only [tNoPart]
            refine slA (S4.1 _ _ (a14 _ _ hc0)) fun p2 H5 e5 h5 => ?_
            rw [show (1 : Int) = ((1 : Nat) : Int) from rfl, cut_drop] at h5
            have S5 := S4.ex e5
            obtain ⟨S5k, a5_⟩ := S5.keepE h5 (tup_nd S5 h5)
            have a15 := a14.trans a5_
            have K5 : GA _ (.ref p2) (.seq true (gs.drop 1)) := .seq (k := true) upd_same ((GAs.ex a15 r3).drop 1)
            have h18 := e5 _ _ h17
            refine ⟨by show 3 ≤ sizeLine; decide, fun q4 hq4 => ?_⟩
            obtain ⟨C6, S6, a6_, K6, _⟩ := keep_ex true S5k hq4 (.cons (GA.ex a15 hx) (.cons (GA.ex a15 hy) (.cons K5 .nil)))
            have a16 := a15.trans a6_
            have h19 := (Ex.new (o := ob true [x, y, .ref p2]) hq4) _ _ h18
            refine ⟨_, rfl, _, rfl, _, rfl, c, _, rfl, .inr (st_of (S6.1 _ _ (a16 _ _ hc0))), fun q5 hq5 => ?_⟩
            obtain ⟨C7, S7, a7_, K7, _⟩ := keep_ex false S6 hq5 (GAs.ex a16 r3)
            have a17 := a16.trans a7_
            have h20 := (Ex.new (o := ob false us) hq5) _ _ h19
            refine ⟨by show 3 ≤ sizeLine; decide, fun q6 hq6 => ?_⟩
            obtain ⟨C8, S8, a8_, K8, _⟩ := keep_ex true S7 hq6 (.cons (GA.ex a17 hx) (.cons (GA.ex a17 hy) (.cons K7 .nil)))
            have a18 := a17.trans a8_
            have h21 := (Ex.new (o := ob true [x, y, .ref q5]) hq6) _ _ h20
            refine ⟨by show 3 ≤ sizeLine; decide, fun q7 hq7 => ?_⟩
            have S9 := S8.ex (Ex.new (o := .lst [.ref q3, .ref q4, .ref q6]) hq7)
            have h22 := (Ex.new (o := .lst [.ref q3, .ref q4, .ref q6]) hq7) _ _ h21
            refine ⟨l3, q7, _, _, rfl, rfl, h22, upd_same, sz_le (by show LM.length + 3 < 1000; omega), fun q8 hq8 => ?_⟩
            have S10 := S9.ex (Ex.new (o := .lst (LM ++ [.ref q3, .ref q4, .ref q6])) hq8)
            refine rest _ _ ⟨_, q8, _, _, _, rfl, eB.trans a18, S10.le (by omega), upd_same, ?_, ?_, fun v hv => ?_⟩
            · rw [List.length_append]; omega
            · rw [List.length_append]
              show LM.length + 3 < 1000
              omega
            · have go4 : (Gt.seq true [.str "go", .int 1, .int 0]).size = 4 := by decide +kernel
              have go2 : (Gt.seq true [.str "go", .int 1, .int 0]).depth = 2 := by decide +kernel
              have go3 : (Gt.seq true [.str "go", .int 1, .int 0]).wd = 3 := by decide +kernel
              rcases List.mem_append.mp hv with h | h
              · exact (O10 v h).ex a18
              · simp only [List.mem_cons, List.not_mem_nil, or_false] at h
                rcases h with rfl | rfl | rfl
                · refine ⟨_, GA.ex (a5_.trans (a6_.trans (a7_.trans a8_))) K4, bd3 ?_ ?_ ?_⟩
                  · simp only [Gt.size]
                    rw [sizes_app]
                    simp only [Gt.sizes]
                    omega
                  · have : Gt.depths (gs ++ [.seq true [.str "go", .int 1, .int 0]]) ≤ Gt.depths gs + 2 := depths_le fun x hx => by
                      rcases List.mem_append.mp hx with h | h
                      · have := depth_mem h; omega
                      · rw [List.mem_singleton.mp h]; omega
                    simp only [Gt.depth]
                    omega
                  · have : Gt.wds (gs ++ [.seq true [.str "go", .int 1, .int 0]]) ≤ Gt.wds gs + 3 := wds_le fun x hx => by
                      rcases List.mem_append.mp hx with h | h
                      · have := wd_mem h; omega
                      · rw [List.mem_singleton.mp h]; omega
                    simp only [Gt.wd]
                    rw [List.length_append]
                    simp only [List.length_cons, List.length_nil]
                    omega
                · refine ⟨_, GA.ex (a7_.trans a8_) K6, bd3 ?_ ?_ ?_⟩
                  · have : Gt.sizes (gs.drop 1) ≤ Gt.sizes gs := by
                      cases gs with
                      | nil => exact Nat.le_refl _
                      | cons g r =>
                        simp only [List.drop_succ_cons, List.drop_zero, Gt.sizes]
                        omega
                    simp only [Gt.size]
                    omega
                  · have : Gt.depths (gs.drop 1) ≤ Gt.depths gs := depths_le fun x hx => depth_mem (List.mem_of_mem_drop hx)
                    simp only [Gt.depth]
                    omega
                  · have : Gt.wds (gs.drop 1) ≤ Gt.wds gs := wds_le fun x hx => wd_mem (List.mem_of_mem_drop hx)
                    simp only [Gt.wd]
                    rw [List.length_drop]
                    omega
                · have e1 : (Gt.seq false gs).size = (Gt.seq true gs).size := by simp only [Gt.size]
                  have e2 : (Gt.seq false gs).depth = (Gt.seq true gs).depth := by simp only [Gt.depth]
                  have e3 : (Gt.seq false gs).wd = (Gt.seq true gs).wd := by simp only [Gt.wd]
                  exact ⟨_, K8, bd3 (by omega) (by omega) (by omega)⟩
          · intro σ9 H9 hw
            obtain ⟨B, l, xs, y8, y9, rfl, eB2, PZ, hl9, lx1, lx2, OZ⟩ := hw
            refine ⟨_, rfl, _, rfl, ?_⟩
            refine pick_now (E := fun _ _ _ => False) PZ (by omega) hl9 lx1 lx2 fun C HZ vz eC _ PC hvz => ?_
            obtain ⟨gz, hgz, bz⟩ := (OZ vz hvz).ex eC
            exact q _ _ _ _ (eB2.trans eC) (PC.le (by omega)) hgz bz
end
end Law

namespace Law
open PySem PySem.Spec PyProof.Rows L2 Evl TR GX EK
structure Exm (K : PySem.W.Frag) (CL CW CM CT : Addr) : Prop where
  ll : PySem.W.exmOne K (.ref CL) (.ref CL) = some true
  wl : PySem.W.exmOne K (.ref CW) (.ref CL) = some false
  ww : PySem.W.exmOne K (.ref CW) (.ref CW) = some true
  ml : PySem.W.exmOne K (.ref CM) (.ref CL) = some false
  mw : PySem.W.exmOne K (.ref CM) (.ref CW) = some false
  mm : PySem.W.exmOne K (.ref CM) (.ref CM) = some true
  tl : PySem.W.exmOne K (.ref CT) (.ref CL) = some false
  tw : PySem.W.exmOne K (.ref CT) (.ref CW) = some false
  tm : PySem.W.exmOne K (.ref CT) (.ref CM) = some false
  tt : PySem.W.exmOne K (.ref CT) (.ref CT) = some true
structure NoF (K : PySem.W.Frag) (CL CW CM CT : Addr) : Prop where
  l : PySem.W.findIn K (.ref CL) "letters" = some none
  w : PySem.W.findIn K (.ref CW) "width" = some none
  m1 : PySem.W.findIn K (.ref CM) "what" = some none
  m2 : PySem.W.findIn K (.ref CM) "many" = some none
  m3 : PySem.W.findIn K (.ref CM) "most" = some none
  t1 : PySem.W.findIn K (.ref CT) "state" = some none
  t2 : PySem.W.findIn K (.ref CT) "node" = some none
structure Gs (mg : Str → Option Value) (CL CW CM CT C0 : Addr) : Prop where
  l : mg "BadLetters" = some (.ref CL)
  w : mg "BadWidth" = some (.ref CW)
  m : mg "TooMany" = some (.ref CM)
  t : mg "BadTree" = some (.ref CT)
  s : mg "SkipsError" = some (.ref C0)
/-- what was met, as a value -/
def MetV (H' : Hp) (v : V) (dw : PyData) : DueS → Prop
  | .ok => v = .non
  | .width => ∃ r u, v = .ref r ∧ H' r = some (.tup [.str "width", u]) ∧ AV H' u dw
  | .states m => ∃ r, v = .ref r ∧ H' r = some (.tup [.str "states", .int (m : Nat), .int 64])
  | .tree i m => ∃ r, v = .ref r ∧ H' r = some (.tup [.str "tree", .int (i : Nat), .int (m : Nat), .bl true])
  | .nodes m => ∃ r, v = .ref r ∧ H' r = some (.tup [.str "nodes", .int (m : Nat), .int 3000])
def spMet (K : PySem.W.Frag) : Sp := fun vs H Q _ => ∃ (sa : Addr) (v vw : V) (gw : Gt) (dw : PyData) (kt : Bool) (xs : List V) (gs : List Gt), vs = [v, vw, .ref sa] ∧ H sa = some (ob kt xs) ∧ GAs H xs gs ∧ GA H vw gw ∧ AV H vw dw ∧ gs.length < 1000 ∧ (∀ g ∈ gs, g.size ≤ 10000) ∧
  ((∃ L, v = .str (tx L) ∧ LG L ∧ ∀ v' H', Ex H H' → MetV H' v' dw (dueS L.length gw gs) → Q v' H') ∨ (∃ d, AV H v d ∧ OddL K H v ∧ ∀ r u H', Ex H H' → H' r = some (.tup [.str "letters", u]) → AV H' u d → Q (.ref r) H'))
section
variable {P : Program} {w : World} {K : PySem.W.Frag} {mg : Str → Option Value} {base : Heap} {C C_BadLetters C_BadWidth C_TooMany C_BadTree fi fL fW fM fT C_SkipsError : Addr} {fdi : FuncData}
theorem ok_lmet {f : Addr} {fd : FuncData} (F : Fun K "_law_met" "_law_met" s_lmet f fd) (T : Tx mg) (E1 : ErrC K C_BadLetters fL C_SkipsError) (E2 : ErrC K C_BadWidth fW C_SkipsError) (E3 : ErrC K C_TooMany fM C_SkipsError) (E4 : ErrC K C_BadTree fT C_SkipsError)
    (G : Gs mg C_BadLetters C_BadWidth C_TooMany C_BadTree C_SkipsError) (NF : NoF K C_BadLetters C_BadWidth C_TooMany C_BadTree) (EX : Exm K C_BadLetters C_BadWidth C_TooMany C_BadTree)
    (M_Searcher : Mk K C fi) (F_Searcher : FnOk P w K mg base (L2.CX P w) 42 fi fdi ["self", "letters", "width", "states"] (spInitG K C C_BadLetters C_BadWidth C_TooMany C_BadTree)) (g_Searcher : mg "Searcher" = some (.ref C)) (b_Searcher : Binds K fdi ["self", "letters", "width", "states"] []) :
    FnOk P w K mg base CX0 44 f fd ["_law_letters_here", "_law_width", "_law_states"] (spMet K) := by
  refine F.ok sc_lmet (fun vs H Q E h => ?_) (fun cdv A outer s H vs Q E hr h => ?_)
  · obtain ⟨sa, v, vw, gw, dw, kt, xs, gs, rfl, _⟩ := h
    rfl
  · obtain ⟨sa, v, vw, gw, dw, kt, xs, gs, rfl, hsa, GG, hgw, haw, n1000, hsz, h⟩ := h
    obtain ⟨_, _, _, XF_BadLetters, EX_BadLetters, k1⟩ := E1
    obtain ⟨_, _, _, XF_BadWidth, EX_BadWidth, k2⟩ := E2
    obtain ⟨_, _, _, XF_TooMany, EX_TooMany, k3⟩ := E3
    obtain ⟨_, _, _, XF_BadTree, EX_BadTree, k4⟩ := E4
    obtain ⟨g_BadLetters, g_BadWidth, g_TooMany, g_BadTree, g_SkipsError⟩ := G
    obtain ⟨N_BadLetters_letters, N_BadWidth_width, N_TooMany_what, N_TooMany_many, N_TooMany_most, N_BadTree_state, N_BadTree_node⟩ := NF
    refine ⟨_, (pss_cons (EK.ps_tryN (i := 3) rfl rfl sc_lmet.nd rfl rfl takes0 (fun W pn xe tk _ => (pss_one (ps_expr (MS.pe_makeS M_Searcher F_Searcher (hr.mono (by decide)) (by rfl) g_Searcher b_Searcher .nil (fun σ => passAt tk σ) (pa_cons (pv 0) (pa_cons (pv 1) (pa_cons (pv 2) pa_nil))))))) (EK.HdsN.cons ⟨(by rfl), (by decide), .inl g_BadLetters⟩ (fun a oe cls d pn hz hf => (pss_one (ps_ret (pe_tup (pa_cons pe_str (pa_cons (pe_xf XF_BadLetters N_BadLetters_letters hz hf (pv 3)) pa_nil)))))) (EK.HdsN.cons ⟨(by rfl), (by decide), .inl g_BadWidth⟩ (fun a oe cls d pn hz hf => (pss_one (ps_ret (pe_tup (pa_cons pe_str (pa_cons (pe_xf XF_BadWidth N_BadWidth_width hz hf (pv 3)) pa_nil)))))) (EK.HdsN.cons ⟨(by rfl), (by decide), .inl g_TooMany⟩ (fun a oe cls d pn hz hf => (pss_one (ps_ret (pe_tup (pa_cons (pe_xf XF_TooMany N_TooMany_what hz hf (pv 3)) (pa_cons (pe_xf XF_TooMany N_TooMany_many hz hf (pv 3)) (pa_cons (pe_xf XF_TooMany N_TooMany_most hz hf (pv 3)) pa_nil))))))) (EK.HdsN.cons ⟨(by rfl), (by decide), .inl g_BadTree⟩ (fun a oe cls d pn hz hf => (pss_one (ps_ret (pe_tup (pa_cons pe_str (pa_cons (pe_xf XF_BadTree N_BadTree_state hz hf (pv 3)) (pa_cons (pe_xf XF_BadTree N_BadTree_node hz hf (pv 3)) (pa_cons (pe_callB (EK.call_isE EX_BadTree hz hf) (by rfl) T.isinstance PyProof.Rows.boot_isinstance (pa_cons (pv 3) (pa_cons (pe_glob (v := .ref C_SkipsError) rfl g_SkipsError rfl) pa_nil))) pa_nil)))))))) EK.HdsN.nil)))))
      (pss_one (ps_ret pe_non))), ?_⟩
    refine ⟨_, rfl, _, rfl, _, rfl, fun x dx hx hdx hne => ?_⟩
    have e0 : Ex H (upd (upd H dx (.own x)) x (.ins C dx [])) := (Ex.new hdx).trans (Ex.new (by rw [upd_ne hne.symm]; exact hx))
    refine ⟨x, dx, sa, v, vw, gw, dw, kt, xs, gs, H, rfl, e0, hx, upd_same, hsa, GG, hgw, haw, n1000, hsz, ?_⟩
    rcases h with ⟨L, rfl, hL, q⟩ | ⟨d, hv, ho, q⟩
    · refine .inl ⟨L, rfl, hL, ?_⟩
      cases hd : dueS L.length gw gs with
      | ok =>
        rw [hd] at q
        exact fun H' e => ⟨rfl, q _ _ e rfl⟩
      | width =>
        rw [hd] at q
        intro dd v' H2 e2 hd0 hx2 av
        refine ⟨false, EX.wl, (fun z => nomatch z), fun _ => ⟨true, EX.ww, fun _ a ha => ?_, fun z => nomatch z⟩⟩
        exact ⟨_, rfl, rfl, rfl, dd, _, _, rfl, hx2, rfl, by show 2 ≤ sizeLine; decide, fun r hr2 => q _ _ (e2.trans (Ex.new hr2)) ⟨r, _, rfl, upd_same, av.ex (Ex.new hr2)⟩⟩
      | states m =>
        rw [hd] at q
        intro dd H2 e2 hd0 hx2
        refine ⟨false, EX.ml, (fun z => nomatch z), fun _ => ⟨false, EX.mw, (fun z => nomatch z), fun _ => ⟨true, EX.mm, fun _ a ha => ?_, fun z => nomatch z⟩⟩⟩
        exact ⟨_, rfl, rfl, rfl, dd, _, _, rfl, hx2, rfl, _, rfl, rfl, rfl, dd, _, _, rfl, hx2, rfl, _, rfl, rfl, rfl, dd, _, _, rfl, hx2, rfl, by show 3 ≤ sizeLine; decide, fun r hr2 => q _ _ (e2.trans (Ex.new hr2)) ⟨r, rfl, upd_same⟩⟩
      | tree i m =>
        rw [hd] at q
        intro dd H2 e2 hd0 hx2
        refine ⟨false, EX.tl, (fun z => nomatch z), fun _ => ⟨false, EX.tw, (fun z => nomatch z), fun _ => ⟨false, EX.tm, (fun z => nomatch z), fun _ => ⟨true, EX.tt, fun _ a ha => ?_, fun z => nomatch z⟩⟩⟩⟩
        exact ⟨_, rfl, rfl, rfl, dd, _, _, rfl, hx2, rfl, _, rfl, rfl, rfl, dd, _, _, rfl, hx2, rfl, _, rfl, _, _, true, rfl, rfl, ⟨dd, _, rfl, hx2⟩, .own _, k4, by show 4 ≤ sizeLine; decide, fun r hr2 => q _ _ (e2.trans (Ex.new hr2)) ⟨r, rfl, upd_same⟩⟩
      | nodes m =>
        rw [hd] at q
        intro dd H2 e2 hd0 hx2
        refine ⟨false, EX.ml, (fun z => nomatch z), fun _ => ⟨false, EX.mw, (fun z => nomatch z), fun _ => ⟨true, EX.mm, fun _ a ha => ?_, fun z => nomatch z⟩⟩⟩
        exact ⟨_, rfl, rfl, rfl, dd, _, _, rfl, hx2, rfl, _, rfl, rfl, rfl, dd, _, _, rfl, hx2, rfl, _, rfl, rfl, rfl, dd, _, _, rfl, hx2, rfl, by show 3 ≤ sizeLine; decide, fun r hr2 => q _ _ (e2.trans (Ex.new hr2)) ⟨r, rfl, upd_same⟩⟩
    · refine .inr ⟨d, hv, ho, ?_⟩
      intro dd v' H2 e2 hd0 hx2 av
      refine ⟨true, EX.ll, fun _ a ha => ?_, fun z => nomatch z⟩
      exact ⟨_, rfl, rfl, rfl, dd, _, _, rfl, hx2, rfl, by show 2 ≤ sizeLine; decide, fun r hr2 => q _ _ _ (e2.trans (Ex.new hr2)) upd_same (av.ex (Ex.new hr2))⟩
end
end Law

namespace GX
open PySem PySem.Spec PyProof.Rows L2 Evl TR Law
theorem whole_nat {lo hi : Int} {i : Nat} (h1 : lo ≤ (i : Int)) (h2 : (i : Int) ≤ hi) : whole lo hi (.int (i : Nat)) = true := by
  show (decide (lo ≤ (i : Int)) && decide ((i : Int) ≤ hi)) = true
  rw [decide_eq_true h1, decide_eq_true h2]
  rfl
theorem ofTs_list : ∀ ts : Trs, ofTs ts = ts.list.map ofT
  | .nil => by simp only [ofTs, Trs.list, List.map_nil]
  | .cons t r => by simp only [ofTs, Trs.list, List.map_cons, ofTs_list r]
theorem isP_of {l w n : Nat} : ∀ {t : Tr}, t.ok l w n → isP l w n (ofT t) = true
  | .go s q, h => by
    obtain ⟨h1, h2, h3⟩ := h
    simp only [ofT]
    rw [isP_eq, hd_rg, hd_tg, hd_gg]
    simp only [Bool.false_eq_true, if_false, if_true]
    rw [Bool.and_eq_true]
    exact ⟨whole_nat (by omega) (by omega), whole_nat (by omega) (by omega)⟩
  | .tell k t, h => by
    obtain ⟨h1, h2⟩ := h
    simp only [ofT]
    rw [isP_eq, hd_rt, hd_tt]
    simp only [Bool.false_eq_true, if_false, if_true]
    exact whole_nat (by omega) (by omega)
  | .read p ts, h => by
    obtain ⟨h1, h2, h3⟩ := h
    simp only [ofT]
    rw [isP_eq, hd_rr]
    simp only [if_true]
    rw [Bool.and_eq_true]
    refine ⟨whole_nat (by omega) (by omega), ?_⟩
    show decide ((ofTs ts).length = l) = true
    rw [ofTs_list, List.length_map, h2, decide_eq_true rfl]
theorem kids_of : ∀ t : Tr, kids (ofT t) = t.kids.map ofT
  | .go s q => by simp only [ofT]; rw [kids_go]; rfl
  | .tell k t => by simp only [ofT]; rw [kids_tell]; rfl
  | .read p ts => by simp only [ofT]; rw [kids_read, ofTs_list]; rfl
theorem ok_kid {l w n : Nat} : ∀ {ts : Trs}, ts.ok l w n → ∀ t ∈ ts.list, t.ok l w n
  | .nil, _, _, h => by cases h
  | .cons t r, h, x, hx => by
    rcases List.mem_cons.mp hx with q | q
    · rw [q]; exact h.1
    · exact ok_kid h.2 x q
theorem dp_kid : ∀ {ts : Trs}, ∀ t ∈ ts.list, t.depth ≤ ts.depth
  | .nil, _, h => by cases h
  | .cons t r, x, hx => by
    rcases List.mem_cons.mp hx with q | q
    · rw [q]; exact Nat.le_max_left _ _
    · exact Nat.le_trans (dp_kid x q) (Nat.le_max_right _ _)
theorem dp_pos : ∀ t : Tr, 1 ≤ t.depth
  | .go _ _ => Nat.le_refl _
  | .tell _ _ => Nat.succ_le_succ (Nat.zero_le _)
  | .read _ _ => Nat.succ_le_succ (Nat.zero_le _)
theorem kids_ok {l w n : Nat} {t : Tr} (h : t.ok l w n) : ∀ x ∈ t.kids, x.ok l w n ∧ x.depth + 1 ≤ t.depth := by
  intro x hx
  cases t with
  | go _ _ => cases hx
  | tell k t =>
    rw [List.mem_singleton.mp hx]
    exact ⟨h.2, Nat.le_refl _⟩
  | read p ts => exact ⟨ok_kid h.2.2 x hx, Nat.succ_le_succ (dp_kid x hx)⟩
theorem fw_good {l w n : Nat} : ∀ {f : Nat} {ps : List (Gt × Nat)} {m : Nat}, (∀ p ∈ ps, ∃ t, p.1 = ofT t ∧ t.ok l w n ∧ p.2 + t.depth ≤ 41) → (fwF l w n f ps m).1 = false
  | 0, _, _, _ => rfl
  | f + 1, [], _, _ => rfl
  | f + 1, (g, d) :: r, m, h => by
    obtain ⟨t, e, ok, hd⟩ := h (g, d) (List.mem_cons_self ..)
    have e' : g = ofT t := e
    have hd' : d + t.depth ≤ 41 := hd
    have dp := dp_pos t
    unfold fwF
    rw [if_neg (by rw [e', isP_of ok]; simp; omega)]
    refine fw_good fun p hp => ?_
    rcases List.mem_append.mp hp with q | q
    · obtain ⟨x, hx, rfl⟩ := List.mem_map.mp q
      rw [e', kids_of] at hx
      obtain ⟨y, hy, rfl⟩ := List.mem_map.mp hx
      obtain ⟨k1, k2⟩ := kids_ok ok y hy
      exact ⟨y, rfl, k1, by show d + 1 + y.depth ≤ 41; omega⟩
    · exact h p (List.mem_cons_of_mem _ q)
theorem fwG_good {l w n : Nat} {t : Tr} (h : t.ok l w n) (hd : t.depth ≤ 40) : (fwG l w n (ofT t)).1 = false :=
  fw_good fun p hp => by
    rw [List.mem_singleton.mp hp]
    exact ⟨t, rfl, h, by show 1 + t.depth ≤ 41; omega⟩
theorem cntF_le : ∀ {f : Nat} {gs : List Gt} {m : Nat}, cntF f gs m ≤ m + f
  | 0, _, _ => Nat.le_refl _
  | f + 1, [], m => Nat.le_add_right _ _
  | f + 1, g :: r, m => by
    have := cntF_le (f := f) (gs := kids g ++ r) (m := m + 1)
    show cntF f (kids g ++ r) (m + 1) ≤ m + (f + 1)
    omega
theorem cnt_le (g : Gt) : Law.cnt g ≤ g.size := by
  have := cntF_le (f := g.size) (gs := [g]) (m := 0)
  unfold Law.cnt
  omega
theorem fwF_le {l w n : Nat} : ∀ {f : Nat} {ps : List (Gt × Nat)} {m : Nat}, (fwF l w n f ps m).2 ≤ m + f
  | 0, _, _ => Nat.le_refl _
  | f + 1, [], m => Nat.le_add_right _ _
  | f + 1, (g, d) :: r, m => by
    unfold fwF
    split
    · exact Nat.le_add_right _ _
    · have := fwF_le (l := l) (w := w) (n := n) (f := f) (ps := (kids g).map (fun x => (x, d + 1)) ++ r) (m := m + 1)
      omega
theorem fwG_le {l w n : Nat} (g : Gt) : (fwG l w n g).2 ≤ g.size := by
  have := fwF_le (l := l) (w := w) (n := n) (f := g.size) (ps := [(g, 1)]) (m := 0)
  unfold fwG
  omega
mutual
theorem ofT_size : ∀ t : Tr, (ofT t).size ≤ 4 * t.size
  | .go s q => by
    simp only [ofT, Gt.size, Gt.sizes, Tr.size]
    omega
  | .tell k t => by
    have := ofT_size t
    simp only [ofT, Gt.size, Gt.sizes, Tr.size]
    omega
  | .read p ts => by
    have := ofTs_size ts
    simp only [ofT, Gt.size, Gt.sizes, Tr.size]
    omega
theorem ofTs_size : ∀ ts : Trs, Gt.sizes (ofTs ts) ≤ 4 * ts.size
  | .nil => by simp only [ofTs, Gt.sizes, Trs.size]; omega
  | .cons t r => by
    have := ofT_size t
    have := ofTs_size r
    simp only [ofTs, Gt.sizes, Trs.size]
    omega
end
mutual
theorem ofT_depth : ∀ t : Tr, (ofT t).depth ≤ 2 * t.depth
  | .go s q => by
    simp only [ofT, Gt.depth, Gt.depths, Tr.depth]
    omega
  | .tell k t => by
    have := ofT_depth t
    have := dp_pos t
    simp only [ofT, Gt.depth, Gt.depths, Tr.depth]
    omega
  | .read p ts => by
    have := ofTs_depth ts
    simp only [ofT, Gt.depth, Gt.depths, Tr.depth]
    omega
theorem ofTs_depth : ∀ ts : Trs, Gt.depths (ofTs ts) ≤ 2 * ts.depth
  | .nil => by simp only [ofTs, Gt.depths, Trs.depth]; omega
  | .cons t r => by
    have := ofT_depth t
    have := ofTs_depth r
    simp only [ofTs, Gt.depths, Trs.depth]
    omega
end
mutual
theorem ofT_wd {l w n : Nat} (hl : l ≤ 4) : ∀ t : Tr, t.ok l w n → (ofT t).wd ≤ 4
  | .go s q, _ => by
    simp only [ofT, Gt.wd, Gt.wds, List.length_cons, List.length_nil]
    omega
  | .tell k t, h => by
    have := ofT_wd hl t h.2
    simp only [ofT, Gt.wd, Gt.wds, List.length_cons, List.length_nil]
    omega
  | .read p ts, h => by
    have := ofTs_wd hl ts h.2.2
    have e : (ofTs ts).length = l := by rw [ofTs_list, List.length_map, h.2.1]
    simp only [ofT, Gt.wd, Gt.wds, List.length_cons, List.length_nil]
    omega
theorem ofTs_wd {l w n : Nat} (hl : l ≤ 4) : ∀ ts : Trs, ts.ok l w n → Gt.wds (ofTs ts) ≤ 4
  | .nil, _ => by simp only [ofTs, Gt.wds]; omega
  | .cons t r, h => by
    have := ofT_wd hl t h.1
    have := ofTs_wd hl r h.2
    simp only [ofTs, Gt.wds]
    omega
end
theorem kids_ga {H : Hp} : ∀ {vs : List V} {ts : List Tr}, Kids true H vs ts → GAs H vs (ts.map ofT)
  | _, _, .nil => .nil
  | _, _, .cons h r => .cons (TA.ga h) (kids_ga r)
end GX
namespace Law
open PySem PySem.Spec PyProof.Rows L2 Evl TR GX EK
theorem tots_le {N : Nat} : ∀ {gs : List Gt}, (∀ g ∈ gs, g.size ≤ N) → tots gs ≤ gs.length * N
  | [], _ => Nat.zero_le _
  | g :: r, h => by
    have h1 := h g (List.mem_cons_self ..)
    have h2 := tots_le (gs := r) fun x hx => h x (List.mem_cons_of_mem _ hx)
    have h3 := cnt_le g
    have e : tots (g :: r) = cnt g + tots r := by
      unfold tots
      rw [List.map_cons, List.sum_cons]
    rw [e, List.length_cons, Nat.succ_mul]
    omega
theorem bads_some {l w n N : Nat} : ∀ {gs : List Gt} {k i m : Nat}, (∀ g ∈ gs, g.size ≤ N) → bads l w n gs k = some (i, m) → i < k + gs.length ∧ m ≤ N
  | [], _, _, _, _, h => by cases h
  | g :: r, k, i, m, hz, h => by
    unfold bads at h
    split at h
    · cases h
      exact ⟨by rw [List.length_cons]; omega, Nat.le_trans (fwG_le g) (hz g (List.mem_cons_self ..))⟩
    · have := bads_some (fun x hx => hz x (List.mem_cons_of_mem _ hx)) h
      rw [List.length_cons]
      omega
def okT (d : PyData) : Bool := d.showable && decide (d.depth ≤ 64) && decide (d.shown.length ≤ 1000)
/-- what is due can be shown -/
def OkS (dw : PyData) : DueS → Prop
  | .ok => True
  | .width => okT (.tuple [.str "width", dw]) = true
  | .states m => m < 10 ^ 10
  | .tree i m => i < 10 ^ 10 ∧ m < 10 ^ 10
  | .nodes m => m < 10 ^ 10
theorem okS_due {l : Nat} {gw : Gt} {gs : List Gt} {dw : PyData} (hw : okT (.tuple [.str "width", dw]) = true) (hl : gs.length < 1000) (hz : ∀ g ∈ gs, g.size ≤ 10000) : OkS dw (dueS l gw gs) := by
  have ht := tots_le hz
  have : gs.length * 10000 ≤ 1000 * 10000 := Nat.mul_le_mul_right _ (by omega)
  unfold dueS
  split
  · split
    · exact hw
    · split
      · show gs.length < 10 ^ 10
        omega
      · split
        · rename_i i m hb
          have := bads_some hz hb
          exact ⟨by omega, by omega⟩
        · split
          · show tots gs < 10 ^ 10
            omega
          · trivial
  · exact hw
theorem due_right {l w : Nat} {ts : List Tr} (w1 : 1 ≤ w) (w8 : w ≤ 8) (h1 : 1 ≤ ts.length) (h4 : ts.length ≤ 4) (h : ∀ t ∈ ts, t.ok l w ts.length ∧ t.depth ≤ 4 ∧ t.size ≤ 100) : dueS l (.int (w : Int)) (ts.map ofT) = .ok := by
  have hz : ∀ g ∈ ts.map ofT, g.size ≤ 400 := fun g hg => by
    obtain ⟨t, ht, rfl⟩ := List.mem_map.mp hg
    have := ofT_size t
    have := (h t ht).2.2
    omega
  have ht := tots_le hz
  rw [List.length_map] at ht
  have : ts.length * 400 ≤ 4 * 400 := Nat.mul_le_mul_right _ h4
  rw [dueS_right w1 w8, List.length_map, if_neg (by omega), bads_none fun g hg => ?_]
  · simp only []
    rw [if_neg (by omega)]
  · obtain ⟨t, ht, rfl⟩ := List.mem_map.mp hg
    exact fwG_good (h t ht).1 (by have := (h t ht).2.1; omega)
/-- data that can be shown -/
structure OkP (ds : List PyData) : Prop where
  sh : (PyData.tuple ds).showable = true
  d : (PyData.tuple ds).depth ≤ 64
  l : (PyData.tuple ds).shown.length ≤ sizeLine
theorem OkP.of {ds : List PyData} (ok : okT (.tuple ds) = true) : OkP ds := by
  unfold okT at ok
  rw [Bool.and_eq_true, Bool.and_eq_true, decide_eq_true_eq, decide_eq_true_eq] at ok
  exact ⟨ok.1.1, ok.1.2, Nat.le_trans ok.2 (by decide)⟩
theorem log_small {n : Nat} (h : n < 10 ^ 10) : n.log2 < 1920 := by
  by_cases h0 : n = 0
  · rw [h0]; decide
  · exact (Nat.log2_lt h0).mpr (Nat.lt_of_lt_of_le h (by decide +kernel))
theorem int_short {n : Nat} (h : n < 10 ^ 10) : (PyData.int (n : Nat)).shown.length ≤ 13 := by
  simp only [PyData.shown]
  have := PySem.W.KT.len_num (n := (n : Int)) (by omega) (by omega)
  exact Nat.le_trans this (by decide)
theorem rx_ok {K : PySem.W.Frag} {H : Hp} {r : Addr} {xs : List V} {ds : List PyData} {Q : VK} (hr : H r = some (.tup xs)) (hd : DY.DEs K H xs ds) (ok : OkP ds) (q : Q (.str (PyData.tuple ds).shown) H) : DY.RX K [.ref r] H Q :=
  ⟨.inr ⟨r, xs, ds, rfl, st_of hr, hd, ok.sh, ok.d, ok.l, q⟩⟩
theorem int_wt {n : Nat} (h : n < 10 ^ 10) : (PyData.int (n : Nat)).weight ≤ 1921 := by
  have := log_small h
  simp only [PyData.weight]
  split
  · omega
  · show n.log2 + 1 ≤ 1921
    omega
theorem shown_fit {d : PyData} (h : (PyData.canLay0 d && decide (PyData.depth d ≤ 64) && decide (PyData.weight d ≤ 2 ^ 20)) = true) (hi : d.intsShort 13 = true) : d.shown.length ≤ sizeLine := Nat.le_trans (shown_le13 h hi) (by decide)
theorem ok3 {z : Str} {m k : Nat} (hz : (PyData.str z).canLay0 = true) (hw : (PyData.str z).weight ≤ 1000) (h : m < 10 ^ 10) (hk : k < 10 ^ 10) : OkP [.str z, .int (m : Nat), .int (k : Nat)] ∧ SeqAt.shaped (.tuple [.str z, .int (m : Nat), .int (k : Nat)]) = true := by
  have dp : (PyData.tuple [.str z, .int (m : Nat), .int (k : Nat)]).depth ≤ 64 := by
    simp only [PyData.depth, PyData.depthAll]
    omega
  have cl : (PyData.tuple [.str z, .int (m : Nat), .int (k : Nat)]).canLay0 = true := by
    simp only [PyData.canLay0, PyData.canLayAll0, Bool.and_eq_true] at hz ⊢
    exact ⟨hz, trivial, trivial, trivial⟩
  refine ⟨⟨?_, dp, shown_fit ?_ ?_⟩, ?_⟩
  · simp only [PyData.showable, PyData.showableAll, Bool.and_eq_true, decide_eq_true_eq, Int.natAbs_natCast]
    exact ⟨trivial, log_small h, log_small hk, trivial⟩
  · rw [cl, decide_eq_true dp, decide_eq_true]
    · rfl
    · have w1 := int_wt h
      have w2 := int_wt hk
      simp only [PyData.weight, PyData.weightAll] at hw w1 w2 ⊢
      omega
  · simp only [PyData.intsShort, PyData.intsShortAll, Bool.and_eq_true, decide_eq_true_eq]
    exact ⟨trivial, int_short h, int_short hk, trivial⟩
  · unfold SeqAt.shaped
    rw [cl, decide_eq_true dp]
    rfl
theorem ok4 {z : Str} {m k : Nat} {b : Bool} (hz : (PyData.str z).canLay0 = true) (hw : (PyData.str z).weight ≤ 1000) (h : m < 10 ^ 10) (hk : k < 10 ^ 10) : OkP [.str z, .int (m : Nat), .int (k : Nat), .bool b] ∧ SeqAt.shaped (.tuple [.str z, .int (m : Nat), .int (k : Nat), .bool b]) = true := by
  have dp : (PyData.tuple [.str z, .int (m : Nat), .int (k : Nat), .bool b]).depth ≤ 64 := by
    simp only [PyData.depth, PyData.depthAll]
    omega
  have cl : (PyData.tuple [.str z, .int (m : Nat), .int (k : Nat), .bool b]).canLay0 = true := by
    simp only [PyData.canLay0, PyData.canLayAll0, Bool.and_eq_true] at hz ⊢
    exact ⟨hz, trivial, trivial, trivial, trivial⟩
  refine ⟨⟨?_, dp, shown_fit ?_ ?_⟩, ?_⟩
  · simp only [PyData.showable, PyData.showableAll, Bool.and_eq_true, decide_eq_true_eq, Int.natAbs_natCast]
    exact ⟨trivial, log_small h, log_small hk, trivial, trivial⟩
  · rw [cl, decide_eq_true dp, decide_eq_true]
    · rfl
    · have w1 := int_wt h
      have w2 := int_wt hk
      simp only [PyData.weight, PyData.weightAll] at hw w1 w2 ⊢
      omega
  · simp only [PyData.intsShort, PyData.intsShortAll, Bool.and_eq_true, decide_eq_true_eq]
    exact ⟨trivial, int_short h, int_short hk, trivial, trivial⟩
  · unfold SeqAt.shaped
    rw [cl, decide_eq_true dp]
    rfl
/-- the parts of what is due, as data -/
def partsS (dw : PyData) : DueS → List PyData
  | .ok => []
  | .width => [.str "width", dw]
  | .states m => [.str "states", .int (m : Nat), .int ((64 : Nat) : Int)]
  | .tree i m => [.str "tree", .int (i : Nat), .int (m : Nat), .bool true]
  | .nodes m => [.str "nodes", .int (m : Nat), .int ((3000 : Nat) : Int)]
def textS (dw : PyData) : DueS → Str
  | .ok => "None"
  | d => (PyData.tuple (partsS dw d)).shown
theorem DueV.met {H H' : Hp} {vw v : V} {dw : PyData} {due : DueS} (h : DueV H H' vw v due) (av : AV H' vw dw) : MetV H' v dw due := by
  cases due with
  | ok => exact h
  | width => obtain ⟨r, e, hr⟩ := h; exact ⟨r, vw, e, hr, av⟩
  | states m => exact h
  | tree i m => exact h
  | nodes m => exact h
theorem MetV.ex {H H' : Hp} {v : V} {dw : PyData} {due : DueS} (h : MetV H v dw due) (e : Ex H H') : MetV H' v dw due := by
  cases due with
  | ok => exact h
  | width => obtain ⟨r, u, e1, hr, av⟩ := h; exact ⟨r, u, e1, e _ _ hr, av.ex e⟩
  | states m => obtain ⟨r, e1, hr⟩ := h; exact ⟨r, e1, e _ _ hr⟩
  | tree i m => obtain ⟨r, e1, hr⟩ := h; exact ⟨r, e1, e _ _ hr⟩
  | nodes m => obtain ⟨r, e1, hr⟩ := h; exact ⟨r, e1, e _ _ hr⟩
theorem k64 : (64 : Nat) < 10 ^ 10 := by decide
theorem k3000 : (3000 : Nat) < 10 ^ 10 := by decide
theorem MetV.rx {K : PySem.W.Frag} {H : Hp} {v : V} {dw : PyData} {due : DueS} {Q : VK} (h : MetV H v dw due) (ok : OkS dw due) (q : Q (.str (textS dw due)) H) : DY.RX K [v] H Q := by
  cases due with
  | ok =>
    obtain rfl : v = .non := h
    exact ⟨.inl ⟨rfl, q⟩⟩
  | width =>
    obtain ⟨r, u, rfl, hr, av⟩ := h
    exact rx_ok hr (.cons (.str _) (.cons av.de .nil)) (.of ok) q
  | states m =>
    obtain ⟨r, rfl, hr⟩ := h
    exact rx_ok hr (.cons (.str _) (.cons (.int _) (.cons (.int _) .nil))) (ok3 (by decide +kernel) (by decide +kernel) ok k64).1 q
  | tree i m =>
    obtain ⟨r, rfl, hr⟩ := h
    exact rx_ok hr (.cons (.str _) (.cons (.int _) (.cons (.int _) (.cons (.bl _) .nil)))) (ok4 (by decide +kernel) (by decide +kernel) ok.1 ok.2).1 q
  | nodes m =>
    obtain ⟨r, rfl, hr⟩ := h
    exact rx_ok hr (.cons (.str _) (.cons (.int _) (.cons (.int _) .nil))) (ok3 (by decide +kernel) (by decide +kernel) ok k3000).1 q
def dataS : DueS → PyData
  | .ok => .none
  | d => .tuple (partsS .none d)
theorem MetV.dp {K : PySem.W.Frag} {H : Hp} {v : V} {dw : PyData} {due : DueS} (h : MetV H v dw due) (hw : due ≠ .width) (ok : OkS dw due) : Dp K H v (dataS due) ∧ SeqAt.shaped (dataS due) = true := by
  cases due with
  | ok =>
    obtain rfl : v = .non := h
    exact ⟨.non, by decide +kernel⟩
  | width => exact absurd rfl hw
  | states m =>
    obtain ⟨r, rfl, hr⟩ := h
    exact ⟨.tup (st_of hr) (.cons (.str _) (.cons (.int _) (.cons (.int _) .nil))), (ok3 (by decide +kernel) (by decide +kernel) ok k64).2⟩
  | tree i m =>
    obtain ⟨r, rfl, hr⟩ := h
    exact ⟨.tup (st_of hr) (.cons (.str _) (.cons (.int _) (.cons (.int _) (.cons (.bl _) .nil)))), (ok4 (by decide +kernel) (by decide +kernel) ok.1 ok.2).2⟩
  | nodes m =>
    obtain ⟨r, rfl, hr⟩ := h
    exact ⟨.tup (st_of hr) (.cons (.str _) (.cons (.int _) (.cons (.int _) .nil))), (ok3 (by decide +kernel) (by decide +kernel) ok k3000).2⟩
theorem eqv_same {d : PyData} (h : SeqAt.shaped d = true) : PyData.eqv d d = true := PySem.SeqAt.eqv_refl d (SeqAt.canLay_of_shaped h)
theorem due_nw {l w : Nat} {gs : List Gt} (w1 : 1 ≤ w) (w8 : w ≤ 8) : dueS l (.int (w : Int)) gs ≠ .width := by
  rw [dueS_right w1 w8]
  intro h
  split at h
  · cases h
  · split at h
    · cases h
    · split at h <;> cases h
end Law

namespace TR
open PySem PySem.Spec PyProof.Rows L2 Evl
mutual
theorem TA.exT {H H' : Hp} (e : ∀ b xs, H b = some (.tup xs) → H' b = some (.tup xs)) : ∀ {t : Tr} {v : V}, TA true H v t → TA true H' v t
  | _, _, .go h => .go (e _ _ h)
  | _, _, .tell h r => .tell (e _ _ h) (TA.exT e r)
  | _, _, .read h1 h2 r => .read (e _ _ h1) (e _ _ h2) (TAs.exT e r)
theorem TAs.exT {H H' : Hp} (e : ∀ b xs, H b = some (.tup xs) → H' b = some (.tup xs)) : ∀ {ts : Trs} {vs : List V}, TAs true H vs ts → TAs true H' vs ts
  | _, _, .nil => .nil
  | _, _, .cons h r => .cons (TA.exT e h) (TAs.exT e r)
end
end TR
namespace Law
open PySem PySem.Spec PyProof.Rows L2 Evl TR GX EK
section
variable {K : PySem.W.Frag} {H : Hp}
theorem nos_non : NoS K H .non := ⟨_, .base .non, kit_ty (by decide +kernel)⟩
theorem nos_int (i : Int) : NoS K H (.int i) := ⟨_, .base (.int i), kit_ty (by decide +kernel)⟩
theorem nos_bl (b : Bool) : NoS K H (.bl b) := ⟨_, .base (.bl b), kit_ty (by decide +kernel)⟩
theorem nos_lst {a : Addr} {xs : List V} (h : H a = some (.lst xs)) : NoS K H (.ref a) := ⟨_, .base (.lst h), kit_ty (by decide +kernel)⟩
theorem nos_tup {a : Addr} {xs : List V} (h : H a = some (.tup xs)) : NoS K H (.ref a) := ⟨_, .base (.tup h), kit_ty (by decide +kernel)⟩
theorem nos_dK {a : Addr} {xs : List (Key × V)} (h : H a = some (.dK xs)) : NoS K H (.ref a) := ⟨_, .base (.dK h), kit_ty (by decide +kernel)⟩
end
theorem room70 {k : Nat} {A : Around} (r : Room k A) : A.units + 70 < cLine := by
  have := r.un
  omega
theorem gn_eq {i : Nat} {v : V} {σ σ' : L2.St} {H : Hp} {Q : L2.St → Hp → Prop} (e : σ.set i (some v) = σ') (h : Q σ' H) : gName i v σ H Q := by
  subst e
  exact h
theorem st_eq {t : L2.St → Hp → Prop} {σ σ' : L2.St} {H : Hp} (e : σ = σ') (h : t σ' H) : t σ H := e ▸ h
def spLaw (K : PySem.W.Frag) : Sp := fun vs H Q _ => ∃ (a : Addr) (ns : List Int), vs = [.ref a] ∧ SqL K H a (ns.map V.int) ∧ ns.length ≤ 63 ∧ ∀ H', Q (.bl true) H'
/-- how great the trees are after some laps -/
def sJ : Nat → Nat
  | 0 => 400
  | j + 1 => 2 * sJ j + 20
structure Lp (j : Nat) (g : Gt) : Prop where
  s : g.size ≤ sJ j
  d : g.depth ≤ 8 + 3 * j
  w : g.wd ≤ 4 + 6 * j
theorem Lp.step {j : Nat} {g g' : Gt} (h : Lp j g) (b : Bd g g') : Lp (j + 1) g' := by
  have := h.s; have := h.d; have := h.w
  have := b.s; have := b.d; have := b.w
  exact ⟨by show _ ≤ 2 * sJ j + 20; omega, by omega, by omega⟩
theorem sJ_mono (j : Nat) : sJ j ≤ sJ (j + 1) := by
  show _ ≤ 2 * sJ j + 20
  omega
theorem Lp.next {j : Nat} {g : Gt} (h : Lp j g) : Lp (j + 1) g := by
  have := h.s; have := h.d; have := h.w
  have := sJ_mono j
  exact ⟨by omega, by omega, by omega⟩
/-- a width, right or not -/
structure Wi (B : Hp) (v : V) (g : Gt) (d : PyData) : Prop where
  g : GA B v g
  a : AV B v d
  o : okT (.tuple [.str "width", d]) = true
/-- letters that are none, and what is kept of them -/
structure Od (K : PySem.W.Frag) (B : Hp) (v : V) (d : PyData) : Prop where
  l : OddL K B v
  a : AV B v d
  o : okT (.tuple [.str "letters", d]) = true
theorem od_str {K : PySem.W.Frag} {B : Hp} (z : Str) (h : areB z.cps.toList = false) (hl : z.cps.toList.length < 500) (o : okT (.tuple [.str "letters", .str z]) = true) : Od K B (.str z) (.str z) :=
  ⟨.inl ⟨z.cps.toList, by rw [← tx_all z], hl, h⟩, .flat (.str z), o⟩
theorem okT_nat : ∀ w, w < 20 → okT (.tuple [.str "width", .int (w : Nat)]) = true := by decide +kernel
theorem gas_rep {H : Hp} {v : V} {g : Gt} (h : GA H v g) : ∀ n, GAs H (List.replicate n [v]).flatten (List.replicate n g)
  | 0 => .nil
  | n + 1 => .cons h (gas_rep h n)
/-- states that are handed in -/
structure Fw (B : Hp) (v : V) (a : Addr) (xs : List V) (gs : List Gt) : Prop where
  e : v = .ref a
  h : B a = some (.lst xs)
  g : GAs B xs gs
  l : gs.length < 1000
  s : ∀ g ∈ gs, g.size ≤ 10000
def goG (q : Int) : Gt := .seq true [.str "go", .int 1, .int q]
theorem goG_size (q : Int) : (goG q).size = 4 := by
  unfold goG
  simp only [Gt.size, Gt.sizes]
theorem lg_wz : LG [119, 120, 121, 122] where
  lo := by decide
  hi := by decide
  az := by decide
  nd := by decide
theorem wz_tx : Str.ofString "wxyz" = tx [119, 120, 121, 122] := by decide +kernel
theorem full_size : (fullT 5).size = 1365 := by decide +kernel
section
variable {P : Program} {w : World} {K : PySem.W.Frag} {mg : Str → Option Value} {base : Heap}
theorem ok_law {f : Addr} {fd : FuncData} (F : Fun K "law" "law" s_law f fd) (T : Tx mg) (g_repr : mg "repr" = none)
    (c_lpen : Kn P w K mg base "_law_pen" ["_law_script"] 1 (spPen K)) (c_ldraw : Kn P w K mg base "_law_draw" ["_law_pen_here", "_law_many"] 1 spDraw) (c_pickL : Kn P w K mg base "_law_pick" ["_law_pen_here", "_law_some"] 2 spPickL) (c_lletters : Kn P w K mg base "_law_letters" ["_law_pen_here"] 3 spLetters)
    (c_ltrees : Kn P w K mg base "_law_trees" ["_law_pen_here", "_law_letters_here", "_law_width", "_law_many", "_law_depth"] 7 spTrees) (c_lmet : Kn P w K mg base "_law_met" ["_law_letters_here", "_law_width", "_law_states"] 44 (spMet K))
    (c_ldue : Kn P w K mg base "_law_due" ["_law_letters_here", "_law_width", "_law_states"] 4 spDue) (c_lbent : Kn P w K mg base "_law_bent" ["_law_pen_here", "_law_tree_here", "_law_width", "_law_states"] 18 (spBent 15))
    (c_lfull : Kn P w K mg base "_law_full" ["_law_letters_here", "_law_depth"] 7 (spFull 6)) :
    GD.Gd P w K mg base 46 f fd ["_law_script"] (spLaw K) := by
  refine GD.okG F sc_law (fun vs H Q E h => ?_) (fun cdv A outer s H vs Q E hr hg h => ?_)
  · obtain ⟨a, ns, rfl, _⟩ := h
    rfl
  · obtain ⟨a, ns, rfl, hS, hl, q⟩ := h
    refine ⟨_, (pss_cons (ps_set (i := 1) sc_law.nd rfl (Or.inl rfl) (pe_call c_lpen.ok (hr.mono (by decide)) (by rfl) c_lpen.g c_lpen.kp c_lpen.b .nil pass0 (pa_cons (pv 0) pa_nil)))
      (pss_cons (ps_for PassesOwn.never rfl (pi_range1 (by rfl) T.range (pa_cons (pe_op op_add pe_int (pe_callB (call_min2 rfl) (by rfl) T.min (by decide +kernel) (pa_cons pe_int (pa_cons (pe_callB call_len_seq (by rfl) T.len PySem.boot_len (pa_cons (pv 0) pa_nil)) pa_nil)))) pa_nil)) (pg_name (i := 2) sc_law.nd rfl (Or.inl rfl)) (pss_cons (ps_par3 (i := 3) (j := 4) (l := 5) (by rfl) sc_law.nd rfl rfl rfl (by decide) (by decide) (by decide) rfl rfl rfl (pa_cons (pe_call c_lletters.ok (hr.mono (by decide)) (by rfl) c_lletters.g c_lletters.kp c_lletters.b .nil pass0 (pa_cons (pv 1) pa_nil)) (pa_cons (pe_op op_add pe_int (pe_call c_ldraw.ok (hr.mono (by decide)) (by rfl) c_ldraw.g c_ldraw.kp c_ldraw.b .nil pass0 (pa_cons (pv 1) (pa_cons pe_int pa_nil)))) (pa_cons (pe_op op_add pe_int (pe_call c_ldraw.ok (hr.mono (by decide)) (by rfl) c_ldraw.g c_ldraw.kp c_ldraw.b .nil pass0 (pa_cons (pv 1) (pa_cons pe_int pa_nil)))) pa_nil))) (by rfl))
      (pss_cons (ps_set (i := 6) sc_law.nd rfl (Or.inl rfl) (pe_call c_ltrees.ok (hr.mono (by decide)) (by rfl) c_ltrees.g c_ltrees.kp c_ltrees.b .nil pass0 (pa_cons (pv 1) (pa_cons (pv 3) (pa_cons (pv 4) (pa_cons (pv 5) (pa_cons pe_int pa_nil)))))))
      (pss_cons (ps_if (PW.pt (pw_or (pt_cmpR op_notN (pe_call c_lmet.ok (hr.mono (by decide)) (by rfl) c_lmet.g c_lmet.kp c_lmet.b .nil pass0 (pa_cons (pv 3) (pa_cons (pv 4) (pa_cons (pv 6) pa_nil)))) pe_non (nomark _)) (pw_or1 (pt_cmpR op_notN (pe_call c_lmet.ok (hr.mono (by decide)) (by rfl) c_lmet.g c_lmet.kp c_lmet.b .nil pass0 (pa_cons (pv 3) (pa_cons (pv 4) (pa_cons (pe_callTy call_tuple_of (by rfl) T.tuple PyProof.Rows.boot_tuple (pa_cons (pv 6) pa_nil)) pa_nil)))) pe_non (nomark _))))) (pss_one (ps_ret pe_bl)) pss_nil)
      (pss_cons (ps_for PassesOwn.never rfl (pi_range1 (by rfl) T.range (pa_cons (pe_op op_add pe_int (pe_call c_ldraw.ok (hr.mono (by decide)) (by rfl) c_ldraw.g c_ldraw.kp c_ldraw.b .nil pass0 (pa_cons (pv 1) (pa_cons pe_int pa_nil)))) pa_nil)) (pg_name (i := 7) sc_law.nd rfl (Or.inl rfl)) (pss_cons (ps_set (i := 8) sc_law.nd rfl (Or.inl rfl) (pe_call c_ldraw.ok (hr.mono (by decide)) (by rfl) c_ldraw.g c_ldraw.kp c_ldraw.b .nil pass0 (pa_cons (pv 1) (pa_cons (pv 5) pa_nil))))
      (pss_one (ps_set (i := 6) sc_law.nd rfl (Or.inl rfl) (pe_op op_cat (pe_op op_cat (pe_slice sl_list (pv 6) po_none (po_some (pv 8))) (pe_lst (pa_cons (pe_call c_lbent.ok (hr.mono (by decide)) (by rfl) c_lbent.g c_lbent.kp c_lbent.b .nil pass0 (pa_cons (pv 1) (pa_cons (pe_ix ix_list (pv 6) (pv 8) (fun _ _ => rfl)) (pa_cons (pv 4) (pa_cons (pv 5) pa_nil))))) pa_nil))) (pe_slice sl_list (pv 6) (po_some (pe_op op_add (pv 8) pe_int)) po_none))))))
      (pss_cons (ps_set (i := 9) sc_law.nd rfl (Or.inl rfl) (pe_call c_pickL.ok (hr.mono (by decide)) (by rfl) c_pickL.g c_pickL.kp c_pickL.b .nil pass0 (pa_cons (pv 1) (pa_cons (pe_lst (pa_cons (pv 4) (pa_cons (pv 4) (pa_cons (pv 4) (pa_cons pe_int (pa_cons pe_int (pa_cons pe_non (pa_cons pe_bl (pa_cons pe_str (pa_cons (pe_lst pa_nil) (pa_cons pe_dnewK (pa_cons (pe_un un_neg pe_int) pa_nil)))))))))))) pa_nil))))
      (pss_cons (ps_set (i := 10) sc_law.nd rfl (Or.inl rfl) (pe_call c_pickL.ok (hr.mono (by decide)) (by rfl) c_pickL.g c_pickL.kp c_pickL.b .nil pass0 (pa_cons (pv 1) (pa_cons (pe_lst (pa_cons (pv 6) (pa_cons (pv 6) (pa_cons (pv 6) (pa_cons (pe_lst pa_nil) (pa_cons (pe_op op_rep (pe_lst (pa_cons (pe_tup (pa_cons pe_str (pa_cons pe_int (pa_cons pe_int pa_nil)))) pa_nil)) pe_int) (pa_cons (pe_op op_rep (pe_lst (pa_cons (pe_tup (pa_cons pe_str (pa_cons pe_int (pa_cons pe_int pa_nil)))) pa_nil)) pe_int) pa_nil))))))) pa_nil))))
      (pss_cons (ps_if (pt_cmpR op_ne (pe_callB (DY.call_reprY hg (room70 hr)) (by rfl) g_repr boot_repr (pa_cons (pe_call c_lmet.ok (hr.mono (by decide)) (by rfl) c_lmet.g c_lmet.kp c_lmet.b .nil pass0 (pa_cons (pv 3) (pa_cons (pv 9) (pa_cons (pv 10) pa_nil)))) pa_nil)) (pe_callB (DY.call_reprY hg (room70 hr)) (by rfl) g_repr boot_repr (pa_cons (pe_call c_ldue.ok (hr.mono (by decide)) (by rfl) c_ldue.g c_ldue.kp c_ldue.b .nil pass0 (pa_cons (pv 3) (pa_cons (pv 9) (pa_cons (pv 10) pa_nil)))) pa_nil)) (nomark _)) (pss_one (ps_ret pe_bl)) pss_nil)
      (pss_cons (ps_set (i := 11) sc_law.nd rfl (Or.inl rfl) (pe_call c_pickL.ok (hr.mono (by decide)) (by rfl) c_pickL.g c_pickL.kp c_pickL.b .nil pass0 (pa_cons (pv 1) (pa_cons (pe_lst (pa_cons pe_str (pa_cons pe_str (pa_cons pe_str (pa_cons pe_str (pa_cons pe_str (pa_cons pe_non (pa_cons pe_int (pa_cons pe_bl (pa_cons (pe_lst pa_nil) (pa_cons (pe_lst (pa_cons pe_str (pa_cons pe_str pa_nil))) (pa_cons pe_dnewK (pa_cons (pe_tup (pa_cons pe_str (pa_cons pe_str pa_nil))) pa_nil))))))))))))) pa_nil))))
      (pss_one (ps_if (pt_cmpR op_ne (pe_callB (DY.call_reprY hg (room70 hr)) (by rfl) g_repr boot_repr (pa_cons (pe_call c_lmet.ok (hr.mono (by decide)) (by rfl) c_lmet.g c_lmet.kp c_lmet.b .nil pass0 (pa_cons (pv 11) (pa_cons (pv 9) (pa_cons (pv 10) pa_nil)))) pa_nil)) (pe_callB (DY.call_reprY hg (room70 hr)) (by rfl) g_repr boot_repr (pa_cons (pe_tup (pa_cons pe_str (pa_cons (pv 11) pa_nil))) pa_nil)) (nomark _)) (pss_one (ps_ret pe_bl)) pss_nil)))))))))))
      (pss_cons (ps_set (i := 12) sc_law.nd rfl (Or.inl rfl) (pe_tup (pa_cons pe_str (pa_cons pe_int (pa_cons pe_int pa_nil)))))
      (pss_cons (ps_for PassesOwn.never rfl (pi_range1 (by rfl) T.range (pa_cons (pe_op op_add pe_int (pe_call c_ldraw.ok (hr.mono (by decide)) (by rfl) c_ldraw.g c_ldraw.kp c_ldraw.b .nil pass0 (pa_cons (pv 1) (pa_cons pe_int pa_nil)))) pa_nil)) (pg_name (i := 13) sc_law.nd rfl (Or.inl rfl)) (pss_one (ps_set (i := 12) sc_law.nd rfl (Or.inl rfl) (pe_tup (pa_cons pe_str (pa_cons pe_int (pa_cons (pv 12) pa_nil)))))))
      (pss_cons (ps_set (i := 14) sc_law.nd rfl (Or.inl rfl) (pe_op op_rep (pe_lst (pa_cons (pe_call c_lfull.ok (hr.mono (by decide)) (by rfl) c_lfull.g c_lfull.kp c_lfull.b .nil pass0 (pa_cons pe_str (pa_cons pe_int pa_nil))) pa_nil)) (pe_call c_pickL.ok (hr.mono (by decide)) (by rfl) c_pickL.g c_pickL.kp c_pickL.b .nil pass0 (pa_cons (pv 1) (pa_cons (pe_lst (pa_cons pe_int (pa_cons pe_int pa_nil))) pa_nil)))))
      (pss_cons (ps_for PassesOwn.never rfl (pi_list (pe_lst (pa_cons (pe_lst (pa_cons (pv 12) pa_nil)) (pa_cons (pv 14) pa_nil)))) (pg_name (i := 6) sc_law.nd rfl (Or.inl rfl)) (pss_one (ps_if (pt_cmpR (op_neD hr.units) (pe_call c_lmet.ok (hr.mono (by decide)) (by rfl) c_lmet.g c_lmet.kp c_lmet.b .nil pass0 (pa_cons pe_str (pa_cons pe_int (pa_cons (pv 6) pa_nil)))) (pe_call c_ldue.ok (hr.mono (by decide)) (by rfl) c_ldue.g c_ldue.kp c_ldue.b .nil pass0 (pa_cons pe_str (pa_cons pe_int (pa_cons (pv 6) pa_nil)))) (nomark _)) (pss_one (ps_ret pe_bl)) pss_nil)))
      (pss_one (ps_ret pe_bl)))))))), ?_⟩
    refine ⟨_, rfl, a, ns, rfl, hS, hl, fun p H0 H1 eH P0 => ?_⟩
    have hS1 : SqL K H1 a (ns.map V.int) := ex_l (eH.trans P0.1) hS
    have hm10 : 0 ≤ (4 : Int) + (if ((ns.map V.int).length : Int) < 4 then ((ns.map V.int).length : Int) else 4) ∧ (4 : Int) + (if ((ns.map V.int).length : Int) < 4 then ((ns.map V.int).length : Int) else 4) ≤ 8 := by
      by_cases q : ((ns.map V.int).length : Int) < 4
      · rw [if_pos q]; omega
      · rw [if_neg q]; omega
    refine ⟨_, rfl, a, _, rfl, .inl hS1, _, _, rfl, _, _, rfl, rfl, _, rfl, by omega, by omega, ?_⟩
    obtain ⟨m, hm⟩ : ∃ m : Nat, ((4 : Int) + (if ((ns.map V.int).length : Int) < 4 then ((ns.map V.int).length : Int) else 4)).toNat = m := ⟨_, rfl⟩
    rw [hm]
    have hm2 : m ≤ 8 := by omega
    clear hm hm10 hS1
    refine for_range (lo := 0) (n := m) (fun i σ H' => ∃ (B : Hp) (y2 y3 y4 y5 y6 y7 y8 y9 y10 y11 y12 y13 y14 : Option V), σ = [some (.ref a), some (.ref p.d), y2, y3, y4, y5, y6, y7, y8, y9, y10, y11, y12, y13, y14] ∧ PenAt p B H' (3000 * i))
      ⟨H0, none, none, none, none, none, none, none, none, none, none, none, none, none, rfl, P0⟩ (fun i σ H' hi hw => ?_) (fun σ H' hw => ?_)
    · obtain ⟨B, y2, y3, y4, y5, y6, y7, y8, y9, y10, y11, y12, y13, y14, rfl, P1⟩ := hw
      refine ⟨_, rfl, p, B, _, rfl, P1, by omega, fun H2 lf lq lm P2 b1 b2 b3 b4 => ?_⟩
      have hLG := lets_good b1 b2 b3 b4
      obtain ⟨L, hLe⟩ : ∃ L, lets lf lq lm = L := ⟨_, rfl⟩
      rw [hLe] at hLG ⊢
      have L2' := hLG.lo
      have L4 := hLG.hi
      refine ⟨_, rfl, p, B, _, 8, rfl, P2, by omega, by decide, by decide, fun H3 r3 P3 r30 r31 => ⟨_, _, rfl, rfl, ?_⟩⟩
      obtain ⟨wd, hwd⟩ : ∃ wd : Nat, (1 : Int) + r3 = (wd : Int) := ⟨(1 + r3).toNat, (Int.toNat_of_nonneg (by omega)).symm⟩
      dsimp only
      rw [hwd]
      refine ⟨_, rfl, p, B, _, 4, rfl, P3, by omega, by decide, by decide, fun H4 r4 P4 r40 r41 => ⟨_, _, rfl, rfl, ?_⟩⟩
      obtain ⟨mn, hmn⟩ : ∃ mn : Nat, (1 : Int) + r4 = (mn : Int) := ⟨(1 + r4).toNat, (Int.toNat_of_nonneg (by omega)).symm⟩
      dsimp only
      rw [hmn]
      refine ⟨_, _, _, rfl, ?_⟩
      refine ⟨_, rfl, _, rfl, _, rfl, _, rfl, p, B, _, L, wd, mn, rfl, P4, by omega, L2', L4, by omega, by omega, by omega, by omega, fun B1 H5 r us ts d1 P5 hr0 hr1 KK hlen hall => ?_⟩
      refine' st_eq (σ' := [some (.ref a), some (.ref p.d), some (.int (0 + (i : Int))), some (.str (tx L)), some (.int (wd : Int)), some (.int (mn : Int)), some (.ref r), y7, y8, y9, y10, y11, y12, y13, y14]) rfl ?_
      have w1 : 1 ≤ wd := by omega
      have w8 : wd ≤ 8 := by omega
      have m1 : 1 ≤ mn := by omega
      have m4 : mn ≤ 4 := by omega
      have hr5 := P5.1 _ _ hr1
      have GG := kids_ga KK
      have hright : dueS L.length (.int (wd : Int)) (ts.map ofT) = .ok := due_right w1 w8 (by omega) (by omega) (by rw [hlen]; exact hall)
      have hz0 : ∀ g ∈ ts.map ofT, Lp 0 g := fun g hg => by
        obtain ⟨t, ht, rfl⟩ := List.mem_map.mp hg
        obtain ⟨k1, k2, k3⟩ := hall t ht
        have z1 := ofT_size t
        have z2 := ofT_depth t
        have z3 := ofT_wd L4 t k1
        exact ⟨by show _ ≤ 400; omega, by omega, by omega⟩
      have hz1 : ∀ g ∈ ts.map ofT, g.size ≤ 10000 := fun g hg => by
        have := (hz0 g hg).s
        have : sJ 0 = 400 := rfl
        omega
      have hlg : (ts.map ofT).length = mn := by rw [List.length_map, hlen]
      refine ⟨_, rfl, _, rfl, _, rfl, r, .str (tx L), .int (wd : Int), .int (wd : Int), .int (wd : Int), false, us, ts.map ofT, rfl, hr5, GAs.ex P5.1 GG, .int _, .flat (.int _), by omega, hz1, .inl ⟨L, rfl, hLG, fun v' H6 e6 hm6 => ?_⟩⟩
      rw [hright] at hm6
      obtain rfl : v' = .non := hm6
      refine ⟨rfl, _, rfl, ite2 (fun hb => absurd hb (by decide)) (fun _ => ?_)⟩
      have P6 := P5.ex e6
      refine ⟨_, rfl, _, rfl, _, rfl, r, us, rfl, .inl ⟨sq_of (P6.1 _ _ hr1), fun t2 ht2 => ?_⟩⟩
      have P7 := P6.ex (Ex.new (o := .tup us) ht2)
      refine ⟨t2, .str (tx L), .int (wd : Int), .int (wd : Int), .int (wd : Int), true, us, ts.map ofT, rfl, upd_same, GAs.ex P7.1 GG, .int _, .flat (.int _), by omega, hz1, .inl ⟨L, rfl, hLG, fun v' H8 e8 hm8 => ?_⟩⟩
      rw [hright] at hm8
      obtain rfl : v' = .non := hm8
      refine ⟨rfl, _, rfl, ite2 (fun hb => absurd hb (by decide)) (fun _ => ?_)⟩
      have P8 := P7.ex e8
      clear P7 P6 P5 hr5 hright hz1 hall P4 P3 P2 P1
      -- the laps
      refine ⟨_, rfl, p, B1, _, 3, rfl, P8, by omega, by decide, by decide, fun H9 r5 P9 r50 r51 => ⟨_, _, rfl, rfl, _, rfl, by omega, by omega, ?_⟩⟩
      obtain ⟨lp, hlp, hlp2⟩ : ∃ lp : Nat, ((1 : Int) + r5).toNat = lp ∧ lp ≤ 3 := ⟨_, rfl, by omega⟩
      rw [hlp]
      refine for_range (lo := 0) (n := lp) (fun j σ' H' => ∃ (B : Hp) (ra : Addr) (xs : List V) (gs : List Gt) (y7 y8 : Option V), σ' = [some (.ref a), some (.ref p.d), some (.int (0 + (i : Int))), some (.str (tx L)), some (.int (wd : Int)), some (.int (mn : Int)), some (.ref ra), y7, y8, y9, y10, y11, y12, y13, y14] ∧
        PenAt p B H' (3000 * i + 1100 + 80 * j) ∧ B ra = some (.lst xs) ∧ GAs B xs gs ∧ gs.length = mn ∧ ∀ g ∈ gs, Lp j g) ⟨B1, r, us, ts.map ofT, y7, y8, rfl, P9.le (by omega), hr1, GG, hlg, hz0⟩ (fun j σ' H' hj hw => ?_) (fun σ' H' hw => ?_)
      · obtain ⟨B, ra, xs, gs, y7, y8, rfl, P1, hra, GG, hlg, hall⟩ := hw
        have sj : sJ j ≤ 1660 := by
          have : j = 0 ∨ j = 1 ∨ j = 2 := by omega
          rcases this with rfl | rfl | rfl <;> decide
        have lx := GG.len
        refine ⟨_, rfl, _, rfl, p, B, _, _, rfl, P1, by omega, by omega, by omega, fun H2 r6 P2 r60 r61 => ?_⟩
        obtain ⟨at_, rfl⟩ : ∃ k : Nat, r6 = (k : Int) := ⟨r6.toNat, (Int.toNat_of_nonneg r60).symm⟩
        have hat : at_ < xs.length := by omega
        obtain ⟨v, hv⟩ : ∃ v, xs[at_]? = some v := ⟨_, List.getElem?_eq_getElem hat⟩
        obtain ⟨g, hg, hga⟩ := GG.get hv
        have hL := hall g (List.mem_of_getElem? hg)
        have hs := hL.s
        have hd := hL.d
        have hw := hL.w
        refine ⟨_, rfl, _, rfl, _, rfl, ra, _, rfl, sq_of (P2.1 _ _ hra), fun s1 hs1 => ?_⟩
        obtain ⟨P3, e3⟩ := P2.made (o := .lst (cutV xs none (some (at_ : Int)))) hs1
        refine ⟨_, rfl, _, rfl, _, rfl, ra, _, _, _, rfl, rfl, sq_of (P3.1 _ _ (e3 _ _ hra)), atI_nat hv, _, rfl, _, rfl, p, _, _, g, v, wd, mn, rfl, P3, by omega, GA.ex e3 hga, by omega, by omega, by omega, fun B4 H4 v' g' e4 P4 hv' bd => ?_⟩
        refine ⟨by show 1 ≤ sizeLine; decide, fun s2 hs2 => ?_⟩
        have P5 := P4.ex (Ex.new (o := .lst [v']) hs2)
        refine ⟨s1, s2, _, _, rfl, rfl, P5.1 _ _ (e4 _ _ upd_same), upd_same, ?_, fun s3 hs3 => ?_⟩
        · rw [cutL_to, List.length_take]
          exact sz_le (by show min _ _ + 1 < 1000; omega)
        have P6 := P5.ex (Ex.new (o := .lst (cutV xs none (some (at_ : Int)) ++ [v'])) hs3)
        refine ⟨_, rfl, _, rfl, _, _, rfl, rfl, _, rfl, ra, _, rfl, sq_of (P6.1 _ _ (e4 _ _ (e3 _ _ hra))), fun s4 hs4 => ?_⟩
        have P7 := P6.ex (Ex.new (o := .lst (cutV xs (some ((at_ : Int) + 1)) none)) hs4)
        refine ⟨s3, s4, _, _, rfl, rfl, (Ex.new hs4) _ _ upd_same, upd_same, ?_, fun r7 hr7 => ?_⟩
        · rw [cutL_to, show ((at_ : Int) + 1) = ((at_ + 1 : Nat) : Int) from rfl, cutL_from, List.length_append, List.length_take, List.length_drop]
          exact sz_le (by show min _ _ + 1 + _ < 1000; omega)
        rw [cutL_to, show ((at_ : Int) + 1) = ((at_ + 1 : Nat) : Int) from rfl, cutL_from] at *
        obtain ⟨P8, e8⟩ := P7.made (o := .lst ((xs.take at_ ++ [v']) ++ xs.drop (at_ + 1))) hr7
        have e48 := e3.trans (e4.trans e8)
        refine ⟨_, r7, _, (gs.take at_ ++ [g']) ++ gs.drop (at_ + 1), _, _, rfl, P8.le (by omega), upd_same, (((GAs.ex e48 GG).take at_).app (.cons (GA.ex e8 hv') .nil)).app ((GAs.ex e48 GG).drop (at_ + 1)), ?_, fun x hx => ?_⟩
        · have hgl := (List.getElem?_eq_some_iff.mp hg).1
          rw [List.length_append, List.length_append, List.length_take, List.length_drop]
          show min _ _ + 1 + _ = _
          omega
        · rcases List.mem_append.mp hx with h | h
          · rcases List.mem_append.mp h with h | h
            · exact (hall x (List.mem_of_mem_take h)).next
            · rw [List.mem_singleton.mp h]
              exact hL.step bd
          · exact (hall x (List.mem_of_mem_drop h)).next
      obtain ⟨B, ra, xs, gs, y7, y8, rfl, P1, hra, GG, hlg, hall⟩ := hw
      have hz : ∀ g ∈ gs, g.size ≤ 10000 := fun g hg => by
        have := (hall g hg).s
        have : sJ lp ≤ 3340 := by
          have : lp = 0 ∨ lp = 1 ∨ lp = 2 ∨ lp = 3 := by omega
          rcases this with rfl | rfl | rfl | rfl <;> decide
        omega
      clear P9 P8 hall hz0 KK hlen hlp
      -- a width
      refine ⟨_, rfl, _, rfl, _, rfl, _, rfl, by show 0 ≤ sizeLine; decide, fun a1 h1 => ?_⟩
      have n1 := fresh_ne P1 h1
      have Q1 := P1.ex (Ex.new (o := .lst []) h1)
      refine fun a2 h2 => ?_
      have n2 := fresh_ne Q1 h2
      have Q2 := Q1.ex (Ex.new (o := .dK []) h2)
      refine ⟨_, rfl, by show 11 ≤ sizeLine; decide, fun a3 h3 => ?_⟩
      have Q3 := Q2.ex (Ex.new (o := .lst [.int (wd : Nat), .int (wd : Nat), .int (wd : Nat), .int 0, .int 9, .non, .bl true, .str "3", .ref a1, .ref a2, .int (-1)]) h3)
      have x3 := Ex.new (o := .lst [.int (wd : Nat), .int (wd : Nat), .int (wd : Nat), .int 0, .int 9, .non, .bl true, .str "3", .ref a1, .ref a2, .int (-1)]) h3
      have x2 := (Ex.new (o := .dK []) h2).trans x3
      refine pick_now (E := fun _ _ _ => False) Q3 (by omega) upd_same (by show 0 < 11; decide) (by show 11 < 1000; decide) fun B2 H2 vw eB kB P2 hvw => ?_
      obtain ⟨gw, dw, hW⟩ : ∃ gw dw, Wi B2 vw gw dw := by
        have wi : ∀ z : Int, okT (.tuple [.str "width", .int z]) = true → ∃ gw dw, Wi B2 (.int z) gw dw := fun z hz => ⟨_, _, .int z, .flat (.int z), hz⟩
        simp only [List.mem_cons, List.not_mem_nil, or_false] at hvw
        rcases hvw with rfl | rfl | rfl | rfl | rfl | rfl | rfl | rfl | rfl | rfl | rfl
        · exact wi _ (okT_nat wd (by omega))
        · exact wi _ (okT_nat wd (by omega))
        · exact wi _ (okT_nat wd (by omega))
        · exact wi _ (by decide +kernel)
        · exact wi _ (by decide +kernel)
        · exact ⟨_, _, .non, .flat .non, by decide +kernel⟩
        · exact ⟨_, _, .bl true, .flat (.bl true), by decide +kernel⟩
        · exact ⟨_, _, .str "3", .flat (.str "3"), by decide +kernel⟩
        · have k := kB a1 _ (x2 _ _ upd_same) n1
          exact ⟨_, _, .seq (k := false) k .nil, .lst k .nil (by decide), by decide +kernel⟩
        · have k := kB a2 _ (x3 _ _ upd_same) n2
          exact ⟨_, _, .dct k, .emp k, by decide +kernel⟩
        · exact wi _ (by decide +kernel)
      replace hra := eB _ _ hra
      replace GG := GAs.ex eB GG
      clear x2 x3 Q3 Q2 Q1 kB hvw P1
      refine' gn_eq (σ' := [some (.ref a), some (.ref p.d), some (.int (0 + (i : Int))), some (.str (tx L)), some (.int (wd : Int)), some (.int (mn : Int)), some (.ref ra), y7, y8, some vw, y10, y11, y12, y13, y14]) rfl ?_
      -- states
      refine ⟨_, rfl, _, rfl, _, rfl, _, rfl, by show 0 ≤ sizeLine; decide, fun a1 h1 => ?_⟩
      have n1 := fresh_ne P2 h1
      have Q1 := P2.ex (Ex.new (o := .lst []) h1)
      refine ⟨by show 3 ≤ sizeLine; decide, fun a2 h2 => ⟨by show 1 ≤ sizeLine; decide, fun a3 h3 => ?_⟩⟩
      have n2 := fresh_ne Q1 h2
      have Q2 := Q1.ex (Ex.new (o := .tup [.str "go", .int 1, .int 0]) h2)
      have Q3 := Q2.ex (Ex.new (o := .lst [.ref a2]) h3)
      refine ⟨a3, 64, _, rfl, rfl, upd_same, by decide, by decide, by show 1 * 64 ≤ sizeLine; decide, fun a4 h4 => ?_⟩
      have n4 := fresh_ne Q3 h4
      have Q4 := Q3.ex (Ex.new (o := .lst (List.replicate (64 : Int).toNat [V.ref a2]).flatten) h4)
      refine ⟨by show 3 ≤ sizeLine; decide, fun a5 h5 => ⟨by show 1 ≤ sizeLine; decide, fun a6 h6 => ?_⟩⟩
      have n5 := fresh_ne Q4 h5
      have Q5 := Q4.ex (Ex.new (o := .tup [.str "go", .int 1, .int 63]) h5)
      have Q6 := Q5.ex (Ex.new (o := .lst [.ref a5]) h6)
      refine ⟨a6, 65, _, rfl, rfl, upd_same, by decide, by decide, by show 1 * 65 ≤ sizeLine; decide, fun a7 h7 => ?_⟩
      have n7 := fresh_ne Q6 h7
      have Q7 := Q6.ex (Ex.new (o := .lst (List.replicate (65 : Int).toNat [V.ref a5]).flatten) h7)
      refine ⟨by show 6 ≤ sizeLine; decide, fun a8 h8 => ?_⟩
      have Q8 := Q7.ex (Ex.new (o := .lst [.ref ra, .ref ra, .ref ra, .ref a1, .ref a4, .ref a7]) h8)
      have x8 := Ex.new (o := .lst [.ref ra, .ref ra, .ref ra, .ref a1, .ref a4, .ref a7]) h8
      have x7 := (Ex.new (o := .lst (List.replicate (65 : Int).toNat [V.ref a5]).flatten) h7).trans x8
      have x5 := (Ex.new (o := .lst [.ref a5]) h6).trans x7
      have x4 := (Ex.new (o := .tup [.str "go", .int 1, .int 63]) h5).trans x5
      have x2 := ((Ex.new (o := .lst [.ref a2]) h3).trans (Ex.new (o := .lst (List.replicate (64 : Int).toNat [V.ref a2]).flatten) h4)).trans x4
      have x1 := (Ex.new (o := .tup [.str "go", .int 1, .int 0]) h2).trans x2
      refine pick_now (E := fun _ _ _ => False) Q8 (by omega) upd_same (by show 0 < 6; decide) (by show 6 < 1000; decide) fun B3 H3 vf eB3 kB P3 hvf => ?_
      obtain ⟨rb, xb, gb, hF⟩ : ∃ rb xb gb, Fw B3 vf rb xb gb := by
        have f0 : Fw B3 (.ref ra) ra xs gs := ⟨rfl, eB3 _ _ hra, GAs.ex eB3 GG, by omega, hz⟩
        have go_ : ∀ (r2 r4 : Addr) (q : Int) (n : Nat), n < 1000 → B3 r2 = some (.tup [.str "go", .int 1, .int q]) → B3 r4 = some (.lst (List.replicate n [V.ref r2]).flatten) → ∃ rb xb gb, Fw B3 (.ref r4) rb xb gb := fun r2 r4 q n hn k2 k4 =>
          ⟨r4, _, List.replicate n (goG q), rfl, k4, gas_rep (.seq (k := true) k2 (.cons (.str _) (.cons (.int _) (.cons (.int _) .nil)))) n, by rw [List.length_replicate]; exact hn, fun g hg => by rw [(List.mem_replicate.mp hg).2, goG_size]; decide⟩
        simp only [List.mem_cons, List.not_mem_nil, or_false] at hvf
        rcases hvf with rfl | rfl | rfl | rfl | rfl | rfl
        · exact ⟨_, _, _, f0⟩
        · exact ⟨_, _, _, f0⟩
        · exact ⟨_, _, _, f0⟩
        · exact ⟨a1, [], [], rfl, kB a1 _ (x1 _ _ upd_same) n1, .nil, by decide, fun g hg => nomatch hg⟩
        · exact go_ a2 a4 0 64 (by decide) (kB a2 _ (x2 _ _ upd_same) n2) (kB a4 _ (x4 _ _ upd_same) n4)
        · exact go_ a5 a7 63 65 (by decide) (kB a5 _ (x5 _ _ upd_same) n5) (kB a7 _ (x8 _ _ upd_same) n7)
      obtain ⟨rfl, hrb, Gb, lb, zb⟩ := hF
      have hW3 : Wi B3 vw gw dw := ⟨GA.ex eB3 hW.g, hW.a.ex eB3, hW.o⟩
      clear x1 x2 x4 x5 x7 x8 Q8 Q7 Q6 Q5 Q4 Q3 Q2 Q1 kB hvf P2 hW hra GG hz
      refine' gn_eq (σ' := [some (.ref a), some (.ref p.d), some (.int (0 + (i : Int))), some (.str (tx L)), some (.int (wd : Int)), some (.int (mn : Int)), some (.ref ra), y7, y8, some vw, some (.ref rb), y11, y12, y13, y14]) rfl ?_
      have okd : OkS dw (dueS L.length gw gb) := okS_due hW3.o lb zb
      refine ⟨_, rfl, _, rfl, _, rfl, rb, .str (tx L), vw, gw, dw, false, xb, gb, rfl, P3.1 _ _ hrb, GAs.ex P3.1 Gb, GA.ex P3.1 hW3.g, hW3.a.ex P3.1, lb, zb, .inl ⟨L, rfl, hLG, fun v4 H4 e4 m4_ => ?_⟩⟩
      have P4 := P3.ex e4
      refine m4_.rx okd ⟨_, rfl, _, rfl, _, rfl, L, vw, gw, rb, xb, gb, rfl, by omega, GA.ex P4.1 hW3.g, P4.1 _ _ hrb, GAs.ex P4.1 Gb, lb, zb, fun v5 H5 e5 d5 => ?_⟩
      have P5 := P4.ex e5
      refine (d5.met (hW3.a.ex P5.1)).rx okd ?_
      refine ⟨rfl, _, rfl, ite2 (fun hb => absurd hb (by simp)) (fun _ => ?_)⟩
      clear m4_ d5 P4 P3 okd
      -- letters that are none
      refine ⟨_, rfl, by show 0 ≤ sizeLine; decide, fun a1 h1 => ?_⟩
      have n1 := fresh_ne P5 h1
      have Q1 := P5.ex (Ex.new (o := .lst []) h1)
      refine ⟨by show 2 ≤ sizeLine; decide, fun a2 h2 => ?_⟩
      have n2 := fresh_ne Q1 h2
      have Q2 := Q1.ex (Ex.new (o := .lst [.str "a", .str "b"]) h2)
      refine fun a3 h3 => ?_
      have n3 := fresh_ne Q2 h3
      have Q3 := Q2.ex (Ex.new (o := .dK []) h3)
      refine ⟨by show 2 ≤ sizeLine; decide, fun a4 h4 => ?_⟩
      have n4 := fresh_ne Q3 h4
      have Q4 := Q3.ex (Ex.new (o := .tup [.str "a", .str "b"]) h4)
      refine ⟨by show 12 ≤ sizeLine; decide, fun a5 h5 => ?_⟩
      have Q5 := Q4.ex (Ex.new (o := .lst [.str "", .str "a", .str "aa", .str "aB", .str "abcde", .non, .int 5, .bl true, .ref a1, .ref a2, .ref a3, .ref a4]) h5)
      have x5 := Ex.new (o := .lst [.str "", .str "a", .str "aa", .str "aB", .str "abcde", .non, .int 5, .bl true, .ref a1, .ref a2, .ref a3, .ref a4]) h5
      have x4 := (Ex.new (o := .tup [.str "a", .str "b"]) h4).trans x5
      have x3 := (Ex.new (o := .dK []) h3).trans x4
      have x2 := (Ex.new (o := .lst [.str "a", .str "b"]) h2).trans x3
      refine pick_now (E := fun _ _ _ => False) Q5 (by omega) upd_same (by show 0 < 12; decide) (by show 12 < 1000; decide) fun B6 H6 vo eB6 kB P6 hvo => ?_
      obtain ⟨do_, hO⟩ : ∃ d, Od K B6 vo d := by
        simp only [List.mem_cons, List.not_mem_nil, or_false] at hvo
        rcases hvo with rfl | rfl | rfl | rfl | rfl | rfl | rfl | rfl | rfl | rfl | rfl | rfl
        · exact ⟨_, od_str _ (by decide +kernel) (by decide +kernel) (by decide +kernel)⟩
        · exact ⟨_, od_str _ (by decide +kernel) (by decide +kernel) (by decide +kernel)⟩
        · exact ⟨_, od_str _ (by decide +kernel) (by decide +kernel) (by decide +kernel)⟩
        · exact ⟨_, od_str _ (by decide +kernel) (by decide +kernel) (by decide +kernel)⟩
        · exact ⟨_, od_str _ (by decide +kernel) (by decide +kernel) (by decide +kernel)⟩
        · exact ⟨_, .inr nos_non, .flat .non, by decide +kernel⟩
        · exact ⟨_, .inr (nos_int 5), .flat (.int 5), by decide +kernel⟩
        · exact ⟨_, .inr (nos_bl true), .flat (.bl true), by decide +kernel⟩
        · have k := kB a1 _ (x2 _ _ upd_same) n1
          exact ⟨_, .inr (nos_lst k), .lst k .nil (by decide), by decide +kernel⟩
        · have k := kB a2 _ (x3 _ _ upd_same) n2
          exact ⟨_, .inr (nos_lst k), .lst k (.cons (.str _) (.cons (.str _) .nil)) (by show 2 ≤ 50; decide), by decide +kernel⟩
        · have k := kB a3 _ (x4 _ _ upd_same) n3
          exact ⟨_, .inr (nos_dK k), .emp k, by decide +kernel⟩
        · have k := kB a4 _ (x5 _ _ upd_same) n4
          exact ⟨_, .inr (nos_tup k), .tup k (.cons (.str _) (.cons (.str _) .nil)) (by show 2 ≤ 50; decide), by decide +kernel⟩
      have hW6 : Wi B6 vw gw dw := ⟨GA.ex eB6 hW3.g, hW3.a.ex eB6, hW3.o⟩
      replace hrb := eB6 _ _ hrb
      replace Gb := GAs.ex eB6 Gb
      clear x2 x3 x4 x5 Q5 Q4 Q3 Q2 Q1 kB hvo P5 hW3
      refine' gn_eq (σ' := [some (.ref a), some (.ref p.d), some (.int (0 + (i : Int))), some (.str (tx L)), some (.int (wd : Int)), some (.int (mn : Int)), some (.ref ra), y7, y8, some vw, some (.ref rb), some vo, y12, y13, y14]) rfl ?_
      refine ⟨_, rfl, _, rfl, _, rfl, rb, vo, vw, gw, dw, false, xb, gb, rfl, P6.1 _ _ hrb, GAs.ex P6.1 Gb, GA.ex P6.1 hW6.g, hW6.a.ex P6.1, lb, zb, .inr ⟨do_, hO.a.ex P6.1, hO.l.ex P6.1, fun r7 u7 H7 e7 hr7 av7 => ?_⟩⟩
      have P7 := P6.ex e7
      refine rx_ok hr7 (.cons (.str _) (.cons av7.de .nil)) (.of hO.o) ⟨_, rfl, by show 2 ≤ sizeLine; decide, fun r8 hr8 => ?_⟩
      have P8 := P7.ex (Ex.new (o := .tup [.str "letters", vo]) hr8)
      refine rx_ok upd_same (.cons (.str _) (.cons (hO.a.ex P8.1).de .nil)) (.of hO.o) ?_
      refine ⟨rfl, _, rfl, ite2 (fun hb => absurd hb (by simp)) (fun _ => ?_)⟩
      exact ⟨_, _, _, _, _, _, _, _, _, _, _, _, _, _, rfl, P8.le (by omega)⟩
    · obtain ⟨B, y2, y3, y4, y5, y6, y7, y8, y9, y10, y11, y12, y13, y14, rfl, P1⟩ := hw
      refine ⟨by show 3 ≤ sizeLine; decide, fun r1 hr1 => ?_⟩
      obtain ⟨P2, e2⟩ := P1.made (o := .tup [.str "go", .int 1, .int 0]) hr1
      refine ⟨_, rfl, p, _, _, 3, rfl, P2, by omega, by decide, by decide, fun H3 r3 P3 r30 r31 => ⟨_, _, rfl, rfl, _, rfl, by omega, by omega, ?_⟩⟩
      obtain ⟨lp, hlp, hlp2⟩ : ∃ lp : Nat, ((38 : Int) + r3).toNat = lp ∧ lp ≤ 40 := ⟨_, rfl, by omega⟩
      rw [hlp]
      refine for_range (lo := 0) (n := lp) (fun j σ' H' => ∃ (B : Hp) (r : Addr) (t : Tr) (y13 : Option V), σ' = [some (.ref a), some (.ref p.d), y2, y3, y4, y5, y6, y7, y8, y9, y10, y11, some (.ref r), y13, y14] ∧ PenAt p B H' (3000 * m + 1) ∧ TA true B (.ref r) t ∧ t.size ≤ 1 + j)
        ⟨_, r1, .go 1 0, y13, rfl, P3, .go upd_same, by show 1 ≤ 1 + 0; omega⟩ (fun j σ' H' hj hw => ?_) (fun σ' H' hw => ?_)
      · obtain ⟨B, r, t, y13, rfl, P4, ht, hs⟩ := hw
        refine ⟨_, rfl, by show 3 ≤ sizeLine; decide, fun r5 hr5 => ?_⟩
        obtain ⟨P5, e5⟩ := P4.made (o := .tup [.str "tell", .int 0, .ref r]) hr5
        exact ⟨_, r5, .tell 0 t, _, rfl, P5, .tell upd_same (ht.ex e5), by show t.size + 1 ≤ 1 + (j + 1); omega⟩
      obtain ⟨B, r, t, y13, rfl, P4, ht, hs⟩ := hw
      clear P1 P2 P3 e2 hlp
      refine ⟨5, rfl, by decide, fun v H5 e5 hv => ⟨by show 1 ≤ sizeLine; decide, fun l1 hl1 => ?_⟩⟩
      have P5 := P4.ex e5
      have n1 := fresh_ne P5 hl1
      have P6 := P5.ex (Ex.new (o := .lst [v]) hl1)
      refine ⟨_, rfl, by show 2 ≤ sizeLine; decide, fun l2 hl2 => ?_⟩
      have P7 := P6.ex (Ex.new (o := .lst [.int 2, .int 3]) hl2)
      have x2 := Ex.new (o := .lst [.int 2, .int 3]) hl2
      have x1 := (Ex.new (o := .lst [v]) hl1).trans x2
      have hd7 : ∃ kvs, (upd (upd H5 l1 (.lst [v])) l2 (.lst [.int 2, .int 3])) p.d = some (.dK kvs) := P7.dict
      refine pick_now (E := fun _ _ _ => False) P7 (by omega) upd_same (by show 0 < 2; decide) (by show 2 < 1000; decide) fun C H8 vk eC kB P8 hvk => ?_
      obtain ⟨n, rfl, hn2, hn3⟩ : ∃ n : Nat, vk = .int (n : Int) ∧ 2 ≤ n ∧ n ≤ 3 := by
        simp only [List.mem_cons, List.not_mem_nil, or_false] at hvk
        rcases hvk with rfl | rfl
        · exact ⟨2, rfl, by decide, by decide⟩
        · exact ⟨3, rfl, by decide, by decide⟩
      have hvC : TA true C v (fullT 5) := hv.exT fun b xs hb => by
        have hb7 := x1 _ _ hb
        refine kB b _ hb7 fun z => ?_
        obtain ⟨kvs, hk⟩ := hd7
        rw [z, hk] at hb7
        cases hb7
      have htC := ht.ex eC
      have hl1C := kB l1 _ (x2 _ _ upd_same) n1
      clear kB x1 x2 hd7 P7 P6 P5 P4 hv ht hvk
      refine ⟨l1, _, _, rfl, rfl, P8.1 _ _ hl1C, by omega, by omega, ?_, fun l3 hl3 => ?_⟩
      · show 1 * n ≤ sizeLine
        exact sz_le (by omega)
      have e9 := P8.1.trans (Ex.new (o := .lst (List.replicate ((n : Int)).toNat [v]).flatten) hl3)
      have h9 : (upd H8 l3 (.lst (List.replicate ((n : Int)).toNat [v]).flatten)) l3 = some (.lst (List.replicate n [v]).flatten) := upd_same
      generalize (upd H8 l3 (.lst (List.replicate ((n : Int)).toNat [v]).flatten)) = H9 at e9 h9 ⊢
      refine ⟨_, rfl, by show 1 ≤ sizeLine; decide, fun l4 hl4 => ⟨_, rfl, by show 2 ≤ sizeLine; decide, fun l5 hl5 => ?_⟩⟩
      have x4 := Ex.new (o := .lst [.ref r]) hl4
      have x5 := Ex.new (o := .lst [.ref l4, .ref l3]) hl5
      have hD : (upd (upd H9 l4 (.lst [.ref r])) l5 (.lst [.ref l4, .ref l3])) l5 = some (.lst [.ref l4, .ref l3]) := upd_same
      have h4 := x5 _ _ (upd_same (H := H9) (a := l4) (o := .lst [.ref r]))
      have h3 := x5 _ _ (x4 _ _ h9)
      have e10 := e9.trans (x4.trans x5)
      generalize (upd (upd H9 l4 (.lst [.ref r])) l5 (.lst [.ref l4, .ref l3])) = HD at hD h4 h3 e10 ⊢
      refine ⟨l5, rfl, ⟨_, sq_of hD⟩, ?_⟩
      refine for_list (K := K) (a := l5) (xs := [V.ref l4, V.ref l3]) (fun i σ' H' => ∃ (y6 : Option V), σ' = [some (.ref a), some (.ref p.d), y2, y3, y4, y5, y6, y7, y8, y9, y10, y11, some (.ref r), y13, some (.ref l3)] ∧ Ex HD H') ⟨y6, rfl, Ex.refl _⟩ (fun i σ' H' _ hw => ?_) (fun i x σ' H' hx hw => ?_) (fun σ' H' hw => ?_)
      · obtain ⟨y6, _, e⟩ := hw
        exact sq_of (e _ _ hD)
      · obtain ⟨y6, rfl, e⟩ := hw
        obtain ⟨sa, xs, gs, rfl, hsa, GG, lg, zg⟩ : ∃ sa xs gs, x = .ref sa ∧ H' sa = some (.lst xs) ∧ GAs H' xs gs ∧ gs.length < 1000 ∧ ∀ g ∈ gs, g.size ≤ 10000 := by
          have mem := List.mem_of_getElem? hx
          simp only [List.mem_cons, List.not_mem_nil, or_false] at mem
          rcases mem with rfl | rfl
          · refine ⟨l4, _, [ofT t], rfl, e _ _ h4, .cons (TA.ga (htC.ex (e10.trans e))) .nil, by show 1 < 1000; decide, fun g hg => ?_⟩
            rw [List.mem_singleton.mp hg]
            have := ofT_size t
            omega
          · refine ⟨l3, _, List.replicate n (ofT (fullT 5)), rfl, e _ _ h3, gas_rep (TA.ga (hvC.ex (e10.trans e))) n, by rw [List.length_replicate]; omega, fun g hg => ?_⟩
            rw [(List.mem_replicate.mp hg).2]
            have := ofT_size (fullT 5)
            rw [full_size] at this
            omega
        have okd : OkS (.int 1) (dueS [119, 120, 121, 122].length (.int ((1 : Nat) : Int)) gs) := okS_due (by decide +kernel) lg zg
        have nw : dueS [119, 120, 121, 122].length (.int ((1 : Nat) : Int)) gs ≠ .width := due_nw (by decide) (by decide)
        refine ⟨_, rfl, sa, _, _, .int ((1 : Nat) : Int), .int 1, false, xs, gs, rfl, hsa, GG, .int _, .flat (.int _), lg, zg, .inl ⟨[119, 120, 121, 122], congrArg V.str wz_tx, lg_wz, fun v1 H10 e1 m1 => ?_⟩⟩
        refine ⟨_, rfl, [119, 120, 121, 122], _, .int ((1 : Nat) : Int), sa, xs, gs, congrArg (fun z => [V.str z, V.int ((1 : Nat) : Int), V.ref sa]) wz_tx, by decide, .int _, e1 _ _ hsa, GAs.ex e1 GG, lg, zg, fun v2 H11 e2 d2 => ?_⟩
        have m2 : MetV H11 v2 (.int 1) _ := d2.met (.flat (.int _))
        obtain ⟨dp1, sh⟩ := ((m1.ex e2).dp nw okd : Dp K H11 v1 _ ∧ _)
        obtain ⟨dp2, _⟩ := (m2.dp nw okd : Dp K H11 v2 _ ∧ _)
        refine ⟨_, _, dp1, dp2, sh, sh, _, rfl, ?_⟩
        rw [eqv_same sh]
        refine ite2 (fun hb => absurd hb (by decide)) (fun _ => ?_)
        exact ⟨_, rfl, e.trans (e1.trans e2)⟩
      · exact q _
end
end Law

namespace Law
open PySem PySem.Spec PyProof.Rows L2 Evl TR EK
theorem kit_mk {K : PySem.W.Frag} {t : Value} {c : Addr} {b : Bool} (n : (t == .ref c) = false ∨ b = true) (h1 : PySem.W.isClsIn K c = true) (h2 : PySem.W.typeIn K (.ref c) = some (.type "type")) (h3 : PySem.W.subIn K t (.ref c) = some b) : PySem.W.kitOne K t (.ref c) = some b := by
  have e : PySem.W.kitCls K t (.ref c) = some b := by
    unfold PySem.W.kitCls
    show (if ((PySem.W.clsIn K c).isSome && PySem.W.typeIn K (.ref c) == some (.type "type")) = true then PySem.W.subIn K t (.ref c) else none) = some b
    rw [if_pos (by rw [Bool.and_eq_true]; exact ⟨h1, by rw [h2]; simp⟩)]
    exact h3
  unfold PySem.W.kitOne
  by_cases q : (t == .ref c) = true
  · rw [if_pos q]
    rcases n with n | n
    · rw [n] at q
      cases q
    · rw [n]
  · rw [if_neg q]
    exact e
theorem exm_mk {K : PySem.W.Frag} {t : Value} {c : Addr} {b : Bool} (h0 : PySem.W.subIn K (.ref c) (.type "BaseException") = some true) (h1 : PySem.W.isClsIn K c = true) (h2 : PySem.W.typeIn K (.ref c) = some (.type "type")) (h3 : PySem.W.subIn K t (.ref c) = some b) : PySem.W.exmOne K t (.ref c) = some b := by
  unfold PySem.W.exmOne
  rw [if_pos (by rw [h0]; simp)]
  unfold PySem.W.kitCls
  show (if ((PySem.W.clsIn K c).isSome && PySem.W.typeIn K (.ref c) == some (.type "type")) = true then PySem.W.subIn K t (.ref c) else none) = some b
  rw [if_pos (by rw [Bool.and_eq_true]; exact ⟨h1, by rw [h2]; simp⟩)]
  exact h3
theorem all_mk {l : PySem.W.OpenLaw} {w : World} {K : PySem.W.Frag} {h : Heap} {mg : Str → Option Value} {fa C0 f1 f2 f3 f4 f5 f6 f7 f8 f9 f10 f11 f12 f13 f14 f15 f16 f17 f18 f19 f20 f21 f22 f23 f24 fS fL fW fM fT CS CL CW CM CT : Addr} (X : K.In h) (G : h.Ns mainGlobals mg) (hfa : mg "law" = some (.ref fa))
    {od1 an1 od2 an2 od3 an3 od4 an4 od5 an5 od6 an6 od7 an7 od8 an8 od9 an9 od10 an10 od11 an11 od12 an12 od13 an13 od14 an14 od15 an15 od16 an16 od17 an17 od18 an18 od19 an19 od20 an20 od21 an21 od22 an22 od23 an23 od24 an24 odS anS odL anL odW anW odM anM odT anT : Option Addr} {sl1 sl2 sl3 sl4 sl5 sl6 sl7 sl8 sl9 sl10 sl11 sl12 sl13 sl14 sl15 sl16 sl17 sl18 sl19 sl20 sl21 sl22 sl23 sl24 slS slL slW slM slT : Array (Option Value)} {oc1 kV1 dc1 pm1 cd1 ct1 oc2 kV2 dc2 pm2 cd2 ct2 oc3 kV3 dc3 pm3 cd3 ct3 oc4 kV4 dc4 pm4 cd4 ct4 oc5 kV5 dc5 pm5 cd5 ct5 oc6 kV6 dc6 pm6 cd6 ct6 oc7 kV7 dc7 pm7 cd7 ct7 oc8 kV8 dc8 pm8 cd8 ct8 oc9 kV9 dc9 pm9 cd9 ct9 oc10 kV10 dc10 pm10 cd10 ct10 oc11 kV11 dc11 pm11 cd11 ct11 oc12 kV12 dc12 pm12 cd12 ct12 oc13 kV13 dc13 pm13 cd13 ct13 oc14 kV14 dc14 pm14 cd14 ct14 oc15 kV15 dc15 pm15 cd15 ct15 oc16 kV16 dc16 pm16 cd16 ct16 oc17 kV17 dc17 pm17 cd17 ct17 oc18 kV18 dc18 pm18 cd18 ct18 oc19 kV19 dc19 pm19 cd19 ct19 oc20 kV20 dc20 pm20 cd20 ct20 oc21 kV21 dc21 pm21 cd21 ct21 oc22 kV22 dc22 pm22 cd22 ct22 oc23 kV23 dc23 pm23 cd23 ct23 oc24 kV24 dc24 pm24 cd24 ct24 ocS kVS dcS pmS cdS ctS ocL kVL dcL pmL cdL ctL ocW kVW dcW pmW cdW ctW ocM kVM dcM pmM cdM ctM ocT kVT dcT pmT cdT ctT : Value} {t0 t1 t2 t3 : Tok}
    {nmL} {qL} {NL} {bsL} {bmL} {snL} {suL} {abL} {colL} {ddL} {k0L} {k1L} {k2L} {k3L} {k5L} {nmW} {qW} {NW} {bsW} {bmW} {snW} {suW} {abW} {colW} {ddW} {k0W} {k1W} {k2W} {k3W} {k5W} {nmM} {qM} {NM} {bsM} {bmM} {snM} {suM} {abM} {colM} {ddM} {k0M} {k1M} {k2M} {k3M} {k5M} {nmT} {qT} {NT} {bsT} {bmT} {snT} {suT} {abT} {colT} {ddT} {k0T} {k1T} {k2T} {k3T} {k5T}
    (a1 : PySem.W.nsIn K mainGlobals "law" = some (some (.ref f1)))
    (l1 : K.lookup f1 = some ⟨oc1, od1, .func (PySem.W.fnOf "law" "law" (defArgs s_law) (defBody s_law) (defScope s_law) .none kV1 dc1 pm1 an1 cd1 ct1), sl1⟩)
    (c1 : PySem.W.codeIn K cd1 "law" = true)
    (k1 : PySem.W.keepIn K (.ref f1) = true)
    (a2 : PySem.W.nsIn K mainGlobals "_law_pen" = some (some (.ref f2)))
    (l2 : K.lookup f2 = some ⟨oc2, od2, .func (PySem.W.fnOf "_law_pen" "_law_pen" (defArgs s_lpen) (defBody s_lpen) (defScope s_lpen) .none kV2 dc2 pm2 an2 cd2 ct2), sl2⟩)
    (c2 : PySem.W.codeIn K cd2 "_law_pen" = true)
    (k2 : PySem.W.keepIn K (.ref f2) = true)
    (a3 : PySem.W.nsIn K mainGlobals "_law_draw" = some (some (.ref f3)))
    (l3 : K.lookup f3 = some ⟨oc3, od3, .func (PySem.W.fnOf "_law_draw" "_law_draw" (defArgs s_ldraw) (defBody s_ldraw) (defScope s_ldraw) .none kV3 dc3 pm3 an3 cd3 ct3), sl3⟩)
    (c3 : PySem.W.codeIn K cd3 "_law_draw" = true)
    (k3 : PySem.W.keepIn K (.ref f3) = true)
    (a4 : PySem.W.nsIn K mainGlobals "_law_pick" = some (some (.ref f4)))
    (l4 : K.lookup f4 = some ⟨oc4, od4, .func (PySem.W.fnOf "_law_pick" "_law_pick" (defArgs s_lpick) (defBody s_lpick) (defScope s_lpick) .none kV4 dc4 pm4 an4 cd4 ct4), sl4⟩)
    (c4 : PySem.W.codeIn K cd4 "_law_pick" = true)
    (k4 : PySem.W.keepIn K (.ref f4) = true)
    (a5 : PySem.W.nsIn K mainGlobals "_law_letters" = some (some (.ref f5)))
    (l5 : K.lookup f5 = some ⟨oc5, od5, .func (PySem.W.fnOf "_law_letters" "_law_letters" (defArgs s_lletters) (defBody s_lletters) (defScope s_lletters) .none kV5 dc5 pm5 an5 cd5 ct5), sl5⟩)
    (c5 : PySem.W.codeIn K cd5 "_law_letters" = true)
    (k5 : PySem.W.keepIn K (.ref f5) = true)
    (a6 : PySem.W.nsIn K mainGlobals "is_list" = some (some (.ref f6)))
    (l6 : K.lookup f6 = some ⟨oc6, od6, .func (PySem.W.fnOf "is_list" "is_list" (defArgs s_is_list) (defBody s_is_list) (defScope s_is_list) .none kV6 dc6 pm6 an6 cd6 ct6), sl6⟩)
    (c6 : PySem.W.codeIn K cd6 "is_list" = true)
    (k6 : PySem.W.keepIn K (.ref f6) = true)
    (a7 : PySem.W.nsIn K mainGlobals "is_integer" = some (some (.ref f7)))
    (l7 : K.lookup f7 = some ⟨oc7, od7, .func (PySem.W.fnOf "is_integer" "is_integer" (defArgs s_is_integer) (defBody s_is_integer) (defScope s_is_integer) .none kV7 dc7 pm7 an7 cd7 ct7), sl7⟩)
    (c7 : PySem.W.codeIn K cd7 "is_integer" = true)
    (k7 : PySem.W.keepIn K (.ref f7) = true)
    (a8 : PySem.W.nsIn K mainGlobals "is_whole" = some (some (.ref f8)))
    (l8 : K.lookup f8 = some ⟨oc8, od8, .func (PySem.W.fnOf "is_whole" "is_whole" (defArgs s_is_whole) (defBody s_is_whole) (defScope s_is_whole) .none kV8 dc8 pm8 an8 cd8 ct8), sl8⟩)
    (c8 : PySem.W.codeIn K cd8 "is_whole" = true)
    (k8 : PySem.W.keepIn K (.ref f8) = true)
    (a9 : PySem.W.nsIn K mainGlobals "are_letters" = some (some (.ref f9)))
    (l9 : K.lookup f9 = some ⟨oc9, od9, .func (PySem.W.fnOf "are_letters" "are_letters" (defArgs s_are_letters) (defBody s_are_letters) (defScope s_are_letters) .none kV9 dc9 pm9 an9 cd9 ct9), sl9⟩)
    (c9 : PySem.W.codeIn K cd9 "are_letters" = true)
    (k9 : PySem.W.keepIn K (.ref f9) = true)
    (a10 : PySem.W.nsIn K mainGlobals "_is_part" = some (some (.ref f10)))
    (l10 : K.lookup f10 = some ⟨oc10, od10, .func (PySem.W.fnOf "_is_part" "_is_part" (defArgs s_is_part) (defBody s_is_part) (defScope s_is_part) .none kV10 dc10 pm10 an10 cd10 ct10), sl10⟩)
    (c10 : PySem.W.codeIn K cd10 "_is_part" = true)
    (k10 : PySem.W.keepIn K (.ref f10) = true)
    (a11 : PySem.W.nsIn K mainGlobals "_within" = some (some (.ref f11)))
    (l11 : K.lookup f11 = some ⟨oc11, od11, .func (PySem.W.fnOf "_within" "_within" (defArgs s_within) (defBody s_within) (defScope s_within) .none kV11 dc11 pm11 an11 cd11 ct11), sl11⟩)
    (c11 : PySem.W.codeIn K cd11 "_within" = true)
    (k11 : PySem.W.keepIn K (.ref f11) = true)
    (a12 : PySem.W.nsIn K mainGlobals "first_wrong" = some (some (.ref f12)))
    (l12 : K.lookup f12 = some ⟨oc12, od12, .func (PySem.W.fnOf "first_wrong" "first_wrong" (defArgs s_first_wrong) (defBody s_first_wrong) (defScope s_first_wrong) .none kV12 dc12 pm12 an12 cd12 ct12), sl12⟩)
    (c12 : PySem.W.codeIn K cd12 "first_wrong" = true)
    (k12 : PySem.W.keepIn K (.ref f12) = true)
    (a13 : PySem.W.nsIn K mainGlobals "all_parts" = some (some (.ref f13)))
    (l13 : K.lookup f13 = some ⟨oc13, od13, .func (PySem.W.fnOf "all_parts" "all_parts" (defArgs s_all_parts) (defBody s_all_parts) (defScope s_all_parts) .none kV13 dc13 pm13 an13 cd13 ct13), sl13⟩)
    (c13 : PySem.W.codeIn K cd13 "all_parts" = true)
    (k13 : PySem.W.keepIn K (.ref f13) = true)
    (a14 : PySem.W.nsIn K mainGlobals "renamed" = some (some (.ref f14)))
    (l14 : K.lookup f14 = some ⟨oc14, od14, .func (PySem.W.fnOf "renamed" "renamed" (defArgs s_renamed) (defBody s_renamed) (defScope s_renamed) .none kV14 dc14 pm14 an14 cd14 ct14), sl14⟩)
    (c14 : PySem.W.codeIn K cd14 "renamed" = true)
    (k14 : PySem.W.keepIn K (.ref f14) = true)
    (a15 : PySem.W.nsIn K mainGlobals "_kept" = some (some (.ref f15)))
    (l15 : K.lookup f15 = some ⟨oc15, od15, .func (PySem.W.fnOf "_kept" "_kept" (defArgs s_kept) (defBody s_kept) (defScope s_kept) .none kV15 dc15 pm15 an15 cd15 ct15), sl15⟩)
    (c15 : PySem.W.codeIn K cd15 "_kept" = true)
    (k15 : PySem.W.keepIn K (.ref f15) = true)
    (a16 : PySem.W.nsIn K mainGlobals "_law_tree" = some (some (.ref f16)))
    (l16 : K.lookup f16 = some ⟨oc16, od16, .func (PySem.W.fnOf "_law_tree" "_law_tree" (defArgs s_ltree) (defBody s_ltree) (defScope s_ltree) .none kV16 dc16 pm16 an16 cd16 ct16), sl16⟩)
    (c16 : PySem.W.codeIn K cd16 "_law_tree" = true)
    (k16 : PySem.W.keepIn K (.ref f16) = true)
    (a17 : PySem.W.nsIn K mainGlobals "_law_trees" = some (some (.ref f17)))
    (l17 : K.lookup f17 = some ⟨oc17, od17, .func (PySem.W.fnOf "_law_trees" "_law_trees" (defArgs s_ltrees) (defBody s_ltrees) (defScope s_ltrees) .none kV17 dc17 pm17 an17 cd17 ct17), sl17⟩)
    (c17 : PySem.W.codeIn K cd17 "_law_trees" = true)
    (k17 : PySem.W.keepIn K (.ref f17) = true)
    (a18 : PySem.W.nsIn K mainGlobals "_law_is_within" = some (some (.ref f18)))
    (l18 : K.lookup f18 = some ⟨oc18, od18, .func (PySem.W.fnOf "_law_is_within" "_law_is_within" (defArgs s_lis_within) (defBody s_lis_within) (defScope s_lis_within) .none kV18 dc18 pm18 an18 cd18 ct18), sl18⟩)
    (c18 : PySem.W.codeIn K cd18 "_law_is_within" = true)
    (k18 : PySem.W.keepIn K (.ref f18) = true)
    (a19 : PySem.W.nsIn K mainGlobals "_law_is_head" = some (some (.ref f19)))
    (l19 : K.lookup f19 = some ⟨oc19, od19, .func (PySem.W.fnOf "_law_is_head" "_law_is_head" (defArgs s_lis_head) (defBody s_lis_head) (defScope s_lis_head) .none kV19 dc19 pm19 an19 cd19 ct19), sl19⟩)
    (c19 : PySem.W.codeIn K cd19 "_law_is_head" = true)
    (k19 : PySem.W.keepIn K (.ref f19) = true)
    (a20 : PySem.W.nsIn K mainGlobals "_law_first" = some (some (.ref f20)))
    (l20 : K.lookup f20 = some ⟨oc20, od20, .func (PySem.W.fnOf "_law_first" "_law_first" (defArgs s_lfirst) (defBody s_lfirst) (defScope s_lfirst) .none kV20 dc20 pm20 an20 cd20 ct20), sl20⟩)
    (c20 : PySem.W.codeIn K cd20 "_law_first" = true)
    (k20 : PySem.W.keepIn K (.ref f20) = true)
    (a21 : PySem.W.nsIn K mainGlobals "_law_due" = some (some (.ref f21)))
    (l21 : K.lookup f21 = some ⟨oc21, od21, .func (PySem.W.fnOf "_law_due" "_law_due" (defArgs s_ldue) (defBody s_ldue) (defScope s_ldue) .none kV21 dc21 pm21 an21 cd21 ct21), sl21⟩)
    (c21 : PySem.W.codeIn K cd21 "_law_due" = true)
    (k21 : PySem.W.keepIn K (.ref f21) = true)
    (a22 : PySem.W.nsIn K mainGlobals "_law_bent" = some (some (.ref f22)))
    (l22 : K.lookup f22 = some ⟨oc22, od22, .func (PySem.W.fnOf "_law_bent" "_law_bent" (defArgs s_lbent) (defBody s_lbent) (defScope s_lbent) .none kV22 dc22 pm22 an22 cd22 ct22), sl22⟩)
    (c22 : PySem.W.codeIn K cd22 "_law_bent" = true)
    (k22 : PySem.W.keepIn K (.ref f22) = true)
    (a23 : PySem.W.nsIn K mainGlobals "_law_full" = some (some (.ref f23)))
    (l23 : K.lookup f23 = some ⟨oc23, od23, .func (PySem.W.fnOf "_law_full" "_law_full" (defArgs s_lfull) (defBody s_lfull) (defScope s_lfull) .none kV23 dc23 pm23 an23 cd23 ct23), sl23⟩)
    (c23 : PySem.W.codeIn K cd23 "_law_full" = true)
    (k23 : PySem.W.keepIn K (.ref f23) = true)
    (a24 : PySem.W.nsIn K mainGlobals "_law_met" = some (some (.ref f24)))
    (l24 : K.lookup f24 = some ⟨oc24, od24, .func (PySem.W.fnOf "_law_met" "_law_met" (defArgs s_lmet) (defBody s_lmet) (defScope s_lmet) .none kV24 dc24 pm24 an24 cd24 ct24), sl24⟩)
    (c24 : PySem.W.codeIn K cd24 "_law_met" = true)
    (k24 : PySem.W.keepIn K (.ref f24) = true)
    (aCS : PySem.W.nsIn K mainGlobals "Searcher" = some (some (.ref CS)))
    (aS : PySem.W.findIn K (.ref CS) "__init__" = some (some (.ref fS)))
    (lS : K.lookup fS = some ⟨ocS, odS, .func (PySem.W.fnOf "__init__" "Searcher.__init__" (defArgs s_Searcher_init) (defBody s_Searcher_init) (defScope s_Searcher_init) .none kVS dcS pmS anS cdS ctS), slS⟩)
    (cS : PySem.W.codeIn K cdS "Searcher.__init__" = true)
    (kS : PySem.W.keepIn K (.ref fS) = true)
    (nS1 : PySem.W.findIn K (.ref CS) "letters" = some none)
    (nS2 : PySem.W.findIn K (.ref CS) "width" = some none)
    (nS3 : PySem.W.findIn K (.ref CS) "states" = some none)
    (nS4 : PySem.W.findIn K (.ref CS) "nodes" = some none)
    (g4S : PySem.W.findIn K (.ref CS) "__setattr__" = some (some (.builtin "object.__setattr__")))
    (m2S : PySem.W.keepIn K (.ref CS) = true)
    (aCL : PySem.W.nsIn K mainGlobals "BadLetters" = some (some (.ref CL)))
    (aL : PySem.W.findIn K (.ref CL) "__init__" = some (some (.ref fL)))
    (lL : K.lookup fL = some ⟨ocL, odL, .func (PySem.W.fnOf "__init__" "BadLetters.__init__" (defArgs s_BadLetters_init) (defBody s_BadLetters_init) (defScope s_BadLetters_init) .none kVL dcL pmL anL cdL ctL), slL⟩)
    (cL : PySem.W.codeIn K cdL "BadLetters.__init__" = true)
    (kL : PySem.W.keepIn K (.ref fL) = true)
    (nL1 : PySem.W.findIn K (.ref CL) "letters" = some none)
    (g4L : PySem.W.findIn K (.ref CL) "__setattr__" = some (some (.builtin "object.__setattr__")))
    (m2L : PySem.W.keepIn K (.ref CL) = true)
    (aCW : PySem.W.nsIn K mainGlobals "BadWidth" = some (some (.ref CW)))
    (aW : PySem.W.findIn K (.ref CW) "__init__" = some (some (.ref fW)))
    (lW : K.lookup fW = some ⟨ocW, odW, .func (PySem.W.fnOf "__init__" "BadWidth.__init__" (defArgs s_BadWidth_init) (defBody s_BadWidth_init) (defScope s_BadWidth_init) .none kVW dcW pmW anW cdW ctW), slW⟩)
    (cW : PySem.W.codeIn K cdW "BadWidth.__init__" = true)
    (kW : PySem.W.keepIn K (.ref fW) = true)
    (nW1 : PySem.W.findIn K (.ref CW) "width" = some none)
    (g4W : PySem.W.findIn K (.ref CW) "__setattr__" = some (some (.builtin "object.__setattr__")))
    (m2W : PySem.W.keepIn K (.ref CW) = true)
    (aCM : PySem.W.nsIn K mainGlobals "TooMany" = some (some (.ref CM)))
    (aM : PySem.W.findIn K (.ref CM) "__init__" = some (some (.ref fM)))
    (lM : K.lookup fM = some ⟨ocM, odM, .func (PySem.W.fnOf "__init__" "TooMany.__init__" (defArgs s_TooMany_init) (defBody s_TooMany_init) (defScope s_TooMany_init) .none kVM dcM pmM anM cdM ctM), slM⟩)
    (cM : PySem.W.codeIn K cdM "TooMany.__init__" = true)
    (kM : PySem.W.keepIn K (.ref fM) = true)
    (nM1 : PySem.W.findIn K (.ref CM) "what" = some none)
    (nM2 : PySem.W.findIn K (.ref CM) "many" = some none)
    (nM3 : PySem.W.findIn K (.ref CM) "most" = some none)
    (g4M : PySem.W.findIn K (.ref CM) "__setattr__" = some (some (.builtin "object.__setattr__")))
    (m2M : PySem.W.keepIn K (.ref CM) = true)
    (aCT : PySem.W.nsIn K mainGlobals "BadTree" = some (some (.ref CT)))
    (aT : PySem.W.findIn K (.ref CT) "__init__" = some (some (.ref fT)))
    (lT : K.lookup fT = some ⟨ocT, odT, .func (PySem.W.fnOf "__init__" "BadTree.__init__" (defArgs s_BadTree_init) (defBody s_BadTree_init) (defScope s_BadTree_init) .none kVT dcT pmT anT cdT ctT), slT⟩)
    (cT : PySem.W.codeIn K cdT "BadTree.__init__" = true)
    (kT : PySem.W.keepIn K (.ref fT) = true)
    (nT1 : PySem.W.findIn K (.ref CT) "state" = some none)
    (nT2 : PySem.W.findIn K (.ref CT) "node" = some none)
    (g4T : PySem.W.findIn K (.ref CT) "__setattr__" = some (some (.builtin "object.__setattr__")))
    (m2T : PySem.W.keepIn K (.ref CT) = true)
    (iS : PySem.W.isFn K (.ref fS) = true)
    (m1S : PySem.W.makesIn K CS = true)
    (g1S : PySem.W.plainGet K CS Str.empty = true)
    (g2S : PySem.W.hasDictIn K CS = true)
    (g3S : PySem.W.plainOver K CS = true)
    (aC0 : PySem.W.nsIn K mainGlobals "SkipsError" = some (some (.ref C0)))
    (r1 : PySem.W.readsIn K C0 (.type "type") = true)
    (r2 : PySem.W.specialIn K (.ref C0) "__getattribute__" = some (some (.builtin "type.__getattribute__")))
    (r3 : PySem.W.findCls K (.ref C0) (.type "type") "__init__" = some (.val (.builtin "ValueError.__init__")))
    (s1 : PySem.W.isClsIn K C0 = true)
    (s2 : PySem.W.typeIn K (.ref C0) = some (.type "type"))
    (s3 : PySem.W.specialIn K (.builtin "object.__class__") "__get__" = some (some (.builtin "getset_descriptor.__get__")))
    (s4 : PySem.W.takesIn K (.builtin "object.__class__") = some true)
    (o1L : K.lookup CL = some (excClassObj nmL qL CL NL bsL bmL true snL suL abL colL ddL k0L k1L k2L k3L k5L "ValueError.__new__"))
    (o2L : PySem.HandSPX.refsVE bmL = true)
    (o3L : PySem.W.subIn K (.ref CL) (.type "BaseException") = some true)
    (o4L : PySem.W.typeIn K (.ref CL) = some (.type "type"))
    (tL : PySem.W.typeIn K (.ref fL) = some (.type "function"))
    (x1L : PySem.W.findIn K (.ref CL) "__getattribute__" = some (some (.builtin "BaseException.__getattribute__")))
    (x2L : PySem.W.findIn K (.ref CL) "__getattr__" = some none)
    (x3L : PySem.W.hasDictIn K CL = true)
    (e1L : PySem.W.findIn K (.ref CL) "__class__" = some (some (.builtin "object.__class__")))
    (e2L : PySem.W.mroIn K CL (.type "object") = some true)
    (p1L : PySem.W.subIn K (.ref CL) (.ref C0) = some true)
    (p2L : PySem.W.isClsIn K CL = true)
    (o1W : K.lookup CW = some (excClassObj nmW qW CW NW bsW bmW true snW suW abW colW ddW k0W k1W k2W k3W k5W "ValueError.__new__"))
    (o2W : PySem.HandSPX.refsVE bmW = true)
    (o3W : PySem.W.subIn K (.ref CW) (.type "BaseException") = some true)
    (o4W : PySem.W.typeIn K (.ref CW) = some (.type "type"))
    (tW : PySem.W.typeIn K (.ref fW) = some (.type "function"))
    (x1W : PySem.W.findIn K (.ref CW) "__getattribute__" = some (some (.builtin "BaseException.__getattribute__")))
    (x2W : PySem.W.findIn K (.ref CW) "__getattr__" = some none)
    (x3W : PySem.W.hasDictIn K CW = true)
    (e1W : PySem.W.findIn K (.ref CW) "__class__" = some (some (.builtin "object.__class__")))
    (e2W : PySem.W.mroIn K CW (.type "object") = some true)
    (p1W : PySem.W.subIn K (.ref CW) (.ref C0) = some true)
    (p2W : PySem.W.isClsIn K CW = true)
    (o1M : K.lookup CM = some (excClassObj nmM qM CM NM bsM bmM true snM suM abM colM ddM k0M k1M k2M k3M k5M "ValueError.__new__"))
    (o2M : PySem.HandSPX.refsVE bmM = true)
    (o3M : PySem.W.subIn K (.ref CM) (.type "BaseException") = some true)
    (o4M : PySem.W.typeIn K (.ref CM) = some (.type "type"))
    (tM : PySem.W.typeIn K (.ref fM) = some (.type "function"))
    (x1M : PySem.W.findIn K (.ref CM) "__getattribute__" = some (some (.builtin "BaseException.__getattribute__")))
    (x2M : PySem.W.findIn K (.ref CM) "__getattr__" = some none)
    (x3M : PySem.W.hasDictIn K CM = true)
    (e1M : PySem.W.findIn K (.ref CM) "__class__" = some (some (.builtin "object.__class__")))
    (e2M : PySem.W.mroIn K CM (.type "object") = some true)
    (p1M : PySem.W.subIn K (.ref CM) (.ref C0) = some true)
    (p2M : PySem.W.isClsIn K CM = true)
    (o1T : K.lookup CT = some (excClassObj nmT qT CT NT bsT bmT true snT suT abT colT ddT k0T k1T k2T k3T k5T "ValueError.__new__"))
    (o2T : PySem.HandSPX.refsVE bmT = true)
    (o3T : PySem.W.subIn K (.ref CT) (.type "BaseException") = some true)
    (o4T : PySem.W.typeIn K (.ref CT) = some (.type "type"))
    (tT : PySem.W.typeIn K (.ref fT) = some (.type "function"))
    (x1T : PySem.W.findIn K (.ref CT) "__getattribute__" = some (some (.builtin "BaseException.__getattribute__")))
    (x2T : PySem.W.findIn K (.ref CT) "__getattr__" = some none)
    (x3T : PySem.W.hasDictIn K CT = true)
    (e1T : PySem.W.findIn K (.ref CT) "__class__" = some (some (.builtin "object.__class__")))
    (e2T : PySem.W.mroIn K CT (.type "object") = some true)
    (p1T : PySem.W.subIn K (.ref CT) (.ref C0) = some true)
    (p2T : PySem.W.isClsIn K CT = true)
    (yLL : PySem.W.subIn K (.ref CL) (.ref CL) = some true)
    (yWL : PySem.W.subIn K (.ref CW) (.ref CL) = some false)
    (yWW : PySem.W.subIn K (.ref CW) (.ref CW) = some true)
    (yML : PySem.W.subIn K (.ref CM) (.ref CL) = some false)
    (yMW : PySem.W.subIn K (.ref CM) (.ref CW) = some false)
    (yMM : PySem.W.subIn K (.ref CM) (.ref CM) = some true)
    (yTL : PySem.W.subIn K (.ref CT) (.ref CL) = some false)
    (yTW : PySem.W.subIn K (.ref CT) (.ref CW) = some false)
    (yTM : PySem.W.subIn K (.ref CT) (.ref CM) = some false)
    (yTT : PySem.W.subIn K (.ref CT) (.ref CT) = some true)
    (v0 : PySem.W.nsIn K mainGlobals "DEEPEST" = some (some (.int 40 t0)))
    (v1 : PySem.W.nsIn K mainGlobals "MOST_WIDTH" = some (some (.int 8 t1)))
    (v2 : PySem.W.nsIn K mainGlobals "MOST_STATES" = some (some (.int 64 t2)))
    (v3 : PySem.W.nsIn K mainGlobals "MOST_NODES" = some (some (.int 3000 t3)))
    (z0 : PySem.W.nsIn K mainGlobals "len" = some none)
    (z1 : PySem.W.nsIn K mainGlobals "int" = some none)
    (z2 : PySem.W.nsIn K mainGlobals "bool" = some none)
    (z3 : PySem.W.nsIn K mainGlobals "abs" = some none)
    (z4 : PySem.W.nsIn K mainGlobals "min" = some none)
    (z5 : PySem.W.nsIn K mainGlobals "list" = some none)
    (z6 : PySem.W.nsIn K mainGlobals "all" = some none)
    (z7 : PySem.W.nsIn K mainGlobals "range" = some none)
    (z8 : PySem.W.nsIn K mainGlobals "isinstance" = some none)
    (z9 : PySem.W.nsIn K mainGlobals "str" = some none)
    (z10 : PySem.W.nsIn K mainGlobals "set" = some none)
    (z11 : PySem.W.nsIn K mainGlobals "tuple" = some none)
    (z12 : PySem.W.nsIn K mainGlobals "dict" = some none)
    (z13 : PySem.W.nsIn K mainGlobals "enumerate" = some none)
    (z14 : PySem.W.nsIn K mainGlobals "reversed" = some none)
    (z15 : PySem.W.nsIn K mainGlobals "sum" = some none)
    (z16 : PySem.W.nsIn K mainGlobals "repr" = some none) :
    ∃ fd : FuncData, (∀ (s : Shared) (v : Value), BindsTo s fd ⟨[v], []⟩ [("_law_script", v)]) ∧ ∀ base : Heap, K.In base → base.Ns mainGlobals mg → GD.Gd l.prog w K mg base 46 fa fd ["_law_script"] (spLaw K) := by
  have e := hfa.symm.trans (PySem.W.mg_of X G a1)
  cases e
  have F1 := fun_mk (st := s_law) l1 c1 k1
  have F2 := fun_mk (st := s_lpen) l2 c2 k2
  have b2 := F2.binds (ps := ["_law_script"]) fun _ _ _ _ _ _ us hl => match us, hl with | [_], _ => rfl
  have F3 := fun_mk (st := s_ldraw) l3 c3 k3
  have b3 := F3.binds (ps := ["_law_pen_here", "_law_many"]) fun _ _ _ _ _ _ us hl => match us, hl with | [_, _], _ => rfl
  have F4 := fun_mk (st := s_lpick) l4 c4 k4
  have b4 := F4.binds (ps := ["_law_pen_here", "_law_some"]) fun _ _ _ _ _ _ us hl => match us, hl with | [_, _], _ => rfl
  have F5 := fun_mk (st := s_lletters) l5 c5 k5
  have b5 := F5.binds (ps := ["_law_pen_here"]) fun _ _ _ _ _ _ us hl => match us, hl with | [_], _ => rfl
  have F6 := fun_mk (st := s_is_list) l6 c6 k6
  have b6 := F6.binds (ps := ["value"]) fun _ _ _ _ _ _ us hl => match us, hl with | [_], _ => rfl
  have F7 := fun_mk (st := s_is_integer) l7 c7 k7
  have b7 := F7.binds (ps := ["value"]) fun _ _ _ _ _ _ us hl => match us, hl with | [_], _ => rfl
  have F8 := fun_mk (st := s_is_whole) l8 c8 k8
  have b8 := F8.binds (ps := ["value", "low", "high"]) fun _ _ _ _ _ _ us hl => match us, hl with | [_, _, _], _ => rfl
  have F9 := fun_mk (st := s_are_letters) l9 c9 k9
  have b9 := F9.binds (ps := ["value"]) fun _ _ _ _ _ _ us hl => match us, hl with | [_], _ => rfl
  have F10 := fun_mk (st := s_is_part) l10 c10 k10
  have b10 := F10.binds (ps := ["part", "letters", "width", "states"]) fun _ _ _ _ _ _ us hl => match us, hl with | [_, _, _, _], _ => rfl
  have F11 := fun_mk (st := s_within) l11 c11 k11
  have b11 := F11.binds (ps := ["part"]) fun _ _ _ _ _ _ us hl => match us, hl with | [_], _ => rfl
  have F12 := fun_mk (st := s_first_wrong) l12 c12 k12
  have b12 := F12.binds (ps := ["tree", "letters", "width", "states"]) fun _ _ _ _ _ _ us hl => match us, hl with | [_, _, _, _], _ => rfl
  have F13 := fun_mk (st := s_all_parts) l13 c13 k13
  have b13 := F13.binds (ps := ["tree"]) fun _ _ _ _ _ _ us hl => match us, hl with | [_], _ => rfl
  have F14 := fun_mk (st := s_renamed) l14 c14 k14
  have b14 := F14.binds (ps := ["tree", "names"]) fun _ _ _ _ _ _ us hl => match us, hl with | [_, _], _ => rfl
  have F15 := fun_mk (st := s_kept) l15 c15 k15
  have b15 := F15.binds (ps := ["value"]) fun _ _ _ _ _ _ us hl => match us, hl with | [_], _ => rfl
  have F16 := fun_mk (st := s_ltree) l16 c16 k16
  have b16 := F16.binds (ps := ["_law_pen_here", "_law_letters_here", "_law_width", "_law_states", "_law_depth"]) fun _ _ _ _ _ _ us hl => match us, hl with | [_, _, _, _, _], _ => rfl
  have F17 := fun_mk (st := s_ltrees) l17 c17 k17
  have b17 := F17.binds (ps := ["_law_pen_here", "_law_letters_here", "_law_width", "_law_many", "_law_depth"]) fun _ _ _ _ _ _ us hl => match us, hl with | [_, _, _, _, _], _ => rfl
  have F18 := fun_mk (st := s_lis_within) l18 c18 k18
  have b18 := F18.binds (ps := ["_law_value", "_law_low", "_law_high"]) fun _ _ _ _ _ _ us hl => match us, hl with | [_, _, _], _ => rfl
  have F19 := fun_mk (st := s_lis_head) l19 c19 k19
  have b19 := F19.binds (ps := ["_law_value", "_law_world"]) fun _ _ _ _ _ _ us hl => match us, hl with | [_, _], _ => rfl
  have F20 := fun_mk (st := s_lfirst) l20 c20 k20
  have b20 := F20.binds (ps := ["_law_state", "_law_world"]) fun _ _ _ _ _ _ us hl => match us, hl with | [_, _], _ => rfl
  have F21 := fun_mk (st := s_ldue) l21 c21 k21
  have b21 := F21.binds (ps := ["_law_letters_here", "_law_width", "_law_states"]) fun _ _ _ _ _ _ us hl => match us, hl with | [_, _, _], _ => rfl
  have F22 := fun_mk (st := s_lbent) l22 c22 k22
  have b22 := F22.binds (ps := ["_law_pen_here", "_law_tree_here", "_law_width", "_law_states"]) fun _ _ _ _ _ _ us hl => match us, hl with | [_, _, _, _], _ => rfl
  have F23 := fun_mk (st := s_lfull) l23 c23 k23
  have b23 := F23.binds (ps := ["_law_letters_here", "_law_depth"]) fun _ _ _ _ _ _ us hl => match us, hl with | [_, _], _ => rfl
  have F24 := fun_mk (st := s_lmet) l24 c24 k24
  have b24 := F24.binds (ps := ["_law_letters_here", "_law_width", "_law_states"]) fun _ _ _ _ _ _ us hl => match us, hl with | [_, _, _], _ => rfl
  have FS := fun_mk (x := "__init__") (qual := "Searcher.__init__") (st := s_Searcher_init) lS cS kS
  have bS := FS.binds (ps := ["self", "letters", "width", "states"]) fun _ _ _ _ _ _ us hl => match us, hl with | [_, _, _, _], _ => rfl
  have mS := PySem.W.mg_of X G aCS
  have FL := fun_mk (x := "__init__") (qual := "BadLetters.__init__") (st := s_BadLetters_init) lL cL kL
  have bL := FL.binds (ps := ["self", "letters"]) fun _ _ _ _ _ _ us hl => match us, hl with | [_, _], _ => rfl
  have mL := PySem.W.mg_of X G aCL
  have FW := fun_mk (x := "__init__") (qual := "BadWidth.__init__") (st := s_BadWidth_init) lW cW kW
  have bW := FW.binds (ps := ["self", "width"]) fun _ _ _ _ _ _ us hl => match us, hl with | [_, _], _ => rfl
  have mW := PySem.W.mg_of X G aCW
  have FM := fun_mk (x := "__init__") (qual := "TooMany.__init__") (st := s_TooMany_init) lM cM kM
  have bM := FM.binds (ps := ["self", "what", "many", "most"]) fun _ _ _ _ _ _ us hl => match us, hl with | [_, _, _, _], _ => rfl
  have mM := PySem.W.mg_of X G aCM
  have FT := fun_mk (x := "__init__") (qual := "BadTree.__init__") (st := s_BadTree_init) lT cT kT
  have bT := FT.binds (ps := ["self", "state", "node"]) fun _ _ _ _ _ _ us hl => match us, hl with | [_, _, _], _ => rfl
  have mT := PySem.W.mg_of X G aCT
  have T : Tx mg := { len := PySem.W.mg_none_of X G z0, int := PySem.W.mg_none_of X G z1, bool := PySem.W.mg_none_of X G z2, abs := PySem.W.mg_none_of X G z3, min := PySem.W.mg_none_of X G z4, list := PySem.W.mg_none_of X G z5, all := PySem.W.mg_none_of X G z6, range := PySem.W.mg_none_of X G z7, isinstance := PySem.W.mg_none_of X G z8, str := PySem.W.mg_none_of X G z9, set := PySem.W.mg_none_of X G z10, tuple := PySem.W.mg_none_of X G z11, dict := PySem.W.mg_none_of X G z12, enumerate := PySem.W.mg_none_of X G z13, reversed := PySem.W.mg_none_of X G z14, sum := PySem.W.mg_none_of X G z15, k_DEEPEST := _, m_DEEPEST := PySem.W.mg_of X G v0, k_MOST_WIDTH := _, m_MOST_WIDTH := PySem.W.mg_of X G v1, k_MOST_STATES := _, m_MOST_STATES := PySem.W.mg_of X G v2, k_MOST_NODES := _, m_MOST_NODES := PySem.W.mg_of X G v3 }
  have B0 : BaseC K mg C0 := ⟨PySem.W.mg_of X G aC0, ⟨r1, r2⟩, r3⟩
  have EL : ErrC K CL fL C0 := ⟨⟨⟨_, _, _, _, _, _, _, _, _, _, _, _, _, _, _, o1L, o2L⟩, g4L, o3L, o4L, m2L⟩, aL, tL, ⟨x1L, x2L, o3L, x3L⟩, ⟨x1L, x2L, o3L, x3L, e1L, s3, s4, e2L⟩, kit_mk (.inr rfl) s1 s2 p1L⟩
  have EW : ErrC K CW fW C0 := ⟨⟨⟨_, _, _, _, _, _, _, _, _, _, _, _, _, _, _, o1W, o2W⟩, g4W, o3W, o4W, m2W⟩, aW, tW, ⟨x1W, x2W, o3W, x3W⟩, ⟨x1W, x2W, o3W, x3W, e1W, s3, s4, e2W⟩, kit_mk (.inr rfl) s1 s2 p1W⟩
  have EM : ErrC K CM fM C0 := ⟨⟨⟨_, _, _, _, _, _, _, _, _, _, _, _, _, _, _, o1M, o2M⟩, g4M, o3M, o4M, m2M⟩, aM, tM, ⟨x1M, x2M, o3M, x3M⟩, ⟨x1M, x2M, o3M, x3M, e1M, s3, s4, e2M⟩, kit_mk (.inr rfl) s1 s2 p1M⟩
  have ET : ErrC K CT fT C0 := ⟨⟨⟨_, _, _, _, _, _, _, _, _, _, _, _, _, _, _, o1T, o2T⟩, g4T, o3T, o4T, m2T⟩, aT, tT, ⟨x1T, x2T, o3T, x3T⟩, ⟨x1T, x2T, o3T, x3T, e1T, s3, s4, e2T⟩, kit_mk (.inr rfl) s1 s2 p1T⟩
  have MKS : Mk K CS fS := ⟨m1S, aS, iS, m2S⟩
  have S : SC K CS := ⟨⟨g1S, g2S, g3S, g4S⟩, nS1, nS2, nS3, nS4⟩
  have GS : Gs mg CL CW CM CT C0 := ⟨mL, mW, mM, mT, PySem.W.mg_of X G aC0⟩
  have NF : NoF K CL CW CM CT := ⟨nL1, nW1, nM1, nM2, nM3, nT1, nT2⟩
  have EXM : Exm K CL CW CM CT := ⟨exm_mk o3L p2L o4L yLL, exm_mk o3L p2L o4L yWL, exm_mk o3W p2W o4W yWW, exm_mk o3L p2L o4L yML, exm_mk o3W p2W o4W yMW, exm_mk o3M p2M o4M yMM, exm_mk o3L p2L o4L yTL, exm_mk o3W p2W o4W yTW, exm_mk o3M p2M o4M yTM, exm_mk o3T p2T o4T yTT⟩
  refine ⟨PySem.W.fnOf "law" "law" (defArgs s_law) (defBody s_law) (defScope s_law) .none kV1 dc1 pm1 an1 cd1 ct1, fun s v => .of_eq rfl, fun base _ _ => ?_⟩
  have c_lpen : Kn l.prog w K mg base "_law_pen" ["_law_script"] 1 (spPen K) := ⟨f2, _, ok_pen F2 T , PySem.W.mg_of X G a2, F2.kp, b2⟩
  have c_ldraw : Kn l.prog w K mg base "_law_draw" ["_law_pen_here", "_law_many"] 1 spDraw := ⟨f3, _, ok_draw F3 T , PySem.W.mg_of X G a3, F3.kp, b3⟩
  have c_pickL : Kn l.prog w K mg base "_law_pick" ["_law_pen_here", "_law_some"] 2 spPickL := ⟨f4, _, ok_pickL F4 T c_ldraw, PySem.W.mg_of X G a4, F4.kp, b4⟩
  have c_lletters : Kn l.prog w K mg base "_law_letters" ["_law_pen_here"] 3 spLetters := ⟨f5, _, ok_letters F5 T c_ldraw c_pickL, PySem.W.mg_of X G a5, F5.kp, b5⟩
  have c_is_list : Kn l.prog w K mg base "is_list" ["value"] 1 spIsLG := ⟨f6, _, ok_isLG F6 T , PySem.W.mg_of X G a6, F6.kp, b6⟩
  have c_is_integer : Kn l.prog w K mg base "is_integer" ["value"] 1 spIsIG := ⟨f7, _, ok_isIG F7 T , PySem.W.mg_of X G a7, F7.kp, b7⟩
  have c_is_whole : Kn l.prog w K mg base "is_whole" ["value", "low", "high"] 2 spWhG := ⟨f8, _, ok_whG F8 T c_is_integer, PySem.W.mg_of X G a8, F8.kp, b8⟩
  have c_are_letters : Kn l.prog w K mg base "are_letters" ["value"] 1 (spAreG K) := ⟨f9, _, ok_areG F9 T , PySem.W.mg_of X G a9, F9.kp, b9⟩
  have c_is_part : Kn l.prog w K mg base "_is_part" ["part", "letters", "width", "states"] 3 spPartG := ⟨f10, _, ok_partG F10 T c_is_list c_is_whole, PySem.W.mg_of X G a10, F10.kp, b10⟩
  have c_within : Kn l.prog w K mg base "_within" ["part"] 1 spWithG := ⟨f11, _, ok_withG F11 T , PySem.W.mg_of X G a11, F11.kp, b11⟩
  have c_first_wrong : Kn l.prog w K mg base "first_wrong" ["tree", "letters", "width", "states"] 4 spFWG := ⟨f12, _, ok_fwG F12 T c_is_part c_within, PySem.W.mg_of X G a12, F12.kp, b12⟩
  have c_all_parts : Kn l.prog w K mg base "all_parts" ["tree"] 2 spAllG := ⟨f13, _, ok_allG F13 T c_within, PySem.W.mg_of X G a13, F13.kp, b13⟩
  have c_renamed : Kn l.prog w K mg base "renamed" ["tree", "names"] 41 (spRenG 40) := ⟨f14, _, ok_renG F14 T (PySem.W.mg_of X G a14) b14 40, PySem.W.mg_of X G a14, F14.kp, b14⟩
  have c_kept0 : Kn l.prog w K mg base "_kept" ["value"] 1 spKf := ⟨f15, _, ok_kf F15 T , PySem.W.mg_of X G a15, F15.kp, b15⟩
  have c_kept : Kn l.prog w K mg base "_kept" ["value"] 2 spKept := ⟨f15, _, ok_kept F15 T c_kept0, PySem.W.mg_of X G a15, F15.kp, b15⟩
  have c_ltree : Kn l.prog w K mg base "_law_tree" ["_law_pen_here", "_law_letters_here", "_law_width", "_law_states", "_law_depth"] 6 (spTree 4) := ⟨f16, _, ok_tree F16 T (PySem.W.mg_of X G a16) b16 c_ldraw 4, PySem.W.mg_of X G a16, F16.kp, b16⟩
  have c_ltrees : Kn l.prog w K mg base "_law_trees" ["_law_pen_here", "_law_letters_here", "_law_width", "_law_many", "_law_depth"] 7 spTrees := ⟨f17, _, ok_trees F17 T c_ltree, PySem.W.mg_of X G a17, F17.kp, b17⟩
  have c_lis_within : Kn l.prog w K mg base "_law_is_within" ["_law_value", "_law_low", "_law_high"] 1 spLW := ⟨f18, _, ok_lw F18 T , PySem.W.mg_of X G a18, F18.kp, b18⟩
  have c_lis_head : Kn l.prog w K mg base "_law_is_head" ["_law_value", "_law_world"] 2 spLH := ⟨f19, _, ok_lh F19 T c_lis_within, PySem.W.mg_of X G a19, F19.kp, b19⟩
  have c_lfirst : Kn l.prog w K mg base "_law_first" ["_law_state", "_law_world"] 3 spLF := ⟨f20, _, ok_lfirst F20 T c_lis_head, PySem.W.mg_of X G a20, F20.kp, b20⟩
  have c_ldue : Kn l.prog w K mg base "_law_due" ["_law_letters_here", "_law_width", "_law_states"] 4 spDue := ⟨f21, _, ok_ldue F21 T c_lis_within c_lfirst, PySem.W.mg_of X G a21, F21.kp, b21⟩
  have c_lbent : Kn l.prog w K mg base "_law_bent" ["_law_pen_here", "_law_tree_here", "_law_width", "_law_states"] 18 (spBent 15) := ⟨f22, _, ok_bent F22 T (PySem.W.mg_of X G a22) b22 c_ldraw c_pickL 15, PySem.W.mg_of X G a22, F22.kp, b22⟩
  have c_lfull : Kn l.prog w K mg base "_law_full" ["_law_letters_here", "_law_depth"] 7 (spFull 6) := ⟨f23, _, ok_lfull F23 T (PySem.W.mg_of X G a23) b23 6, PySem.W.mg_of X G a23, F23.kp, b23⟩
  have IL := ok_BadLetters (P := l.prog) (w := w) (base := base) FL T B0 EL.o nL1 c_kept
  have IW := ok_BadWidth (P := l.prog) (w := w) (base := base) FW T B0 EW.o nW1 c_kept
  have IM := ok_TooMany (P := l.prog) (w := w) (base := base) FM T B0 EM.o nM1 nM2 nM3 c_kept
  have IT := ok_BadTree (P := l.prog) (w := w) (base := base) FT T B0 ET.o nT1 nT2 c_kept
  have FS := ok_initG (P := l.prog) (w := w) (base := base) FS T S EL EW EM ET mL mW mM mT IL bL IW bW IM bM IT bT c_are_letters c_is_whole c_is_list c_first_wrong c_all_parts c_renamed
  have c_lmet : Kn l.prog w K mg base "_law_met" ["_law_letters_here", "_law_width", "_law_states"] 44 (spMet K) := ⟨f24, _, ok_lmet F24 T EL EW EM ET GS NF EXM MKS FS mS bS, PySem.W.mg_of X G a24, F24.kp, b24⟩
  exact ok_law F1 T (PySem.W.mg_none_of X G z16) c_lpen c_ldraw c_pickL c_lletters c_ltrees c_lmet c_ldue c_lbent c_lfull
end Law
open PySem PySem.W PyProof.Rows
set_option maxHeartbeats 0 in
theorem PySem.Challenge.cw_wordskips_k04_searchers_refused_holds : PySem.Challenge.rw_wordskips_k04_searchers_refused.Holds := by
  w_on; o_law; k_head; (case hw => w_witness2)
  k_fill
  refine GD.walkG (l := PySem.Challenge.rw_wordskips_k04_searchers_refused) (n := 63) (k := 46) (x := "_law_script") (sp := fun w => Law.spLaw _) rfl (by decide) rfl ⟨rfl, by decide, by decide⟩ (fun w h Y => PySem.W.kIn_of Y) ?F (fun _ _ a ns hl hS => ⟨a, ns, rfl, hS, hl, fun _ => rfl⟩)
  case F =>
    intro w mg fa h KX G hmg
    refine' Law.all_mk KX G hmg (a1 := ?a1) (l1 := ?l1) (c1 := ?c1) (k1 := ?k1) (a2 := ?a2) (l2 := ?l2) (c2 := ?c2) (k2 := ?k2) (a3 := ?a3) (l3 := ?l3) (c3 := ?c3) (k3 := ?k3) (a4 := ?a4) (l4 := ?l4) (c4 := ?c4) (k4 := ?k4) (a5 := ?a5) (l5 := ?l5) (c5 := ?c5) (k5 := ?k5) (a6 := ?a6) (l6 := ?l6) (c6 := ?c6) (k6 := ?k6) (a7 := ?a7) (l7 := ?l7) (c7 := ?c7) (k7 := ?k7) (a8 := ?a8) (l8 := ?l8) (c8 := ?c8) (k8 := ?k8) (a9 := ?a9) (l9 := ?l9) (c9 := ?c9) (k9 := ?k9) (a10 := ?a10) (l10 := ?l10) (c10 := ?c10) (k10 := ?k10) (a11 := ?a11) (l11 := ?l11) (c11 := ?c11) (k11 := ?k11) (a12 := ?a12) (l12 := ?l12) (c12 := ?c12) (k12 := ?k12) (a13 := ?a13) (l13 := ?l13) (c13 := ?c13) (k13 := ?k13) (a14 := ?a14) (l14 := ?l14) (c14 := ?c14) (k14 := ?k14) (a15 := ?a15) (l15 := ?l15) (c15 := ?c15) (k15 := ?k15) (a16 := ?a16) (l16 := ?l16) (c16 := ?c16) (k16 := ?k16) (a17 := ?a17) (l17 := ?l17) (c17 := ?c17) (k17 := ?k17) (a18 := ?a18) (l18 := ?l18) (c18 := ?c18) (k18 := ?k18) (a19 := ?a19) (l19 := ?l19) (c19 := ?c19) (k19 := ?k19) (a20 := ?a20) (l20 := ?l20) (c20 := ?c20) (k20 := ?k20) (a21 := ?a21) (l21 := ?l21) (c21 := ?c21) (k21 := ?k21) (a22 := ?a22) (l22 := ?l22) (c22 := ?c22) (k22 := ?k22) (a23 := ?a23) (l23 := ?l23) (c23 := ?c23) (k23 := ?k23) (a24 := ?a24) (l24 := ?l24) (c24 := ?c24) (k24 := ?k24) (aCS := ?aCS) (aS := ?aS) (lS := ?lS) (cS := ?cS) (kS := ?kS) (nS1 := ?nS1) (nS2 := ?nS2) (nS3 := ?nS3) (nS4 := ?nS4) (g4S := ?g4S) (m2S := ?m2S) (aCL := ?aCL) (aL := ?aL) (lL := ?lL) (cL := ?cL) (kL := ?kL) (nL1 := ?nL1) (g4L := ?g4L) (m2L := ?m2L) (aCW := ?aCW) (aW := ?aW) (lW := ?lW) (cW := ?cW) (kW := ?kW) (nW1 := ?nW1) (g4W := ?g4W) (m2W := ?m2W) (aCM := ?aCM) (aM := ?aM) (lM := ?lM) (cM := ?cM) (kM := ?kM) (nM1 := ?nM1) (nM2 := ?nM2) (nM3 := ?nM3) (g4M := ?g4M) (m2M := ?m2M) (aCT := ?aCT) (aT := ?aT) (lT := ?lT) (cT := ?cT) (kT := ?kT) (nT1 := ?nT1) (nT2 := ?nT2) (g4T := ?g4T) (m2T := ?m2T) (iS := ?iS) (m1S := ?m1S) (g1S := ?g1S) (g2S := ?g2S) (g3S := ?g3S) (aC0 := ?aC0) (r1 := ?r1) (r2 := ?r2) (r3 := ?r3) (s1 := ?s1) (s2 := ?s2) (s3 := ?s3) (s4 := ?s4) (o1L := ?o1L) (o2L := ?o2L) (o3L := ?o3L) (o4L := ?o4L) (tL := ?tL) (x1L := ?x1L) (x2L := ?x2L) (x3L := ?x3L) (e1L := ?e1L) (e2L := ?e2L) (p1L := ?p1L) (p2L := ?p2L) (o1W := ?o1W) (o2W := ?o2W) (o3W := ?o3W) (o4W := ?o4W) (tW := ?tW) (x1W := ?x1W) (x2W := ?x2W) (x3W := ?x3W) (e1W := ?e1W) (e2W := ?e2W) (p1W := ?p1W) (p2W := ?p2W) (o1M := ?o1M) (o2M := ?o2M) (o3M := ?o3M) (o4M := ?o4M) (tM := ?tM) (x1M := ?x1M) (x2M := ?x2M) (x3M := ?x3M) (e1M := ?e1M) (e2M := ?e2M) (p1M := ?p1M) (p2M := ?p2M) (o1T := ?o1T) (o2T := ?o2T) (o3T := ?o3T) (o4T := ?o4T) (tT := ?tT) (x1T := ?x1T) (x2T := ?x2T) (x3T := ?x3T) (e1T := ?e1T) (e2T := ?e2T) (p1T := ?p1T) (p2T := ?p2T) (yLL := ?yLL) (yWL := ?yWL) (yWW := ?yWW) (yML := ?yML) (yMW := ?yMW) (yMM := ?yMM) (yTL := ?yTL) (yTW := ?yTW) (yTM := ?yTM) (yTT := ?yTT) (v0 := ?v0) (v1 := ?v1) (v2 := ?v2) (v3 := ?v3) (z0 := ?z0) (z1 := ?z1) (z2 := ?z2) (z3 := ?z3) (z4 := ?z4) (z5 := ?z5) (z6 := ?z6) (z7 := ?z7) (z8 := ?z8) (z9 := ?z9) (z10 := ?z10) (z11 := ?z11) (z12 := ?z12) (z13 := ?z13) (z14 := ?z14) (z15 := ?z15) (z16 := ?z16)
    (case a1 => k_is); (case l1 => k_is); (case c1 => k_is); (case k1 => k_is); (case a2 => k_is); (case l2 => k_is); (case c2 => k_is); (case k2 => k_is); (case a3 => k_is); (case l3 => k_is); (case c3 => k_is); (case k3 => k_is); (case a4 => k_is); (case l4 => k_is); (case c4 => k_is); (case k4 => k_is); (case a5 => k_is); (case l5 => k_is); (case c5 => k_is); (case k5 => k_is); (case a6 => k_is); (case l6 => k_is); (case c6 => k_is); (case k6 => k_is); (case a7 => k_is); (case l7 => k_is); (case c7 => k_is); (case k7 => k_is); (case a8 => k_is); (case l8 => k_is); (case c8 => k_is); (case k8 => k_is); (case a9 => k_is); (case l9 => k_is); (case c9 => k_is); (case k9 => k_is); (case a10 => k_is); (case l10 => k_is); (case c10 => k_is); (case k10 => k_is); (case a11 => k_is); (case l11 => k_is); (case c11 => k_is); (case k11 => k_is); (case a12 => k_is); (case l12 => k_is); (case c12 => k_is); (case k12 => k_is); (case a13 => k_is); (case l13 => k_is); (case c13 => k_is); (case k13 => k_is); (case a14 => k_is); (case l14 => k_is); (case c14 => k_is); (case k14 => k_is); (case a15 => k_is); (case l15 => k_is); (case c15 => k_is); (case k15 => k_is); (case a16 => k_is); (case l16 => k_is); (case c16 => k_is); (case k16 => k_is); (case a17 => k_is); (case l17 => k_is); (case c17 => k_is); (case k17 => k_is); (case a18 => k_is); (case l18 => k_is); (case c18 => k_is); (case k18 => k_is); (case a19 => k_is); (case l19 => k_is); (case c19 => k_is); (case k19 => k_is); (case a20 => k_is); (case l20 => k_is); (case c20 => k_is); (case k20 => k_is); (case a21 => k_is); (case l21 => k_is); (case c21 => k_is); (case k21 => k_is); (case a22 => k_is); (case l22 => k_is); (case c22 => k_is); (case k22 => k_is); (case a23 => k_is); (case l23 => k_is); (case c23 => k_is); (case k23 => k_is); (case a24 => k_is); (case l24 => k_is); (case c24 => k_is); (case k24 => k_is); (case aCS => k_is); (case aS => k_is); (case lS => k_is); (case cS => k_is); (case kS => k_is); (case nS1 => k_is); (case nS2 => k_is); (case nS3 => k_is); (case nS4 => k_is); (case g4S => k_is); (case m2S => k_is); (case aCL => k_is); (case aL => k_is); (case lL => k_is); (case cL => k_is); (case kL => k_is); (case nL1 => k_is); (case g4L => k_is); (case m2L => k_is); (case aCW => k_is); (case aW => k_is); (case lW => k_is); (case cW => k_is); (case kW => k_is); (case nW1 => k_is); (case g4W => k_is); (case m2W => k_is); (case aCM => k_is); (case aM => k_is); (case lM => k_is); (case cM => k_is); (case kM => k_is); (case nM1 => k_is); (case nM2 => k_is); (case nM3 => k_is); (case g4M => k_is); (case m2M => k_is); (case aCT => k_is); (case aT => k_is); (case lT => k_is); (case cT => k_is); (case kT => k_is); (case nT1 => k_is); (case nT2 => k_is); (case g4T => k_is); (case m2T => k_is); (case iS => k_is); (case m1S => k_is); (case g1S => k_is); (case g2S => k_is); (case g3S => k_is); (case aC0 => k_is); (case r1 => k_is); (case r2 => k_is); (case r3 => k_is); (case s1 => k_is); (case s2 => k_is); (case s3 => k_is); (case s4 => k_is); (case o1L => k_is); (case o2L => rfl); (case o3L => k_is); (case o4L => k_is); (case tL => k_is); (case x1L => k_is); (case x2L => k_is); (case x3L => k_is); (case e1L => k_is); (case e2L => k_is); (case p1L => k_is); (case p2L => k_is); (case o1W => k_is); (case o2W => rfl); (case o3W => k_is); (case o4W => k_is); (case tW => k_is); (case x1W => k_is); (case x2W => k_is); (case x3W => k_is); (case e1W => k_is); (case e2W => k_is); (case p1W => k_is); (case p2W => k_is); (case o1M => k_is); (case o2M => rfl); (case o3M => k_is); (case o4M => k_is); (case tM => k_is); (case x1M => k_is); (case x2M => k_is); (case x3M => k_is); (case e1M => k_is); (case e2M => k_is); (case p1M => k_is); (case p2M => k_is); (case o1T => k_is); (case o2T => rfl); (case o3T => k_is); (case o4T => k_is); (case tT => k_is); (case x1T => k_is); (case x2T => k_is); (case x3T => k_is); (case e1T => k_is); (case e2T => k_is); (case p1T => k_is); (case p2T => k_is); (case yLL => k_is); (case yWL => k_is); (case yWW => k_is); (case yML => k_is); (case yMW => k_is); (case yMM => k_is); (case yTL => k_is); (case yTW => k_is); (case yTM => k_is); (case yTT => k_is); (case v0 => k_is); (case v1 => k_is); (case v2 => k_is); (case v3 => k_is); (case z0 => k_is); (case z1 => k_is); (case z2 => k_is); (case z3 => k_is); (case z4 => k_is); (case z5 => k_is); (case z6 => k_is); (case z7 => k_is); (case z8 => k_is); (case z9 => k_is); (case z10 => k_is); (case z11 => k_is); (case z12 => k_is); (case z13 => k_is); (case z14 => k_is); (case z15 => k_is); (case z16 => k_is)


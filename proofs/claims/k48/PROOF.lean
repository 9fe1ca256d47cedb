import PyProof.Rows.All
import Wide.All
import OpenK.AllK
import Wide.FinOn
import HandS.ForMost
import HandS.Evl
import KE.GoesZip
import PyProof.EnumMake
import HandS.Strs
import KE.GoesMore
import HandS.IsInst
import HandS.NoneIn
import HandS.Walk
import HandS.Conv
import HandS.TupAny
import HandS.DictComp
import HandS.Small
import HandS.More
import PyProof.EqAt
import PyProof.EqKinds
import PyProof.FactsAll.dict_1
import PyProof.FactsAll.str
import PyProof.FactsAll.subtypes_3
import HandS.Base
import HandS.Call
import HandS.List
import HandS.Dict
import PyProof.ReprReads
import PyProof.ReprRoads
import PyProof.ReprDict
import HandS.Exc
import HandS.ExcInit
import HandS.ExcField
import HandS.ExcIs
import HandS.TryOnly
import HandS.TryMany
import HandS.WordsExc
import HandS.ClsMeth
import HandS.MakeKwOnly
import HandS.MakeKw
import KE.KIndexOf
import HandS.Iter
import PyProof.NeKinds
import HandS.Lambda
import HandS.EndBits
import HandS.ExcOwn
import PyProof.ListStr
import KE.DataEq
import HandS.EndTab
import PySem.Challenge.RW_wordskips_k48_partials_and_moves
set_option Elab.async false
set_option linter.all false
set_option maxRecDepth 100000
set_option maxHeartbeats 4000000
namespace ZS
open PySem PySem.Spec PyProof.Rows L2

/-- two texts side by side: a new pair of signs at each turn -/
def ItzS (x y : Str) : It :=
  ⟨fun i _ => i < x.cps.size ∧ i < y.cps.size,
   fun i H v H' => ∃ T c d, v = .ref T ∧ H T = none ∧ H' = upd H T (.tup [.str ⟨#[c]⟩, .str ⟨#[d]⟩]) ∧ x.cps[i]? = some c ∧ y.cps[i]? = some d,
   fun i _ => i = min x.cps.size y.cps.size⟩
theorem drawsS {prog : Program} {w : World} {A : Around} (hh : A.handled = none) (it : Addr) (x : Str) (t : Tok) :
    Draws prog w A it [it] x.cps.size (fun i v => ∃ c u, x.cps[i]? = some c ∧ v = .str ⟨#[c]⟩ u) (fun i h => h.IsStrIter it (strIterType x) x t i) := by
  unfold strIterType
  cases x.cps.all (· < 128)
  · exact Draws.strWide hh it x t
  · exact Draws.strAscii hh it x t
def StZ (x y : Str) (t u : Tok) (z TI TO i1 i2 : Addr) (i : Nat) (h : Heap) : Prop :=
  IsZip h z TI TO .none ∧ IsTupOf2 h TI (.ref i1) (.ref i2) ∧ (∃ a1 a2, IsTupOf2 h TO a1 a2) ∧ h.IsStrIter i1 (strIterType x) x t i ∧ h.IsStrIter i2 (strIterType y) y u i
theorem walkS {prog : Program} {w : World} {A : Around} (hh : A.handled = none) {z TI TO i1 i2 : Addr} (S : ZipSep2 z TI TO i1 i2 [i1] [i2]) (x y : Str) (t u : Tok) :
    WalksT prog w A z (z :: TI :: TO :: ([i1] ++ [i2])) [z, TO, i1, i2] (min x.cps.size y.cps.size)
      (fun i vals => ∃ v1 v2, (∃ c u, x.cps[i]? = some c ∧ v1 = .str ⟨#[c]⟩ u) ∧ (∃ c u, y.cps[i]? = some c ∧ v2 = .str ⟨#[c]⟩ u) ∧ vals = #[v1, v2])
      (StZ x y t u z TI TO i1 i2)
      (fun i T h => IsZip h z TI TO (rawInt T) ∧ IsTupOf2 h TI (.ref i1) (.ref i2) ∧ (∃ a1 a2, IsTupOf2 h TO a1 a2) ∧ h.IsStrIter i1 (strIterType x) x t (i + 1) ∧ h.IsStrIter i2 (strIterType y) y u (i + 1) ∧ T ≠ z ∧ T ≠ TO ∧ T ≠ i1 ∧ T ≠ i2) :=
  WalksT.zipD2 S (drawsS (A := A.in1) hh i1 x t) (drawsS (A := A.in1) hh i2 y u)
theorem fp5 {z TI TO i1 i2 c : Addr} (h : c ∈ [z, TI, TO, i1, i2]) : c = z ∨ c = TI ∨ c = TO ∨ c = i1 ∨ c = i2 := by simpa using h
theorem turn_zipS {P : Program} {w : World} {K : PySem.W.Frag} {elts : List Expr} {kk : Nat} {tpos : Pos} {z TI TO i1 i2 : Addr} (S : ZipSep2 z TI TO i1 i2 [i1] [i2]) (x y : Str) (t u : Tok) :
    Turn P w K (.Tuple elts kk tpos) (ItzS x y) [z, TI, TO, i1, i2] z (StZ x y t u z TI TO i1 i2) where
  mem := List.mem_cons_self
  obj := fun i h st c hc => by
    obtain ⟨q1, q2, ⟨a1, a2, q3⟩, ⟨o1, e1, _, d1⟩, ⟨o2, e2, _, d2⟩⟩ := st
    rcases fp5 hc with q | q | q | q | q
    all_goals subst q
    · exact ⟨_, q1, fun v q => nomatch q⟩
    · exact ⟨_, q2, fun v q => nomatch q⟩
    · exact ⟨_, q3, fun v q => nomatch q⟩
    · exact ⟨o1, e1, fun v q => by rw [d1] at q; cases q⟩
    · exact ⟨o2, e2, fun v q => by rw [d2] at q; cases q⟩
  keep := fun i h h' st k => by
    obtain ⟨q1, q2, ⟨a1, a2, q3⟩, ⟨o1, e1, r1⟩, ⟨o2, e2, r2⟩⟩ := st
    exact ⟨k z (by simp) _ q1, k TI (by simp) _ q2, ⟨a1, a2, k TO (by simp) _ q3⟩, ⟨o1, k i1 (by simp) _ e1, r1⟩, ⟨o2, k i2 (by simp) _ e2, r2⟩⟩
  item := by
    intro X hP hw hK hc i pins s σ H E I hf st hg
    subst hP hw hK
    have W := walkS (prog := X.prog) (w := X.w) (A := X.A) (I.ok.hd hc) S x y t u
    have hlt : i < min x.cps.size y.cps.size := by
      have h1 := hg.1
      have h2 := hg.2
      omega
    refine W.item i s _ _ hlt st fun T vals h' tk hv hT hIs hm hk => ?_
    refine ⟨.ref T, rfl, ?_⟩
    refine W.go elts kk tpos i T { s with heap := h', toks := tk } _ _ hm fun h2 st2 hk2 => ?_
    obtain ⟨v1, v2, ⟨c, u1, hc1, rfl⟩, ⟨d, u2, hd1, rfl⟩, rfl⟩ := hv
    have ap : T ∉ [z, TO, i1, i2] := W.apart i T h' hm
    have up : ∀ b o, b ∉ [z, TO, i1, i2] → s.heap.get? b = some o → h2.get? b = some o := fun b o hb e => hk2 b o hb (hk b o hb e)
    have hT2 : h2.IsTuple T #[.str ⟨#[c]⟩ u1, .str ⟨#[d]⟩ u2] := hIs.at fun o e => hk2 T o ap e
    obtain ⟨oT, eT, cT, nT, dT⟩ := hT2
    have new : ObjOk X.prog X.w (upd H T (.tup [.str ⟨#[c]⟩, .str ⟨#[d]⟩])) h2 T (.tup [.str ⟨#[c]⟩, .str ⟨#[d]⟩]) :=
      ⟨by show 2 ≤ sizeLine; decide, [.str ⟨#[c]⟩ u1, .str ⟨#[d]⟩ u2], .cons ⟨u1, rfl⟩ (.cons ⟨u2, rfl⟩ .nil), ⟨oT, eT, cT, nT, dT⟩⟩
    have sub : ∀ b, b ∉ [z, TI, TO, i1, i2] → b ∉ [z, TO, i1, i2] := fun b hb hb2 => hb (by
      have q : b = z ∨ b = TO ∨ b = i1 ∨ b = i2 := by simpa using hb2
      rcases q with q | q | q | q <;> simp [q])
    have I1 := I.turnedNew (t' := tk) (ch := [z, TI, TO, i1, i2]) (fun b o hb e => up b o (sub b hb) e) hf hT new
    refine ⟨.ref T, _, I1, rfl, ⟨T, c, d, rfl, I.hok.fresh hT, rfl, hc1, hd1⟩, st2, fun b hb => ?_⟩
    have hlb : b < s.heap.objs.size := by
      obtain ⟨q1, q2, ⟨a1, a2, q3⟩, ⟨o1, e1, r1⟩, ⟨o2, e2, r2⟩⟩ := st
      rcases fp5 hb with q | q | q | q | q
      · rw [q]; exact Heap.lt_size q1
      · rw [q]; exact Heap.lt_size q2
      · rw [q]; exact Heap.lt_size q3
      · rw [q]; exact Heap.lt_size e1
      · rw [q]; exact Heap.lt_size e2
    rw [upd_ne (show b ≠ T from fun e => absurd hT (by rw [← e]; exact Nat.not_le.mpr hlb))]
    exact (hf b hb).1
  done := by
    intro X hP hw hK hc i pins s σ H E I hf st hg
    subst hP hw hK
    have W := walkS (prog := X.prog) (w := X.w) (A := X.A) (I.ok.hd hc) S x y t u
    have hg : i = min x.cps.size y.cps.size := hg
    subst hg
    refine W.done s _ _ st fun h' tk hk => ⟨rfl, ?_⟩
    refine I.turnedL (t' := tk) (ch := [z, TI, TO, i1, i2]) (fun b o hb e => hk b o (fun hb2 => hb ?_) e) hf
    have q : b = z ∨ b = TO ∨ b = i1 ∨ b = i2 := by simpa using hb2
    rcases q with q | q | q | q <;> simp [q]
  self := fun A i s Q E st h => wpAny_pyIter_zip st.1 h

abbrev g1 (h : Heap) (x : Str) (t : Tok) : Heap := h.push { cls := .type (strIterType x), data := .fields #[.str x t, .int 0 0] }
abbrev g3 (h : Heap) (x y : Str) (t u : Tok) : Heap := (g1 (g1 h x t) y u).push { cls := .type "tuple", data := .seq #[.ref h.objs.size, .ref (g1 h x t).objs.size] }
abbrev g4 (h : Heap) (x y : Str) (t u : Tok) : Heap := (g3 h x y t u).push { cls := .type "tuple", data := .seq #[.none, .none] }
abbrev g5 (h : Heap) (x y : Str) (t u : Tok) : Heap := (g4 h x y t u).push { cls := .type "zip", data := .fields #[.none, .bool false, .bool false, .ref (g1 (g1 h x t) y u).objs.size, .ref (g3 h x y t u).objs.size] }
theorem meets_zipS (x y : Str) (t u : Tok) :
    Meets (Builtin.«zip.__new__» ⟨[.type "zip", .str x t, .str y u], []⟩) (fun _ R s => R (.ok (.ret (.ref (g4 s.heap x y t u).objs.size))) { s with heap := g5 s.heap x y t u }) :=
  .of_wp fun prog w A R s h => by
    obtain ⟨hp, gg, d, tk, os⟩ := s
    have hsub := sub_zip
    wp_walk using wpAny_pyIter_strU
    exact ⟨_, rfl, h⟩
theorem call_zipS {prog : Program} {w : World} {A : Around} {E : Value → Shared → Prop} {s : Shared} {x y : Str} {t u : Tok} {Q : Value → Shared → Prop}
    (h : ∀ h', StZ x y t u (s.heap.objs.size + 4) (s.heap.objs.size + 2) (s.heap.objs.size + 3) s.heap.objs.size (s.heap.objs.size + 1) 0 h' → (∀ c o, s.heap.get? c = some o → h'.get? c = some o) → Q (.ref (s.heap.objs.size + 4)) { s with heap := h' }) :
    wpAny (model prog w) A (call (.type "zip") [.str x t, .str y u]) Q E s := by
  refine callType_new F.called_zip (by decide) (F.typeCall_zip_2 _ _) (F.newCall_zip_2 _ _) (fun obj => F.args_object_init_3 obj _ _) F.entry_zip_new (meets_zipS x y t u) ?_
  have n1 : (g1 s.heap x t).objs.size = s.heap.objs.size + 1 := Heap.size_push ..
  have n2 : (g1 (g1 s.heap x t) y u).objs.size = s.heap.objs.size + 2 := by rw [Heap.size_push, n1]
  have n3 : (g3 s.heap x y t u).objs.size = s.heap.objs.size + 3 := by rw [Heap.size_push, n2]
  have n4 : (g4 s.heap x y t u).objs.size = s.heap.objs.size + 4 := by rw [Heap.size_push, n3]
  have k5 : (g5 s.heap x y t u).get? (g4 s.heap x y t u).objs.size = some _ := Heap.get?_push_size _ rfl
  have k4 : (g5 s.heap x y t u).get? (g3 s.heap x y t u).objs.size = some _ := Heap.get?_push_of_some _ (Heap.get?_push_size _ rfl)
  have k3 : (g5 s.heap x y t u).get? (g1 (g1 s.heap x t) y u).objs.size = some _ := Heap.get?_push_of_some _ (Heap.get?_push_of_some _ (Heap.get?_push_size _ rfl))
  have k2 : (g5 s.heap x y t u).get? (g1 s.heap x t).objs.size = some _ := Heap.get?_push_of_some _ (Heap.get?_push_of_some _ (Heap.get?_push_of_some _ (Heap.get?_push_size _ rfl)))
  have k1 : (g5 s.heap x y t u).get? s.heap.objs.size = some _ := Heap.get?_push_of_some _ (Heap.get?_push_of_some _ (Heap.get?_push_of_some _ (Heap.get?_push_of_some _ (Heap.get?_push_size _ rfl))))
  show _ ∧ _
  rw [n2, n3, n4] at k5
  rw [n1, n2] at k3
  rw [n3] at k4
  rw [n1] at k2
  rw [n4]
  exact ⟨⟨_, k5, rfl⟩, h _ ⟨k5, k3, ⟨_, _, k4⟩, ⟨_, k1, rfl, rfl⟩, ⟨_, k2, rfl, rfl⟩⟩ fun c o e =>
    Heap.get?_push_of_some _ (Heap.get?_push_of_some _ (Heap.get?_push_of_some _ (Heap.get?_push_of_some _ (Heap.get?_push_of_some _ e))))⟩
theorem sepS (n : Nat) : ZipSep2 (n + 4) (n + 2) (n + 3) n (n + 1) [n] [n + 1] := by
  constructor <;> first | omega | (simp <;> omega) | simp
def iZipS (ta : TA) : TI := fun σ H R => ta σ H fun vs H1 => ∃ x y, vs = [.str x, .str y] ∧ R (ItzS x y) H1
theorem pi_zipS {X : Cx} {e e2 : Expr} {ta : TA} {p pos tpos : Pos} {elts : List Expr} {kk : Nat} (hg : Gl X "zip") (hm : X.mg "zip" = none) (ha : PA X [e, e2] ta)
    (hs : starEach [e, e2] X.env = (false, eval e X.env) :: starEach [e2] X.env := by rfl) (hpl : (backTo pos (starEach [e2] X.env)).any (·.1) = false := by rfl) :
    PI X (.Tuple elts kk tpos) (.Call (.Name "zip" p) [e, e2] [] pos) (iZipS ta) := by
  refine ⟨fun pins s σ H R I h => ?_⟩
  refine Call_ (ld_blt I hg hm boot_zip (callWith_type1 (thn (ha.run pos pins s σ H _ I h) fun us s1 ⟨vs, H1, I1, r1, q1⟩ => ?_) hs hpl))
  obtain ⟨x, y, ex, q⟩ := q1
  subst ex
  cases r1 with
  | cons r rr =>
    cases rr with
    | cons r' rr =>
      cases rr
      obtain ⟨t, rfl⟩ := r
      obtain ⟨u, rfl⟩ := r'
      refine call_zipS fun h' st hk => wpAny_pyIter_zip st.1 ?_
      have I2 : Inv X pins σ H1 { s1 with heap := h' } := I1.kept (t' := s1.toks) hk
      refine ⟨s1.heap.objs.size + 4, _, _, _, H1, rfl, I2, turn_zipS (sepS _) x y t u, st, fun c hcm => ?_, q⟩
      have hle : s1.heap.objs.size ≤ c := by
        rcases fp5 hcm with z | z | z | z | z <;> rw [z] <;> first | exact Nat.le_add_right _ _ | exact Nat.le_refl _
      exact I1.fpOk hle (I1.hok.fresh hle)
/-- a comprehension over it -/
theorem lc_zipS {x y : Str} {g : TG} {tt : TT} {te : TE} {vs : List Nat} {σ : L2.St} {H1 : Hp} {D : Addr} {Qd : Hp → Prop} (Pv : Nat → Hp → Prop) (h0 : Pv 0 (upd H1 D (.lst [])))
    (hs : ∀ i c d T H, x.cps[i]? = some c → y.cps[i]? = some d → Pv i H → H T = none → g (.ref T) (wipe σ vs) (upd H T (.tup [.str ⟨#[c]⟩, .str ⟨#[d]⟩])) fun σ2 H2 => wipe σ2 vs = wipe σ vs ∧ tt σ2 H2 fun b H3 =>
      if b = true then te σ2 H3 fun z H4 => ∃ acc, H4 D = some (.lst acc) ∧ acc.length < sizeLine ∧ Pv (i + 1) (upd H4 D (.lst (acc ++ [z]))) else Pv (i + 1) H3) (hd : ∀ H, Pv (min x.cps.size y.cps.size) H → Qd H) :
    ∃ W : Nat → Nat → Hp → Prop, (∃ m, W 0 m (upd H1 D (.lst []))) ∧ ∀ i m H, W i m H →
      ((ItzS x y).stop i H ∧ Qd H) ∨ ((ItzS x y).go i H ∧ ∃ Nx : Hp → Prop, (∀ H', Nx H' → ∃ m', m' < m ∧ W (i + 1) m' H') ∧ ∀ v H', (ItzS x y).yld i H v H' → g v (wipe σ vs) H' fun σ2 H2 => wipe σ2 vs = wipe σ vs ∧ tt σ2 H2 fun b H3 =>
        if b = true then te σ2 H3 fun z H4 => ∃ acc, H4 D = some (.lst acc) ∧ acc.length < sizeLine ∧ Nx (upd H4 D (.lst (acc ++ [z]))) else Nx H3) := by
  refine ⟨fun i m H => i + m = min x.cps.size y.cps.size ∧ Pv i H, ⟨_, Nat.zero_add _, h0⟩, ?_⟩
  rintro i m H ⟨e, p⟩
  by_cases hm : m = 0
  · have e2 : i = min x.cps.size y.cps.size := by omega
    refine .inl ⟨e2, hd H ?_⟩
    rw [← e2]
    exact p
  · refine .inr ⟨⟨by omega, by omega⟩, Pv (i + 1), fun H' p' => ⟨m - 1, by omega, by omega, p'⟩, ?_⟩
    rintro v H' ⟨T, c, d, rfl, hT, rfl, hc, hd'⟩
    exact hs i c d T H hc hd' p hT
theorem op_mulS {X : Cx} : OpR X (binaryOp .Mult) (fun x y H Q => ∃ z n, x = .str z ∧ y = .int n ∧ MulOk z n ∧ Q (.str (Txt.mul z n)) H) := by
  intro pins s σ H x y v u Q I rx ry h
  obtain ⟨z, n, rfl, rfl, hz, q⟩ := h
  obtain ⟨t, rfl⟩ := rx
  obtain ⟨t', rfl⟩ := ry
  exact SB.mul hz (fun t' tk => ⟨.str (Txt.mul z n), H, I.tok _, ⟨_, rfl⟩, q⟩)
end ZS

namespace ST
open PySem PySem.Spec PyProof.Rows L2
/-- how many different ones the first i of a list are -/
def dct (xs : List Str) : Nat → Nat
  | 0 => 0
  | i + 1 => if (xs.take i).any (· == xs.getD i Str.empty) = true then dct xs i else dct xs i + 1
theorem dct_le (xs : List Str) : ∀ i, dct xs i ≤ i
  | 0 => Nat.le_refl _
  | i + 1 => by
    have := dct_le xs i
    unfold dct
    split <;> omega
theorem any_next {xs : List Str} {i : Nat} (hi : i < xs.length) (k : Str) : (xs.take (i + 1)).any (· == k) = ((xs.take i).any (· == k) || decide (k = xs.getD i Str.empty)) := by
  rw [List.take_add_one, List.any_append, List.getElem?_eq_getElem hi, List.getD_eq_getElem?_getD, List.getElem?_eq_getElem hi]
  refine congrArg (fun b => (xs.take i).any (· == k) || b) ?_
  show (xs[i] == k || false) = decide (k = xs[i])
  rw [Bool.or_false]
  by_cases e : k = xs[i]
  · rw [decide_eq_true e, ← e]
    simp
  · rw [decide_eq_false e]
    simpa using fun q : xs[i] = k => e q.symm
section
variable {prog : Program} {w : World} {A : Around} {R : Result → Shared → Prop} {It : Addr} {fp wr : List Addr} {Gn : Array GenState → Array GenState → Prop} {n : Nat} {P : Nat → Value → Prop} {St : Nat → Shared → Prop}
theorem fill (W : WalksS prog w A.in1 It fp wr Gn n P St) (a : Addr) (haf : a ∉ fp) (xs : List Str) (hx : xs.length = n) (hn : n + 1 < scanBound) (hv : ∀ i v, P i v → ∃ t, v = .str (xs.getD i Str.empty) t) :
    ∀ (k i : Nat) (s : Shared), n - i = k → i ≤ n → St i s → s.heap.SetOf (PySem.strKind prog w) a (fun z => (xs.take i).any (· == z)) (dct xs i) →
      (∀ s', Moved (a :: wr) Gn s s' → s'.heap.SetOf (PySem.strKind prog w) a (fun z => (xs.take n).any (· == z)) (dct xs n) → R (.ok (.ret .none)) s') →
      codeAny (model prog w) A (.builtin "set.update.loop" ⟨[.ref a, .ref It], []⟩) R s := by
  have haw : a ∉ wr := fun q => haf (W.sub _ q)
  have up : ∀ b ∈ wr, b ∈ a :: wr := fun b q => List.mem_cons_of_mem _ q
  intro k
  induction k with
  | zero =>
    intro i s hk hi hst hset hR
    obtain rfl : i = n := by omega
    refine codeAny_builtin F.entry_set_update_loop ?_
    rw [Around.under_plainId F.plain_set_update_loop _]
    refine wpAny_bind (W.done s _ _ hst fun s' mv => wpAny_pure (hR s' (mv.mono up) ?_))
    obtain ⟨o, es, ep, tb, ho, rest⟩ := hset
    exact ⟨o, es, ep, tb, mv.heap a _ haw ho, rest⟩
  | succ k ih =>
    intro i s hk hi hst hset hR
    have hlt : i < n := by omega
    refine codeAny_builtin F.entry_set_update_loop ?_
    rw [Around.under_plainId F.plain_set_update_loop _]
    refine wpAny_bind (W.item i s _ _ hlt hst fun v s1 hp st1 mv => ?_)
    obtain ⟨t, rfl⟩ := hv i v hp
    have set1 : s1.heap.SetOf (PySem.strKind prog w) a (fun z => (xs.take i).any (· == z)) (dct xs i) := by
      obtain ⟨o, es, ep, tb, ho, rest⟩ := hset
      exact ⟨o, es, ep, tb, mv.heap a _ haw ho, rest⟩
    refine wpAny_bind (wpAny_holding ?_)
    unfold setAdd
    refine wpAny_holding (wpAny_bind ((PySem.strKind prog w).pyHash (k := xs.getD i Str.empty) (strKind_is _ _ _ _) ?_))
    have room : dct xs i + 1 < scanBound := by
      have := dct_le xs i
      omega
    refine wpAny_setAddHashed_of (knd := PySem.strKind prog w) (s := { s1 with toks := s1.toks + 1 }) (strKind_is _ _ _ _) rfl set1 room fun h2 sb set2 => ?_
    have set3 : h2.SetOf (PySem.strKind prog w) a (fun z => (xs.take (i + 1)).any (· == z)) (dct xs (i + 1)) :=
      SetOf_congr set2 (fun z => (any_next (by omega) z).symm) (by
        show dct xs (i + 1) = _
        unfold dct
        rfl)
    refine wpAny_pure ⟨plainId_quiet F.plain_set_update_loop _, ih (i + 1) _ (by omega) hlt (W.frame _ s1 _ _ st1 (Nat.le_succ _) fun b hb o e => ?_) set3 fun s2 mv2 hS2 => ?_⟩
    · rw [sb.2 b (fun q : b = a => haf (by rw [← q]; exact hb))]
      exact e
    · refine hR s2 (Moved.trans W.gtrans ((mv.mono up).then_heap (Nat.le_succ _) fun b o hb e => ?_) mv2) hS2
      rw [sb.2 b (fun q : b = a => hb (by rw [q]; exact List.mem_cons_self))]
      exact e
end
theorem walkStr {prog : Program} {w : World} {A : Around} (hh : A.handled = none) (it : Addr) (x : Str) (t : Tok) :
    Walks prog w A it [it] [it] x.cps.size (SignAt x) (fun i h => h.IsStrIter it (strIterType x) x t i) := by
  unfold strIterType
  cases x.cps.all (· < 128)
  · exact Walks.strWide hh it x t
  · exact Walks.strAscii hh it x t
def signsOf (x : Str) : List Str := x.cps.toList.map fun c => ⟨#[c]⟩
theorem signsOf_len (x : Str) : (signsOf x).length = x.cps.size := by simp [signsOf]
section
variable {prog : Program} {w : World} {A : Around} {E : Value → Shared → Prop} {s : Shared}
theorem call_set_text {x : Str} {t : Tok} {Q : Value → Shared → Prop} (hh : A.handled = none) (hn : x.cps.size + 1 < scanBound)
    (h : ∀ (h' : Heap) (tk : Nat), h'.SetOf (PySem.strKind prog w) s.heap.objs.size (fun z => ((signsOf x).take x.cps.size).any (· == z)) (dct (signsOf x) x.cps.size) →
      (∀ b o, b < s.heap.objs.size → s.heap.get? b = some o → h'.get? b = some o) → Q (.ref s.heap.objs.size) { s with heap := h', toks := tk }) :
    wpAny (model prog w) A (call (.type "set") [.str x t]) Q E s := by
  obtain ⟨c, tl, hmro⟩ := PySem.F.called_set.mro
  have hmade := PySem.F.called_set.made
  have hsub := PySem.F.called_set.sub
  refine wpAny_call (codeAny_of_tree ?_)
  show wpAny _ _ (callAny (.type "set") _) _ _ _
  refine wpAny_pure ⟨Code.quiet_builtin _ (by decide +kernel), codeAny_builtin PySem.F.entry_type_call ?_⟩
  rw [Around.under_plain (weight_type_call_type "set" [.str x t] []) rfl]
  have x1 := PySem.F.called_set.notType
  have x2 := PySem.F.called_set.canCreate
  have x3 := PySem.F.typeCall_set_1 (.str x t)
  repeat (any_goals (first | assumption | wp_step))
  refine codeAny_mono (code_set_new_1 (.str x t) (E := E) (Q₁ := fun obj s₁ => ∃ led : Bool, obj = .ref s.heap.objs.size ∧ s₁ = { s with heap := s.heap.push { cls := .type "set", dict := none, data := .set #[] 0 (.fresh 0 0 led) } }) fun led => ⟨led, rfl, rfl⟩) fun r s₁ hr => ?_
  cases r with
  | error e => exact hr
  | ok fl =>
    cases fl with
    | ret obj =>
      obtain ⟨led, rfl, rfl⟩ := hr
      obtain ⟨hp, hhp⟩ : ∃ hp, s.heap.push { cls := .type "set", dict := none, data := .set #[] 0 (.fresh 0 0 led) } = hp := ⟨_, rfl⟩
      have y1 : hp.get? s.heap.objs.size = some { cls := .type "set", dict := none, data := .set #[] 0 (.fresh 0 0 led) } := by
        rw [← hhp]
        exact Heap.get?_push_size _ rfl
      have y2 : hp.objs.size = s.heap.objs.size + 1 := by
        rw [← hhp]
        exact Heap.size_push ..
      have y3 : ∀ b o, s.heap.get? b = some o → hp.get? b = some o := fun b o e => by
        rw [← hhp]
        exact Heap.get?_push_of_some _ e
      rw [hhp]
      have hT : Shared.TypeIs { s with heap := hp } (.ref s.heap.objs.size) "set" := ⟨_, y1, rfl⟩
      have y4 := PySem.F.called_set.init.lookup
      have y5 := PySem.F.called_set.init.bind (.ref s.heap.objs.size)
      repeat (any_goals (first | assumption | wp_step))
      refine codeAny_mono (codeAny_call_builtin (R := wants (fun r s₂ => r = .none ∧ ∃ h' tk, s₂ = { s with heap := h', toks := tk } ∧
          h'.SetOf (PySem.strKind prog w) s.heap.objs.size (fun z => ((signsOf x).take x.cps.size).any (· == z)) (dct (signsOf x) x.cps.size) ∧
          (∀ b o, b < s.heap.objs.size → s.heap.get? b = some o → h'.get? b = some o)) E) PySem.F.called_set.init.plain PySem.F.entry_set_init (check_set_init_1 hT ?_)) fun r₂ s₂ hr₂ => ?_
      · have sb1 := PySem.F.sub_str_set
        have sb2 := PySem.F.sub_str_frozenset
        have sb3 : (Value.type "str" == Value.type "dict") = false := by decide
        unfold Builtin.«set.__init__» noKeywords Builtin.Frozenset.updateFrom
        generalize hPI : pyIter = PI
        wp_walk
        subst hPI
        refine wpAny_pyIter_strU ?_
        refine wpAny_bind (wpAny_runValue ?_)
        have hh3 : A.in1.in1.in1.handled = none := by simp [hh]
        have z1 : s.heap.objs.size ∉ [hp.objs.size] := by
          rw [y2]
          simp
        refine fill ((walkStr hh3 _ x t).toS) s.heap.objs.size z1 (signsOf x) (signsOf_len x) hn ?_ (x.cps.size - 0) 0 _ (by omega) (Nat.zero_le _)
          ⟨_, Heap.get?_push_size _ rfl, rfl, rfl⟩ ?_ ?_
        · rintro i v ⟨c, u, hc, rfl⟩
          refine ⟨u, ?_⟩
          unfold signsOf
          rw [List.getD_eq_getElem?_getD, List.getElem?_map, Array.getElem?_toList, hc]
          rfl
        · have z2 : (hp.push { cls := .type (strIterType x), data := .fields #[.str x t, .int 0 0] }).get? s.heap.objs.size = some { cls := .type "set", dict := none, data := .set #[] 0 (.fresh 0 0 led) } := Heap.get?_push_of_some _ y1
          exact SetOf_congr ((setObjOf_fresh (knd := PySem.strKind prog w) led).setOf z2 (by unfold scanBound; omega)) (fun _ => rfl) rfl
        · intro s' mv hS'
          obtain ⟨h', g', d', tk', os'⟩ := s'
          obtain rfl : g' = s.gens := mv.gens
          obtain rfl : d' = s.drawn := mv.drawn
          obtain rfl : os' = s.os := mv.os
          refine wpAny_pure ?_
          show wpAny _ _ (ret Value.none) _ _ _
          refine wpAny_pure ⟨rfl, h', tk', rfl, hS', fun b o hb e => ?_⟩
          refine mv.heap b o ?_ (Heap.get?_push_of_some _ (y3 b o e))
          rw [y2]
          simp only [List.mem_cons, List.not_mem_nil, or_false, not_or]
          exact ⟨Nat.ne_of_lt hb, Nat.ne_of_lt (Nat.lt_succ_of_lt hb)⟩
      · cases r₂ with
        | error e => exact hr₂
        | ok fl₂ =>
          cases fl₂ with
          | ret r =>
            obtain ⟨rfl, h', tk, rfl, hS', hk'⟩ := hr₂
            repeat (any_goals (first | assumption | wp_step))
            exact h _ _ hS' hk'
          | _ => exact hr₂.elim
    | _ => exact hr.elim
end
end ST

namespace EN
open PySem PySem.Spec PyProof.Rows L2
/-! ### len(set(text)) -/
def tLenSetS (ta : TE) : TE := fun σ H Q => ta σ H fun x H1 => ∃ z : Str, x = .str z ∧ z.cps.size < 1000 ∧ Q (.int (ST.dct (ST.signsOf z) z.cps.size)) H1
theorem pe_lenSetS {X : Cx} {a : Expr} {ta : TE} {p p2 q pos : Pos} (hc : X.calm = true) (hg : Gl X "len") (hm : X.mg "len" = none) (hg2 : Gl X "set") (hm2 : X.mg "set" = none) (ha : PE X a ta)
    (na : starEach [a] X.env = (false, eval a X.env) :: starEach [] X.env := by rfl) : PE X (.Call (.Name "len" p) [.Call (.Name "set" p2) [a] [] q] [] pos) (tLenSetS ta) := by
  refine ⟨fun pins s σ H Q I h => Call_ (ld_blt I hg hm PySem.boot_len (callWith_builtin1 (args_cons (Call_ (ld_blt I hg2 hm2 boot_set ?_)) rfl) rfl rfl))⟩
  refine callWith_type1 (args_cons (thn (ha.run pins s σ H _ I h) fun v s1 ⟨x, H1, I1, r1, z, ex, hz, q1⟩ => args_nil ?_) na) na rfl
  subst ex
  obtain ⟨t, rfl⟩ := r1
  refine ST.call_set_text (I1.ok.hd hc) (by unfold scanBound; omega) fun h' tk hS hk => args_nil ?_
  obtain ⟨o, es, ep, t, ho, hex, hd, _, _, _, hf, hn⟩ := hS
  have I2 : Inv X pins σ H1 { s1 with heap := h', toks := tk } := I1.kept fun b o e => hk b o (Heap.lt_size e) e
  have hd2 := ST.dct_le (ST.signsOf z) z.cps.size
  exact call_len_set ho hex hd hf (by rw [hn]; omega) ⟨.int _, H1, I2.tok _, ⟨_, by rw [hn]⟩, q1⟩

/-! ### enumerate over a text, over a tuple -/
def ItS (x : Str) : It := ⟨fun i _ => i < x.cps.size,
  fun i H v H' => ∃ T c, v = .ref T ∧ H T = none ∧ H' = upd H T (.tup [.int (i : Nat), .str ⟨#[c]⟩]) ∧ x.cps[i]? = some c, fun i _ => i = x.cps.size⟩
def ItT (K : PySem.W.Frag) (a : Addr) : It := ⟨fun i H => ∃ (xs : List V) (x : V), SqT K H a xs ∧ xs[i]? = some x,
  fun i H v H' => ∃ T x, v = .ref T ∧ H T = none ∧ H' = upd H T (.tup [.int (i : Nat), x]) ∧ ∀ xs, SqT K H a xs → xs[i]? = some x, fun i H => ∃ xs : List V, SqT K H a xs ∧ i = xs.length⟩
theorem two {e it b : Addr} (h : b ∈ [e, it]) : b = e ∨ b = it := by simpa using h
theorem obj_of {h : Heap} {e it : Addr} {i : Int} {old : Value} (he : IsEnum h e it i old) {o : Obj} (ho : h.get? it = some o) {vs : Array Value} (hd : o.data = .fields vs) : ∀ b ∈ [e, it], ∃ o, h.get? b = some o ∧ ∀ v, o.data ≠ .cell v := fun b hb => by
  rcases two hb with z | z
  · rw [z]; exact ⟨_, he, fun v q => nomatch q⟩
  · rw [z]; exact ⟨o, ho, fun v q => by rw [hd] at q; cases q⟩
theorem turn_enumS {P : Program} {w : World} {K : PySem.W.Frag} {elts : List Expr} {kk : Nat} {tpos : Pos} (x : Str) (t : Tok) (e it : Addr) :
    Turn P w K (.Tuple elts kk tpos) (ItS x) [e, it] e (fun i h => (∃ old, IsEnum h e it ((i : Nat) : Int) old) ∧ h.IsStrIter it (strIterType x) x t i ∧ e ≠ it) where
  mem := List.mem_cons_self
  obj := fun i h st b hb => by
    obtain ⟨⟨old, he⟩, ⟨o, ho, _, hd⟩, _⟩ := st
    exact obj_of he ho hd b hb
  keep := fun i h h' st k => by
    obtain ⟨⟨old, he⟩, ⟨o, ho, r⟩, hne⟩ := st
    exact ⟨⟨old, k e (by simp) _ he⟩, ⟨o, k it (by simp) _ ho, r⟩, hne⟩
  item := by
    intro X hP hw hK hc i pins s σ H E I hf st hg
    subst hP hw hK
    obtain ⟨⟨old, he⟩, hit, hne⟩ := st
    have D := ZS.drawsS (prog := X.prog) (w := X.w) (A := X.A.in1) (I.ok.hd hc) it x t
    have l1 : e < s.heap.objs.size := Heap.lt_size he
    have l2 : it < s.heap.objs.size := by obtain ⟨_, q, _⟩ := hit; exact Heap.lt_size q
    refine wpAny_pyNext_enum_itemD D he hit hg hne (by simpa using hne) fun v h' tk hv ho hit' hT hsz hk => ?_
    obtain ⟨c, u, hcx, rfl⟩ := hv
    refine ⟨_, rfl, wpAny_letOwnedTupleGo_enum (s := { s with heap := h', toks := tk + 1 }) ho fun h2 he2 sb => ?_⟩
    have hT2 : h2.get? s.heap.objs.size = some { cls := .type "tuple", data := .seq #[.int i tk, .str ⟨#[c]⟩ u] } := (sb.2 _ (Nat.ne_of_gt l1)).trans hT
    have new : ObjOk X.prog X.w (upd H s.heap.objs.size (.tup [.int (i : Nat), .str ⟨#[c]⟩])) h2 s.heap.objs.size (.tup [.int (i : Nat), .str ⟨#[c]⟩]) :=
      ⟨by show 2 ≤ sizeLine; decide, [.int i tk, .str ⟨#[c]⟩ u], .cons ⟨_, rfl⟩ (.cons ⟨u, rfl⟩ .nil), ⟨_, hT2, rfl, _, rfl⟩⟩
    have I1 := I.turnedNew (t' := tk + 1) (ch := [e, it]) (fun b ob hb q => (sb.2 b (fun z => hb (by simp [z]))).trans (hk b ob (fun z => hb (by simp [z])) (fun z => hb (by simp [z])) q)) hf (Nat.le_refl _) new
    refine ⟨.ref s.heap.objs.size, _, I1, rfl, ⟨_, c, rfl, I.hok.fresh (Nat.le_refl _), rfl, hcx⟩, ⟨⟨.str ⟨#[c]⟩ u, ?_⟩, ?_, hne⟩, fun b hb => ?_⟩
    · rw [show ((i + 1 : Nat) : Int) = (i : Int) + 1 by omega]
      exact he2
    · obtain ⟨o, q, r⟩ := hit'
      exact ⟨o, (sb.2 it (Ne.symm hne)).trans q, r⟩
    · rw [upd_ne (show b ≠ s.heap.objs.size from fun q => by
        rcases two hb with z | z
        · rw [← q, z] at l1; exact Nat.lt_irrefl _ l1
        · rw [← q, z] at l2; exact Nat.lt_irrefl _ l2)]
      exact (hf b hb).1
  done := by
    intro X hP hw hK hc i pins s σ H E I hf st hg
    subst hP hw hK
    obtain ⟨⟨old, he⟩, hit, hne⟩ := st
    have hg : i = x.cps.size := hg
    subst hg
    have D := ZS.drawsS (prog := X.prog) (w := X.w) (A := X.A.in1) (I.ok.hd hc) it x t
    refine wpAny_pyNext_enum_endD D he hit fun h' eb => ⟨rfl, I.turnedL (t' := s.toks) (ch := [e, it]) (fun b o hb q => eb b o (fun z => hb (by simp [z])) q) hf⟩
  self := fun A i s Q E st h => by
    obtain ⟨⟨_, he⟩, _⟩ := st
    exact wpAny_pyIter_enum he h
theorem turn_enumT {P : Program} {w : World} {K : PySem.W.Frag} {elts : List Expr} {kk : Nat} {tpos : Pos} (a e it : Addr) :
    Turn P w K (.Tuple elts kk tpos) (ItT K a) [e, it] e (fun i h => (∃ old, IsEnum h e it ((i : Nat) : Int) old) ∧ h.IsTupleIter it a i ∧ e ≠ it ∧ a ≠ it ∧ a ≠ e) where
  mem := List.mem_cons_self
  obj := fun i h st b hb => by
    obtain ⟨⟨old, he⟩, ⟨o, ho, _, hd⟩, _⟩ := st
    exact obj_of he ho hd b hb
  keep := fun i h h' st k => by
    obtain ⟨⟨old, he⟩, ⟨o, ho, r⟩, hne⟩ := st
    exact ⟨⟨old, k e (by simp) _ he⟩, ⟨o, k it (by simp) _ ho, r⟩, hne⟩
  item := by
    intro X hP hw hK hc i pins s σ H E I hf st hg
    subst hP hw hK
    obtain ⟨⟨old, he⟩, hit, hne, hai, hae⟩ := st
    obtain ⟨xs, x, hq, hx⟩ := hg
    obtain ⟨its, rv, p, hz⟩ := I.tuple hq
    obtain ⟨u, hu, ru⟩ := rv.get hx
    have hlt : i < its.toArray.size := by
      have := (List.getElem?_eq_some_iff.mp hu).1
      simpa using this
    have D := Draws.tuple (prog := X.prog) (w := X.w) (A := X.A.in1) (I.ok.hd hc) it a hai its.toArray
    have l1 : e < s.heap.objs.size := Heap.lt_size he
    have l2 : it < s.heap.objs.size := by obtain ⟨_, q, _⟩ := hit; exact Heap.lt_size q
    have hef : e ∉ [it, a] := by
      intro q
      rcases two q with z | z
      · exact hne z
      · exact hae z.symm
    refine wpAny_pyNext_enum_itemD D he ⟨hit, p⟩ hlt hne hef fun v h' tk hv ho hit' hT hsz hk => ?_
    obtain rfl : v = u := by
      have q : its.toArray[i]? = some v := hv
      rw [List.getElem?_toArray, hu] at q
      exact (Option.some.inj q).symm
    refine ⟨_, rfl, wpAny_letOwnedTupleGo_enum (s := { s with heap := h', toks := tk + 1 }) ho fun h2 he2 sb => ?_⟩
    have hT2 : h2.get? s.heap.objs.size = some { cls := .type "tuple", data := .seq #[.int i tk, v] } := (sb.2 _ (Nat.ne_of_gt l1)).trans hT
    have new : ObjOk X.prog X.w (upd H s.heap.objs.size (.tup [.int (i : Nat), x])) h2 s.heap.objs.size (.tup [.int (i : Nat), x]) :=
      ⟨by show 2 ≤ sizeLine; decide, [.int i tk, v], .cons ⟨_, rfl⟩ (.cons ru .nil), ⟨_, hT2, rfl, _, rfl⟩⟩
    have I1 := I.turnedNew (t' := tk + 1) (ch := [e, it]) (fun b ob hb q => (sb.2 b (fun z => hb (by simp [z]))).trans (hk b ob (fun z => hb (by simp [z])) (fun z => hb (by simp [z])) q)) hf (Nat.le_refl _) new
    refine ⟨.ref s.heap.objs.size, _, I1, rfl, ⟨_, x, rfl, I.hok.fresh (Nat.le_refl _), rfl, fun ys hy => by rw [I.tuple_inj hy hq]; exact hx⟩, ⟨⟨v, ?_⟩, ?_, hne, hai, hae⟩, fun b hb => ?_⟩
    · rw [show ((i + 1 : Nat) : Int) = (i : Int) + 1 by omega]
      exact he2
    · obtain ⟨o, q, r⟩ := hit'.1
      exact ⟨o, (sb.2 it (Ne.symm hne)).trans q, r⟩
    · rw [upd_ne (show b ≠ s.heap.objs.size from fun q => by
        rcases two hb with z | z
        · rw [← q, z] at l1; exact Nat.lt_irrefl _ l1
        · rw [← q, z] at l2; exact Nat.lt_irrefl _ l2)]
      exact (hf b hb).1
  done := by
    intro X hP hw hK hc i pins s σ H E I hf st hg
    subst hP hw hK
    obtain ⟨⟨old, he⟩, hit, hne, hai, hae⟩ := st
    obtain ⟨xs, hq, hx⟩ := hg
    obtain ⟨its, rv, p, hz⟩ := I.tuple hq
    have D := Draws.tuple (prog := X.prog) (w := X.w) (A := X.A.in1) (I.ok.hd hc) it a hai its.toArray
    have hl := rv.length
    have hn : i = its.toArray.size := by
      rw [List.size_toArray]
      omega
    subst hn
    refine wpAny_pyNext_enum_endD D he ⟨hit, p⟩ fun h' eb => ⟨rfl, I.turnedL (t' := s.toks) (ch := [e, it]) (fun b o hb q => eb b o (fun z => hb (by simp [z])) q) hf⟩
  self := fun A i s Q E st h => by
    obtain ⟨⟨_, he⟩, _⟩ := st
    exact wpAny_pyIter_enum he h
theorem meets_enumT (a : Addr) (xs : Array Value) :
    Meets (Builtin.«enumerate.__new__» ⟨[.type "enumerate", .ref a], []⟩) (fun _ R s => s.heap.IsTuple a xs ∧
      R (.ok (.ret (.ref (s.heap.push { cls := .type "tuple_iterator", data := .fields #[.ref a, .int 0 0] }).objs.size)))
        { s with heap := (s.heap.push { cls := .type "tuple_iterator", data := .fields #[.ref a, .int 0 0] }).push { cls := .type "enumerate", data := .fields #[.none, .bool false, .ref s.heap.objs.size, rawInt 0, .none, .none] } }) :=
  .of_wp fun prog w A R s h => by
    obtain ⟨hp, g, d, tk, os⟩ := s
    obtain ⟨hl, h⟩ := h
    have hsub := sub_enumerate
    have hL : Heap.IsTuple (Shared.heap ⟨hp, g, d, tk, os⟩) a xs := hl
    wp_walk
    refine wpAny_stack_any fun st => wpAny_pure ?_
    split
    · rename_i c _ _ _ _ _
      cases (c == Value.type "enumerate")
      all_goals
        wp_walk using wpAny_pyIter_tuple hL
        exact ⟨_, rfl, h⟩
    · wp_walk using wpAny_pyIter_tuple hL
      exact ⟨_, rfl, h⟩
section
variable {X : Cx}
def iEnumS (ta : TA) : TI := fun σ H R => ta σ H fun vs H1 => ∃ x, vs = [.str x] ∧ R (ItS x) H1
theorem pi_enumS {e : Expr} {ta : TA} {p pos tpos : Pos} {elts : List Expr} {kk : Nat} (hg : Gl X "enumerate") (hm : X.mg "enumerate" = none) (ha : PA X [e] ta) (hs : starEach [e] X.env = [(false, eval e X.env)] := by rfl) :
    PI X (.Tuple elts kk tpos) (.Call (.Name "enumerate" p) [e] [] pos) (iEnumS ta) := by
  refine ⟨fun pins s σ H R I h => Call_ (ld_blt I hg hm boot_enumerate (callWith_type1 (thn (ha.run pos pins s σ H _ I h) fun us s1 ⟨vs, H1, I1, r1, q1⟩ => ?_) hs rfl))⟩
  obtain ⟨x, ex, q⟩ := q1
  subst ex
  cases r1 with
  | cons r rr =>
    cases rr
    obtain ⟨t, rfl⟩ := r
    refine call_enumerate_str fun h' he hit hsz hk => wpAny_pyIter_enum he ?_
    refine ⟨s1.heap.objs.size + 1, _, _, _, H1, rfl, I1.kept (t' := s1.toks) hk, turn_enumS x t (s1.heap.objs.size + 1) s1.heap.objs.size, ⟨⟨.none, he⟩, hit, Nat.succ_ne_self _⟩, fun b hb => ?_, q⟩
    have hle : s1.heap.objs.size ≤ b := by
      rcases two hb with z | z <;> rw [z] <;> first | exact Nat.le_add_right _ _ | exact Nat.le_refl _
    exact I1.fpOk hle (I1.hok.fresh hle)
def iEnumT (K : PySem.W.Frag) (ta : TA) : TI := fun σ H R => ta σ H fun vs H1 => ∃ a xs, vs = [.ref a] ∧ SqT K H1 a xs ∧ R (ItT K a) H1
theorem pi_enumT {e : Expr} {ta : TA} {p pos tpos : Pos} {elts : List Expr} {kk : Nat} (hg : Gl X "enumerate") (hm : X.mg "enumerate" = none) (ha : PA X [e] ta) (hs : starEach [e] X.env = [(false, eval e X.env)] := by rfl) :
    PI X (.Tuple elts kk tpos) (.Call (.Name "enumerate" p) [e] [] pos) (iEnumT X.K ta) := by
  refine ⟨fun pins s σ H R I h => Call_ (ld_blt I hg hm boot_enumerate (callWith_type1 (thn (ha.run pos pins s σ H _ I h) fun us s1 ⟨vs, H1, I1, r1, q1⟩ => ?_) hs rfl))⟩
  obtain ⟨a, xs, ex, hq, q⟩ := q1
  subst ex
  cases r1 with
  | cons r rr =>
    cases rr
    cases r
    obtain ⟨its, rv, p', hz⟩ := I1.tuple hq
    obtain ⟨oa, hoa, _⟩ := id p'
    have la : a < s1.heap.objs.size := Heap.lt_size hoa
    refine callType_new F.called_enumerate (by decide) (F.typeCall_enumerate_1 _) (F.newCall_enumerate_1 _) (fun obj => F.args_object_init_2 obj _) F.entry_enumerate_new (meets_enumT a its.toArray) ⟨p', ?_⟩
    have hz : (s1.heap.push { cls := .type "tuple_iterator", data := .fields #[.ref a, .int 0 0] }).objs.size = s1.heap.objs.size + 1 := Heap.size_push ..
    show _ ∧ _
    rw [hz]
    have g1 := Heap.get?_push_size (s1.heap.push { cls := .type "tuple_iterator", data := .fields #[.ref a, .int 0 0] }) (o := { cls := .type "enumerate", data := .fields #[.none, .bool false, .ref s1.heap.objs.size, rawInt 0, .none, .none] }) rfl
    rw [hz] at g1
    have he : IsEnum ((s1.heap.push { cls := .type "tuple_iterator", data := .fields #[.ref a, .int 0 0] }).push { cls := .type "enumerate", data := .fields #[.none, .bool false, .ref s1.heap.objs.size, rawInt 0, .none, .none] }) (s1.heap.objs.size + 1) s1.heap.objs.size 0 .none := g1
    refine ⟨⟨_, he, rfl⟩, wpAny_pyIter_enum he ?_⟩
    refine ⟨s1.heap.objs.size + 1, _, _, _, H1, rfl, I1.kept (t' := s1.toks) fun b o e => Heap.get?_push_of_some _ (Heap.get?_push_of_some _ e), turn_enumT a (s1.heap.objs.size + 1) s1.heap.objs.size,
      ⟨⟨.none, he⟩, ⟨_, Heap.get?_push_of_some _ (Heap.get?_push_size _ rfl), rfl, rfl⟩, Nat.succ_ne_self _, Nat.ne_of_lt la, Nat.ne_of_lt (Nat.lt_succ_of_lt la)⟩, fun b hb => ?_, q⟩
    have hle : s1.heap.objs.size ≤ b := by
      rcases two hb with z | z <;> rw [z] <;> first | exact Nat.le_add_right _ _ | exact Nat.le_refl _
    exact I1.fpOk hle (I1.hok.fresh hle)
end
/-! ### loops over them -/
theorem for_enumS {x : Str} {g : TG} {tb : TS} {D : Ends} {σ : L2.St} {H : Hp} (Pv : Nat → L2.St → Hp → Prop) (h0 : Pv 0 σ H)
    (hs : ∀ (i c : Nat) (T : Addr) (σ : L2.St) (H : Hp), x.cps[i]? = some c → Pv i σ H → H T = none → g (.ref T) σ (upd H T (.tup [.int (i : Nat), .str ⟨#[c]⟩])) fun σ2 H2 => tb { D with nx := Pv (i + 1), ct := Pv (i + 1), bk := D.nx } σ2 H2)
    (hd : ∀ σ H, Pv x.cps.size σ H → D.nx σ H) :
    ∃ W : Nat → Nat → L2.St → Hp → Prop, (∃ m, W 0 m σ H) ∧ ∀ i m σ H, W i m σ H →
      ((ItS x).stop i H ∧ D.nx σ H) ∨ ((ItS x).go i H ∧ ∃ N : L2.St → Hp → Prop, (∀ σ' H', N σ' H' → ∃ m', m' < m ∧ W (i + 1) m' σ' H') ∧ ∀ v H', (ItS x).yld i H v H' → g v σ H' fun σ2 H2 => tb { D with nx := N, ct := N, bk := D.nx } σ2 H2) := by
  refine ⟨fun i m σ H => i + m = x.cps.size ∧ Pv i σ H, ⟨_, Nat.zero_add _, h0⟩, ?_⟩
  rintro i m σ H ⟨e, p⟩
  by_cases hm : m = 0
  · have e2 : i = x.cps.size := by omega
    refine .inl ⟨e2, hd σ H ?_⟩
    rw [← e2]
    exact p
  · refine .inr ⟨show i < x.cps.size by omega, Pv (i + 1), fun σ' H' p' => ⟨m - 1, by omega, by omega, p'⟩, ?_⟩
    rintro v H' ⟨T, c, rfl, hT, rfl, hc⟩
    exact hs i c T σ H hc p hT
theorem for_enumT {K : PySem.W.Frag} {a : Addr} {xs : List V} {g : TG} {tb : TS} {D : Ends} {σ : L2.St} {H : Hp} (Pv : Nat → L2.St → Hp → Prop) (h0 : Pv 0 σ H) (hq : ∀ i σ H, Pv i σ H → SqT K H a xs)
    (hs : ∀ (i : Nat) (x : V) (T : Addr) (σ : L2.St) (H : Hp), xs[i]? = some x → Pv i σ H → H T = none → g (.ref T) σ (upd H T (.tup [.int (i : Nat), x])) fun σ2 H2 => tb { D with nx := Pv (i + 1), ct := Pv (i + 1), bk := D.nx } σ2 H2)
    (hd : ∀ σ H, Pv xs.length σ H → D.nx σ H) :
    ∃ W : Nat → Nat → L2.St → Hp → Prop, (∃ m, W 0 m σ H) ∧ ∀ i m σ H, W i m σ H →
      ((ItT K a).stop i H ∧ D.nx σ H) ∨ ((ItT K a).go i H ∧ ∃ N : L2.St → Hp → Prop, (∀ σ' H', N σ' H' → ∃ m', m' < m ∧ W (i + 1) m' σ' H') ∧ ∀ v H', (ItT K a).yld i H v H' → g v σ H' fun σ2 H2 => tb { D with nx := N, ct := N, bk := D.nx } σ2 H2) := by
  refine ⟨fun i m σ H => i + m = xs.length ∧ Pv i σ H, ⟨_, Nat.zero_add _, h0⟩, ?_⟩
  rintro i m σ H ⟨e, p⟩
  by_cases hm : m = 0
  · have e2 : i = xs.length := by omega
    refine .inl ⟨⟨xs, hq i σ H p, e2⟩, hd σ H ?_⟩
    rw [← e2]
    exact p
  · have hi : i < xs.length := by omega
    refine .inr ⟨⟨xs, xs[i], hq i σ H p, List.getElem?_eq_getElem hi⟩, Pv (i + 1), fun σ' H' p' => ⟨m - 1, by omega, by omega, p'⟩, ?_⟩
    rintro v H' ⟨T, x, rfl, hT, rfl, hx⟩
    exact hs i x T σ H (hx xs (hq i σ H p)) p hT
theorem for_enumL {K : PySem.W.Frag} {a : Addr} {xs : List V} {g : TG} {tb : TS} {D : Ends} {σ : L2.St} {H : Hp} (Pv : Nat → L2.St → Hp → Prop) (h0 : Pv 0 σ H) (hq : ∀ i σ H, Pv i σ H → SqL K H a xs)
    (hs : ∀ (i : Nat) (x : V) (T : Addr) (σ : L2.St) (H : Hp), xs[i]? = some x → Pv i σ H → H T = none → g (.ref T) σ (upd H T (.tup [.int (i : Nat), x])) fun σ2 H2 => tb { D with nx := Pv (i + 1), ct := Pv (i + 1), bk := D.nx } σ2 H2)
    (hd : ∀ σ H, Pv xs.length σ H → D.nx σ H) :
    ∃ W : Nat → Nat → L2.St → Hp → Prop, (∃ m, W 0 m σ H) ∧ ∀ i m σ H, W i m σ H →
      ((Ite K a).stop i H ∧ D.nx σ H) ∨ ((Ite K a).go i H ∧ ∃ N : L2.St → Hp → Prop, (∀ σ' H', N σ' H' → ∃ m', m' < m ∧ W (i + 1) m' σ' H') ∧ ∀ v H', (Ite K a).yld i H v H' → g v σ H' fun σ2 H2 => tb { D with nx := N, ct := N, bk := D.nx } σ2 H2) := by
  refine ⟨fun i m σ H => i + m = xs.length ∧ Pv i σ H, ⟨_, Nat.zero_add _, h0⟩, ?_⟩
  rintro i m σ H ⟨e, p⟩
  by_cases hm : m = 0
  · have e2 : i = xs.length := by omega
    refine .inl ⟨⟨xs, hq i σ H p, by omega⟩, hd σ H ?_⟩
    rw [← e2]
    exact p
  · have hi : i < xs.length := by omega
    refine .inr ⟨⟨xs, xs[i], hq i σ H p, List.getElem?_eq_getElem hi⟩, Pv (i + 1), fun σ' H' p' => ⟨m - 1, by omega, by omega, p'⟩, ?_⟩
    rintro v H' ⟨T, x, rfl, hT, rfl, hx⟩
    exact hs i x T σ H (hx xs (hq i σ H p)) p hT
end EN

namespace TR
open PySem PySem.Spec PyProof.Rows L2 Evl
/-- a list or a tuple of these -/
def ob (k : Bool) (xs : List V) : HO := if k = true then .tup xs else .lst xs
theorem ob_seq {K : PySem.W.Frag} {H : Hp} {a : Addr} {k : Bool} {xs : List V} (h : H a = some (ob k xs)) : SqL K H a xs ∨ SqT K H a xs := by
  cases k
  · exact .inl (sq_of h)
  · exact .inr (st_of h)
theorem ob_list {K : PySem.W.Frag} {H : Hp} {a : Addr} {k : Bool} {xs : List V} (h : H a = some (ob k xs)) : TyX K H (.ref a) (if k = true then .type "tuple" else .type "list") := by
  cases k
  · exact .base (.lst h)
  · exact .base (.tup h)
theorem ob_ne {k : Bool} {xs : List V} {kvs : List (Key × V)} : ob k xs ≠ .dK kvs := by
  cases k <;> intro h <;> cases h
section
variable {X : Cx} {pos : Pos}
/-- a, b, .. = a list or a tuple of that length -/
def gSeq (K : PySem.W.Frag) (n : Nat) (t : TGs) : TG := fun v σ H Q => gUnl K n t v σ H Q ∨ gTup K n t v σ H Q
theorem pg_seq {es : List Expr} {k : Nat} {t : TGs} {n : Nat} (hc : X.calm = true) (h : PGs X es t)
    (hn : (assignEach es X.env).length = n := by rfl) (hst : (assignEach es X.env).findIdx? (·.1) = none := by rfl) : PG X (.Tuple es k pos) (gSeq X.K n t) := by
  refine ⟨fun pins s σ H v u Q I r hw => ?_⟩
  rcases hw with hw | hw
  · exact (pg_unl hc h hn hst).run pins s σ H v u Q I r hw
  · exact (pg_tup hc h hn hst).run pins s σ H v u Q I r hw
theorem gSeq_of {K : PySem.W.Frag} {n : Nat} {t : TGs} {H : Hp} {a : Addr} {k : Bool} {xs : List V} {σ : L2.St} {Q : L2.St → Hp → Prop} (h : H a = some (ob k xs)) (hl : xs.length = n) (q : t xs σ H Q) : gSeq K n t (.ref a) σ H Q := by
  cases k
  · exact .inl ⟨a, xs, rfl, sq_of h, hl, q⟩
  · exact .inr ⟨a, xs, rfl, st_of h, hl, q⟩
/-- a walk over either -/
def iSeq (K : PySem.W.Frag) (te : TE) : TI := fun σ H R => iList K te σ H R ∨ iTup K te σ H R
theorem pi_seq {tg e : Expr} {te : TE} (he : PE X e te) : PI X tg e (iSeq X.K te) := by
  refine ⟨fun pins s σ H R I h => ?_⟩
  rcases h with h | h
  · exact (pi_list he).run pins s σ H R I h
  · exact (pi_tup he).run pins s σ H R I h
def iEnumQ (K : PySem.W.Frag) (ta : TA) : TI := fun σ H R => iEnum K ta σ H R ∨ EN.iEnumT K ta σ H R
theorem pi_enumQ {e : Expr} {ta : TA} {p tpos : Pos} {elts : List Expr} {kk : Nat} (hg : Gl X "enumerate") (hm : X.mg "enumerate" = none) (ha : PA X [e] ta) (hs : starEach [e] X.env = [(false, eval e X.env)] := by rfl) :
    PI X (.Tuple elts kk tpos) (.Call (.Name "enumerate" p) [e] [] pos) (iEnumQ X.K ta) := by
  refine ⟨fun pins s σ H R I h => ?_⟩
  rcases h with h | h
  · exact (pi_enum hg hm ha hs).run pins s σ H R I h
  · exact (EN.pi_enumT hg hm ha hs).run pins s σ H R I h
theorem ix_at {K : PySem.W.Frag} {H : Hp} {a : Addr} {k : Bool} {xs : List V} {i : Int} {v : V} {Q : VK} (h : H a = some (ob k xs)) (hi : atI xs i = some v) (q : Q v H) : rIx K (.ref a) (.int i) H Q := by
  cases k
  · exact .inl ⟨a, xs, i, v, rfl, rfl, sq_of h, hi, q⟩
  · exact .inr (.inl ⟨a, xs, i, v, rfl, rfl, st_of h, hi, q⟩)
end
/-! ### trees -/
mutual
inductive Tr where
  | go (s q : Nat) : Tr
  | tell (n : Nat) (t : Tr) : Tr
  | read (p : Nat) (ts : Trs) : Tr
inductive Trs where
  | nil : Trs
  | cons (t : Tr) (r : Trs) : Trs
end
def Trs.list : Trs → List Tr
  | .nil => []
  | .cons t r => t :: r.list
mutual
def Tr.size : Tr → Nat
  | .go _ _ => 1
  | .tell _ t => t.size + 1
  | .read _ ts => ts.size + 1
def Trs.size : Trs → Nat
  | .nil => 0
  | .cons t r => t.size + r.size
end
mutual
def Tr.depth : Tr → Nat
  | .go _ _ => 1
  | .tell _ t => t.depth + 1
  | .read _ ts => ts.depth + 1
def Trs.depth : Trs → Nat
  | .nil => 0
  | .cons t r => max t.depth r.depth
end
/-! as described, for so many letters, this width, so many states -/
mutual
def Tr.ok (l w n : Nat) : Tr → Prop
  | .go s q => 1 ≤ s ∧ s ≤ w + 1 ∧ q < n
  | .tell k t => k ≤ 2 ∧ t.ok l w n
  | .read p ts => p ≤ w ∧ ts.list.length = l ∧ ts.ok l w n
def Trs.ok (l w n : Nat) : Trs → Prop
  | .nil => True
  | .cons t r => t.ok l w n ∧ r.ok l w n
end
/-- the trees within -/
def Tr.kids : Tr → List Tr
  | .go _ _ => []
  | .tell _ t => [t]
  | .read _ ts => ts.list
/-! how a tree stands in memory, of lists or of tuples -/
mutual
inductive TA (k : Bool) (H : Hp) : V → Tr → Prop
  | go {a : Addr} {s q : Nat} : H a = some (ob k [.str "go", .int (s : Nat), .int (q : Nat)]) → TA k H (.ref a) (.go s q)
  | tell {a : Addr} {n : Nat} {v : V} {t : Tr} : H a = some (ob k [.str "tell", .int (n : Nat), v]) → TA k H v t → TA k H (.ref a) (.tell n t)
  | read {a b : Addr} {p : Nat} {vs : List V} {ts : Trs} : H a = some (ob k [.str "read", .int (p : Nat), .ref b]) → H b = some (ob k vs) → TAs k H vs ts → TA k H (.ref a) (.read p ts)
inductive TAs (k : Bool) (H : Hp) : List V → Trs → Prop
  | nil : TAs k H [] .nil
  | cons {v : V} {vs : List V} {t : Tr} {r : Trs} : TA k H v t → TAs k H vs r → TAs k H (v :: vs) (.cons t r)
end
mutual
theorem TA.ex {k : Bool} {H H' : Hp} (e : Ex H H') : ∀ {t : Tr} {v : V}, TA k H v t → TA k H' v t
  | _, _, .go h => .go (e _ _ h)
  | _, _, .tell h r => .tell (e _ _ h) (TA.ex e r)
  | _, _, .read h1 h2 r => .read (e _ _ h1) (e _ _ h2) (TAs.ex e r)
theorem TAs.ex {k : Bool} {H H' : Hp} (e : Ex H H') : ∀ {ts : Trs} {vs : List V}, TAs k H vs ts → TAs k H' vs ts
  | _, _, .nil => .nil
  | _, _, .cons h r => .cons (TA.ex e h) (TAs.ex e r)
end
/-- a list of trees as it stands -/
inductive Kids (k : Bool) (H : Hp) : List V → List Tr → Prop
  | nil : Kids k H [] []
  | cons {v : V} {vs : List V} {t : Tr} {r : List Tr} : TA k H v t → Kids k H vs r → Kids k H (v :: vs) (t :: r)
theorem TAs.kids {k : Bool} {H : Hp} : ∀ {ts : Trs} {vs : List V}, TAs k H vs ts → Kids k H vs ts.list
  | _, _, .nil => .nil
  | _, _, .cons h r => .cons h r.kids
theorem Kids.ex {k : Bool} {H H' : Hp} (e : Ex H H') : ∀ {vs : List V} {ts : List Tr}, Kids k H vs ts → Kids k H' vs ts
  | _, _, .nil => .nil
  | _, _, .cons h r => .cons (h.ex e) (Kids.ex e r)
theorem Kids.len {k : Bool} {H : Hp} : ∀ {vs : List V} {ts : List Tr}, Kids k H vs ts → vs.length = ts.length
  | _, _, .nil => rfl
  | _, _, .cons _ r => by rw [List.length_cons, List.length_cons, r.len]
theorem Kids.get {k : Bool} {H : Hp} : ∀ {vs : List V} {ts : List Tr} {i : Nat} {x : V}, Kids k H vs ts → vs[i]? = some x → ∃ t, ts[i]? = some t ∧ TA k H x t
  | _, _, _, _, .nil, h => by cases h
  | _, _, 0, _, .cons (t := t) h1 _, h => ⟨t, rfl, by rw [← Option.some.inj h]; exact h1⟩
  | _, _, i + 1, _, .cons _ r, h => Kids.get (i := i) r h
theorem Kids.snoc {k : Bool} {H : Hp} {v : V} {t : Tr} (h : TA k H v t) : ∀ {vs : List V} {ts : List Tr}, Kids k H vs ts → Kids k H (vs ++ [v]) (ts ++ [t])
  | _, _, .nil => .cons h .nil
  | _, _, .cons h1 r => .cons h1 (Kids.snoc h r)
theorem Kids.app {k : Bool} {H : Hp} : ∀ {vs : List V} {ts : List Tr} {us : List V} {rs : List Tr}, Kids k H vs ts → Kids k H us rs → Kids k H (vs ++ us) (ts ++ rs)
  | _, _, _, _, .nil, h => h
  | _, _, _, _, .cons h r, h2 => .cons h (Kids.app r h2)
theorem size_pos : ∀ t : Tr, 1 ≤ t.size
  | .go _ _ => Nat.le_refl 1
  | .tell _ t => by
    show 1 ≤ t.size + 1
    omega
  | .read _ ts => by
    show 1 ≤ ts.size + 1
    omega
def total (ts : List Tr) : Nat := (ts.map Tr.size).sum
theorem Trs.total : ∀ ts : Trs, TR.total ts.list = ts.size
  | .nil => rfl
  | .cons t r => by
    show t.size + TR.total r.list = t.size + r.size
    rw [Trs.total r]
theorem size_kids : ∀ t : Tr, t.size = TR.total t.kids + 1
  | .go _ _ => rfl
  | .tell _ t => rfl
  | .read _ ts => by
    show ts.size + 1 = TR.total ts.list + 1
    rw [Trs.total]
theorem Trs.ok_mem {l w n : Nat} : ∀ {ts : Trs}, ts.ok l w n → ∀ t ∈ ts.list, t.ok l w n
  | .nil, _, _, h => nomatch h
  | .cons t r, h, x, hx => by
    rcases List.mem_cons.mp hx with q | q
    · rw [q]
      exact h.1
    · exact Trs.ok_mem h.2 x q
theorem ok_kids {l w n : Nat} : ∀ {t : Tr}, t.ok l w n → ∀ x ∈ t.kids, x.ok l w n
  | .go _ _, _, _, h => nomatch h
  | .tell _ t, h, x, hx => by
    rw [List.mem_singleton.mp hx]
    exact h.2
  | .read _ ts, h, x, hx => Trs.ok_mem h.2.2 x hx
theorem Trs.depth_mem : ∀ {ts : Trs}, ∀ t ∈ ts.list, t.depth ≤ ts.depth
  | .nil, _, h => nomatch h
  | .cons t r, x, hx => by
    rcases List.mem_cons.mp hx with q | q
    · rw [q]
      exact Nat.le_max_left _ _
    · exact Nat.le_trans (Trs.depth_mem x q) (Nat.le_max_right _ _)
theorem depth_kids : ∀ {t : Tr}, ∀ x ∈ t.kids, x.depth + 1 ≤ t.depth
  | .go _ _, _, h => nomatch h
  | .tell _ t, x, hx => by
    rw [List.mem_singleton.mp hx]
    exact Nat.le_refl _
  | .read _ ts, x, hx => Nat.succ_le_succ (Trs.depth_mem x hx)
end TR

namespace Law
open PySem PySem.Spec PyProof.Rows L2 Evl
def top (i : Nat) : Stmt := PySem.Challenge.pw_wordskips_k48_partials_and_moves.main.body.getD i (.Pass ⟨0, 0, 0, 0⟩)
abbrev s_is_list : Stmt := top 1
abbrev N_is_list : List Str := ["value"]
theorem sc_is_list : FnScope N_is_list ["value"] (defScope s_is_list) := ⟨rfl, rfl, rfl, by decide +kernel, rfl, by decide +kernel, by decide +kernel⟩
abbrev s_is_integer : Stmt := top 2
abbrev N_is_integer : List Str := ["value"]
theorem sc_is_integer : FnScope N_is_integer ["value"] (defScope s_is_integer) := ⟨rfl, rfl, rfl, by decide +kernel, rfl, by decide +kernel, by decide +kernel⟩
abbrev s_is_whole : Stmt := top 3
abbrev N_is_whole : List Str := ["value", "low", "high"]
theorem sc_is_whole : FnScope N_is_whole ["value", "low", "high"] (defScope s_is_whole) := ⟨rfl, rfl, rfl, by decide +kernel, rfl, by decide +kernel, by decide +kernel⟩
abbrev s_are_letters : Stmt := top 4
abbrev N_are_letters : List Str := ["value", "sign"]
theorem sc_are_letters : FnScope N_are_letters ["value"] (defScope s_are_letters) := ⟨rfl, rfl, rfl, by decide +kernel, rfl, by decide +kernel, by decide +kernel⟩
abbrev s_wrong_sign : Stmt := top 5
abbrev N_wrong_sign : List Str := ["letters", "text", "place", "sign"]
theorem sc_wrong_sign : FnScope N_wrong_sign ["letters", "text"] (defScope s_wrong_sign) := ⟨rfl, rfl, rfl, by decide +kernel, rfl, by decide +kernel, by decide +kernel⟩
abbrev s_wrong_word : Stmt := top 6
abbrev N_wrong_word : List Str := ["letters", "words", "place", "word"]
theorem sc_wrong_word : FnScope N_wrong_word ["letters", "words"] (defScope s_wrong_word) := ⟨rfl, rfl, rfl, by decide +kernel, rfl, by decide +kernel, by decide +kernel⟩
abbrev s_is_word : Stmt := top 7
abbrev N_is_word : List Str := ["letters", "value"]
theorem sc_is_word : FnScope N_is_word ["letters", "value"] (defScope s_is_word) := ⟨rfl, rfl, rfl, by decide +kernel, rfl, by decide +kernel, by decide +kernel⟩
abbrev s_kept : Stmt := top 15
abbrev N_kept : List Str := ["value", "part", "key"]
theorem sc_kept : FnScope N_kept ["value"] (defScope s_kept) := ⟨rfl, rfl, rfl, by decide +kernel, rfl, by decide +kernel, by decide +kernel⟩
abbrev s_check_words : Stmt := top 17
abbrev N_check_words : List Str := ["letters", "words", "place"]
theorem sc_check_words : FnScope N_check_words ["letters", "words"] (defScope s_check_words) := ⟨rfl, rfl, rfl, by decide +kernel, rfl, by decide +kernel, by decide +kernel⟩
abbrev s_fits : Stmt := top 18
abbrev N_fits : List Str := ["known", "word", "offset", "signs", "sign", "letter"]
theorem sc_fits : FnScope N_fits ["known", "word", "offset"] (defScope s_fits) := ⟨rfl, rfl, rfl, by decide +kernel, rfl, by decide +kernel, by decide +kernel⟩
abbrev s_slid : Stmt := top 19
abbrev N_slid : List Str := ["known", "by"]
theorem sc_slid : FnScope N_slid ["known", "by"] (defScope s_slid) := ⟨rfl, rfl, rfl, by decide +kernel, rfl, by decide +kernel, by decide +kernel⟩
abbrev s_partials : Stmt := top 24
abbrev N_partials : List Str := ["letters", "words"]
theorem sc_partials : FnScope N_partials ["letters", "words"] (defScope s_partials) := ⟨rfl, rfl, rfl, by decide +kernel, rfl, by decide +kernel, by decide +kernel⟩
abbrev s_moves : Stmt := top 25
abbrev N_moves : List Str := ["letters", "words", "partial", "place", "table"]
theorem sc_moves : FnScope N_moves ["letters", "words", "partial", "place"] (defScope s_moves) := ⟨rfl, rfl, rfl, by decide +kernel, rfl, by decide +kernel, by decide +kernel⟩
abbrev s_table : Stmt := top 26
abbrev N_table : List Str := ["letters", "words", "fitting", "found", "waiting", "partial", "places", "place", "sign", "_", "after"]
theorem sc_table : FnScope N_table ["letters", "words"] (defScope s_table) := ⟨rfl, rfl, rfl, by decide +kernel, rfl, by decide +kernel, by decide +kernel⟩
abbrev s_mvs : Stmt := top 27
abbrev N_mvs : List Str := ["letters", "words", "fitting", "partial", "place", "found", "letter", "more", "slide", "number"]
theorem sc_mvs : FnScope N_mvs ["letters", "words", "fitting", "partial", "place"] (defScope s_mvs) := ⟨rfl, rfl, rfl, by decide +kernel, rfl, by decide +kernel, by decide +kernel⟩
abbrev s_lpen : Stmt := top 29
abbrev N_lpen : List Str := ["_law_script"]
theorem sc_lpen : FnScope N_lpen ["_law_script"] (defScope s_lpen) := ⟨rfl, rfl, rfl, by decide +kernel, rfl, by decide +kernel, by decide +kernel⟩
abbrev s_ldraw : Stmt := top 30
abbrev N_ldraw : List Str := ["_law_pen", "_law_many", "_law_digit", "_law_index", "_law_cell", "_law_mixed"]
theorem sc_ldraw : FnScope N_ldraw ["_law_pen", "_law_many"] (defScope s_ldraw) := ⟨rfl, rfl, rfl, by decide +kernel, rfl, by decide +kernel, by decide +kernel⟩
abbrev s_lpick : Stmt := top 31
abbrev N_lpick : List Str := ["_law_pen", "_law_items"]
theorem sc_lpick : FnScope N_lpick ["_law_pen", "_law_items"] (defScope s_lpick) := ⟨rfl, rfl, rfl, by decide +kernel, rfl, by decide +kernel, by decide +kernel⟩
abbrev s_lshuffled : Stmt := top 32
abbrev N_lshuffled : List Str := ["_law_pen", "_law_items", "_law_rest", "_law_found"]
theorem sc_lshuffled : FnScope N_lshuffled ["_law_pen", "_law_items"] (defScope s_lshuffled) := ⟨rfl, rfl, rfl, by decide +kernel, rfl, by decide +kernel, by decide +kernel⟩
abbrev s_lfits : Stmt := top 33
abbrev N_lfits : List Str := ["_law_known", "_law_word", "_law_by", "_law_k"]
theorem sc_lfits : FnScope N_lfits ["_law_known", "_law_word", "_law_by"] (defScope s_lfits) := ⟨rfl, rfl, rfl, by decide +kernel, rfl, by decide +kernel, by decide +kernel⟩
abbrev s_lleast : Stmt := top 34
abbrev N_lleast : List Str := ["_law_words", "_law_known", "_law_by", "_law_word"]
theorem sc_lleast : FnScope N_lleast ["_law_words", "_law_known"] (defScope s_lleast) := ⟨rfl, rfl, rfl, by decide +kernel, rfl, by decide +kernel, by decide +kernel⟩
abbrev s_lsome_word : Stmt := top 35
abbrev N_lsome_word : List Str := ["_law_pen", "_law_letters", "_law_width", "_law_k"]
theorem sc_lsome_word : FnScope N_lsome_word ["_law_pen", "_law_letters", "_law_width"] (defScope s_lsome_word) := ⟨rfl, rfl, rfl, by decide +kernel, rfl, by decide +kernel, by decide +kernel⟩
abbrev s_lsome_words : Stmt := top 36
abbrev N_lsome_words : List Str := ["_law_pen", "_law_letters", "_law_width", "_law_most", "_law_found", "_law_k", "_law_word"]
theorem sc_lsome_words : FnScope N_lsome_words ["_law_pen", "_law_letters", "_law_width", "_law_most"] (defScope s_lsome_words) := ⟨rfl, rfl, rfl, by decide +kernel, rfl, by decide +kernel, by decide +kernel⟩
abbrev s_lmove : Stmt := top 37
abbrev N_lmove : List Str := ["_law_words", "_law_partial", "_law_place", "_law_letter", "_law_view", "_law_word", "_law_by"]
theorem sc_lmove : FnScope N_lmove ["_law_words", "_law_partial", "_law_place", "_law_letter"] (defScope s_lmove) := ⟨rfl, rfl, rfl, by decide +kernel, rfl, by decide +kernel, by decide +kernel⟩
abbrev s_lpartials : Stmt := top 38
abbrev N_lpartials : List Str := ["_law_letters", "_law_words", "_law_found", "_law_waiting", "_law_partial", "_law_place", "_law_k", "_law_letter"]
theorem sc_lpartials : FnScope N_lpartials ["_law_letters", "_law_words"] (defScope s_lpartials) := ⟨rfl, rfl, rfl, by decide +kernel, rfl, by decide +kernel, by decide +kernel⟩
abbrev s_lmet : Stmt := top 39
abbrev N_lmet : List Str := ["_law_call", "e"]
theorem sc_lmet : FnScope N_lmet ["_law_call"] (defScope s_lmet) := ⟨rfl, rfl, rfl, by decide +kernel, rfl, by decide +kernel, by decide +kernel⟩
abbrev s_lare_refused : Stmt := top 40
abbrev N_lare_refused : List Str := ["_law_pen", "_law_letters", "_law_words", "_law_known", "_law_width", "_law_odd", "_law_partial", "_law_shut", "_law_place"]
theorem sc_lare_refused : FnScope N_lare_refused ["_law_pen", "_law_letters", "_law_words", "_law_known"] (defScope s_lare_refused) := ⟨rfl, rfl, rfl, by decide +kernel, rfl, by decide +kernel, by decide +kernel⟩
abbrev s_law : Stmt := top 41
abbrev N_law : List Str := ["_law_script", "_law_pen", "_law_turn", "_law_letters", "_law_width", "_law_words", "_law_due", "_law_partial", "_law_place", "_law_k", "_law_found", "_law_letter", "_law_word", "_law_many", "_law_met_here"]
theorem sc_law : FnScope N_law ["_law_script"] (defScope s_law) := ⟨rfl, rfl, rfl, by decide +kernel, rfl, by decide +kernel, by decide +kernel⟩
abbrev s_BadLetters_init : Stmt := inClass (top 10) 0
abbrev N_BadLetters_init : List Str := ["self", "letters"]
theorem sc_BadLetters_init : FnScope N_BadLetters_init ["self", "letters"] (defScope s_BadLetters_init) := ⟨rfl, rfl, rfl, by decide +kernel, rfl, by decide +kernel, by decide +kernel⟩
abbrev s_BadWords_init : Stmt := inClass (top 11) 0
abbrev N_BadWords_init : List Str := ["self", "place"]
theorem sc_BadWords_init : FnScope N_BadWords_init ["self", "place"] (defScope s_BadWords_init) := ⟨rfl, rfl, rfl, by decide +kernel, rfl, by decide +kernel, by decide +kernel⟩
abbrev s_TooMany_init : Stmt := inClass (top 12) 0
abbrev N_TooMany_init : List Str := ["self", "what", "many", "most"]
theorem sc_TooMany_init : FnScope N_TooMany_init ["self", "what", "many", "most"] (defScope s_TooMany_init) := ⟨rfl, rfl, rfl, by decide +kernel, rfl, by decide +kernel, by decide +kernel⟩
abbrev s_BadPlace_init : Stmt := inClass (top 13) 0
abbrev N_BadPlace_init : List Str := ["self", "number"]
theorem sc_BadPlace_init : FnScope N_BadPlace_init ["self", "number"] (defScope s_BadPlace_init) := ⟨rfl, rfl, rfl, by decide +kernel, rfl, by decide +kernel, by decide +kernel⟩
abbrev s_NoPartial_init : Stmt := inClass (top 14) 0
abbrev N_NoPartial_init : List Str := ["self", "partial"]
theorem sc_NoPartial_init : FnScope N_NoPartial_init ["self", "partial"] (defScope s_NoPartial_init) := ⟨rfl, rfl, rfl, by decide +kernel, rfl, by decide +kernel, by decide +kernel⟩
abbrev s_Fitting_init : Stmt := inClass (top 21) 0
abbrev N_Fitting_init : List Str := ["self", "words"]
theorem sc_Fitting_init : FnScope N_Fitting_init ["self", "words"] (defScope s_Fitting_init) := ⟨rfl, rfl, rfl, by decide +kernel, rfl, by decide +kernel, by decide +kernel⟩
abbrev s_Fitting_can : Stmt := inClass (top 21) 1
abbrev N_Fitting_can : List Str := ["self", "known", "offset", "rest", "word"]
theorem sc_Fitting_can : FnScope N_Fitting_can ["self", "known", "offset"] (defScope s_Fitting_can) := ⟨rfl, rfl, rfl, by decide +kernel, rfl, by decide +kernel, by decide +kernel⟩
abbrev s_Fitting_least : Stmt := inClass (top 21) 2
abbrev N_Fitting_least : List Str := ["self", "known", "low", "offset"]
theorem sc_Fitting_least : FnScope N_Fitting_least ["self", "known", "low"] (defScope s_Fitting_least) := ⟨rfl, rfl, rfl, by decide +kernel, rfl, by decide +kernel, by decide +kernel⟩

/-! ### the pen -/
def penK (c : Addr) (op lf : Int) : List (Key × V) := [(.inr "cells", .ref c), (.inr "next", .int op), (.inr "left", .int lf)]
structure PenI where
  d : Addr
  c : Addr
  ns : List Int
def PenAt (p : PenI) (H0 H : Hp) (n : Nat) : Prop := Ex H0 H ∧ H0 p.d = none ∧ H0 p.c = some (.lst (p.ns.map V.int)) ∧ p.ns.length ≤ 63 ∧
  ∃ (op : Nat) (lf : Int), op ≤ n ∧ H p.d = some (.dK (penK p.c op lf))
theorem PenAt.ex {p : PenI} {H0 H H1 : Hp} {n : Nat} (P : PenAt p H0 H n) (e : Ex H H1) : PenAt p H0 H1 n := by
  obtain ⟨e0, h0, hc, hl, op, lf, ho, hd⟩ := P
  exact ⟨e0.trans e, h0, hc, hl, op, lf, ho, e p.d _ hd⟩
theorem PenAt.le {p : PenI} {H0 H : Hp} {n m : Nat} (P : PenAt p H0 H n) (h : n ≤ m) : PenAt p H0 H m := by
  obtain ⟨e0, h0, hc, hl, op, lf, ho, hd⟩ := P
  exact ⟨e0, h0, hc, hl, op, lf, Nat.le_trans ho h, hd⟩
theorem PenAt.dict {p : PenI} {H0 H : Hp} {n : Nat} (P : PenAt p H0 H n) : ∃ kvs, H p.d = some (.dK kvs) := by
  obtain ⟨_, _, _, _, op, lf, _, h⟩ := P
  exact ⟨_, h⟩
theorem PenAt.lst_ne {p : PenI} {H0 H : Hp} {a : Addr} {n : Nat} {xs : List V} (P : PenAt p H0 H n) (h : H a = some (.lst xs)) : a ≠ p.d := by
  obtain ⟨kvs, h2⟩ := P.dict
  exact ne_of h h2 (by intro z; cases z)
/-- an object made meanwhile may change -/
theorem PenAt.upd {p : PenI} {H0 H : Hp} {a : Addr} {n : Nat} {o : HO} (P : PenAt p H0 H n) (h : H0 a = none) (hd : a ≠ p.d) : PenAt p H0 (upd H a o) n := by
  obtain ⟨e0, h0, hc, hl, op, lf, ho, hd'⟩ := P
  exact ⟨e0.mut h, h0, hc, hl, op, lf, ho, by rw [upd_ne hd.symm]; exact hd'⟩
/-- one more object kept, and let go again -/
theorem PenAt.keep {p : PenI} {H0 H : Hp} {a : Addr} {n : Nat} {o : HO} (P : PenAt p H0 H n) (h : H a = some o) (hd : a ≠ p.d) : PenAt p (L2.upd H0 a o) H n := by
  obtain ⟨e0, h0, hc, r⟩ := P
  refine ⟨fun b u e => ?_, by rw [upd_ne hd.symm]; exact h0, ?_, r⟩
  · by_cases q : b = a
    · subst q
      rw [upd_same] at e
      rw [h, e]
    · rw [upd_ne q] at e
      exact e0 b u e
  · by_cases q : p.c = a
    · have e2 := e0 _ _ hc
      rw [q, h] at e2
      rw [q, upd_same, e2]
    · rw [upd_ne q]
      exact hc
theorem PenAt.drop {p : PenI} {H0 H H' : Hp} {a : Addr} {n m : Nat} {o : HO} (P : PenAt p H0 H n) (h : H a = some o) (P' : PenAt p (L2.upd H0 a o) H' m) : PenAt p H0 H' m := by
  refine ⟨fun b u e => ?_, P.2.1, P.2.2.1, P'.2.2.2⟩
  by_cases q : b = a
  · subst q
    have e2 := P.1 _ _ e
    rw [h] at e2
    exact P'.1 _ _ (by rw [upd_same, e2])
  · exact P'.1 _ _ (by rw [upd_ne q]; exact e)
theorem cells_opened : ¬ (("cells" : Str) = "next") := by decide +kernel
theorem cells_left : ¬ (("cells" : Str) = "left") := by decide +kernel
theorem opened_left : ¬ (("next" : Str) = "left") := by decide +kernel
theorem get_cells (c : Addr) (op lf : Int) : valV (penK c op lf) (.inr "cells") = some (.ref c) := by
  unfold valV penK
  rw [List.find?_cons_of_pos (by simp)]
  rfl
theorem get_opened (c : Addr) (op lf : Int) : valV (penK c op lf) (.inr "next") = some (.int op) := by
  unfold valV penK
  rw [List.find?_cons_of_neg (by simpa using cells_opened), List.find?_cons_of_pos (by simp)]
  rfl
theorem get_left (c : Addr) (op lf : Int) : valV (penK c op lf) (.inr "left") = some (.int lf) := by
  unfold valV penK
  rw [List.find?_cons_of_neg (by simpa using cells_left), List.find?_cons_of_neg (by simpa using opened_left), List.find?_cons_of_pos (by simp)]
  rfl
theorem put_opened (c : Addr) (op lf x : Int) : putK (penK c op lf) (.inr "next") (.int x) = penK c x lf := by
  unfold putK penK
  simp [cells_opened, opened_left, cells_left, Ne.symm opened_left]
theorem put_left (c : Addr) (op lf x : Int) : putK (penK c op lf) (.inr "left") (.int x) = penK c op x := by
  unfold putK penK
  simp [cells_opened, opened_left, cells_left]
theorem dget_of {H : Hp} {d : Addr} {kvs : List (Key × V)} {k : Str} {v : V} (e : H d = some (.dK kvs)) (h : valV kvs (.inr k) = some v) : DGet H d (.str k) (some v) := by
  rw [← h]
  exact DGet.k (k := .inr k) e
theorem dput_of {H : Hp} {d : Addr} {kvs kvs' : List (Key × V)} {k : Str} {v : V} (e : H d = some (.dK kvs)) (hl : kvs.length < 100) (h : putK kvs (.inr k) v = kvs') : DPut H d (.str k) v (upd H d (.dK kvs')) := by
  rw [← h]
  exact DPut.k (k := .inr k) e (Nat.lt_of_lt_of_le hl (by decide))

/-! ### lists of ints as data -/
theorem lay_ints : ∀ ns : List Int, PyData.canLayAll0 (ns.map PyData.int) = true
  | [] => rfl
  | n :: r => by
    show (PyData.canLay0 (.int n) && PyData.canLayAll0 (r.map PyData.int)) = true
    rw [lay_ints r]
    rfl
theorem depth_ints : ∀ ns : List Int, PyData.depthAll (ns.map PyData.int) = 0
  | [] => rfl
  | n :: r => by
    show max (PyData.depth (.int n)) (PyData.depthAll (r.map PyData.int)) = 0
    rw [depth_ints r]
    rfl
theorem shaped_ints (ns : List Int) : SeqAt.shaped (.list (ns.map PyData.int)) = true := by
  unfold SeqAt.shaped
  have e1 : (PyData.list (ns.map PyData.int)).canLay0 = true := lay_ints ns
  have e2 : (PyData.list (ns.map PyData.int)).depth = 1 := by
    show PyData.depthAll (ns.map PyData.int) + 1 = 1
    rw [depth_ints]
  rw [e1, e2]
  rfl
theorem dp_ints {K : PySem.W.Frag} {H : Hp} : ∀ ns : List Int, DpAll K H (ns.map V.int) (ns.map PyData.int)
  | [] => .nil
  | n :: r => .cons (.int n) (dp_ints r)
theorem eqv_nil (ns : List Int) : PyData.eqv (.list (ns.map PyData.int)) (.list []) = ns.isEmpty := by
  cases ns <;> rfl

theorem cut2 {A : Prop} {N : L2.St → Hp → Prop} (Pv : L2.St → Hp → Prop) (hA : (∀ σ' H', Pv σ' H' → N σ' H') → A) (rest : ∀ σ' H', Pv σ' H' → N σ' H') : A := hA rest
theorem st_eq {t : L2.St → Hp → Prop} {σ σ' : L2.St} {H : Hp} (e : σ = σ') (h : t σ' H) : t σ H := e ▸ h
/-! ### what is known of a def that is called -/
structure Kn (P : Program) (w : World) (K : PySem.W.Frag) (mg : Str → Option Value) (base : Heap) (x : Str) (ps : List Str) (k : Nat) (sp : Sp) where
  f : Addr
  fd : FuncData
  ok : FnOk P w K mg base CX0 k f fd ps sp
  g : mg x = some (.ref f)
  kp : PySem.W.keepIn K (.ref f) = true
  b : Binds K fd ps []
structure Tx (mg : Str → Option Value) where
  len : mg "len" = none
  int : mg "int" = none
  bool : mg "bool" = none
  abs : mg "abs" = none
  min : mg "min" = none
  list : mg "list" = none
  all : mg "all" = none
  any : mg "any" = none
  range : mg "range" = none
  isinstance : mg "isinstance" = none
  str : mg "str" = none
  set : mg "set" = none
  tuple : mg "tuple" = none
  dict : mg "dict" = none
  enumerate : mg "enumerate" = none
  sum : mg "sum" = none
  sorted : mg "sorted" = none
  zip : mg "zip" = none
  k_MOST_PARTIALS : Tok
  m_MOST_PARTIALS : mg "MOST_PARTIALS" = some (.int 31 k_MOST_PARTIALS)

def spPen (K : PySem.W.Frag) : Sp := fun vs H Q _ => ∃ (a : Addr) (ns : List Int), vs = [.ref a] ∧ SqL K H a (ns.map V.int) ∧ ns.length ≤ 63 ∧ ∀ p H0 H', Ex H H0 → PenAt p H0 H' 0 → Q (.ref p.d) H'
def spDraw : Sp := fun vs H Q _ => ∃ (p : PenI) (H0 : Hp) (n : Nat) (m : Int), vs = [.ref p.d, .int m] ∧ PenAt p H0 H n ∧ n < 1000000 ∧ 0 < m ∧ m < 1000 ∧ ∀ H' r, PenAt p H0 H' (n + 1) → 0 ≤ r → r < m → Q (.int r) H'

section
variable {P : Program} {w : World} {K : PySem.W.Frag} {mg : Str → Option Value} {base : Heap}
theorem ok_pen {f : Addr} {fd : FuncData} (F : Fun K "_law_pen_of" "_law_pen_of" s_lpen f fd) (T : Tx mg) : FnOk P w K mg base CX0 1 f fd ["_law_script"] (spPen K) := by
  refine F.ok sc_lpen (fun vs H Q E h => ?_) (fun cdv A outer s H vs Q E hr h => ?_)
  · obtain ⟨a, ns, rfl, _⟩ := h
    rfl
  · obtain ⟨a, ns, rfl, hS, hl, q⟩ := h
    refine ⟨_, (pss_one (ps_ret (pe_disp (pps_cons pe_str (pe_callTy call_list_of (by rfl) T.list PyProof.Rows.boot_list (pa_cons (pe_slice sl_list (pv 0) po_none (po_some pe_int)) pa_nil)) (pps_cons pe_str pe_int (pps_cons pe_str pe_int pps_nil))) (by rfl) (by rfl) (fun z => by cases z) (by decide)))), ?_⟩
    intro d hd
    have e1 : Ex H (upd H d (.dK [])) := Ex.new hd
    refine ⟨.ref a, rfl, 63, rfl, a, _, rfl, ex_l e1 hS, fun c hc => ?_⟩
    have e2 := e1.trans (Ex.new (o := .lst (cutV (ns.map V.int) none (some 63))) hc)
    refine ⟨c, _, rfl, .inl (.inl (.inl upd_same)), fun c2 hc2 => ?_⟩
    have e3 := e2.trans (Ex.new (o := .lst (cutV (ns.map V.int) none (some 63))) hc2)
    have ncd : c ≠ d := fun z => by rw [z, upd_same] at hc; cases hc
    have nc2c : c2 ≠ c := fun z => by rw [z, upd_same] at hc2; cases hc2
    have nc2d : c2 ≠ d := fun z => by rw [z, upd_ne ncd.symm, upd_same] at hc2; cases hc2
    refine ⟨by rw [upd_ne nc2d.symm, upd_ne ncd.symm, upd_same], penK c2 0 0, rfl, (by show 3 ≤ 15; decide), ?_⟩
    have em : mergeK [] (penK c2 0 0) = penK c2 0 0 := by
      unfold mergeK penK
      simp [putK, cells_opened, opened_left, cells_left]
    rw [em]
    have el : ((cutV (ns.map V.int) none (some 63)) : List V) = ((ns.drop (HT.sIx ns.length 0 none)).take (HT.sIx ns.length ns.length (some 63) - HT.sIx ns.length 0 none)).map V.int := by
      unfold cutV
      rw [List.length_map, List.map_take, List.map_drop]
    have hn2 : H c2 = none := by
      rw [upd_ne nc2c, upd_ne nc2d] at hc2
      exact hc2
    refine q ⟨d, c2, (ns.drop (HT.sIx ns.length 0 none)).take (HT.sIx ns.length ns.length (some 63) - HT.sIx ns.length 0 none)⟩ (upd H c2 (.lst (cutV (ns.map V.int) none (some 63)))) _ (Ex.new hn2) ⟨fun b u e => ?_, ?_, ?_, ?_, 0, 0, Nat.le_refl _, upd_same⟩
    · have nbd : b ≠ d := fun z => by
        rw [z, upd_ne nc2d.symm, hd] at e
        cases e
      rw [upd_ne nbd]
      by_cases z : b = c2
      · subst z
        rw [upd_same] at e ⊢
        exact e
      · rw [upd_ne z] at e ⊢
        exact (e1.trans (Ex.new hc)) _ _ e
    · exact (upd_ne nc2d.symm).trans hd
    · show upd H c2 _ c2 = _
      rw [upd_same, el]
    · rw [List.length_take, List.length_drop]
      omega
theorem ok_draw {f : Addr} {fd : FuncData} (F : Fun K "_law_draw" "_law_draw" s_ldraw f fd) (T : Tx mg) : FnOk P w K mg base CX0 1 f fd ["_law_pen", "_law_many"] spDraw := by
  refine F.ok sc_ldraw (fun vs H Q E h => ?_) (fun cdv A outer s H vs Q E hr h => ?_)
  · obtain ⟨p, H0, n, m, rfl, _⟩ := h
    rfl
  · obtain ⟨⟨d, c, ns⟩, H0, n, m, rfl, ⟨e0, h0, hc0, hl, op, lf, ho, hd⟩, hn, hm0, hm1, q⟩ := h
    have hc : H c = some (.lst (ns.map V.int)) := e0 _ _ hc0
    dsimp only at h0 hl hd q ⊢
    have ncd : c ≠ d := ne_of hc hd (by intro z; cases z)
    have fin : ∀ (o2 : Nat) (l2 : Int) (H' : Hp), Ex H0 H' → H' c = some (.lst (ns.map V.int)) → H' d = some (.dK (penK c o2 l2)) → o2 ≤ n + 1 → PenAt ⟨d, c, ns⟩ H0 H' (n + 1) :=
      fun o2 l2 H' x1 x2 x3 x4 => ⟨x1, h0, hc0, hl, o2, l2, x4, x3⟩
    refine ⟨_, (pss_cons (ps_if (pt_cmpR op_gt (pe_dget (hu_of hr) (pv 0) pe_str (fun _ _ => rfl)) pe_int (nomark _)) (pss_cons (ps_set (i := 2) sc_ldraw.nd rfl (Or.inl rfl) (pe_op op_mod (pe_callTy call_int1 (by rfl) T.int PyProof.Rows.boot_int (pa_cons (pe_dget (hu_of hr) (pv 0) pe_str (fun _ _ => rfl)) pa_nil)) (pv 1)))
      (pss_cons (ps_dput (hu_of hr) (pv 0) pe_str (pe_op op_fdivN (pe_dget (hu_of hr) (pv 0) pe_str (fun _ _ => rfl)) (pv 1)) rfl)
      (pss_one (ps_ret (pv 2))))) pss_nil)
      (pss_cons (ps_set (i := 3) sc_ldraw.nd rfl (Or.inl rfl) (pe_dget (hu_of hr) (pv 0) pe_str (fun _ _ => rfl)))
      (pss_cons (ps_dput (hu_of hr) (pv 0) pe_str (pe_op op_add (pv 3) pe_int) rfl)
      (pss_cons (ps_set (i := 4) sc_ldraw.nd rfl (Or.inl rfl) (pe_op op_add (pe_op op_mul pe_int (pv 3)) pe_int))
      (pss_cons (ps_if (pt_cmpR (op_neD hr.units) (pe_dget (hu_of hr) (pv 0) pe_str (fun _ _ => rfl)) (pe_lst pa_nil) (nomark _)) (pss_one (ps_set (i := 4) sc_ldraw.nd rfl (Or.inl rfl) (pe_ix ix_list (pe_dget (hu_of hr) (pv 0) pe_str (fun _ _ => rfl)) (pe_op op_mod (pe_callTy call_int1 (by rfl) T.int PyProof.Rows.boot_int (pa_cons (pv 3) pa_nil)) (pe_callB call_len_seq (by rfl) T.len PySem.boot_len (pa_cons (pe_dget (hu_of hr) (pv 0) pe_str (fun _ _ => rfl)) pa_nil))) (fun _ _ => rfl)))) pss_nil)
      (pss_cons (ps_if (PW.pt (pw_and (pt_cmpR op_lt (pv 3) (pe_callB call_len_seq (by rfl) T.len PySem.boot_len (pa_cons (pe_dget (hu_of hr) (pv 0) pe_str (fun _ _ => rfl)) pa_nil)) (nomark _)) (pw_and1 (pt_cmpR op_ge (pe_callB call_abs (by rfl) T.abs (by decide +kernel) (pa_cons (pv 4) pa_nil)) (pe_op op_pow pe_int pe_int) (nomark _))))) (pss_cons (ps_dput (hu_of hr) (pv 0) pe_str (pe_op op_fdivN (pe_op op_sub (pe_callB call_abs (by rfl) T.abs (by decide +kernel) (pa_cons (pv 4) pa_nil)) (pe_op op_pow pe_int pe_int)) (pv 1)) rfl)
      (pss_one (ps_ret (pe_op op_mod (pe_callTy call_int1 (by rfl) T.int PyProof.Rows.boot_int (pa_cons (pe_op op_sub (pe_callB call_abs (by rfl) T.abs (by decide +kernel) (pa_cons (pv 4) pa_nil)) (pe_op op_pow pe_int pe_int)) pa_nil)) (pv 1))))) pss_nil)
      (pss_cons (ps_set (i := 5) sc_ldraw.nd rfl (Or.inl rfl) (pe_op op_add (pe_op op_mul (pe_op op_mod (pe_callTy call_int1 (by rfl) T.int PyProof.Rows.boot_int (pa_cons (pv 4) pa_nil)) pe_int) pe_int) (pe_op op_mul (pe_op op_mul pe_int (pv 3)) (pv 3))))
      (pss_cons (ps_set (i := 5) sc_ldraw.nd rfl (Or.inl rfl) (pe_op op_mod (pe_callTy call_int1 (by rfl) T.int PyProof.Rows.boot_int (pa_cons (pe_op op_add (pe_op op_add (pv 5) (pe_op op_mul pe_int (pv 3))) pe_int) pa_nil)) pe_int))
      (pss_cons (ps_set (i := 5) sc_ldraw.nd rfl (Or.inl rfl) (pe_op op_mod (pe_callTy call_int1 (by rfl) T.int PyProof.Rows.boot_int (pa_cons (pe_op op_add (pe_op op_add (pe_op op_add (pe_op op_mul (pv 5) (pv 5)) (pe_op op_mul pe_int (pv 5))) (pe_op op_mul pe_int (pv 3))) pe_int) pa_nil)) pe_int))
      (pss_one (ps_ret (pe_op op_mod (pe_callTy call_int1 (by rfl) T.int PyProof.Rows.boot_int (pa_cons (pe_op op_fdivN (pe_op op_mod (pe_callTy call_int1 (by rfl) T.int PyProof.Rows.boot_int (pa_cons (pe_op op_mul (pv 5) (pe_op op_add (pv 5) pe_int)) pa_nil)) pe_int) pe_int) pa_nil)) (pv 1))))))))))))), ?_⟩
    refine ⟨_, rfl, d, .int lf, rfl, dget_of hd (get_left _ _ _), _, _, rfl, rfl, _, rfl, ite2 (fun hp => ?_) (fun hp => ?_)⟩
    · refine ⟨_, rfl, d, .int lf, rfl, dget_of hd (get_left _ _ _), .inl ⟨_, rfl, ?_⟩⟩
      refine ⟨_, rfl, _, _, rfl, rfl, hm0, ?_⟩
      refine ⟨_, rfl, d, .int lf, rfl, dget_of hd (get_left _ _ _), _, rfl, _, _, rfl, rfl, ⟨by omega, by omega⟩, ?_⟩
      refine ⟨_, rfl, d, _, rfl, dput_of hd (by show 3 < 100; decide) (put_left _ _ _ _), ?_⟩
      refine ⟨_, rfl, ?_⟩
      exact q _ _ (fin op _ _ (e0.mut h0) (by rw [upd_ne ncd]; exact hc) upd_same (by omega)) (Int.emod_nonneg _ (by omega)) (Int.emod_lt_of_pos _ hm0)
    · refine ⟨_, rfl, d, _, rfl, dget_of hd (get_opened _ _ _), ?_⟩
      refine ⟨_, rfl, _, _, rfl, rfl, _, rfl, d, _, rfl, dput_of hd (by show 3 < 100; decide) (put_opened _ _ _ _), ?_⟩
      have x1 : Ex H0 (upd H d (.dK (penK c ((op : Int) + 1) lf))) := e0.mut h0
      have hc1 : (upd H d (.dK (penK c ((op : Int) + 1) lf))) c = some (.lst (ns.map V.int)) := by
        rw [upd_ne ncd]
        exact hc
      have hd1 : (upd H d (.dK (penK c ((op : Int) + 1) lf))) d = some (.dK (penK c ((op + 1 : Nat) : Int) lf)) := upd_same
      generalize (upd H d (.dK (penK c ((op : Int) + 1) lf))) = H1 at x1 hc1 hd1 ⊢
      refine ⟨_, rfl, _, _, rfl, rfl, .inl ⟨by decide, by decide⟩, _, _, rfl, rfl, ?_⟩
      -- if cells != []
      dsimp only [gName]
      refine' cut2 (fun σ' H' => ∃ (x : Int), σ' = [some (.ref d), some (.int m), none, some (.int (op : Int)), some (.int x), none] ∧ Ex H0 H' ∧ H' c = some (.lst (ns.map V.int)) ∧ H' d = some (.dK (penK c ((op + 1 : Nat) : Int) lf))) (fun rest => ?_) ?_
      rotate_left
      · refine ⟨_, rfl, d, _, rfl, dget_of hd1 (get_cells _ _ _), Nat.zero_le _, fun el hel => ?_⟩
        have x2 := x1.trans (Ex.new (o := .lst []) hel)
        have hc2 : (upd H1 el (.lst [])) c = some (.lst (ns.map V.int)) := Ex.new hel _ _ hc1
        have hd2 : (upd H1 el (.lst [])) d = some (.dK (penK c ((op + 1 : Nat) : Int) lf)) := Ex.new hel _ _ hd1
        refine ⟨.list (ns.map PyData.int), .list [], .lst (sq_of hc2) (dp_ints ns), .lst (xs := []) (sq_of upd_same) .nil, shaped_ints ns, rfl, _, rfl, ?_⟩
        rw [eqv_nil]
        generalize (upd H1 el (.lst [])) = H2 at x2 hc2 hd2 ⊢
        cases hns : ns.isEmpty with
        | false =>
          refine iteT ?_
          have hpos : 0 < ns.length := by
            cases ns with
            | nil => cases hns
            | cons x r => exact Nat.succ_pos _
          have hL : (0 : Int) < ((ns.map V.int).length : Int) := by
            rw [List.length_map]
            omega
          obtain ⟨i, hi⟩ : ∃ i : Nat, (op : Int) % ((ns.map V.int).length : Int) = (i : Int) := ⟨((op : Int) % ((ns.map V.int).length : Int)).toNat, (Int.toNat_of_nonneg (Int.emod_nonneg _ (by omega))).symm⟩
          have hi2 : i < ns.length := by
            have := Int.emod_lt_of_pos (op : Int) hL
            rw [hi, List.length_map] at this
            omega
          have hat : atI (ns.map V.int) ((op : Int) % ((ns.map V.int).length : Int)) = some (V.int ns[i]) := by
            rw [hi]
            exact atI_nat (by rw [List.getElem?_map, List.getElem?_eq_getElem hi2]; rfl)
          refine ⟨_, rfl, d, _, rfl, dget_of hd2 (get_cells _ _ _), _, rfl, .inl ⟨_, rfl, _, rfl, d, _, rfl, dget_of hd2 (get_cells _ _ _), c, _, rfl, .inl (sq_of hc2), _, _, rfl, rfl, hL, c, _, _, _, rfl, rfl, sq_of hc2, hat, ?_⟩⟩
          exact rest _ _ ⟨_, rfl, x2, hc2, hd2⟩
        | true =>
          refine iteF ?_
          exact rest _ _ ⟨_, rfl, x2, hc2, hd2⟩
      rintro σ2 H2 ⟨x, rfl, x2, hc2, hd2⟩
      dsimp only
      -- the test
      refine q_when (b := decide ((op : Int) < ((ns.map V.int).length : Int)) && decide ((10 : Int) ^ (18 : Int).toNat ≤ (if x < 0 then -x else x)))
        (et_and (fun H4 e4 Q4 q4 => ?_) (fun _ H4 e4 Q4 q4 => ?_)) (fun hb H3 e3 => ?_) (fun hb H3 e3 => ?_)
      · exact ⟨_, rfl, _, rfl, d, _, rfl, dget_of (e4 _ _ hd2) (get_cells _ _ _), c, _, rfl, .inl (sq_of (e4 _ _ hc2)), _, _, rfl, rfl, _, rfl, q4 _ (Ex.refl _)⟩
      · exact ⟨_, rfl, _, rfl, _, _, rfl, rfl, ⟨by decide, by decide, by decide⟩, _, _, rfl, rfl, _, rfl, q4 _ (Ex.refl _)⟩
      · have x3 := x2.trans e3
        refine ⟨_, rfl, _, rfl, _, _, rfl, rfl, ⟨by decide, by decide, by decide⟩, _, _, rfl, rfl, _, rfl, _, _, rfl, rfl, ⟨by omega, by omega⟩, ?_⟩
        refine ⟨_, rfl, d, _, rfl, dput_of (e3 _ _ hd2) (by show 3 < 100; decide) (put_left _ _ _ _), ?_⟩
        refine ⟨_, rfl, _, rfl, _, _, rfl, rfl, ⟨by decide, by decide, by decide⟩, _, _, rfl, rfl, .inl ⟨_, rfl, _, rfl, _, _, rfl, rfl, hm0, ?_⟩⟩
        exact q _ _ (fin _ _ _ (x3.mut h0) (by rw [upd_ne ncd]; exact e3 _ _ hc2) upd_same (by omega)) (Int.emod_nonneg _ (by omega)) (Int.emod_lt_of_pos _ hm0)
      · have x3 := x2.trans e3
        refine ⟨_, rfl, .inl ⟨_, rfl, _, _, rfl, rfl, (by show (0 : Int) < _; decide), _, _, rfl, rfl, .inr ⟨by decide, by decide⟩, _, rfl, _, _, rfl, rfl, .inl ⟨by decide, by decide⟩, _, rfl, _, _, rfl, rfl, .inr ⟨by omega, by omega⟩, _, _, rfl, rfl, ?_⟩⟩
        refine ⟨_, rfl, _, rfl, _, _, rfl, rfl, .inl ⟨by decide, by decide⟩, _, _, rfl, rfl, _, _, rfl, rfl, .inl ⟨_, rfl, _, _, rfl, rfl, (by show (0 : Int) < _; decide), ?_⟩⟩
        dsimp only [gName]
        generalize hy : (x % 4294967197 * 52711 + 20353 * (op : Int) * (op : Int) + 1531 * (op : Int) + 11) % 4294967189 = y
        have b3 : 0 ≤ y := by rw [← hy]; exact Int.emod_nonneg _ (by decide)
        have b4 : y < 4294967189 := by rw [← hy]; exact Int.emod_lt_of_pos _ (by decide)
        refine ⟨_, rfl, _, rfl, _, _, rfl, rfl, .inl ⟨by omega, by omega⟩, _, rfl, _, _, rfl, rfl, .inl ⟨by decide, by decide⟩, _, _, rfl, rfl, _, rfl, _, _, rfl, rfl, .inl ⟨by decide, by decide⟩, _, _, rfl, rfl, _, _, rfl, rfl, .inl ⟨_, rfl, _, _, rfl, rfl, (by show (0 : Int) < _; decide), ?_⟩⟩
        dsimp only [gName]
        generalize hz : (y * y + 68903 * y + 23 * (op : Int) + 7) % 4294967161 = z
        have b5 : 0 ≤ z := by rw [← hz]; exact Int.emod_nonneg _ (by decide)
        have b6 : z < 4294967161 := by rw [← hz]; exact Int.emod_lt_of_pos _ (by decide)
        refine ⟨_, rfl, _, rfl, _, _, rfl, rfl, _, _, rfl, rfl, .inl ⟨by omega, by omega⟩, .inl ⟨_, rfl, _, _, rfl, rfl, (by show (0 : Int) < _; decide), _, _, rfl, rfl, ⟨by decide, by decide⟩, .inl ⟨_, rfl, _, rfl, _, _, rfl, rfl, hm0, ?_⟩⟩⟩
        exact q _ _ (fin _ _ _ x3 (e3 _ _ hc2) (e3 _ _ hd2) (by omega)) (Int.emod_nonneg _ (by omega)) (Int.emod_lt_of_pos _ hm0)
end
end Law

namespace Law
open PySem PySem.Spec PyProof.Rows L2 Evl
theorem sz_le {n : Nat} (h : n < 1000) : n ≤ sizeLine := Nat.le_trans (Nat.le_of_lt h) (by decide)
theorem at_draw {α : Type} {xs : List α} {r : Int} (h0 : 0 ≤ r) (h1 : r < (xs.length : Int)) : ∃ v, v ∈ xs ∧ atI xs r = some v := by
  obtain ⟨j, rfl⟩ : ∃ j : Nat, r = (j : Int) := ⟨r.toNat, (Int.toNat_of_nonneg h0).symm⟩
  have hj : j < xs.length := by omega
  exact ⟨xs[j], List.getElem_mem hj, atI_nat (List.getElem?_eq_getElem hj)⟩
def spPickS : Sp := fun vs H Q _ => ∃ (p : PenI) (H0 : Hp) (n : Nat) (z : Str), vs = [.ref p.d, .str z] ∧ PenAt p H0 H n ∧ n < 1000000 ∧ 0 < z.length ∧ z.length < 1000 ∧ ∀ H' c, PenAt p H0 H' (n + 1) → c ∈ z.cps.toList → Q (.str ⟨#[c]⟩) H'
def spPickL : Sp := fun vs H Q _ => ∃ (p : PenI) (H0 : Hp) (a : Addr) (n : Nat) (xs : List V), vs = [.ref p.d, .ref a] ∧ PenAt p H0 H n ∧ n < 1000000 ∧ H a = some (.lst xs) ∧ 0 < xs.length ∧ xs.length < 1000 ∧ ∀ H' v, PenAt p H0 H' (n + 1) → v ∈ xs → Q v H'
section
variable {P : Program} {w : World} {K : PySem.W.Frag} {mg : Str → Option Value} {base : Heap}
theorem ok_pickS {f : Addr} {fd : FuncData} (F : Fun K "_law_pick" "_law_pick" s_lpick f fd) (T : Tx mg) (c_ldraw : Kn P w K mg base "_law_draw" ["_law_pen", "_law_many"] 1 spDraw) : FnOk P w K mg base CX0 2 f fd ["_law_pen", "_law_items"] spPickS := by
  refine F.ok sc_lpick (fun vs H Q E h => ?_) (fun cdv A outer s H vs Q E hr h => ?_)
  · obtain ⟨p, H0, n, z, rfl, _⟩ := h
    rfl
  · obtain ⟨p, H0, n, z, rfl, P0, hn, hz0, hz1, q⟩ := h
    have ez : z.length = z.cps.toList.length := by simp [Str.length]
    refine ⟨_, (pss_one (ps_ret (pe_ix ix_str (pv 1) (pe_call c_ldraw.ok (hr.mono (by decide)) (by rfl) c_ldraw.g c_ldraw.kp c_ldraw.b .nil pass0 (pa_cons (pv 0) (pa_cons (pe_callB call_len_str (by rfl) T.len PySem.boot_len (pa_cons (pv 1) pa_nil)) pa_nil))) (fun _ _ => rfl)))), ?_⟩
    refine ⟨_, rfl, _, rfl, _, rfl, z, rfl, sz_le hz1, p, H0, n, _, rfl, P0, hn, by omega, by omega, fun H' r P1 r0 r1 => ?_⟩
    obtain ⟨c, hc, ha⟩ := at_draw (xs := z.cps.toList) r0 (by rw [← ez]; exact r1)
    exact ⟨z, r, c, rfl, rfl, sz_le hz1, ha, q _ _ P1 hc⟩
theorem ok_pickL {f : Addr} {fd : FuncData} (F : Fun K "_law_pick" "_law_pick" s_lpick f fd) (T : Tx mg) (c_ldraw : Kn P w K mg base "_law_draw" ["_law_pen", "_law_many"] 1 spDraw) : FnOk P w K mg base CX0 2 f fd ["_law_pen", "_law_items"] spPickL := by
  refine F.ok sc_lpick (fun vs H Q E h => ?_) (fun cdv A outer s H vs Q E hr h => ?_)
  · obtain ⟨p, H0, a, n, xs, rfl, _⟩ := h
    rfl
  · obtain ⟨p, H0, a, n, xs, rfl, P0, hn, hx, hz0, hz1, q⟩ := h
    refine ⟨_, (pss_one (ps_ret (pe_ix ix_list (pv 1) (pe_call c_ldraw.ok (hr.mono (by decide)) (by rfl) c_ldraw.g c_ldraw.kp c_ldraw.b .nil pass0 (pa_cons (pv 0) (pa_cons (pe_callB call_len_seq (by rfl) T.len PySem.boot_len (pa_cons (pv 1) pa_nil)) pa_nil))) (fun _ _ => rfl)))), ?_⟩
    refine ⟨_, rfl, _, rfl, _, rfl, a, xs, rfl, .inl (sq_of hx), p, upd H0 a (.lst xs), n, _, rfl, P0.keep hx (P0.lst_ne hx), hn, by omega, by omega, fun H' r P1 r0 r1 => ?_⟩
    obtain ⟨v, hv, ha⟩ := at_draw (xs := xs) r0 r1
    exact ⟨a, xs, r, v, rfl, rfl, sq_of (P1.1 _ _ upd_same), ha, q _ _ (P0.drop hx P1) hv⟩
end
end Law

namespace Law
open PySem PySem.Spec PyProof.Rows L2 Evl
def sg (c : Nat) : Str := ⟨#[c]⟩
def tx (l : List Nat) : Str := ⟨l.toArray⟩
theorem tx_len (l : List Nat) : (tx l).length = l.length := by simp [tx, Str.length]
theorem tx_list (l : List Nat) : (tx l).cps.toList = l := rfl
theorem tx_of (z : Str) : tx z.cps.toList = z := TL.ext_tl rfl
theorem sg_len (c : Nat) : (sg c).length = 1 := rfl
theorem joinL_nil : ∀ cs : List Nat, TL.joinL [] (cs.map fun c => [c]) = cs
  | [] => rfl
  | [c] => rfl
  | c :: d :: r => by
    show [c] ++ ([] ++ TL.joinL [] ((d :: r).map fun c => [c])) = c :: d :: r
    rw [joinL_nil (d :: r)]
    rfl
theorem join_sg (cs : List Nat) : Txt.join (Str.ofString "") (cs.map sg) = tx cs := by
  refine TL.ext_tl ?_
  rw [TL.join_eq, TL.tl_join, List.map_map, show TL.tl (Str.ofString "") = [] by decide +kernel]
  exact joinL_nil cs
theorem join_size (cs : List Nat) : ((cs.map sg).map (·.length)).sum = cs.length := by
  induction cs with
  | nil => rfl
  | cons c r ih =>
    show 1 + ((r.map sg).map (·.length)).sum = r.length + 1
    rw [ih, Nat.add_comm]
/-- the signs joined -/
theorem join_done {K : PySem.W.Frag} {H : Hp} {D : Addr} {cs : List Nat} {Q : VK} (hD : H D = some (.lst ((cs.map sg).map V.str))) (hl : cs.length ≤ 1000000) (q : Q (.str (tx cs)) H) :
    ∃ (a : Str) (p : Addr), ∃ ys : List Str, V.str (Str.ofString "") = .str a ∧ [V.ref D] = [.ref p] ∧ (SqL K H p (ys.map V.str) ∨ SqT K H p (ys.map V.str)) ∧ (ys.map (·.length)).sum + ys.length * a.length ≤ 16777216 ∧ Q (.str (Txt.join a ys)) H := by
  refine ⟨_, D, cs.map sg, rfl, rfl, .inl (sq_of hD), ?_, ?_⟩
  · rw [join_size, show (Str.ofString "").length = 0 from rfl]
    omega
  · rw [join_sg]
    exact q
def lets (f p n : Nat) : List Nat := (List.range n).map fun k => 97 + (f + p * k) % 26
def paces : List Nat := [1, 3, 5, 7, 9, 11, 15, 17, 19, 21, 23, 25]
theorem abc_at (r : Int) : ∃ c, atI (Str.ofString "abcdefghijklmnopqrstuvwxyz").cps.toList (r % 26) = some c ∧ c = 97 + (r % 26).toNat := by
  have h0 : 0 ≤ r % 26 := Int.emod_nonneg _ (by decide)
  have h1 : r % 26 < 26 := Int.emod_lt_of_pos _ (by decide)
  generalize hi : (r % 26) = i at h0 h1
  obtain ⟨j, rfl⟩ : ∃ j : Nat, i = (j : Int) := ⟨i.toNat, (Int.toNat_of_nonneg h0).symm⟩
  have hj : j < 26 := by omega
  have key : ∀ j : Nat, j < 26 → (Str.ofString "abcdefghijklmnopqrstuvwxyz").cps.toList[j]? = some (97 + j) := by decide +kernel
  exact ⟨97 + j, atI_nat (key j hj), by simp⟩
theorem paces_le : ∀ x ∈ paces, x ≤ 25 := by decide
theorem lets_succ (f p n : Nat) : lets f p (n + 1) = lets f p n ++ [97 + (f + p * n) % 26] := by
  unfold lets
  rw [List.range_succ, List.map_append]
  rfl
theorem lets_len (f p n : Nat) : (lets f p n).length = n := by
  unfold lets
  rw [List.length_map, List.length_range]
theorem sg_snoc (cs : List Nat) (c : Nat) : ((cs.map sg).map V.str) ++ [.str (sg c)] = ((cs ++ [c]).map sg).map V.str := by
  rw [List.map_append, List.map_append]
  rfl
theorem fresh0 {p : PenI} {H0 H : Hp} {n : Nat} {a : Addr} (P : PenAt p H0 H n) (h : H a = none) : H0 a = none := fresh_back P.1 h
theorem fresh_ne {p : PenI} {H0 H : Hp} {n : Nat} {a : Addr} (P : PenAt p H0 H n) (h : H a = none) : a ≠ p.d := by
  obtain ⟨kvs, h2⟩ := P.dict
  intro e
  rw [e, h2] at h
  cases h
end Law

namespace Law
open PySem PySem.Spec PyProof.Rows L2 Evl TR
theorem fold_app (l : List (Array Nat)) : ∀ a : Array Nat, (l.foldl (· ++ ·) a).toList = a.toList ++ (l.map Array.toList).flatten := by
  induction l with
  | nil => intro a; simp
  | cons x r ih =>
    intro a
    rw [List.foldl_cons, ih, List.map_cons, List.flatten_cons, Array.toList_append, List.append_assoc]
theorem mul_tx (l : List Nat) {n : Int} (h : 1 ≤ n) : Txt.mul (tx l) n = tx (List.replicate n.toNat l).flatten := by
  refine TL.ext_tl ?_
  unfold Txt.mul
  rw [if_neg (by omega)]
  by_cases q : (n == 1 || (tx l).length == 0) = true
  · rw [if_pos q]
    rw [Bool.or_eq_true, beq_iff_eq, beq_iff_eq] at q
    rcases q with q | q
    · subst q
      show l = (List.replicate 1 l).flatten
      simp
    · rw [tx_len] at q
      have e : l = [] := List.length_eq_zero_iff.mp q
      subst e
      show ([] : List Nat) = (List.replicate n.toNat []).flatten
      simp
  · rw [if_neg q]
    show (List.foldl (· ++ ·) #[] (List.replicate n.toNat (tx l).cps)).toList = (List.replicate n.toNat l).flatten
    rw [fold_app, List.map_replicate]
    rfl
theorem rep_len (n : Nat) (l : List Nat) : (List.replicate n l).flatten.length = n * l.length := by
  induction n with
  | zero => simp
  | succ k ih => rw [List.replicate_succ, List.flatten_cons, List.length_append, ih, Nat.succ_mul, Nat.add_comm]
theorem cut_to (l : List Nat) (k : Nat) : cutS (tx l) none (some (k : Int)) = tx (l.take k) := by
  refine TL.ext_tl ?_
  show (List.take _ (List.drop _ l)) = l.take k
  rw [HT.sIx_none, HT.sIx_nat, tx_len, Nat.sub_zero, List.drop_zero]
  rw [List.take_eq_take_iff]
  omega
theorem cut_from (l : List Nat) (k : Nat) : cutS (tx l) (some (k : Int)) none = tx (l.drop k) := by
  refine TL.ext_tl ?_
  show (List.take _ (List.drop _ l)) = l.drop k
  rw [HT.sIx_none, HT.sIx_nat, tx_len]
  by_cases h : k ≤ l.length
  · rw [Nat.min_eq_left h, List.take_of_length_le (by rw [List.length_drop]; omega)]
  · rw [Nat.min_eq_right (by omega), Nat.sub_self, List.take_zero, List.drop_eq_nil_of_le (by omega)]
theorem cut_mid (l : List Nat) (a b : Nat) : cutS (tx l) (some (a : Int)) (some ((a : Int) + (b : Int))) = tx ((l.drop a).take b) := by
  refine TL.ext_tl ?_
  show (List.take _ (List.drop _ l)) = (l.drop a).take b
  rw [show (a : Int) + (b : Int) = ((a + b : Nat) : Int) by omega, HT.sIx_nat, HT.sIx_nat, tx_len]
  by_cases h : a ≤ l.length
  · rw [Nat.min_eq_left h, List.take_eq_take_iff, List.length_drop]
    omega
  · have x1 : min a l.length = l.length := by omega
    have x2 : min (a + b) l.length = l.length := by omega
    rw [x1, x2, List.drop_length, List.drop_eq_nil_of_le (show l.length ≤ a by omega), List.take_nil, List.take_nil]
theorem join_bound (cs : List Nat) (h : cs.length ≤ 1000000) : ((cs.map sg).map (·.length)).sum + (cs.map sg).length * (Str.ofString "").length ≤ 16777216 := by
  rw [join_size, show (Str.ofString "").length = 0 from rfl]
  omega
theorem tx_le {l : List Nat} (h : l.length < 1000) : (tx l).length ≤ sizeLine := by
  rw [tx_len]
  exact sz_le h
theorem sg_tx (c : Nat) : sg c = tx [c] := rfl
theorem mem_rep {n : Nat} {l : List Nat} {c : Nat} (h : c ∈ (List.replicate n l).flatten) : c ∈ l := by
  obtain ⟨m, hm, hc⟩ := List.mem_flatten.mp h
  rw [List.eq_of_mem_replicate hm] at hc
  exact hc
theorem tx_app (l m : List Nat) : tx l ++ tx m = tx (l ++ m) := by
  refine TL.ext_tl ?_
  rw [TL.tl_append]
  rfl
theorem sgs_of (l : List Nat) : ST.signsOf (tx l) = l.map sg := rfl
theorem tx_size (l : List Nat) : (tx l).cps.size = l.length := by simp [tx]
theorem tx_at {l : List Nat} {i c : Nat} (h : (tx l).cps[i]? = some c) : l[i]? = some c := by
  rw [← h]
  simp [tx]
theorem sg_inj2 {c d : Nat} (h : sg c = sg d) : c = d := by
  have h2 : (sg c).cps.toList = (sg d).cps.toList := by rw [h]
  exact List.head_eq_of_cons_eq h2
theorem dct_nodup {l : List Nat} (h : l.Nodup) : ∀ i, i ≤ l.length → ST.dct (l.map sg) i = i
  | 0, _ => rfl
  | i + 1, hi => by
    have ih := dct_nodup h i (by omega)
    unfold ST.dct
    have hno : (((l.map sg).take i).any (· == (l.map sg).getD i Str.empty)) = false := by
      rw [Bool.eq_false_iff]
      intro q
      rw [List.any_eq_true] at q
      obtain ⟨x, hx, he⟩ := q
      rw [beq_iff_eq] at he
      have hi2 : i < l.length := by omega
      have e1 : (l.map sg).getD i Str.empty = sg l[i] := by
        rw [List.getD_eq_getElem?_getD, List.getElem?_map, List.getElem?_eq_getElem hi2]
        rfl
      rw [e1] at he
      obtain ⟨j, hj, ej⟩ := List.mem_iff_getElem.mp hx
      rw [List.length_take, List.length_map] at hj
      have ej2 : sg (l[j]'(by omega)) = x := by
        rw [← ej, List.getElem_take, List.getElem_map]
      have e2 : l[j]'(by omega) = l[i] := sg_inj2 (ej2.trans he)
      exact List.pairwise_iff_getElem.mp h j i (by omega) hi2 (by omega) e2
    rw [hno]
    show (if false = true then _ else _) = i + 1
    rw [if_neg (by decide), ih]
/-- letters: two to four different small ones -/
structure LG (l : List Nat) : Prop where
  lo : 2 ≤ l.length
  hi : l.length ≤ 4
  az : ∀ c ∈ l, 97 ≤ c ∧ c ≤ 122
  nd : l.Nodup
theorem lets_good {f p m : Nat} (hf : f < 26) (hp : p ∈ paces) (h1 : 2 ≤ m) (h2 : m ≤ 4) : LG (lets f p m) := by
  refine ⟨by rw [lets_len]; exact h1, by rw [lets_len]; exact h2, fun c hc => ?_, ?_⟩
  · unfold lets at hc
    obtain ⟨k, _, rfl⟩ := List.mem_map.mp hc
    omega
  · have key : ∀ f : Nat, f < 26 → ∀ p ∈ paces, (lets f p 2).Nodup ∧ (lets f p 3).Nodup ∧ (lets f p 4).Nodup := by decide +kernel
    obtain ⟨a, b, c⟩ := key f hf p hp
    have hm : m = 2 ∨ m = 3 ∨ m = 4 := by omega
    rcases hm with rfl | rfl | rfl <;> assumption
def spAreL : Sp := fun vs H Q _ => ∃ L : List Nat, vs = [.str (tx L)] ∧ LG L ∧ ∀ H', Ex H H' → Q (.bl true) H'
theorem kit_lt {K : PySem.W.Frag} : PySem.W.kitAny K (.type "list") [.type "list", .type "tuple"] = some true :=
  kitAny_cons (b := true) (kit_ty (by decide +kernel)) (fun h => by cases h) fun _ => rfl
theorem kit_tt {K : PySem.W.Frag} : PySem.W.kitAny K (.type "tuple") [.type "list", .type "tuple"] = some true :=
  kitAny_cons (b := false) (kit_ty (by decide +kernel)) (fun _ => kitAny_cons (b := true) (kit_ty (by decide +kernel)) (fun h => by cases h) fun _ => rfl) fun h => by cases h
theorem kit_ss {K : PySem.W.Frag} : PySem.W.kitOne K (.type "str") (.type "str") = some true := kit_ty (by decide +kernel)
theorem kit_ii {K : PySem.W.Frag} : PySem.W.kitOne K (.type "int") (.type "int") = some true := kit_ty (by decide +kernel)
theorem kit_ib {K : PySem.W.Frag} : PySem.W.kitOne K (.type "int") (.type "bool") = some false := kit_ty (by decide +kernel)
def spIsQ : Sp := fun vs H Q _ => ∃ (a : Addr) (k : Bool) (xs : List V), vs = [.ref a] ∧ H a = some (ob k xs) ∧ ∀ H', Ex H H' → Q (.bl true) H'
def spIsInt : Sp := fun vs H Q _ => ∃ v : Int, vs = [.int v] ∧ ∀ H', Ex H H' → Q (.bl true) H'
def spWhole : Sp := fun vs H Q _ => ∃ v lo hi : Int, vs = [.int v, .int lo, .int hi] ∧ lo ≤ v ∧ v ≤ hi ∧ ∀ H', Ex H H' → Q (.bl true) H'
def spIsPart : Sp := fun vs H Q _ => ∃ (t : Tr) (v : V) (k : Bool) (L : List Nat) (w n : Nat), vs = [v, .str (tx L), .int (w : Int), .int (n : Int)] ∧ TA k H v t ∧ t.ok L.length w n ∧ L.length ≤ 10 ∧ ∀ H', Ex H H' → Q (.bl true) H'
def spWithin : Sp := fun vs H Q _ => ∃ (t : Tr) (v : V) (k : Bool) (H0 : Hp), vs = [v] ∧ TA k H0 v t ∧ Ex H0 H ∧ ∀ r H' us, Ex H H' → H r = none → H' r = some (.lst us) → Kids k H0 us t.kids → Q (.ref r) H'
theorem go_ne_read : ¬ (V.str (Str.ofString "go") = V.str (Str.ofString "read")) := fun h => absurd (V.str.inj h) (by decide +kernel)
theorem go_ne_tell : ¬ (V.str (Str.ofString "go") = V.str (Str.ofString "tell")) := fun h => absurd (V.str.inj h) (by decide +kernel)
theorem tell_ne_read : ¬ (V.str (Str.ofString "tell") = V.str (Str.ofString "read")) := fun h => absurd (V.str.inj h) (by decide +kernel)
theorem tell_ne_go : ¬ (V.str (Str.ofString "tell") = V.str (Str.ofString "go")) := fun h => absurd (V.str.inj h) (by decide +kernel)
theorem read_ne_go : ¬ (V.str (Str.ofString "read") = V.str (Str.ofString "go")) := fun h => absurd (V.str.inj h) (by decide +kernel)
theorem read_ne_tell : ¬ (V.str (Str.ofString "read") = V.str (Str.ofString "tell")) := fun h => absurd (V.str.inj h) (by decide +kernel)
theorem iteD {c A B : Prop} [Decidable c] (hc : c) (h : A) : if decide c = true then A else B := by
  rw [if_pos (decide_eq_true hc)]
  exact h
theorem iteDn {c A B : Prop} [Decidable c] (hc : ¬ c) (h : B) : if decide c = true then A else B := by
  rw [if_neg (by rw [decide_eq_true_eq]; exact hc)]
  exact h
section
variable {P : Program} {w : World} {K : PySem.W.Frag} {mg : Str → Option Value} {base : Heap}
theorem ok_isQ {f : Addr} {fd : FuncData} (F : Fun K "is_list" "is_list" s_is_list f fd) (T : Tx mg) : FnOk P w K mg base CX0 1 f fd ["value"] spIsQ := by
  refine F.ok sc_is_list (fun vs H Q E h => ?_) (fun cdv A outer s H vs Q E hr h => ?_)
  · obtain ⟨a, k, xs, rfl, _⟩ := h
    rfl
  · obtain ⟨a, k, xs, rfl, ha, q⟩ := h
    refine ⟨_, (pss_one (ps_ret (pe_callB call_isiT (by rfl) T.isinstance PyProof.Rows.boot_isinstance (pa_cons (pv 0) (pa_cons (pe_tup (pa_cons (pe_bltn (v := .ty "list") (by rfl) T.list PyProof.Rows.boot_list rfl) (pa_cons (pe_bltn (v := .ty "tuple") (by rfl) T.tuple PyProof.Rows.boot_tuple rfl) pa_nil))) pa_nil))))), ?_⟩
    refine ⟨_, rfl, by show 2 ≤ sizeLine; decide, fun t ht => ?_⟩
    cases k
    · exact ⟨_, t, _, _, _, true, rfl, upd_same, .cons (.ty _) (.cons (.ty _) .nil), .base (.lst (Ex.new ht _ _ ha)), kit_lt, q _ (Ex.new ht)⟩
    · exact ⟨_, t, _, _, _, true, rfl, upd_same, .cons (.ty _) (.cons (.ty _) .nil), .base (.tup (Ex.new ht _ _ ha)), kit_tt, q _ (Ex.new ht)⟩
theorem ok_integer {f : Addr} {fd : FuncData} (F : Fun K "is_integer" "is_integer" s_is_integer f fd) (T : Tx mg) : FnOk P w K mg base CX0 1 f fd ["value"] spIsInt := by
  refine F.ok sc_is_integer (fun vs H Q E h => ?_) (fun cdv A outer s H vs Q E hr h => ?_)
  · obtain ⟨v, rfl, _⟩ := h
    rfl
  · obtain ⟨v, rfl, q⟩ := h
    refine ⟨_, (pss_one (ps_ret (pe_and (pe_callB call_isi (by rfl) T.isinstance PyProof.Rows.boot_isinstance (pa_cons (pv 0) (pa_cons (pe_bltn (v := .ty "int") (by rfl) T.int PyProof.Rows.boot_int rfl) pa_nil))) (pe_one (pe_not (pe_callB call_isi (by rfl) T.isinstance PyProof.Rows.boot_isinstance (pa_cons (pv 0) (pa_cons (pe_bltn (v := .ty "bool") (by rfl) T.bool PyProof.Rows.boot_bool rfl) pa_nil)))))))), ?_⟩
    refine ⟨_, rfl, _, _, _, _, true, rfl, .ty _, .base (.int _), kit_ii, true, rfl, ?_⟩
    exact ⟨_, rfl, _, _, _, _, false, rfl, .ty _, .base (.int _), kit_ib, false, rfl, q H (Ex.refl _)⟩
theorem ok_whole {f : Addr} {fd : FuncData} (F : Fun K "is_whole" "is_whole" s_is_whole f fd) (T : Tx mg) (c_is_integer : Kn P w K mg base "is_integer" ["value"] 1 spIsInt) : FnOk P w K mg base CX0 2 f fd ["value", "low", "high"] spWhole := by
  refine F.ok sc_is_whole (fun vs H Q E h => ?_) (fun cdv A outer s H vs Q E hr h => ?_)
  · obtain ⟨v, lo, hi, rfl, _⟩ := h
    rfl
  · obtain ⟨v, lo, hi, rfl, h1, h2, q⟩ := h
    refine ⟨_, (pss_one (ps_ret (pe_and (pe_call c_is_integer.ok (hr.mono (by decide)) (by rfl) c_is_integer.g c_is_integer.kp c_is_integer.b .nil pass0 (pa_cons (pv 0) pa_nil)) (pe_one (pe_chain op_le op_le (pv 1) (pv 0) (pv 2)))))), ?_⟩
    refine ⟨_, rfl, v, rfl, fun H' e => ⟨true, rfl, ?_⟩⟩
    refine ⟨_, rfl, _, rfl, _, _, rfl, rfl, _, rfl, iteD h1 ⟨_, rfl, _, _, rfl, rfl, ?_⟩⟩
    have q2 := q H' e
    show Q (V.bl (decide (v ≤ hi))) H'
    rw [decide_eq_true h2]
    exact q2
theorem le_a {c : Nat} (h : 97 ≤ c) : (!decide ((sg c).cps.toList < (Str.ofString "a").cps.toList)) = true := by
  rw [show (Str.ofString "a").cps.toList = [97] by decide +kernel, show (sg c).cps.toList = [c] from rfl]
  rw [decide_eq_false]
  · rfl
  · intro q
    rw [List.cons_lt_cons_iff] at q
    rcases q with q | ⟨_, q⟩
    · omega
    · exact absurd q (by simp)
theorem le_z {c : Nat} (h : c ≤ 122) : (!decide ((Str.ofString "z").cps.toList < (sg c).cps.toList)) = true := by
  rw [show (Str.ofString "z").cps.toList = [122] by decide +kernel, show (sg c).cps.toList = [c] from rfl]
  rw [decide_eq_false]
  · rfl
  · intro q
    rw [List.cons_lt_cons_iff] at q
    rcases q with q | ⟨_, q⟩
    · omega
    · exact absurd q (by simp)
theorem lc_str {x : Str} {g : TG} {tt : TT} {te : TE} {vs : List Nat} {σ : L2.St} {H1 : Hp} {D : Addr} {Qd : Hp → Prop} (Pv : Nat → Hp → Prop) (h0 : Pv 0 (upd H1 D (.lst [])))
    (hs : ∀ i c H, x.cps[i]? = some c → Pv i H → g (.str ⟨#[c]⟩) (wipe σ vs) H fun σ2 H2 => wipe σ2 vs = wipe σ vs ∧ tt σ2 H2 fun b H3 =>
      if b = true then te σ2 H3 fun z H4 => ∃ acc, H4 D = some (.lst acc) ∧ acc.length < sizeLine ∧ Pv (i + 1) (upd H4 D (.lst (acc ++ [z]))) else Pv (i + 1) H3) (hd : ∀ H, Pv x.cps.size H → Qd H) :
    ∃ W : Nat → Nat → Hp → Prop, (∃ m, W 0 m (upd H1 D (.lst []))) ∧ ∀ i m H, W i m H →
      ((Its x).stop i H ∧ Qd H) ∨ ((Its x).go i H ∧ ∃ Nx : Hp → Prop, (∀ H', Nx H' → ∃ m', m' < m ∧ W (i + 1) m' H') ∧ ∀ v H', (Its x).yld i H v H' → g v (wipe σ vs) H' fun σ2 H2 => wipe σ2 vs = wipe σ vs ∧ tt σ2 H2 fun b H3 =>
        if b = true then te σ2 H3 fun z H4 => ∃ acc, H4 D = some (.lst acc) ∧ acc.length < sizeLine ∧ Nx (upd H4 D (.lst (acc ++ [z]))) else Nx H3) := by
  refine ⟨fun i m H => i + m = x.cps.size ∧ Pv i H, ⟨_, Nat.zero_add _, h0⟩, ?_⟩
  rintro i m H ⟨e, p⟩
  by_cases hm : m = 0
  · have e2 : i = x.cps.size := by omega
    refine .inl ⟨by show x.cps.size ≤ i; omega, hd H ?_⟩
    rw [← e2]
    exact p
  · refine .inr ⟨by show i < x.cps.size; omega, Pv (i + 1), fun H' p' => ⟨m - 1, by omega, by omega, p'⟩, ?_⟩
    rintro v H' ⟨rfl, c, hc, rfl⟩
    exact hs i c _ hc p
theorem bl_snoc' (bs : List Bool) (b : Bool) : bs.map V.bl ++ [.bl b] = (bs ++ [b]).map V.bl := by
  rw [List.map_append]
  rfl
theorem all_yes (n : Nat) : (List.replicate n true).all id = true := by
  rw [List.all_eq_true]
  intro x hx
  rw [List.eq_of_mem_replicate hx]
  rfl
theorem ok_areL {f : Addr} {fd : FuncData} (F : Fun K "are_letters" "are_letters" s_are_letters f fd) (T : Tx mg) : FnOk P w K mg base CX0 1 f fd ["value"] spAreL := by
  refine F.ok sc_are_letters (fun vs H Q E h => ?_) (fun cdv A outer s H vs Q E hr h => ?_)
  · obtain ⟨L, rfl, _⟩ := h
    rfl
  · obtain ⟨L, rfl, hL, q⟩ := h
    have h1 := hL.lo
    have h2 := hL.hi
    refine ⟨_, (pss_cons (ps_if (PW.pt (pw_or (pt_not (pt_val (pe_callB call_isi (by rfl) T.isinstance PyProof.Rows.boot_isinstance (pa_cons (pv 0) (pa_cons (pe_bltn (v := .ty "str") (by rfl) T.str PyProof.Rows.boot_str rfl) pa_nil))))) (pw_or1 (pt_not (pt_chain op_le op_le pe_int (pe_callB call_len_str (by rfl) T.len PySem.boot_len (pa_cons (pv 0) pa_nil)) pe_int))))) (pss_one (ps_ret pe_bl)) pss_nil)
      (pss_one (ps_ret (pe_and (pe_callB (cr_all rfl) (by rfl) T.all PyProof.Rows.boot_all (pa_cons (pe_lc (own := [("sign", 1)]) (g := gName 1) (tt := tYes) rfl sc_are_letters.nd (pi_str (pv 0)) (blkOk_by (N := N_are_letters) (sc := defScope s_are_letters) (by decide +kernel)) (fun _ _ _ _ _ => (pg_name (i := 1) sc_are_letters.nd rfl (Or.inl rfl))) (fun _ _ _ _ _ => pts_nil) (fun _ _ _ _ _ => (pe_chain op_le_str op_le_str pe_str (pv 1) pe_str))) pa_nil)) (pe_one (pe_cmpR op_eq (EN.pe_lenSetS rfl (by rfl) T.len (by rfl) T.set (pv 0)) (pe_callB call_len_str (by rfl) T.len PySem.boot_len (pa_cons (pv 0) pa_nil)) (nomark _))))))), ?_⟩
    refine ⟨_, rfl, _, _, _, _, true, rfl, .ty _, .base (.str _), kit_ss, true, rfl, ?_⟩
    refine ⟨_, rfl, _, rfl, tx_le (by omega), _, _, rfl, rfl, _, rfl, ite2 (fun _ => ?_) (fun hn => absurd (decide_eq_true (by rw [tx_len]; omega)) hn)⟩
    refine ⟨_, _, rfl, rfl, _, rfl, ite2 (fun hb => ?_) (fun _ => ?_)⟩
    · rw [tx_len, decide_eq_true (by omega)] at hb
      cases hb
    refine ⟨_, rfl, _, rfl, fun D hD => ?_⟩
    refine lc_str (x := tx L) (fun i H' => Ex H H' ∧ H' D = some (.lst ((List.replicate i true).map V.bl))) ⟨Ex.new hD, upd_same⟩ (fun i c H' hic hw => ?_) (fun H' hw => ?_)
    · obtain ⟨e, hl⟩ := hw
      have hc := tx_at hic
      have az := hL.az c (List.mem_of_getElem? hc)
      have hi := (List.getElem?_eq_some_iff.mp hc).1
      refine ⟨rfl, _, rfl, _, _, rfl, rfl, _, rfl, ite2 (fun _ => ?_) (fun hn => absurd (le_a az.1) hn)⟩
      refine ⟨_, _, rfl, rfl, _, hl, ?_, e.mut hD, ?_⟩
      · rw [List.length_map, List.length_replicate]
        exact sz_lt (by omega)
      · rw [upd_same]
        refine congrArg (fun l => some (HO.lst l)) ?_
        show (List.replicate i true).map V.bl ++ [V.bl (!decide ((Str.ofString "z").cps.toList < (sg c).cps.toList))] = _
        rw [le_z az.2, bl_snoc', List.replicate_succ']
    · obtain ⟨e, hl⟩ := hw
      refine ⟨D, _, rfl, sq_of hl, _, rfl, ?_⟩
      rw [all_yes]
      refine ⟨_, rfl, _, rfl, by rw [tx_size]; omega, _, rfl, _, rfl, tx_le (by omega), rfl, ?_⟩
      have e2 : decide (V.int ((ST.dct (ST.signsOf (tx L)) (tx L).cps.size : Nat) : Int) = V.int (((tx L).length : Nat) : Int)) = true := decide_eq_true (by
        rw [sgs_of, tx_size, dct_nodup hL.nd _ (Nat.le_refl _), tx_len])
      show Q (V.bl (decide (V.int ((ST.dct (ST.signsOf (tx L)) (tx L).cps.size : Nat) : Int) = V.int (((tx L).length : Nat) : Int)))) H'
      rw [e2]
      exact q _ e
end
end Law

/-! x == a text, whatever x is -/
namespace ES
open PySem PySem.Spec PyProof.Rows L2
open AutoSeq1 (wpAny_loadPart')
open MeetsSeq MeetsSeq2 MeetsSeq3 SeqRoads2
theorem dict_says_no (l : Addr) (es : Array DictEntry) (n : Nat) (dd : Option Addr) (sl : Array (Option Value)) (b : Str) (u : Tok) :
    Meets (Builtin.«dict.__eq__» ⟨[.ref l, .str b u], []⟩) (fun _ R s => s.heap.get? l = some { cls := .type "dict", dict := dd, data := .dict es n, slots := sl } ∧ R (.ok (.ret .notImplemented)) s) :=
  .of_wp fun prog w A R s h => by
    obtain ⟨hp, g, d, tk, os⟩ := s
    obtain ⟨hl, h⟩ := h
    have f1 := F.sub_str_dict
    wp_walk using wpAny_loadPart' hl
    exact ⟨_, rfl, h⟩
theorem str_says_no (b : Str) (u : Tok) (l : Addr) (c : Value) (es : Array DictEntry) (n : Nat) (dd : Option Addr) (sl : Array (Option Value)) :
    Meets (Builtin.«str.__eq__» ⟨[.str b u, .ref l], []⟩) (fun _ R s => s.heap.get? l = some { cls := c, dict := dd, data := .dict es n, slots := sl } ∧ R (.ok (.ret .notImplemented)) s) :=
  .of_wp fun prog w A R s h => by
    obtain ⟨hp, g, d, tk, os⟩ := s
    obtain ⟨hl, h⟩ := h
    wp_walk using wpAny_loadPart' hl, wpAny_load hl
    exact ⟨_, rfl, h⟩
theorem dict_str {A : Around} {s : Shared} {l : Addr} {o : Obj} {es : Array DictEntry} {n : Nat} (b : Str) (u : Tok) (ho : s.heap.get? l = some o) (hc : o.cls = .type "dict") (hd : o.data = .dict es n) (hu : A.units < cLine) : SeqAt.RcAt A s (.ref l) (.str b u) false := fun prog w E Q h => by
  obtain ⟨cls, dd, data, sl⟩ := o
  simp only at hc hd
  subst hc hd
  exact SeqAt.rc_eq_decline_or (k := false) ⟨_, ho, rfl⟩ (typeIs_str s b u) (by decide) F.sub_str_dict F.slot_dict_eq F.slot_str_eq_refl
    (fun _ hq => call_meets F.slot_dict_eq ⟨_, ho, rfl⟩ F.entry_dict_eq (F.args_dict_eq_2 _ _) (dict_says_no l es n dd sl b u) ⟨ho, hq⟩)
    (fun _ hq => call_meets F.slot_str_eq_refl (typeIs_str s b u) F.entry_str_eq (F.args_str_eq_2 _ _) (str_says_no b u l (.type "dict") es n dd sl) ⟨ho, hq⟩)
    (fun _ hq => wpAny_of_eq (rfl : isSame (.ref l) (.str b u) = pure false) hq) (.inr hu) h
def rEqS (K : PySem.W.Frag) : R2 := fun x y H Q => rEq x y H Q ∨ ∃ a z, x = .ref a ∧ y = .str z ∧ ((∃ xs, SqL K H a xs) ∨ (∃ xs, SqT K H a xs) ∨ ∃ kvs, H a = some (.dK kvs)) ∧ Q (.bl false) H
theorem op_eqS {X : Cx} (hu : X.A.units + 64 < cLine) : OpR X (compareOp .Eq) (rEqS X.K) := by
  intro pins s σ H x y v u Q I rx ry h
  rcases h with h | ⟨a, z, rfl, rfl, h, q⟩
  · exact op_eq pins s σ H x y v u Q I rx ry h
  · cases (show v = Value.ref a from rx)
    obtain ⟨t, rfl⟩ := ry
    have un : X.A.units < cLine := by omega
    show wpAny _ _ (richCompare .Eq _ _) _ _ _
    rcases h with ⟨xs, h⟩ | ⟨xs, h⟩ | ⟨kvs, h⟩
    · obtain ⟨us, r1, p1, _⟩ := I.list h
      exact (SeqAt.RcAt.list_str z t p1.isList un) X.prog X.w _ _ ⟨.bl false, H, I, rfl, q⟩
    · obtain ⟨us, r1, p1, _⟩ := I.tuple h
      exact (SeqAt.RcAt.tuple_str z t p1 un) X.prog X.w _ _ ⟨.bl false, H, I, rfl, q⟩
    · obtain ⟨_, _, vs, kv, o, es, ep, g, ed, dd, _⟩ := dk_of I.hok h
      exact (dict_str z t g ed.1 dd un) X.prog X.w _ _ ⟨.bl false, H, I, rfl, q⟩
end ES

/-! what may stand where a tree should: any data -/
namespace GX
open PySem PySem.Spec PyProof.Rows L2 Evl TR
inductive Gt where
  | int (i : Int)
  | str (z : Str)
  | bl (b : Bool)
  | oth
  | seq (k : Bool) (gs : List Gt)
mutual
inductive GA (H : Hp) : V → Gt → Prop
  | int (i : Int) : GA H (.int i) (.int i)
  | str (z : Str) : GA H (.str z) (.str z)
  | bl (b : Bool) : GA H (.bl b) (.bl b)
  | non : GA H .non .oth
  | dct {a : Addr} {kvs : List (Key × V)} : H a = some (.dK kvs) → GA H (.ref a) .oth
  | seq {a : Addr} {k : Bool} {vs : List V} {gs : List Gt} : H a = some (ob k vs) → GAs H vs gs → GA H (.ref a) (.seq k gs)
inductive GAs (H : Hp) : List V → List Gt → Prop
  | nil : GAs H [] []
  | cons {v : V} {g : Gt} {vs : List V} {gs : List Gt} : GA H v g → GAs H vs gs → GAs H (v :: vs) (g :: gs)
end
mutual
theorem GA.ex {H H' : Hp} (e : Ex H H') : ∀ {v : V} {g : Gt}, GA H v g → GA H' v g
  | _, _, .int i => .int i
  | _, _, .str z => .str z
  | _, _, .bl b => .bl b
  | _, _, .non => .non
  | _, _, .dct h => .dct (e _ _ h)
  | _, _, .seq h r => .seq (e _ _ h) (GAs.ex e r)
theorem GAs.ex {H H' : Hp} (e : Ex H H') : ∀ {vs : List V} {gs : List Gt}, GAs H vs gs → GAs H' vs gs
  | _, _, .nil => .nil
  | _, _, .cons h r => .cons (GA.ex e h) (GAs.ex e r)
end
section
variable {H : Hp}
theorem GAs.len : ∀ {vs : List V} {gs : List Gt}, GAs H vs gs → vs.length = gs.length
  | _, _, .nil => rfl
  | _, _, .cons _ r => by rw [List.length_cons, List.length_cons, r.len]
theorem GAs.get : ∀ {vs : List V} {gs : List Gt} {i : Nat} {v : V}, GAs H vs gs → vs[i]? = some v → ∃ g, gs[i]? = some g ∧ GA H v g
  | _, _, _, _, .nil, h => by cases h
  | _, _, 0, _, .cons (g := g) a _, h => by
    cases h
    exact ⟨g, rfl, a⟩
  | _, _, i + 1, _, .cons _ r, h => GAs.get (i := i) r h
theorem GAs.get' : ∀ {vs : List V} {gs : List Gt} {i : Nat} {g : Gt}, GAs H vs gs → gs[i]? = some g → ∃ v, vs[i]? = some v ∧ GA H v g
  | _, _, _, _, .nil, h => by cases h
  | _, _, 0, _, .cons (v := v) a _, h => by
    cases h
    exact ⟨v, rfl, a⟩
  | _, _, i + 1, _, .cons _ r, h => GAs.get' (i := i) r h
theorem GAs.app : ∀ {vs : List V} {gs : List Gt} {us : List V} {fs : List Gt}, GAs H vs gs → GAs H us fs → GAs H (vs ++ us) (gs ++ fs)
  | _, _, _, _, .nil, h => h
  | _, _, _, _, .cons h1 r, h => .cons h1 (GAs.app r h)
theorem GAs.snoc {vs : List V} {gs : List Gt} {v : V} {g : Gt} (h : GAs H vs gs) (h1 : GA H v g) : GAs H (vs ++ [v]) (gs ++ [g]) := h.app (.cons h1 .nil)
theorem GAs.rev : ∀ {vs : List V} {gs : List Gt}, GAs H vs gs → GAs H vs.reverse gs.reverse
  | _, _, .nil => .nil
  | _, _, .cons h r => by
    rw [List.reverse_cons, List.reverse_cons]
    exact r.rev.snoc h
theorem GAs.take : ∀ {vs : List V} {gs : List Gt} (k : Nat), GAs H vs gs → GAs H (vs.take k) (gs.take k)
  | _, _, k, .nil => by rw [List.take_nil, List.take_nil]; exact .nil
  | _, _, 0, .cons _ _ => .nil
  | _, _, k + 1, .cons h r => .cons h (GAs.take k r)
theorem GAs.drop : ∀ {vs : List V} {gs : List Gt} (k : Nat), GAs H vs gs → GAs H (vs.drop k) (gs.drop k)
  | _, _, k, .nil => by rw [List.drop_nil, List.drop_nil]; exact .nil
  | _, _, 0, .cons h r => .cons h r
  | _, _, k + 1, .cons _ r => GAs.drop k r
theorem GAs.last : ∀ {vs : List V} {gs : List Gt}, GAs H vs gs → vs ≠ [] → ∃ us v fs g, vs = us ++ [v] ∧ gs = fs ++ [g] ∧ GAs H us fs ∧ GA H v g
  | _, _, .nil, h => absurd rfl h
  | _, _, .cons (v := v) (g := g) h .nil, _ => ⟨[], v, [], g, rfl, rfl, .nil, h⟩
  | _, _, .cons (v := v) (g := g) h (.cons a1 a2), _ => by
    obtain ⟨us, v', fs, g', e1, e2, s, b1⟩ := GAs.last (.cons a1 a2) (by intro q; cases q)
    exact ⟨v :: us, v', g :: fs, g', by rw [e1]; rfl, by rw [e2]; rfl, .cons h s, b1⟩
end
/-! ### the whole of it: how many parts, how deep -/
mutual
def Gt.size : Gt → Nat
  | .seq _ gs => Gt.sizes gs + 1
  | _ => 1
def Gt.sizes : List Gt → Nat
  | [] => 0
  | g :: r => g.size + Gt.sizes r
end
mutual
def Gt.depth : Gt → Nat
  | .seq _ gs => Gt.depths gs + 1
  | _ => 1
def Gt.depths : List Gt → Nat
  | [] => 0
  | g :: r => max g.depth (Gt.depths r)
end
theorem size_pos (g : Gt) : 1 ≤ g.size := by
  cases g <;> simp only [Gt.size] <;> omega
theorem sizes_app : ∀ a b : List Gt, Gt.sizes (a ++ b) = Gt.sizes a + Gt.sizes b
  | [], b => by simp only [List.nil_append, Gt.sizes, Nat.zero_add]
  | g :: r, b => by
    simp only [List.cons_append, Gt.sizes, sizes_app r b]
    omega
theorem sizes_rev : ∀ a : List Gt, Gt.sizes a.reverse = Gt.sizes a
  | [] => rfl
  | g :: r => by
    rw [List.reverse_cons, sizes_app, sizes_rev r]
    simp only [Gt.sizes]
    omega
theorem len_sizes : ∀ a : List Gt, a.length ≤ Gt.sizes a
  | [] => Nat.zero_le _
  | g :: r => by
    have := len_sizes r
    have := size_pos g
    simp only [Gt.sizes, List.length_cons]
    omega
theorem size_mem : ∀ {a : List Gt} {g : Gt}, g ∈ a → g.size ≤ Gt.sizes a
  | x :: r, g, h => by
    simp only [Gt.sizes]
    rcases List.mem_cons.mp h with q | q
    · rw [q]; omega
    · have := size_mem q
      omega
theorem depth_mem : ∀ {a : List Gt} {g : Gt}, g ∈ a → g.depth ≤ Gt.depths a
  | x :: r, g, h => by
    simp only [Gt.depths]
    rcases List.mem_cons.mp h with q | q
    · rw [q]; omega
    · have := depth_mem q
      omega
/-! ### right parts -/
def hd (z : Str) : Gt → Bool
  | .str y => decide (y = z)
  | _ => false
def whole (lo hi : Int) : Gt → Bool
  | .int i => decide (lo ≤ i) && decide (i ≤ hi)
  | _ => false
def seqN (n : Nat) : Gt → Bool
  | .seq _ gs => decide (gs.length = n)
  | _ => false
def isP (l w n : Nat) : Gt → Bool
  | .seq _ [h, a, r] => if hd "read" h = true then whole 0 w a && seqN l r else if hd "tell" h = true then whole 0 2 a else if hd "go" h = true then whole 1 (w + 1) a && whole 0 ((n : Int) - 1) r else false
  | _ => false
def kids : Gt → List Gt
  | .seq _ [h, _, r] => if hd "read" h = true then (match r with
      | .seq _ gs => gs
      | _ => []) else if hd "tell" h = true then [r] else []
  | _ => []
theorem kids_size (g : Gt) : Gt.sizes (kids g) + 1 ≤ g.size := by
  unfold kids
  split
  · rename_i k h a r
    have := size_pos h
    have := size_pos a
    split
    · split
      · simp only [Gt.size, Gt.sizes]
        omega
      · simp only [Gt.size, Gt.sizes]
        omega
    · split
      · simp only [Gt.size, Gt.sizes]
        omega
      · simp only [Gt.size, Gt.sizes]
        omega
  · have := size_pos g
    simp only [Gt.sizes]
    omega
/-! ### the walk -/
def tot (ps : List (Gt × Nat)) : Nat := Gt.sizes (ps.map (·.1))
def fwF (l w n : Nat) : Nat → List (Gt × Nat) → Nat → Bool × Nat
  | 0, _, m => (false, m)
  | _ + 1, [], m => (false, m)
  | f + 1, (g, d) :: r, m => if d > 40 ∨ isP l w n g = false then (true, m) else fwF l w n f ((kids g).map (fun x => (x, d + 1)) ++ r) (m + 1)
theorem fw_nil {l w n f m : Nat} : fwF l w n f [] m = (false, m) := by
  cases f <;> rfl
def cntF : Nat → List Gt → Nat → Nat
  | 0, _, m => m
  | _ + 1, [], m => m
  | f + 1, g :: r, m => cntF f (kids g ++ r) (m + 1)
theorem cnt_nil {f m : Nat} : cntF f [] m = m := by
  cases f <;> rfl
theorem fw_cnt {l w n : Nat} : ∀ {f : Nat} {ps : List (Gt × Nat)} {m N : Nat}, fwF l w n f ps m = (false, N) → cntF f (ps.map (·.1)) m = N
  | 0, _, _, _, h => by cases h; rfl
  | f + 1, [], _, _, h => by cases h; rfl
  | f + 1, (g, d) :: r, m, N, h => by
    unfold fwF at h
    split at h
    · cases h
    · have := fw_cnt h
      rw [List.map_append, List.map_map] at this
      show cntF f (kids g ++ r.map (·.1)) (m + 1) = N
      have e : List.map ((fun x : Gt × Nat => x.1) ∘ fun x => (x, d + 1)) (kids g) = kids g := by
        rw [show ((fun x : Gt × Nat => x.1) ∘ fun x => (x, d + 1)) = (id : Gt → Gt) from rfl, List.map_id]
      rw [e] at this
      exact this
/-- right within so many levels -/
inductive Rt (l w n : Nat) : Nat → Gt → Prop
  | mk {d : Nat} {g : Gt} : isP l w n g = true → (∀ x ∈ kids g, Rt l w n d x) → Rt l w n (d + 1) g
theorem fw_rt {l w n : Nat} : ∀ {f : Nat} {ps : List (Gt × Nat)} {m N : Nat}, fwF l w n f ps m = (false, N) → tot ps ≤ f → ∀ p ∈ ps, Rt l w n (41 - p.2) p.1
  | 0, ps, _, _, _, ht => fun p hp => by
    have : p.1.size ≤ tot ps := size_mem (List.mem_map.mpr ⟨p, hp, rfl⟩)
    have := size_pos p.1
    omega
  | f + 1, [], _, _, _, _ => fun p hp => by cases hp
  | f + 1, (g, d) :: r, m, N, h, ht => by
    unfold fwF at h
    split at h
    · cases h
    · rename_i hc
      have hd : d ≤ 40 := Nat.le_of_not_lt fun z => hc (.inl z)
      have hp : isP l w n g = true := by
        cases q : isP l w n g with
        | true => rfl
        | false => exact absurd (.inr q) hc
      have ks := kids_size g
      have t2 : tot ((kids g).map (fun x => (x, d + 1)) ++ r) ≤ f := by
        unfold tot at ht ⊢
        rw [List.map_append, List.map_map, sizes_app, show ((fun x : Gt × Nat => x.1) ∘ fun x => (x, d + 1)) = (id : Gt → Gt) from rfl, List.map_id]
        simp only [List.map_cons, Gt.sizes] at ht
        omega
      have ih := fw_rt h t2
      intro p hpm
      rcases List.mem_cons.mp hpm with e | e
      · subst e
        show Rt l w n (41 - d) g
        rw [show 41 - d = (40 - d) + 1 by omega]
        refine .mk hp fun x hx => ?_
        have := ih (x, d + 1) (List.mem_append_left _ (List.mem_map.mpr ⟨x, hx, rfl⟩))
        rw [show 40 - d = 41 - (d + 1) by omega]
        exact this
      · exact ih p (List.mem_append_right _ e)
/-! ### the waiting ones, the top at the end -/
inductive Stk (H0 H : Hp) : List V → List (Gt × Nat) → Prop
  | nil : Stk H0 H [] []
  | cons {r : Addr} {v : V} {g : Gt} {d : Nat} {vs : List V} {ps : List (Gt × Nat)} : H r = some (.tup [v, .int (d : Nat)]) → GA H0 v g → Stk H0 H vs ps → Stk H0 H (.ref r :: vs) ((g, d) :: ps)
theorem Stk.ex {H0 H H' : Hp} (e : Ex H H') : ∀ {vs : List V} {ps : List (Gt × Nat)}, Stk H0 H vs ps → Stk H0 H' vs ps
  | _, _, .nil => .nil
  | _, _, .cons h1 h2 r => .cons (e _ _ h1) h2 (Stk.ex e r)
theorem Stk.len {H0 H : Hp} : ∀ {vs : List V} {ps : List (Gt × Nat)}, Stk H0 H vs ps → vs.length = ps.length
  | _, _, .nil => rfl
  | _, _, .cons _ _ r => by rw [List.length_cons, List.length_cons, r.len]
theorem Stk.app {H0 H : Hp} : ∀ {vs : List V} {ps : List (Gt × Nat)} {us : List V} {qs : List (Gt × Nat)}, Stk H0 H vs ps → Stk H0 H us qs → Stk H0 H (vs ++ us) (ps ++ qs)
  | _, _, _, _, .nil, h => h
  | _, _, _, _, .cons h1 h2 r, h => .cons h1 h2 (Stk.app r h)
theorem Stk.upd {H0 H : Hp} {a : Addr} {o : HO} : ∀ {vs : List V} {ps : List (Gt × Nat)}, Stk H0 H vs ps → (∀ xs, H a ≠ some (.tup xs)) → Stk H0 (L2.upd H a o) vs ps
  | _, _, .nil, _ => .nil
  | _, _, .cons (r := r) h1 h2 r1, hn => .cons (by rw [upd_ne (fun q : r = a => hn _ (by rw [← q]; exact h1))]; exact h1) h2 (Stk.upd r1 hn)
theorem Stk.last {H0 H : Hp} : ∀ {vs : List V} {ps : List (Gt × Nat)}, Stk H0 H vs ps → vs ≠ [] →
    ∃ us r v g d qs, vs = us ++ [.ref r] ∧ ps = qs ++ [(g, d)] ∧ Stk H0 H us qs ∧ H r = some (.tup [v, .int (d : Nat)]) ∧ GA H0 v g
  | _, _, .nil, h => absurd rfl h
  | _, _, .cons (r := r) (v := v) (g := g) (d := d) h1 h2 .nil, _ => ⟨[], r, v, g, d, [], rfl, rfl, .nil, h1, h2⟩
  | _, _, .cons (r := r) (v := v) (g := g) (d := d) h1 h2 (.cons a1 a2 a3), _ => by
    obtain ⟨us, r', v', g', d', qs, e1, e2, s, b1, b2⟩ := Stk.last (.cons a1 a2 a3) (by intro q; cases q)
    exact ⟨.ref r :: us, r', v', g', d', (g, d) :: qs, by rw [e1]; rfl, by rw [e2]; rfl, .cons h1 h2 s, b1, b2⟩
theorem tot_app (ps qs : List (Gt × Nat)) : tot (ps ++ qs) = tot ps + tot qs := by
  unfold tot
  rw [List.map_append, sizes_app]
theorem tot_map (gs : List Gt) (d : Nat) : tot (gs.map fun g => (g, d)) = Gt.sizes gs := by
  unfold tot
  rw [List.map_map, show ((fun x : Gt × Nat => x.1) ∘ fun g => (g, d)) = (id : Gt → Gt) from rfl, List.map_id]
theorem len_tot (ps : List (Gt × Nat)) : ps.length ≤ tot ps := by
  have := len_sizes (ps.map (·.1))
  rw [List.length_map] at this
  exact this
/-! ### right trees of the law's own making -/
mutual
def ofT : Tr → Gt
  | .go s q => .seq true [.str "go", .int (s : Nat), .int (q : Nat)]
  | .tell n t => .seq true [.str "tell", .int (n : Nat), ofT t]
  | .read p ts => .seq true [.str "read", .int (p : Nat), .seq true (ofTs ts)]
def ofTs : Trs → List Gt
  | .nil => []
  | .cons t r => ofT t :: ofTs r
end
mutual
theorem TA.ga {H : Hp} : ∀ {t : Tr} {v : V}, TA true H v t → GA H v (ofT t)
  | _, _, .go h => .seq h (.cons (.str _) (.cons (.int _) (.cons (.int _) .nil)))
  | _, _, .tell h r => .seq h (.cons (.str _) (.cons (.int _) (.cons (TA.ga r) .nil)))
  | _, _, .read h hb r => .seq h (.cons (.str _) (.cons (.int _) (.cons (.seq hb (TAs.ga r)) .nil)))
theorem TAs.ga {H : Hp} : ∀ {ts : Trs} {vs : List V}, TAs true H vs ts → GAs H vs (ofTs ts)
  | _, _, .nil => .nil
  | _, _, .cons h r => .cons (TA.ga h) (TAs.ga r)
end
end GX

namespace GD
open PySem PySem.Spec PyProof.Rows L2
/-- a law's promise, where no text of an object is being made -/
structure Gd (P : Program) (w : World) (K : PySem.W.Frag) (mg : Str → Option Value) (base : Heap) (k : Nat) (f : Addr) (fd : FuncData) (ps : List Str) (sp : Sp) : Prop where
  run : ∀ (A : Around) (outer : List Env) (s : Shared) (H : Hp) (args : Args) (us : List Value) (vs : List V) (Q : VK) (E : XK), Room k A → A.guards = some [] → Env0 P w K mg base A outer s H → BindsTo s fd args (ps.zip us) → Vals vs us → sp vs H Q E →
    codeAny (model P w) A (.call (.ref f) args) (CR CX0 outer P w H s Q E) s
section
variable {P : Program} {w : World} {K : PySem.W.Frag} {mg : Str → Option Value} {base : Heap}
theorem deeper_guards {A : Around} {env : Env} (h : A.guards = some []) : (A.deeper env).guards = some [] := h
/-- the rule for a def, once more -/
theorem okG {x qual : Str} {st : Stmt} {f : Addr} {fd : FuncData} {N ps : List Str} {k : Nat} {sp : Sp} (F : Fun K x qual st f fd) (S : FnScope N ps (defScope st)) (len : ∀ vs H Q E, sp vs H Q E → vs.length = ps.length)
    (hbody : ∀ (cdv : Value) (A : Around) (outer : List Env) (s : Shared) (H : Hp) (vs : List V) (Q : VK) (E : XK), Room k (A.deeper (envOfC qual (defScope st) s.heap.objs.size f cdv)) → (A.deeper (envOfC qual (defScope st) s.heap.objs.size f cdv)).guards = some [] → sp vs H Q E →
      ∃ t, PSs (cxOf CX0 P w K mg base N qual (defScope st) f cdv A outer s H E).nox (defBody st) t ∧ t { nx := fun _ H' => Q .non H', rt := Q } (start N vs) H) : Gd P w K mg base (k + 1) f fd ps sp := by
  obtain ⟨oc, od, kV, doc, pm, an, cdv, ct, osl, rfl, lk, hcd⟩ := F.ex
  refine ⟨fun A outer s H args us vs Q E hr hg e0 hb r hsp => ?_⟩
  have kin : K.In s.heap := e0.mod.kin.keeps fun b o e => (e0.bs b o e).1
  have nolim : s.heap.NoLimit := e0.mod.nolimit.keeps fun b o e => (e0.bs b o e).1
  have names : ∀ y ∈ ps.zip us, (defScope st).names.lookup y.1 = some .local ∨ ((defScope st).names.lookup y.1 = some .cell ∧ ((cellsFrom (s.heap.objs.size + 1) (defScope st).names []).lookup y.1).isSome = true) := by
    rintro ⟨n, v⟩ hy
    rcases S.par n (List.of_mem_zip hy).1 with q | q
    · exact .inl q
    · exact .inr ⟨q, PySem.W.cellsFrom_some _ _ _ (.inl q)⟩
  refine codeAny_call_function hr.depth (kin _ _ lk) rfl S.co S.gen rfl (PySem.W.codeRec_of kin hcd) (hb _ _ _ _ (wpAny_newFunctionEnv_cells S.kind names fun env he s1 z => ?_))
  subst he
  refine ⟨nolim.keeps z.toInCall.keep, codeAny_func ?_⟩
  obtain ⟨t, ht, hq⟩ := hbody cdv A outer s H vs Q E (hr.deeper _) (deeper_guards hg) hsp
  have I := inv_start (CX := CX0) (E := E) S hr.hd e0 (len _ _ _ _ hsp) r z
  refine wpAny_mono (ht.nox.run [] s1 (start N vs) H _ I hq) (fun fl s' hs => ?_) fun e s' hs => hs
  cases fl with
  | ret u =>
    obtain ⟨v, σ', H', J, rv, q⟩ := hs
    exact ⟨v, H', J.os, J.bare, J.base, J.hok, rv, q⟩
  | next =>
    obtain ⟨σ', H', J, q⟩ := hs
    exact ⟨V.non, H', J.os, J.bare, J.base, J.hok, rfl, q⟩
  | brk =>
    obtain ⟨_, _, _, q⟩ := hs
    exact q.elim
  | cont =>
    obtain ⟨_, _, _, q⟩ := hs
    exact q.elim
end
/-! ### the end: the law's promise at the heap behind the top -/
/-- the script alone is known -/
def one (a : Addr) (vs : List Value) (ns : List Int) : Hp := fun b => if b = a then some (.frz { cls := .type "list", data := .seq vs.toArray } (.lst (ns.map V.int))) else none
theorem callG {P : Program} {w : World} {K : PySem.W.Frag} {mg mb : Str → Option Value} {k : Nat} {fa a : Addr} {fd : FuncData} {x : Str} {sp : Sp} {s : Shared} {vs : List Value} {ns : List Int}
    (kin : K.In s.heap) (hns : s.heap.Ns mainGlobals mg) (hb : s.heap.Ns builtinsNs mb) (hbb : ∀ x : Str, x ≠ "__name__" → mb x = bootBuiltins x) (nolim : s.heap.NoLimit) (gens : s.gens = #[])
    (ha : s.heap.get? a = some { cls := .type "list", data := .seq vs.toArray }) (hi : IntsAre vs ns) (hl : ns.length ≤ sizeLine) (room : Room k callerA)
    (F : ∀ base : Heap, K.In base → base.Ns mainGlobals mg → Gd P w K mg base k fa fd [x] sp) (binds : ∀ (s : Shared) (u : Value), BindsTo s fd ⟨[u], []⟩ [(x, u)])
    (hsp : ∀ H : Hp, SqL K H a (ns.map V.int) → sp [.ref a] H (fun v _ => v = .bl true) E0) :
    codeAny (model P w) callerA (.call (.ref fa) ⟨[.ref a], []⟩) (fun r s' => r = .ok (.ret (.bool true)) ∧ OldK s.heap s'.heap ∧ s'.os = s.os ∧ AllBare s'.gens) s := by
  have rv := vals_ints hi
  have step : ∀ H : Hp, (∀ b u, H b = some u → b = a ∧ K.lookup a = none ∧ ∃ o xs, u = .frz o (.lst xs)) → HOk P w H s.heap → SqL K H a (ns.map V.int) →
      codeAny (model P w) callerA (.call (.ref fa) ⟨[.ref a], []⟩) (fun r s' => r = .ok (.ret (.bool true)) ∧ OldK s.heap s'.heap ∧ s'.os = s.os ∧ AllBare s'.gens) s := by
    intro H only hok hS
    have free : ∀ {b : Addr}, b ≠ a → H b = none := fun {b} n => by
      cases e : H b with
      | none => rfl
      | some u => exact absurd (only b u e).1 n
    have stays : ∀ {b : Addr} {m : Str → Option Value}, s.heap.Ns b m → (hidT s.heap H).Ns b m := fun {b m} ⟨o, es, ep, e, d, r⟩ => by
      refine ⟨o, es, ep, hidT_get e (free fun z => ?_), d, r⟩
      rw [z, ha] at e
      cases e
      cases (show Data.seq vs.toArray _ = Data.dict es ep from d)
    have kinB : K.In (hidT s.heap H) := fun b o e => hidT_get (kin b o e) (by
      cases q : H b with
      | none => rfl
      | some u =>
        obtain ⟨h1, h2, _⟩ := only b u q
        rw [h1, h2] at e
        cases e)
    have e0 : Env0 P w K mg (hidT s.heap H) callerA [] s H :=
      ⟨rfl, ⟨kinB, stays hns, ⟨mb, stays hb, hbb⟩, let ⟨mc, h1, h2⟩ := nolim; ⟨mc, stays h1, h2⟩⟩, fun b o e => of_hidT e, Nat.le_of_eq (hidT_size _ _), trivial, fun b hb => (nomatch (show b ∈ ([] : List Addr) from hb)), hok, .of_eq gens⟩
    refine codeAny_mono ((F _ kinB (stays hns)).run callerA [] s H ⟨[.ref a], []⟩ [.ref a] [.ref a] _ E0 room rfl e0 (binds s (.ref a)) (.cons rfl .nil) (hsp H hS)) fun r s' h => ?_
    cases r with
    | error e => exact h.elim
    | ok fl =>
      cases fl with
      | ret u =>
        obtain ⟨v, H', os, bare, un, hok', r', q⟩ := h
        obtain rfl : v = .bl true := q
        obtain rfl : u = Value.bool true := r'
        refine ⟨rfl, OldK.of_keep fun b o e => ?_, os, bare⟩
        cases q : H b with
        | none => exact un.keep b o e q (by intro z; exact (nomatch (show b ∈ ([] : List Addr) from z))) (by simp)
        | some u =>
          obtain ⟨_, _, ob, xs, rfl⟩ := only b u q
          obtain ⟨e1, _⟩ := hok b _ q
          obtain ⟨e2, _⟩ := hok' b _ (un.frzs b ob _ q)
          rw [e] at e1
          cases e1
          exact e2
      | next => exact h.elim
      | brk => exact h.elim
      | cont => exact h.elim
  cases hk : K.lookup a with
  | some o =>
    have e := kin a o hk
    rw [ha] at e
    cases e
    refine step (fun _ => none) (fun b u z => by cases z) (fun b u z => by cases z) (.inr ⟨_, vs.toArray, _, hk, rfl, rfl, rfl, ?_, by simpa using rv⟩)
    rw [List.size_toArray, hi.length]
    exact hl
  | none =>
    refine step (one a vs ns) (fun b u z => ?_) (fun b u z => ?_) (.inl (.inr ⟨_, if_pos rfl⟩))
    · unfold one at z
      by_cases q : b = a
      · rw [if_pos q] at z
        cases z
        exact ⟨q, hk, _, _, rfl⟩
      · rw [if_neg q] at z
        cases z
    · unfold one at z
      by_cases q : b = a
      · rw [if_pos q] at z
        cases z
        subst q
        exact ⟨ha, by rw [List.length_map]; exact hl, vs, _, rv, ha⟩
      · rw [if_neg q] at z
        cases z
theorem walkG {l : PySem.W.OpenLaw} {n k : Nat} {q : Program} {loose : List Str} {XP : (Str → Option Value) → Heap → Prop} {YP : World → Heap → Prop} {d : DefRec} {K : Params → PySem.W.Frag} {sp : World → Sp} {x : Str}
    (hn : l.most = some n) (hn2 : n ≤ sizeLine) (hdf : d.params.defaults = []) (hr : Room k callerA) (hY : ∀ (w : World) (h : Heap), YP w h → (K w.params).In h)
    (F : ∀ (w : World) (mg : Str → Option Value) (fa : Addr) (h : Heap), (K w.params).In h → h.Ns mainGlobals mg → mg d.name = some (.ref fa) →
      ∃ fd : FuncData, (∀ (s : Shared) (u : Value), BindsTo s fd ⟨[u], []⟩ [(x, u)]) ∧ ∀ base : Heap, (K w.params).In base → base.Ns mainGlobals mg → Gd l.prog w (K w.params) mg base k fa fd [x] (sp w))
    (hsp : ∀ (w : World) (H : Hp) (a : Addr) (ns : List Int), ns.length ≤ n → SqL (K w.params) H a (ns.map V.int) → sp w [.ref a] H (fun v _ => v = .bl true) E0) :
    PySem.W.WalkO q loose XP YP l.row.toRowW d [] (fun f vs => PySem.call f vs) := by
  refine Att.attach_call hn hdf fun w s₀ s₁ mg mb fa o pm cd doc a vs ns G Y ho hd hcd hmg hobj hints hlen hg => ?_
  have kin := hY w _ Y
  obtain ⟨fd, hb, hF⟩ := F w mg fa _ kin G.T.g hmg
  exact callG kin G.T.g G.T.b G.T.builtins G.T.nolimit hg hobj hints (Nat.le_trans hlen hn2) hr hF hb fun H hS => hsp w H a ns hlen hS
end GD

/-! repr of data with dicts that are empty: only the dicts must stand apart from the modules' table -/
namespace DY
open PySem PySem.Spec PyProof.Rows L2
mutual
/-- v is the data d; a dict is an empty one -/
inductive DE (K : PySem.W.Frag) (H : Hp) : V → PyData → Prop
  | non : DE K H .non .none
  | bl (b : Bool) : DE K H (.bl b) (.bool b)
  | int (i : Int) : DE K H (.int i) (.int i)
  | str (x : Str) : DE K H (.str x) (.str x)
  | lst {a : Addr} {xs : List V} {ds : List PyData} : SqL K H a xs → DEs K H xs ds → DE K H (.ref a) (.list ds)
  | tup {a : Addr} {xs : List V} {ds : List PyData} : SqT K H a xs → DEs K H xs ds → DE K H (.ref a) (.tuple ds)
  | emp {a : Addr} : H a = some (.dK []) → DE K H (.ref a) (.dict [])
  | one {a : Addr} {k : Str} {i : Int} : H a = some (.dK [(.inr k, .int i)]) → DE K H (.ref a) (.dict [(.str k, .int i)])
inductive DEs (K : PySem.W.Frag) (H : Hp) : List V → List PyData → Prop
  | nil : DEs K H [] []
  | cons {v : V} {vs : List V} {d : PyData} {ds : List PyData} : DE K H v d → DEs K H vs ds → DEs K H (v :: vs) (d :: ds)
end
section
variable {X : Cx} {pins : List (Addr × Obj)} {σ : L2.St} {H : Hp} {s : Shared}
theorem emp_at (I : Inv X pins σ H s) {a : Addr} (h : H a = some (.dK [])) : (a == sysModules) = false ∧ ∃ o n, s.heap.get? a = some o ∧ o.cls = .type "dict" ∧ o.data = .dict #[] n := by
  obtain ⟨_, h1, vs, kv, o, es, ep, g, ed, dd, k1, k2, _⟩ := dk_of I.hok h
  cases kv
  have e : es = #[] := by
    cases es with
    | mk l =>
      cases l with
      | nil => rfl
      | cons x r => cases k2
  subst e
  exact ⟨h1, o, ep, g, ed.1, dd⟩
theorem one_at (I : Inv X pins σ H s) {a : Addr} {k : Str} {i : Int} (h : H a = some (.dK [(.inr k, .int i)])) : (a == sysModules) = false ∧ ∃ o n e t1 t2, s.heap.get? a = some o ∧ o.cls = .type "dict" ∧ o.data = .dict #[e] n ∧ e.key = Value.str k t1 ∧ e.val = Value.int i t2 := by
  obtain ⟨_, h1, vs, kv, o, es, ep, g, ed, dd, k1, k2, _⟩ := dk_of I.hok h
  cases kv with
  | cons hp hn =>
    cases hn
    obtain ⟨q1, q2⟩ := hp
    cases es with
    | mk l =>
      cases l with
      | nil => cases k2
      | cons x r =>
        cases k2 with
        | cons r1 r2 r3 =>
          cases r3
          rw [← q1] at r1
          have r1' : keyIs (.inr k) x.key = true := r1
          obtain ⟨i2, t, z, _⟩ | ⟨y, t, z, e1⟩ := keyIs_shape r1'
          · cases z
          · cases z
            obtain ⟨t2, e2⟩ := q2
            exact ⟨h1, o, ep, x, t, t2, g, ed.1, dd, e1, by rw [r2, e2]⟩
/-- how v is read and shown -/
structure Sh (prog : Program) (w : World) (h : Heap) (u : Value) (d : PyData) : Prop where
  r : ∃ as, Reads h u d as
  k : ∃ bs, ReadAtMost h d.depth bs ∧ ReprK prog w bs h d.depth u d.shown
structure Shs (prog : Program) (w : World) (h : Heap) (us : List Value) (ds : List PyData) : Prop where
  r : ∃ as, ReadsAll h us ds as
  k : ∃ bs, ReadAtMost h (PyData.depthAll ds) bs ∧ ReprAllK prog w bs h (PyData.depthAll ds) us (PyData.shownAll ds)
theorem mem_l {t : Str} {ts : List Str} (h : t ∈ ts) : t.length ≤ (listText ts).length := by
  have z := PySem.listText_mem_le h
  exact z
mutual
theorem DE.sh (I : Inv X pins σ H s) : ∀ (d : PyData) (v : V) (u : Value), DE X.K H v d → RelV v u → d.showable = true → d.shown.length ≤ sizeLine → Sh X.prog X.w s.heap u d
  | .none, _, _, h, r, _, _ => by
    cases h
    cases r
    exact ⟨⟨_, Reads.none⟩, [], (fun _ h => nomatch h), by simp only [PyData.shown]; exact .of_is ReprIs.none _ _ _⟩
  | .bool b, _, _, h, r, _, _ => by
    cases h
    cases r
    exact ⟨⟨_, Reads.bool b⟩, [], (fun _ h => nomatch h), by simp only [PyData.shown]; exact .of_is (ReprIs.bool b) _ _ _⟩
  | .int i, _, _, h, r, hs, _ => by
    cases h
    obtain ⟨t, rfl⟩ := r
    exact ⟨⟨_, Reads.int i t⟩, [], (fun _ h => nomatch h), by simp only [PyData.shown]; exact .of_is (ReprIs.int t (by simpa [PyData.showable] using hs)) _ _ _⟩
  | .str x, _, _, h, r, _, hz => by
    cases h
    obtain ⟨t, rfl⟩ := r
    exact ⟨⟨_, Reads.str x t⟩, [], (fun _ h => nomatch h), by simp only [PyData.shown]; exact .of_is (ReprIs.str x t (by simpa only [PyData.shown] using hz)) _ _ _⟩
  | .list ds, _, _, h, r, hs, hz => by
    cases h with
    | lst hq ha =>
      cases r
      obtain ⟨its, rv, ⟨o, n, ho, hc, _, hd⟩, _⟩ := I.list hq
      have hz2 : (listText (PyData.shownAll ds)).length ≤ sizeLine := by simpa only [PyData.shown] using hz
      obtain ⟨⟨as, hr⟩, bs, hb, hk⟩ := DEs.sh I ds _ its ha rv (by simpa [PyData.showable] using hs) fun t ht => Nat.le_trans (listText_mem_le ht) hz2
      have r2 : Reads s.heap _ (.list ds) _ := Reads.list ho hc hd hr
      refine ⟨⟨_, r2⟩, _ :: bs, ReadAtMost.cons r2 (by simp only [PyData.depth]; omega) hb, ?_⟩
      have hna := not_mem_of_deeper r2 (show PyData.depthAll ds < _ by simp only [PyData.depth]; omega) hb
      simp only [PyData.depth, PyData.shown]
      cases its with
      | nil =>
        cases rv
        cases ha
        simp only [PyData.shownAll, listText_nil]
        exact ReprK.listEmpty ho hc hd
      | cons x l => exact ReprK.list ho hc hd hna (by simpa using hk.length_eq) (fun i y e => hk.item i y (by simpa using e))
  | .tuple ds, _, _, h, r, hs, hz => by
    cases h with
    | tup hq ha =>
      cases r
      obtain ⟨its, rv, ⟨o, ho, hc, n, hd⟩, _⟩ := I.tuple hq
      have hz2 : (tupleText (PyData.shownAll ds)).length ≤ sizeLine := by simpa only [PyData.shown] using hz
      obtain ⟨⟨as, hr⟩, bs, hb, hk⟩ := DEs.sh I ds _ its ha rv (by simpa [PyData.showable] using hs) fun t ht => Nat.le_trans (tupleText_mem_le ht) hz2
      have r2 : Reads s.heap _ (.tuple ds) _ := Reads.tuple ho hc hd hr
      refine ⟨⟨_, r2⟩, _ :: bs, ReadAtMost.cons r2 (by simp only [PyData.depth]; omega) hb, ?_⟩
      have hna := not_mem_of_deeper r2 (show PyData.depthAll ds < _ by simp only [PyData.depth]; omega) hb
      simp only [PyData.depth, PyData.shown]
      exact ReprK.tuple ho hc hd hna hk
  | .dict kvs, _, _, h, r, hs, hz => by
    cases h with
    | emp hq =>
      cases r
      obtain ⟨hy, o, n, ho, hc, hd⟩ := emp_at I hq
      have r2 : Reads s.heap _ (.dict []) _ := Reads.dict ho hc hd ReadsAll.nil ReadsAll.nil
      refine ⟨⟨_, r2⟩, [_], ReadAtMost.cons r2 (Nat.le_refl _) (fun _ h => nomatch h), ?_⟩
      simp only [PyData.depth, PyData.shown, PyData.shownKv_eq]
      exact ReprK.dict ho hc hd hy (fun h => nomatch h) (ReprEntriesK.of_two [] _ _ .nil .nil)
    | @one a k i hq =>
      cases r
      obtain ⟨hy, o, n, e, t1, t2, ho, hc, hd, e1, e2⟩ := one_at I hq
      have hs2 : (PyData.int i).showable = true := by
        simp only [PyData.showable, PyData.showableKv, Bool.and_eq_true] at hs ⊢
        first
          | exact hs.1.2
          | exact hs.2.1
          | exact hs.2
          | simpa using hs
      have hz2 : (dictText (PyData.shownKv [(.str k, .int i)])).length ≤ sizeLine := by simpa only [PyData.shown] using hz
      have hk : (PyData.str k).shown.length ≤ sizeLine := by
        have h1 := dictText_mem_le (ps := PyData.shownKv [(.str k, .int i)]) (p := (PyData.str k).shown ++ ": " ++ (PyData.int i).shown) (by simp only [PyData.shownKv]; exact List.mem_cons_self ..)
        rw [Str.length_append, Str.length_append] at h1
        omega
      have rk : Reads s.heap e.key (.str k) [] := by rw [e1]; exact Reads.str k t1
      have rv : Reads s.heap e.val (.int i) [] := by rw [e2]; exact Reads.int i t2
      have r2 : Reads s.heap (.ref a) (.dict [(.str k, .int i)]) _ := Reads.dict ho hc hd (ReadsAll.cons rk ReadsAll.nil) (ReadsAll.cons rv ReadsAll.nil)
      refine ⟨⟨_, r2⟩, [_], ReadAtMost.cons r2 (Nat.le_refl _) (fun _ h => nomatch h), ?_⟩
      simp only [PyData.depth, PyData.shown, PyData.shownKv_eq]
      refine ReprK.dict ho hc hd hy (fun h => nomatch h) (ReprEntriesK.of_two [e] _ _ (.cons ?_ .nil) (.cons ?_ .nil))
      · show ReprK X.prog X.w [] s.heap _ e.key (PyData.str k).shown
        rw [e1]
        simp only [PyData.shown]
        exact .of_is (ReprIs.str k t1 (by simpa only [PyData.shown] using hk)) _ _ _
      · show ReprK X.prog X.w [] s.heap _ e.val (PyData.int i).shown
        rw [e2]
        simp only [PyData.shown]
        exact .of_is (ReprIs.int t2 (by simpa [PyData.showable] using hs2)) _ _ _
theorem DEs.sh (I : Inv X pins σ H s) : ∀ (ds : List PyData) (vs : List V) (us : List Value), DEs X.K H vs ds → Vals vs us → PyData.showableAll ds = true → (∀ t ∈ PyData.shownAll ds, t.length ≤ sizeLine) → Shs X.prog X.w s.heap us ds
  | [], _, _, h, r, _, _ => by
    cases h
    cases r
    exact ⟨⟨_, ReadsAll.nil⟩, [], (fun _ h => nomatch h), by simp only [PyData.shownAll]; exact .nil⟩
  | d :: ds, _, _, h, r, hs, hz => by
    cases h with
    | cons h1 h2 =>
      cases r with
      | cons r1 r2 =>
        have hs2 : d.showable = true ∧ PyData.showableAll ds = true := by simpa [PyData.showableAll] using hs
        obtain ⟨⟨as, q1⟩, b1, hb1, k1⟩ := DE.sh I d _ _ h1 r1 hs2.1 (hz _ (by simp only [PyData.shownAll]; exact List.mem_cons_self ..))
        obtain ⟨⟨bs, q2⟩, b2, hb2, k2⟩ := DEs.sh I ds _ _ h2 r2 hs2.2 fun t ht => hz t (by simp only [PyData.shownAll]; exact List.mem_cons_of_mem _ ht)
        refine ⟨⟨_, ReadsAll.cons q1 q2⟩, b1 ++ b2, fun b hm => ?_, ?_⟩
        · simp only [PyData.depthAll]
          rcases List.mem_append.mp hm with hm | hm
          · obtain ⟨e, ys, y1, y2⟩ := hb1 b hm
            exact ⟨e, ys, y1, Nat.le_trans y2 (Nat.le_max_left _ _)⟩
          · obtain ⟨e, ys, y1, y2⟩ := hb2 b hm
            exact ⟨e, ys, y1, Nat.le_trans y2 (Nat.le_max_right _ _)⟩
        · simp only [PyData.depthAll, PyData.shownAll]
          exact .cons ((k1.more fun b hb => List.mem_append_left _ hb).level_le (Nat.le_max_left _ _)) (k2.more_le (fun b hb => List.mem_append_right _ hb) (Nat.le_max_right _ _))
end
/-- repr of None, or of a tuple of data, where no text is being made -/
structure RX (K : PySem.W.Frag) (xs : List V) (H : Hp) (Q : VK) : Prop where
  ex : (xs = [.non] ∧ Q (.str "None") H) ∨ ∃ a ys ds, xs = [.ref a] ∧ SqT K H a ys ∧ DEs K H ys ds ∧ (PyData.tuple ds).showable = true ∧ (PyData.tuple ds).depth ≤ 64 ∧ (PyData.tuple ds).shown.length ≤ sizeLine ∧ Q (.str (PyData.tuple ds).shown) H
abbrev rRy (K : PySem.W.Frag) : List V → Hp → VK → Prop := fun xs H Q => RX K xs H Q
theorem call_reprY {X : Cx} (hg : X.A.guards = some []) (hu : X.A.units + 70 < cLine) : CallR X (.builtin "repr") (rRy X.K) := by
  intro pins s σ H xs us Q I r h
  rcases h.ex with ⟨rfl, q⟩ | ⟨a, xs, ds, rfl, hq, ha, h1, h3, h4, q⟩
  · obtain ⟨u, rfl, rfl⟩ := vals1 r
    exact PySem.P.repr_of_none ⟨.str _, H, I.tok _, ⟨_, rfl⟩, q⟩
  · obtain ⟨u, rfl, ru⟩ := vals1 r
    have fin : ∀ h' u' tk, (∀ b o, s.heap.get? b = some o → h'.get? b = some o) → EP X pins σ Q (.str (PyData.tuple ds).shown u') { s with heap := h', toks := tk } := fun h' u' tk hk => ⟨.str (PyData.tuple ds).shown, H, I.kept hk, ⟨u', rfl⟩, q⟩
    have un : X.A.units + 1 < cLine := by omega
    cases ru
    obtain ⟨its, rv, ⟨o, ho, hc, n, hd⟩, _⟩ := I.tuple hq
    have hz2 : (tupleText (PyData.shownAll ds)).length ≤ sizeLine := by simpa only [PyData.shown] using h4
    obtain ⟨⟨as, hr⟩, bs, hb, hk⟩ := DEs.sh I ds _ its ha rv (by simpa [PyData.showable] using h1) fun t ht => Nat.le_trans (tupleText_mem_le ht) hz2
    have r2 : Reads s.heap (.ref a) (.tuple ds) _ := Reads.tuple ho hc hd hr
    have hna := not_mem_of_deeper r2 (show PyData.depthAll ds < _ by simp only [PyData.depth]; omega) hb
    simp only [PyData.depth] at h3
    simp only [PyData.shown] at fin
    refine call_repr_slot un ⟨o, ho, hc⟩ F.slot_tuple_repr ?_
    exact call_tuple_reprK ho hc hd hna hk hg (fun b _ => Clear.nil b) (by show X.A.units + 1 + _ < cLine; omega) (fun _ _ e => e) (fun h' u' tk hk' => ⟨_, _, rfl, fin h' u' tk hk'⟩) hz2
end
end DY

/-! own errors over an own base whose __init__ they call; several except clauses with a name -/
namespace EK
open PySem PySem.Spec PyProof.Rows L2
section
variable {X : Cx} {C0 : Addr} {x : Str} {e : Expr} {es : List Expr} {ta : TA} {p1 p2 pos : Pos}
/-- B.__init__(self, ..), B an own class over ValueError without an __init__ of its own -/
theorem pe_skinit {pl : Sem Bool} (hg : Gl X x) (hm : X.mg x = some (.ref C0)) (r : ClX.CRead X.K C0 (.type "type")) (k : PySem.W.findCls X.K (.ref C0) (.type "type") "__init__" = some (.val (.builtin "ValueError.__init__"))) (ha : PA X (e :: es) ta)
    (hc : eval (.Call (.Attribute (.Name x p1) "__init__" p2) (e :: es) [] pos) X.env = (do
      let ov ← eval (.Name x p1) X.env
      standAt p2.atName
      let (f, first) ← holding [ov] (getMethod ov "__init__" pl)
      callWith pos f first (backTo pos (starEach (e :: es) X.env)) (backToKw pos (keywordEach [] X.env))) := by rfl)
    (hdb : (x == ("__debug__" : Str)) = false := by decide)
    (he : starEach (e :: es) X.env = (false, eval e X.env) :: starEach es X.env := by rfl) (hpl : (backTo pos (starEach es X.env)).any (·.1) = false := by rfl) :
    PE X (.Call (.Attribute (.Name x p1) "__init__" p2) (e :: es) [] pos) (tVeI X.K ta) := by
  refine ⟨fun pins s σ H Q I h => ?_⟩
  refine PySem.W.methodCall_KW (ld_glob I hg hm ?_ hdb) hc
  refine PySem.W.method_cls I.kIn r.ga (PySem.W.cls_value I.kIn r.rd k rfl ?_)
  show wpAny _ _ (callWith pos (Value.builtin "ValueError.__init__") [] (backTo pos (starEach (e :: es) X.env)) []) _ _ _
  refine PyProof.Rows.callWith_method1 (thn (ha.run pos pins _ σ H _ (I.tok _) h) fun us s1 ⟨vs, H1, I1, r1, a, C, ws, ev, hl, T, ea, q⟩ => ?_) he hpl
  subst ev
  cases r1 with
  | @cons _ u0 _ ur ra rw' =>
    obtain rfl : u0 = Value.ref a := ra
    have hlen : ur.length ≤ sizeLine := by
      rw [← Paired.length rw', sizeLine_eq]
      omega
    exact oinit_ok T I1 ea hlen fun s' J => ⟨.non, H1, J, rfl, q⟩
end
end EK
/-! ### isinstance of a caught error that has its dict -/
namespace PySem.W
open PySem PySem.Spec PySem.Calls PyProof.Rows
section
variable {prog : Program} {w : World} {A : Around} {E : Value → Shared → Prop} {s : Shared} {K : Frag} {x D : Addr} {ox : Obj} {od : Option Obj}
theorem ek_findObj {C : Addr} {name : Str} {a g : Value} (hc : (clsIn K C).isSome = true) (ha : findIn K (.ref C) name = some (some a)) (hg : specialIn K a "__get__" = some (some g)) (ht : takesIn K a = some true) : findObj K C od name = some (.bind g a) := by
  obtain ⟨cd, hc⟩ := Option.isSome_iff_exists.mp hc
  unfold findObj
  rw [hc, Option.bind_some, ha, Option.bind_some]
  simp [hg, ht]
theorem ek_kin_class {Q : Option Value → Shared → Prop} (hga : findIn K (.ref D) "__getattribute__" = some (some (.builtin "BaseException.__getattribute__"))) (hgt : findIn K (.ref D) "__getattr__" = some none) (hsub : subIn K (.ref D) (.type "BaseException") = some true)
    (hdct : hasDictIn K D = true) (ha : findIn K (.ref D) "__class__" = some (some (.builtin "object.__class__")))
    (hn : specialIn K (.builtin "object.__class__") "__get__" = some (some (.builtin "getset_descriptor.__get__"))) (htk : takesIn K (.builtin "object.__class__") = some true) (hm : mroIn K D (.type "object") = some true)
    (X : K.In s.heap) (I : InstAt s.heap x ox D od) (h : Q (some (.ref D)) { s with toks := s.toks + 1 }) : wpAny (model prog w) A (getAttr? (.ref x) "__class__") Q E s := by
  have hf : findObj K D od "__class__" = some (.bind (.builtin "getset_descriptor.__get__") (.builtin "object.__class__")) := ek_findObj (by obtain ⟨cd, hc, _⟩ := any_some hdct; rw [hc]; rfl) ha hn htk
  obtain ⟨hp, g, d, t, os⟩ := s
  have L0 := I.type (M := model prog w)
  have L1 := looks_findIn (M := model prog w) X hga
  have L2 := looks_findIn (M := model prog w) X hgt
  have L3 := looks_find (M := model prog w) X I hf
  have sub : Looks (model prog w) hp (isInstance (.ref x) (.type "BaseException")) true := L0.andThen (looks_subIn X hsub)
  have hx0 : (false && onTheHeap (Value.builtin "BaseException.__getattribute__")) = false := rfl
  have hx2 : (Value.builtin "BaseException.__getattribute__" == Value.builtin "object.__getattribute__") = false := by decide +kernel
  have hx1 : (onTheHeap (Value.ref D) && Value.builtin "BaseException.__getattribute__" == Value.builtin "object.__getattribute__") = false := by rw [hx2]; rfl
  unfold getAttr? getAttrBy? getAttrBy
  refine wpAny_bind (wpAny_mkText (wpAny_bind (wpAny_attempt (wpAny_holding (wpAny_bind (L0.at (wpAny_bind (L1.at ?_))))))))
  show wpAny _ _ (if (onTheHeap (Value.ref D) && Value.builtin "BaseException.__getattribute__" == Value.builtin "object.__getattribute__") = true then _ else _) _ _ _
  rw [hx1, if_neg Bool.false_ne_true]
  unfold getAttrByItsOwn hookBefore
  refine wpAny_bind ?_
  rw [if_pos (show onTheHeap (Value.ref D) = true from rfl)]
  refine L2.at ?_
  refine wpAny_bind (wpAny_attempt (wpAny_holding ?_))
  unfold callGetattribute
  rw [hx0, if_neg Bool.false_ne_true]
  unfold boundAndCalled
  rw [PySem.F.excAttr_ValueError.ga.bind (.ref x)]
  refine wpAny_bind (wpAny_pure ?_)
  show wpAny _ _ (call (.builtin "BaseException.__getattribute__") [.ref x, .str "__class__" t]) _ _ _
  refine wpAny_call (codeAny_call_builtin PySem.F.excAttr_ValueError.ga.plain PySem.F.entry_bexc_ga ?_)
  refine @check_slot (model prog w) _ _ ⟨hp, g, d, t + 1, os⟩ "BaseException.__getattribute__" "BaseException" "__getattribute__" (.ref x) [.str "__class__" t] [] _ (by decide +kernel) (by decide +kernel) sub (PySem.F.args_bexc_ga (.ref x) (.str "__class__" t)) ?_
  unfold Builtin.«object.__getattribute__»
  refine wpAny_bind (wpAny_of_eq (a := ((Value.ref x : Value), [Value.str "__class__" t])) (by first | rfl | (simp only [slotArgs]; rfl)) ?_)
  refine wpAny_bind (wpAny_pure (wpAny_bind (L0.at (wpAny_bind (L3.at ?_)))))
  show wpAny _ _ (holding [Value.builtin "object.__class__"] (call (.builtin "getset_descriptor.__get__") [.builtin "object.__class__", .ref x, .ref D]) >>= ret) _ _ _
  refine wpAny_bind (wpAny_holding (wpAny_call (class_get (s := ⟨hp, g, d, t + 1, os⟩) (ox := ox) (od := od) X I hm ?_)))
  refine wpAny_pure ?_
  show wpAny _ _ (handedOut (.ref D)) _ _ _
  rw [handedOut_of (v := .ref D) rfl]
  first
    | exact wpAny_pure (wpAny_pure h)
    | exact wpAny_pure h
    | exact wpAny_pure (wpAny_bind (wpAny_pure (wpAny_pure h)))
theorem ek_kitx (hga : findIn K (.ref D) "__getattribute__" = some (some (.builtin "BaseException.__getattribute__"))) (hgt : findIn K (.ref D) "__getattr__" = some none) (hsub : subIn K (.ref D) (.type "BaseException") = some true) (hdct : hasDictIn K D = true) (ha : findIn K (.ref D) "__class__" = some (some (.builtin "object.__class__")))
    (hn : specialIn K (.builtin "object.__class__") "__get__" = some (some (.builtin "getset_descriptor.__get__"))) (htk : takesIn K (.builtin "object.__class__") = some true) (hm : mroIn K D (.type "object") = some true) :
    KitX K (.ref x) (.ref D) (fun h => InstAt h x ox D od) where
  ty := fun _ _ _ I => I.type
  it := fun _ _ X _ => by
    obtain ⟨cdD, hcD, _⟩ := any_some hdct
    unfold clsIn at hcD
    split at hcD
    · rename_i c' d' cd' sl' ho
      intro A' Q' E' s' k q
      unfold isType loadHead
      exact wpAny_bind (wpAny_loadPart (k _ _ (X _ _ ho)) (wpAny_pure q))
    · cases hcD
  ne := fun h tp dd its n sl X htp => by
    obtain ⟨cdD, hcD, _⟩ := any_some hdct
    refine Bool.eq_false_iff.mpr fun q => ?_
    have e : D = tp := Value.ref.inj (beq_iff_eq.mp q)
    subst e
    unfold clsIn at hcD
    split at hcD
    · rename_i c' d' cd' sl' ho
      have z := (X _ _ ho).symm.trans htp
      cases z
    · cases hcD
  ca := fun X I k => ek_kin_class hga hgt hsub hdct ha hn htk hm X I k
end
end PySem.W
namespace EK
open PySem PySem.Spec PyProof.Rows L2
/-- isinstance(e, c), e the exception that the suite holds: its class D, its dict at d -/
def rIsE (K : PySem.W.Frag) (cls : Value) (d : Option Addr) (D a : Addr) : List V → Hp → VK → Prop := fun xs H Q => ∃ (c : V) (cv : Value) (b : Bool), xs = [.ref a, c] ∧ cls = .ref D ∧ (∃ dd fs, d = some dd ∧ H dd = some (.xd fs)) ∧ ClsV c cv ∧ PySem.W.kitOne K (.ref D) cv = some b ∧ Q (.bl b) H
theorem call_isE {X : Cx} {a D : Addr} {cls : Value} {d : Option Addr} {oe : Obj} {pn : List (Addr × Obj)} (C : ExcC X.K D) (hz : Zc cls d oe) (hf : ∃ vs, oe.data = .fields vs) : CallR (X.suite a ((a, oe) :: pn)) (.builtin "isinstance") (rIsE X.K cls d D a) := by
  intro pins s σ H xs us Q I r h
  obtain ⟨c, cv, b, rfl, ec, ⟨dd, fs, ed, hd⟩, k, e, q⟩ := h
  obtain ⟨u1, u2, rfl, r1, r2⟩ := vals2 r
  cases r1
  have e2 := k.eq r2
  subst e2 ec ed
  obtain ⟨hget, _⟩ := I.pin (a, oe) (List.mem_append.mpr (.inl List.mem_cons_self))
  obtain ⟨vs, hv⟩ := hf
  have hx : ObjOk X.prog X.w H s.heap dd (.xd fs) := I.hok dd _ hd
  obtain ⟨mA, hns, _⟩ := hx
  obtain ⟨od, ho, _⟩ := lookIn_ns hns
  have J : PySem.W.InstAt s.heap a oe D (some od) := ⟨hget, hz.1, by unfold PySem.W.notCls; rw [hv] <;> rfl, by rw [hz.2]; exact ho⟩
  exact PySem.W.kia_one (PySem.W.ek_kitx C.hg C.hk C.hs C.hd C.ha C.hn C.ht C.hm) I.kIn J e (fun z => nomatch z) fun tk => ⟨.bl b, H, I.kept (t' := tk) fun _ _ z => z, rfl, q⟩
/-! ### several except clauses, all with one name -/
def endsN (D : Ends) (i : Nat) : Ends := { nx := fun σ' H' => D.nx (σ'.set i none) H', rt := D.rt, bk := fun σ' H' => D.bk (σ'.set i none) H', ct := fun σ' H' => D.ct (σ'.set i none) H' }
def wManyN (K : PySem.W.Frag) (Wout : WX) (D : Ends) (i : Nat) : List (Value × (Addr → Value → Option Addr → TS)) → WX
  | [] => Wout
  | (c, ts) :: r => fun cls d σ H => ∃ b, PySem.W.exmOne K cls c = some b ∧ (b = true → ∀ a, H a = none → ts a cls d (endsN D i) (σ.set i (some (.ref a))) H) ∧ (b = false → wManyN K Wout D i r cls d σ H)
inductive HdsN (X : Cx) (n : Str) : List ExceptHandler → List (Value × (Addr → Value → Option Addr → TS)) → Prop
  | nil : HdsN X n [] []
  | cons {x : Str} {c : Value} {ts : Addr → Value → Option Addr → TS} {b₀ : Stmt} {suite : List Stmt} {np pos' : Pos} {hds : List ExceptHandler} {l : List (Value × (Addr → Value → Option Addr → TS))} (hc : Names X x c)
      (hsu : ∀ (a : Addr) (oe : Obj) (cls : Value) (d : Option Addr) (pn : List (Addr × Obj)), Zc cls d oe → (∃ vs, oe.data = .fields vs) → PSs (X.suite a ((a, oe) :: pn)) (b₀ :: suite) (ts a cls d)) (r : HdsN X n hds l) :
      HdsN X n (.ExceptHandler (some (.Name x np)) (some n) (b₀ :: suite) pos' :: hds) ((c, ts) :: l)
section
variable {X : Cx} {n : Str} {i : Nat} {body : List Stmt} {h₀ : ExceptHandler} {hds : List ExceptHandler} {l : List (Value × (Addr → Value → Option Addr → TS))} {pos : Pos} {tb : WX → TS} {Wout : WX}
theorem ps_tryN (hs : X.stack = X.env :: X.outer) (hf : X.env.frame = some X.env.locals) (hN : X.N.Nodup) (hi : X.N[i]? = some n) (hln : X.env.kindOf n = some .local) (tk : Takes X Wout)
    (hb : ∀ (W : WX) (pn : List (Addr × Obj)) (xe : Value → Shared → Prop), Takes (X.tr pn xe) W → PassesOwn (model X.prog X.w) X.A X.env xe → PSs (X.tr pn xe) body (tb W))
    (hh : HdsN X n (h₀ :: hds) l) : PS X (.Try body (h₀ :: hds) [] [] pos) (fun D σ H => tb (wManyN X.K Wout D i l) D σ H) := by
  refine ⟨fun pins s σ H D I h => ?_⟩
  have ok := I.ok
  have hfr : X.A.frames = some (X.env :: X.outer) := by rw [ok.frames, hs]
  have hloc : Loc X.env.scope n := .inl hln
  refine wpAny_Try_except ?_
  refine wpAny_mono ((hb (wManyN X.K Wout D i l) (X.pn ++ pins) (fun e s₁ => wpAny (model X.prog X.w) X.A (noteFrame e X.env) (fun _ s₂ => wpAny (model X.prog X.w) X.A (setFlight e none) (fun _ s₃ =>
    wpAny (model X.prog X.w) X.A (handleBy e X.env (h₀ :: hds)) (SP X pins D) X.xe s₃) X.xe s₂) X.xe s₁) (fun u s' xx => ?_) PassesOwn.looking).run [] s σ H D (I.toTry _) h) (fun f s1 hsp => ?_) (fun e s1 he => he)
  · -- the catch
    obtain ⟨a, B, sI, pins', σ', H', cls, d, rfl, J', nb, up, sky, na, os, ag, w⟩ := xx
    have J : Inv X pins σ' H' sI := J'.ofTry ok
    have sky' : Sky B (X.env :: X.outer) a (Zc cls d) X.env.locals s'.heap := by rw [← hs]; exact sky
    show wpAny (model X.prog X.w) X.A (noteFrame (.ref a) X.env) _ _ _
    refine Sky.land Zc.steady hfr hf sky' fun h3 fl3 up3 => ?_
    have J3 : Inv X pins σ' H' { s' with heap := h3 } := J.landed nb fl3.1 (up.trans up3) os ag
    obtain ⟨oe3, vs3, he3, hz3, hd3⟩ := fl3.there
    have notFr : ∀ {h : Heap} {o : Obj} {vs : Array Value}, h.FunFrames B (X.env :: X.outer) → h.get? a = some o → o.data = .fields vs → a ∉ frs (X.env :: X.outer) := fun {h o vs} ff e dd hm => by
      obtain ⟨_, o', e', hnf⟩ := ff.mem hm
      rw [e] at e'; cases e'
      exact hnf _ dd
    have nfr := notFr fl3.2.2.1 he3 hd3
    have nL : a ≠ X.env.locals := fun z => nfr (List.mem_filterMap.mpr ⟨X.env, List.mem_cons_self, by rw [hf, z]⟩)
    have nF : a ∉ X.fs := fun hm => by
      obtain ⟨e, he, q⟩ := List.mem_filterMap.mp hm
      exact nfr (List.mem_filterMap.mpr ⟨e, List.mem_cons_of_mem _ he, q⟩)
    have S3 := J3.suite he3 hd3 na nL nF
    have go : ∀ {hds' : List ExceptHandler} {l' : List (Value × (Addr → Value → Option Addr → TS))}, HdsN X n hds' l' → wManyN X.K Wout D i l' cls d σ' H' →
        wpAny (model X.prog X.w) X.A (handleBy (.ref a) X.env hds') (SP X pins D) X.xe { s' with heap := h3 } := by
      intro hds' l' hk
      induction hk with
      | nil =>
        intro w
        refine wpAny_handleBy_nil ?_
        obtain ⟨k1, k2, k3, oe, vs, T, oT, ts', he, hz, hd, h1, hr⟩ := id fl3
        unfold PySem.passOn
        refine wpAny_bind (wpAny_field he hd h1 ?_)
        rw [if_neg (show ¬ ((Value.ref T == Value.none) = true) from by simp)]
        have fin : wpAny (model X.prog X.w) X.A (setFlight (.ref a) X.env.frame) (fun _ s4 => wpAny (model X.prog X.w) X.A (throw (.ref a) : Sem Flow) (SP X pins D) X.xe s4) X.xe { s' with heap := h3 } := by
          rw [hf]
          refine HandSPX.setFlight_upZ fl3 fun h4 hh4 up4 => wpAny_throw (tk _ _ ?_)
          exact ⟨a, B, sI, pins, σ', H', cls, d, rfl, J, nb, (up.trans up3).trans up4, .inr (.inr (by rw [hs]; exact hh4)), na, os, ag, w⟩
        first
          | exact wpAny_bind (wpAny_pure (wpAny_bind fin))
          | exact wpAny_bind fin
      | @cons x c ts b₀ suite np pos' hds2 l2 hc hsu r ih =>
        intro w
        obtain ⟨b, hb1, hyes, hno⟩ := w
        refine wpAny_handleBy_cons (codeAny_handlers_test ?_) (by intro q; cases q)
        have LT : PySem.W.Looks (model X.prog X.w) h3 (typeOf (.ref a)) cls := fun A Q E s k q => wpAny_typeOf_ref (k _ _ he3) (by rw [hz3.1]; exact q)
        have LM := PySem.W.exm_one (M := model X.prog X.w) (J3.kIn) LT hb1
        have test : ∀ {Q : Value → Shared → Prop} {E : Value → Shared → Prop}, Q c { s' with heap := h3 } → wpAny (model X.prog X.w) (X.A.mark (some (.ref a))) (eval (.Name x np) X.env) Q E { s' with heap := h3 } := fun {Q E} q => by
          obtain ⟨hg, hdbg, hm | ⟨hm, hv, hnn⟩⟩ := hc
          · exact ld_glob (X := X.suite a ((a, oe3) :: (X.pn ++ pins))) S3 hg hm q hdbg
          · exact ld_blt (X := X.suite a ((a, oe3) :: (X.pn ++ pins))) S3 hg hm hv q hnn hdbg
        refine test (LM.here ?_)
        cases b with
        | true =>
          refine codeAny_handlers_suite_as ?_
          refine HandSPX.lands_againZ fl3 fun h4 fl4 up4 => ?_
          have J4 : Inv X pins σ' H' { s' with heap := h4 } := J.landed nb fl4.1 ((up.trans up3).trans up4) os ag
          obtain ⟨oe4, vs4, he4, hz4, hd4⟩ := fl4.there
          have S4 := J4.suite he4 hd4 na nL nF
          refine store_ok (X := X.suite a ((a, oe4) :: (X.pn ++ pins))) (v := .ref a) S4 hN hi hloc rfl (fun s5 S5 => ?_) (.inr hln)
          refine wpAny_mono ((hsu a oe4 cls d (X.pn ++ pins) hz4 ⟨_, hd4⟩).run [] s5 _ H' _ S5 (hyes rfl a na)) (fun f s6 hsp => ?_) (fun _ _ z => False.elim z)
          have end_ : ∀ {σ6 : L2.St} {H6 : Hp} {Q : Shared → Prop}, Inv (X.suite a ((a, oe4) :: (X.pn ++ pins))) [] σ6 H6 s6 → (∀ s7, Inv X pins (σ6.set i none) H6 s7 → Q s7) →
              wpAny (model X.prog X.w) X.A (do bindName X.env n .none; unbindBehindTheSuite X.env n pos') (fun _ s7 => Q s7) X.xe s6 := fun {σ6 H6 Q} S6 hq => gone_ok (S6.unsuite ok) hN hi hln hq
          cases f with
          | next =>
            obtain ⟨σ6, H6, S6, q6⟩ := hsp
            exact end_ S6 fun s7 J7 => ⟨_, _, J7, q6⟩
          | brk =>
            obtain ⟨σ6, H6, S6, q6⟩ := hsp
            exact end_ S6 fun s7 J7 => ⟨_, _, J7, q6⟩
          | cont =>
            obtain ⟨σ6, H6, S6, q6⟩ := hsp
            exact end_ S6 fun s7 J7 => ⟨_, _, J7, q6⟩
          | ret u =>
            obtain ⟨v6, σ6, H6, S6, r6, q6⟩ := hsp
            exact end_ S6 fun s7 J7 => ⟨_, _, _, J7, r6, q6⟩
        | false =>
          show wpAny _ X.A (handleBy (.ref a) X.env hds2) _ _ _
          exact ih (hno rfl)
    exact go hh w
  · cases f with
    | next =>
      obtain ⟨σ', H', J', q⟩ := hsp
      exact wpAny_execs_nil ⟨σ', H', J'.ofTry ok, q⟩
    | brk =>
      obtain ⟨σ', H', J', q⟩ := hsp
      exact ⟨σ', H', J'.ofTry ok, q⟩
    | cont =>
      obtain ⟨σ', H', J', q⟩ := hsp
      exact ⟨σ', H', J'.ofTry ok, q⟩
    | ret u =>
      obtain ⟨v, σ', H', J', r, q⟩ := hsp
      exact ⟨v, σ', H', J'.ofTry ok, r, q⟩
end
end EK

/-! exceptions of own classes as values: made by position and by name, their fields, isinstance -/
namespace PySem
namespace ExV
open PySem.Spec PySem.W PySem.Calls PyProof.Rows PySem.HandSPX Builtin Builtin.ObjectAttr
section
variable {M : Model} {prog : Program} {w : World} {A : Around} {E : Value → Shared → Prop} {R : Result → Shared → Prop} {h : Heap} {g : Array GenState} {d : Drawn} {t : Nat} {os : OsState}
variable {nm q : Str} {C N : Addr} {bs bm bmB : List Value} {hdct : Bool} {sn : List Str} {sub : List Value} {ab : Bool} {col : Option Bool} {dd : Option Addr} {k0 k1 k2 k3 k5 : Option Value} {B newId initId : String} {kw : List (Str × Value)} {xs : List Value}
theorem own_check (F : ExcBaseFacts B newId initId bmB) (hT : ∀ X : String, bm.contains (.type X) = bmB.contains (.type X)) {Q : Unit → Shared → Prop}
    (hC : h.get? C = some (excClassObj nm q C N bs bm hdct sn sub ab col dd k0 k1 k2 k3 k5 newId)) (z : Q () ⟨h, g, d, t, os⟩) : wpAny M A (checkBuiltinCall newId ⟨.ref C :: xs, kw⟩) Q E ⟨h, g, d, t, os⟩ := by
  have inB : (Value.ref C :: bm).contains (.type B) = true := by
    rw [List.contains_cons, hT, F.hasB, Bool.or_true]
  have st := F.noStar
  simp only [checkBuiltinCall, F.newKind, F.newSplit, F.newRow]
  repeat (first | refine wpAny_loadPart_at hC ?_ | (refine wpAny_isSubtype_exc hC ?_; rw [inB]) | refine wpAny_staticBase_exc hC ?_ | refine wpAny_madeBy_exc hC ?_ | simp only [bne_self_eq_false, Bool.false_eq_true, if_false] | wp_step)
  exact z
theorem own_new (F : ExcBaseFacts B newId initId bmB) (hT : ∀ X : String, bm.contains (.type X) = bmB.contains (.type X))
    (hC : h.get? C = some (excClassObj nm q C N bs bm hdct sn sub ab col dd k0 k1 k2 k3 k5 newId))
    (z : R (.ok (.ret (.ref (h.objs.size + 1)))) ⟨(h.push (W.kdv_tup xs)).push (excO C h.objs.size), g, d, t, os⟩) (hl : xs.length ≤ sizeLine) :
    codeAny (model prog w) A (.builtin newId ⟨.ref C :: xs, kw⟩) R ⟨h, g, d, t, os⟩ := by
  have en := F.ends
  have inB : (Value.ref C :: bm).contains (.type B) = true := by
    rw [List.contains_cons, hT, F.hasB, Bool.or_true]
  have noA : (Value.ref C :: bm).contains (.type "AttributeError") = false := by
    rw [List.contains_cons, hT, F.noAttr]
    rfl
  have noN : (Value.ref C :: bm).contains (.type "NameError") = false := by
    rw [List.contains_cons, hT, F.noName]
    rfl
  refine codeAny_builtinAt F.entry ?_
  unfold Builtin.«BaseException.__new__»
  refine wpAt_bind ?_
  show wpAt _ _ _ (stack >>= _) _ _ _
  refine wpAt_bind (wpAt_stack fun p below => wpAt_of_wpAny ?_)
  wp_walk
  refine wpAt_of_wpAny ?_
  rw [F.owner]
  repeat (first | with_reducible refine wpAny_madeHere_exc F.canon hC ?_ | with_reducible refine wpAny_loadPart_at hC ?_ | (with_reducible refine wpAny_isSubtype_exc hC ?_; first | rw [inB] | rw [noA] | rw [noN]) | wp_step)
  show R _ _
  rw [Heap.size_push]
  exact z
theorem own_type (F : ExcBaseFacts B newId initId bmB) (hT : ∀ X : String, bm.contains (.type X) = bmB.contains (.type X)) {fv : Value} {Q : Fin → Shared → Prop}
    (hC : h.get? C = some (excClassObj nm q C N bs bm hdct sn sub ab col dd k0 k1 k2 k3 k5 newId))
    (hi : W.Looks (model prog w) h (typeLookup (.ref C) "__init__") (some fv)) (hb : ∀ self, W.Looks (model prog w) h (bindSpecial fv self) (fv, [self])) (hl : xs.length ≤ sizeLine)
    (z : codeAny (model prog w) A (.call fv ⟨.ref (h.objs.size + 1) :: xs, kw⟩) (fun r s' => match r with | .ok (.ret v) => v = .none ∧ Q (.done (.ret (.ref (h.objs.size + 1)))) s' | .ok _ => False | .error e => E e s')
      ⟨(h.push (W.kdv_tup xs)).push (excO C h.objs.size), g, d, t, os⟩) :
    wpAny (model prog w) A (Builtin.«type.__call__» ⟨.ref C :: xs, kw⟩) Q E ⟨h, g, d, t, os⟩ := by
  repeat (first | with_reducible refine wpAny_loadPart_at hC ?_ | with_reducible refine wpAny_madeBy_exc hC ?_ | wp_step)
  refine codeAny_call_builtin_code (Code.quiet_builtin _ F.quiet) (own_check F hT hC ?_)
  refine own_new F hT hC ?_ hl
  show wpAny _ _ _ _ _ _
  have kp : ∀ b o, h.get? b = some o → ((h.push (W.kdv_tup xs)).push (excO C h.objs.size)).get? b = some o := fun b o y => Heap.get?_push_of_some _ (Heap.get?_push_of_some _ y)
  have hC2 := kp _ _ hC
  have he : ((h.push (W.kdv_tup xs)).push (excO C h.objs.size)).get? (h.objs.size + 1) = some (excO C h.objs.size) := by heap_get
  have inC : (Value.ref C :: bm).contains (.ref C) = true := by simp
  have hi2 := hi.keeps kp
  have hb2 := (hb (.ref (h.objs.size + 1))).keeps kp
  unfold isInstance
  repeat (first | with_reducible refine wpAny_loadPart_at he ?_ | (with_reducible refine wpAny_isSubtype_exc hC2 ?_; rw [inC]) | wp_step)
  show wpAny _ _ (typeLookup (.ref C) _) _ _ _
  refine hi2.at ?_
  refine wpAny_holding (wpAny_bind (hb2.at ?_))
  refine wpAny_bind (wpAny_call (codeAny_mono z fun r s' y => ?_))
  rcases r with e | (v | _ | _ | _) <;> first | exact y | exact y.elim | skip
  obtain ⟨rfl, y⟩ := y
  first
    | exact wpAny_pure (wpAny_pure y)
    | (wp_walk; exact y)
theorem own_chk {Q : Unit → Shared → Prop} (hC : h.get? C = some (excClassObj nm q C N bs bm hdct sn sub ab col dd k0 k1 k2 k3 k5 newId))
    (hq : Q () ⟨h, g, d, t, os⟩) : wpAny M A (checkBuiltinCall "type.__call__" ⟨.ref C :: xs, kw⟩) Q E ⟨h, g, d, t, os⟩ := by
  have sb := tc_sub
  have ty : (⟨h, g, d, t, os⟩ : Shared).TypeIs (.ref C) "type" := ⟨_, hC, rfl⟩
  simp only [checkBuiltinCall, tc_kind, tc_split]
  repeat (any_goals (first | assumption | with_reducible refine wpAny_loadPart_at hC ?_ | with_reducible refine wpAny_onRaise ?_ | with_reducible refine wpAny_map ?_ | wp_step))
theorem own_call (F : ExcBaseFacts B newId initId bmB) (hT : ∀ X : String, bm.contains (.type X) = bmB.contains (.type X)) {fv : Value}
    (hC : h.get? C = some (excClassObj nm q C N bs bm hdct sn sub ab col dd k0 k1 k2 k3 k5 newId))
    (hi : W.Looks (model prog w) h (typeLookup (.ref C) "__init__") (some fv)) (hb : ∀ self, W.Looks (model prog w) h (bindSpecial fv self) (fv, [self])) (hl : xs.length ≤ sizeLine)
    (z : codeAny (model prog w) (A.under (.builtin "type.__call__" ⟨.ref C :: xs, kw⟩)) (.call fv ⟨.ref (h.objs.size + 1) :: xs, kw⟩) (W.InitBack (h.objs.size + 1) R)
      ⟨(h.push (W.kdv_tup xs)).push (excO C h.objs.size), g, d, t, os⟩) : codeAny (model prog w) A (.call (.ref C) ⟨xs, kw⟩) R ⟨h, g, d, t, os⟩ := by
  have lk := tc_lookup
  have bd := tc_bind (.ref C)
  have ty : (⟨h, g, d, t, os⟩ : Shared).TypeIs (.ref C) "type" := ⟨_, hC, rfl⟩
  refine codeAny_of_tree ?_
  show wpAny _ _ (callAny (.ref C) _) _ _ _
  repeat (any_goals (first | assumption | with_reducible refine wpAny_loadPart_at hC ?_ | wp_step))
  refine ⟨rfl, ?_⟩
  refine codeAny_call_builtin_at (Code.quiet_builtin _ (by decide +kernel)) entry_typeCall (own_chk hC (own_type F hT hC hi hb hl ?_))
  refine codeAny_mono z fun r s' y => ?_
  rcases r with e | (v | _ | _ | _) <;> exact y
end
end ExV
end PySem
namespace EK
open PySem PySem.Spec PyProof.Rows L2
/-- C(..) kept as a value: __init__ keeps sp -/
def tMkV (C : Addr) (sp : Sp) (ta : TA) : TE := fun σ H Q => ta σ H fun vs H1 => vs.length ≤ 1000 ∧ ∀ a, H1 a = none → sp (.ref a :: vs) (upd H1 a (exo a C none)) (fun v H2 => v = .non ∧ Q (.ref a) H2) (fun _ _ _ => False)
/-- .. by names, put in their order by g -/
def tMkN (C : Addr) (sp : Sp) (n : Nat) (g : List V → List V → List V) (tk : TA) : TE := fun σ H Q => tk σ H fun zs H1 => zs.length = n ∧ ∀ a, H1 a = none → sp (g [.ref a] zs) (upd H1 a (exo a C none)) (fun v H2 => v = .non ∧ Q (.ref a) H2) (fun _ _ _ => False)
section
variable {X : Cx} {CX : CXT} {x : Str} {e : Expr} {es : List Expr} {ta tk : TA} {p pos : Pos} {C fI : Addr} {k : Nat} {fd : FuncData} {ps ks : List Str} {sp : Sp} {kws : List Keyword} {pins : List (Addr × Obj)} {σ : L2.St} {H : Hp} {s : Shared} {Q : VK}
theorem run_mkv (T : OexC X.K C) (iC : PySem.W.findIn X.K (.ref C) "__init__" = some (some (.ref fI))) (tI : PySem.W.typeIn X.K (.ref fI) = some (.type "function")) (F1 : FnOk X.prog X.w X.K X.mg X.base CX k fI fd ps sp) (hr : Room (k + 1) X.A)
    (hx : Passes CX X (fun _ _ _ => False)) (I : Inv X pins σ H s) {us : List Value} {kw : List (Str × Value)} (hl : us.length ≤ sizeLine) {G : Value → List Value} {gv : V → List V} (hb : ∀ (s' : Shared) (u : Value), X.K.In s'.heap → BindsTo s' fd ⟨u :: us, kw⟩ (ps.zip (G u)))
    (r2 : ∀ a : Addr, Vals (gv (.ref a)) (G (.ref a))) (h : ∀ a, H a = none → sp (gv (.ref a)) (upd H a (exo a C none)) (fun v H2 => v = .non ∧ Q (.ref a) H2) (fun _ _ _ => False)) : wpAny (model X.prog X.w) X.A (call (.ref C) us kw) (EP X pins σ Q) X.xe s := by
  obtain ⟨nm, q, N, bs, bm, sn, sub, ab, col, dd, k0, k1, k2, k3, k5, hC, hbm⟩ := T.cls
  obtain ⟨hp, g, dr, tk, os⟩ := s
  have up : hp.objs.size ≤ hp.objs.size + 1 := Nat.le_succ _
  have hq := h (hp.objs.size + 1) (I.hok.fresh up)
  have kk : ∀ b o, hp.get? b = some o → ((hp.push (PySem.W.kdv_tup us)).push (PySem.HandSPX.excO C hp.objs.size)).get? b = some o := fun b o y => Heap.get?_push_of_some _ (Heap.get?_push_of_some _ y)
  have he : ((hp.push (PySem.W.kdv_tup us)).push (PySem.HandSPX.excO C hp.objs.size)).get? (hp.objs.size + 1) = some (PySem.HandSPX.excO C hp.objs.size) := by heap_get
  have I2 : Inv X pins σ (upd H (hp.objs.size + 1) (exo (hp.objs.size + 1) C none)) ⟨(hp.push (PySem.W.kdv_tup us)).push (PySem.HandSPX.excO C hp.objs.size), g, dr, tk, os⟩ :=
    I.laid (t' := tk) (a := hp.objs.size + 1) (o := exo (hp.objs.size + 1) C none) (h' := (hp.push (PySem.W.kdv_tup us)).push (PySem.HandSPX.excO C hp.objs.size)) kk up (exo_ok he)
  refine wpAny_call (PySem.ExV.own_call F.excBase_ValueError (fun Y => PySem.HandSPX.refsVE_contains Y bm hbm) (I.kIn _ _ hC) (PySem.W.looks_findIn I.kIn iC) (fun self => PySem.W.bind_fn I.kIn self tI) hl
    (codeAny_mono (F1.run _ X.stack _ _ ⟨Value.ref (hp.objs.size + 1) :: us, kw⟩ (G (.ref (hp.objs.size + 1))) _ _ (fun _ _ _ => False) (hr.make C us kw) (I2.env0.make C us kw) (hb _ _ I2.kIn) (r2 _) hq) fun r s' hq' => ?_))
  cases r with
  | error er => exact hx pins σ _ _ er s' I2 hq'
  | ok fl =>
    cases fl with
    | ret u =>
      obtain ⟨v, H', I3, rv, ev, q3⟩ := I2.after hq'
      subst ev
      exact ⟨rv, ⟨V.ref (hp.objs.size + 1), H', I3, rfl, q3⟩⟩
    | next => exact False.elim hq'
    | brk => exact False.elim hq'
    | cont => exact False.elim hq'
theorem pe_mkv (T : OexC X.K C) (iC : PySem.W.findIn X.K (.ref C) "__init__" = some (some (.ref fI))) (tI : PySem.W.typeIn X.K (.ref fI) = some (.type "function")) (F1 : FnOk X.prog X.w X.K X.mg X.base CX k fI fd ps sp) (hr : Room (k + 1) X.A) (hb : Binds X.K fd ps [])
    (hx : Passes CX X (fun _ _ _ => False)) (hg : Gl X x) (hm : X.mg x = some (.ref C)) (ha : PA X (e :: es) ta) (hdb : (x == ("__debug__" : Str)) = false := by decide) (he : starEach (e :: es) X.env = (false, eval e X.env) :: starEach es X.env := by rfl)
    (hpl : (backTo pos (starEach es X.env)).any (·.1) = false := by rfl) : PE X (.Call (.Name x p) (e :: es) [] pos) (tMkV C sp ta) := by
  refine ⟨fun pins s σ H Q I h => ?_⟩
  refine wpAny_Call_Name_kw (ld_glob I hg hm ?_ hdb)
  refine PySem.W.callWith_K (h₀ := X.base) I.ok.mod.kin T.kC (thn (ha.run pos pins s σ H _ I h) fun us s1 ⟨vs, H1, I1, r1, hz, q1⟩ => ⟨I1.kIn, ?_⟩) he hpl
  have hus : us.length ≤ sizeLine := by
    rw [← Paired.length r1, sizeLine_eq]
    omega
  show wpAny _ _ (call (.ref C) us) _ _ _
  refine run_mkv (gv := fun v => v :: vs) (G := fun u => u :: us) T iC tI F1 hr hx I1 hus (fun s' u X' => ?_) (fun a => .cons rfl r1) q1
  have y := hb s' (u :: us) X' ?_
  · rw [List.append_nil] at y
    exact y
  have el : (Value.ref 0 :: us).length = ps.length := by
    have z := F1.len _ _ _ _ (q1 _ (I1.hok.fresh (Nat.le_refl _)))
    rw [← z]
    exact (Paired.length (F := RelV) (.cons (a := V.ref 0) (b := Value.ref 0) rfl r1)).symm
  simpa using el
theorem pe_mkn {g : List Value → List Value → List Value} {gV : List V → List V → List V} (T : OexC X.K C) (iC : PySem.W.findIn X.K (.ref C) "__init__" = some (some (.ref fI))) (tI : PySem.W.typeIn X.K (.ref fI) = some (.type "function")) (F1 : FnOk X.prog X.w X.K X.mg X.base CX k fI fd ps sp)
    (hr : Room (k + 1) X.A) (hb : KBn X.K fd ps 1 ks g gV) (hx : Passes CX X (fun _ _ _ => False)) (hg : Gl X x) (hm : X.mg x = some (.ref C)) (hkw : PK X kws tk) (hall : (backToKw pos (keywordEach kws X.env)).all (·.1.isSome) = true := by rfl)
    (hks : (backToKw pos (keywordEach kws X.env)).filterMap (·.1) = ks := by rfl) (hdb : (x == ("__debug__" : Str)) = false := by decide) (hpl : ((backTo pos (starEach [] X.env)).any (·.1) || (backToKw pos (keywordEach kws X.env)).any (·.1.isNone)) = false := by rfl) :
    PE X (.Call (.Name x p) [] kws pos) (tMkN C sp ks.length gV tk) := by
  refine ⟨fun pins s σ H Q I h => ?_⟩
  refine wpAny_Call_Name_kw (ld_glob I hg hm ?_ hdb)
  refine PySem.W.callWith_KW0 (h₀ := X.base) I.ok.mod.kin T.kC hall ?_ hpl
  refine thn (hkw.run pos pins s σ H _ I h) fun ws s2 ⟨zs, H2, I2, rz, l1, q2⟩ => ⟨I2.kIn, ?_⟩
  rw [hks]
  exact run_mkv (gv := fun v => gV [v] zs) (G := fun u => g [u] ws) T iC tI F1 hr hx I2 (Nat.zero_le _) (fun s' u X' => hb.to s' [u] ws X' rfl (rz.length.symm.trans l1)) (fun a => hb.rel (.cons rfl .nil) rz) q2
/-- C(), C without an __init__ of its own -/
def tMk0 (C : Addr) : TE := fun _ H Q => ∀ a, H a = none → Q (.ref a) (upd H a (exo a C none))
theorem pe_mk0 (T : OexC X.K C) (iC : PySem.W.findIn X.K (.ref C) "__init__" = some (some (.builtin "ValueError.__init__"))) (hg : Gl X x) (hm : X.mg x = some (.ref C)) (hdb : (x == ("__debug__" : Str)) = false := by decide) :
    PE X (.Call (.Name x p) [] [] pos) (tMk0 C) := by
  refine ⟨fun pins s σ H Q I h => ?_⟩
  refine wpAny_Call_Name_kw (ld_glob I hg hm ?_ hdb)
  refine PySem.W.callWith_K0 (first := []) I.kIn T.kC ?_
  show wpAny _ _ (call (.ref C) []) _ _ _
  obtain ⟨nm, q, N, bs, bm, sn, sub, ab, col, dd, k0, k1, k2, k3, k5, hC, hbm⟩ := T.cls
  obtain ⟨hp, g, dr, tk, os⟩ := s
  have up : hp.objs.size ≤ hp.objs.size + 1 := Nat.le_succ _
  have kk : ∀ b o, hp.get? b = some o → ((hp.push (PySem.W.kdv_tup [])).push (PySem.HandSPX.excO C hp.objs.size)).get? b = some o := fun b o y => Heap.get?_push_of_some _ (Heap.get?_push_of_some _ y)
  have he : ((hp.push (PySem.W.kdv_tup [])).push (PySem.HandSPX.excO C hp.objs.size)).get? (hp.objs.size + 1) = some (PySem.HandSPX.excO C hp.objs.size) := by heap_get
  have I2 : Inv X pins σ (upd H (hp.objs.size + 1) (exo (hp.objs.size + 1) C none)) ⟨(hp.push (PySem.W.kdv_tup [])).push (PySem.HandSPX.excO C hp.objs.size), g, dr, tk, os⟩ :=
    I.laid (t' := tk) (a := hp.objs.size + 1) (o := exo (hp.objs.size + 1) C none) (h' := (hp.push (PySem.W.kdv_tup [])).push (PySem.HandSPX.excO C hp.objs.size)) kk up (exo_ok he)
  refine wpAny_call (PySem.ExV.own_call (fv := .builtin "ValueError.__init__") F.excBase_ValueError (fun Y => PySem.HandSPX.refsVE_contains Y bm hbm) (I.kIn _ _ hC) (PySem.W.looks_findIn I.kIn iC) (fun self => .of_pure (F.excBase_ValueError.init.bind self)) (Nat.zero_le _)
    (PySem.HandSPX.init_base F.excBase_ValueError (fun Y => PySem.HandSPX.refsVE_contains Y bm hbm) (I2.kIn _ _ hC) he (Nat.zero_le _) fun h' t2 kh hx => ?_))
  have eu : upd (upd H (hp.objs.size + 1) (exo (hp.objs.size + 1) C none)) (hp.objs.size + 1) (exo (hp.objs.size + 1) C none) = upd H (hp.objs.size + 1) (exo (hp.objs.size + 1) C none) := upd_upd
  have J := I2.write (t' := tk) (x := hp.objs.size + 1) (e := hp.objs.size + 1) (o := exo (hp.objs.size + 1) C none) (by rw [upd_same]; exact True.intro) (.inl rfl) kh ⟨_, hx⟩ (exo_ok hx)
  rw [eu] at J
  exact ⟨rfl, V.ref (hp.objs.size + 1), _, J, rfl, h _ (I.hok.fresh up)⟩
/-- e.f, e an exception that stands in the heap -/
def tEf (K : PySem.W.Frag) (f : Str) (te : TE) : TE := fun σ H Q => te σ H fun x H1 => ∃ (a C d : Addr) (fs : List (Str × V)) (v : V), x = .ref a ∧ XfC K C ∧ PySem.W.findIn K (.ref C) f = some none ∧ H1 a = some (exo a C (some d)) ∧ H1 d = some (exd d fs) ∧ fs.lookup f = some v ∧ Q v H1
theorem pe_ef {te : TE} {n : Str} (he : PE X e te) (hb : attributeBase e n X.env (eval e X.env) = eval e X.env := by rfl) : PE X (.Attribute e n pos) (tEf X.K n te) := by
  refine ⟨fun pins s σ H Q I h => ?_⟩
  refine attr_of hb (thn (he.run pins s σ H _ I h) fun u s1 hh => ?_)
  obtain ⟨x, H1, I1, rx, a, C, d, fs, v, ex, T, hno, ha, hd, l, q⟩ := hh
  subst ex
  obtain rfl : u = Value.ref a := rx
  obtain ⟨t1, ho⟩ := exo_at I1.hok ha
  obtain ⟨mA, hns, hr⟩ := exd_at I1.hok hd
  obtain ⟨od, ho2, hl⟩ := lookIn_ns hns
  obtain ⟨u, hu, ru⟩ := RelO.some_of (v := v) (o := mA n) (by rw [← l]; exact hr n)
  have J : PySem.W.InstAt s1.heap a _ C (some od) := ⟨ho, rfl, rfl, ho2⟩
  exact HandSPX.exc_get I1.kIn J T.ga T.gg T.exC (PySem.W.findObj_own T.hdC hno rfl (by rw [hl, hu])) (handed_of ru) ⟨v, H1, I1.tok _, ru, q⟩
/-- isinstance(e, D), e an exception that stands in the heap -/
def rIsX (K : PySem.W.Frag) : List V → Hp → VK → Prop := fun xs H Q => ∃ (a C : Addr) (d : Option Addr) (c : V) (cv : Value) (b : Bool), xs = [.ref a, c] ∧ ExcC K C ∧ H a = some (exo a C d) ∧ (∀ dd, d = some dd → ∃ fs, H dd = some (exd dd fs)) ∧ ClsV c cv ∧ PySem.W.kitOne K (.ref C) cv = some b ∧ Q (.bl b) H
theorem call_isX : CallR X (.builtin "isinstance") (rIsX X.K) := by
  intro pins s σ H xs us Q I r h
  obtain ⟨a, C, d, c, cv, b, rfl, EC, ha, hd, kc, e, q⟩ := h
  obtain ⟨u1, u2, rfl, r1, r2⟩ := vals2 r
  cases r1
  have e2 := kc.eq r2
  subst e2
  obtain ⟨t1, ho⟩ := exo_at I.hok ha
  cases d with
  | none =>
    have J : PySem.W.InstAt s.heap a _ C none := ⟨ho, rfl, rfl, trivial⟩
    exact PySem.W.kia_one (PySem.W.ek_kitx EC.hg EC.hk EC.hs EC.hd EC.ha EC.hn EC.ht EC.hm) I.kIn J e (fun z => nomatch z) fun tk => ⟨.bl b, H, I.kept (t' := tk) fun _ _ z => z, rfl, q⟩
  | some dd =>
    obtain ⟨fs, hx⟩ := hd dd rfl
    obtain ⟨mA, hns, _⟩ := exd_at I.hok hx
    obtain ⟨od, ho2, _⟩ := lookIn_ns hns
    have J : PySem.W.InstAt s.heap a _ C (some od) := ⟨ho, rfl, rfl, ho2⟩
    exact PySem.W.kia_one (PySem.W.ek_kitx EC.hg EC.hk EC.hs EC.hd EC.ha EC.hn EC.ht EC.hm) I.kIn J e (fun z => nomatch z) fun tk => ⟨.bl b, H, I.kept (t' := tk) fun _ _ z => z, rfl, q⟩
end
end EK

namespace Law
open PySem PySem.Spec PyProof.Rows L2 Evl TR GX
/-- the builtin type of what stands there -/
def Tn (T : String) : Gt → Prop
  | .int _ => T = "int"
  | .str _ => T = "str"
  | .bl _ => T = "bool"
  | .oth => T = "NoneType" ∨ T = "dict"
  | .seq k _ => T = if k = true then "tuple" else "list"
theorem GA.ty {K : PySem.W.Frag} {H : Hp} {v : V} {g : Gt} (h : GA H v g) : ∃ T, TyX K H v (.type T) ∧ Tn T g := by
  cases h with
  | int i => exact ⟨_, .base (.int i), rfl⟩
  | str z => exact ⟨_, .base (.str z), rfl⟩
  | bl b => exact ⟨_, .base (.bl b), rfl⟩
  | non => exact ⟨_, .base .non, .inl rfl⟩
  | dct h => exact ⟨_, .base (.dK h), .inr rfl⟩
  | @seq a k vs gs h r =>
    cases k
    · exact ⟨_, .base (.lst h), rfl⟩
    · exact ⟨_, .base (.tup h), rfl⟩
def isSq : Gt → Bool
  | .seq _ _ => true
  | _ => false
def isI : Gt → Bool
  | .int _ => true
  | _ => false
def isS : Gt → Bool
  | .str _ => true
  | _ => false
def isIB : Gt → Bool
  | .int _ => true
  | .bl _ => true
  | _ => false
def isB : Gt → Bool
  | .bl _ => true
  | _ => false
theorem kit_l {K : PySem.W.Frag} {T : String} {g : Gt} (h : Tn T g) : PySem.W.kitAny K (.type T) [.type "list", .type "tuple"] = some (isSq g) := by
  have no : ∀ T : String, PySem.W.kitOne K (.type T) (.type "list") = some false → PySem.W.kitOne K (.type T) (.type "tuple") = some false → PySem.W.kitAny K (.type T) [.type "list", .type "tuple"] = some false := fun T h1 h2 =>
    kitAny_cons (b := false) h1 (fun _ => kitAny_cons (b := false) h2 (fun _ => rfl) fun h => by cases h) fun h => by cases h
  cases g with
  | int i => cases h; exact no _ (kit_ty (by decide +kernel)) (kit_ty (by decide +kernel))
  | str z => cases h; exact no _ (kit_ty (by decide +kernel)) (kit_ty (by decide +kernel))
  | bl b => cases h; exact no _ (kit_ty (by decide +kernel)) (kit_ty (by decide +kernel))
  | oth =>
    rcases h with rfl | rfl
    · exact no _ (kit_ty (by decide +kernel)) (kit_ty (by decide +kernel))
    · exact no _ (kit_ty (by decide +kernel)) (kit_ty (by decide +kernel))
  | seq k gs =>
    cases k
    · cases h; exact kit_lt
    · cases h; exact kit_tt
theorem kit_i {K : PySem.W.Frag} {T : String} {g : Gt} (h : Tn T g) : PySem.W.kitOne K (.type T) (.type "int") = some (isIB g) := by
  cases g with
  | int i => cases h; show PySem.W.kitOne K (.type "int") (.type "int") = some true; exact kit_ty (by decide +kernel)
  | str z => cases h; show PySem.W.kitOne K (.type "str") (.type "int") = some false; exact kit_ty (by decide +kernel)
  | bl b => cases h; show PySem.W.kitOne K (.type "bool") (.type "int") = some true; exact kit_ty (by decide +kernel)
  | oth =>
    rcases h with rfl | rfl
    · show PySem.W.kitOne K (.type "NoneType") (.type "int") = some false; exact kit_ty (by decide +kernel)
    · show PySem.W.kitOne K (.type "dict") (.type "int") = some false; exact kit_ty (by decide +kernel)
  | seq k gs =>
    cases k
    · cases h; show PySem.W.kitOne K (.type "list") (.type "int") = some false; exact kit_ty (by decide +kernel)
    · cases h; show PySem.W.kitOne K (.type "tuple") (.type "int") = some false; exact kit_ty (by decide +kernel)
theorem kit_b {K : PySem.W.Frag} {T : String} {g : Gt} (h : Tn T g) : PySem.W.kitOne K (.type T) (.type "bool") = some (isB g) := by
  cases g with
  | int i => cases h; show PySem.W.kitOne K (.type "int") (.type "bool") = some false; exact kit_ty (by decide +kernel)
  | str z => cases h; show PySem.W.kitOne K (.type "str") (.type "bool") = some false; exact kit_ty (by decide +kernel)
  | bl b => cases h; show PySem.W.kitOne K (.type "bool") (.type "bool") = some true; exact kit_ty (by decide +kernel)
  | oth =>
    rcases h with rfl | rfl
    · show PySem.W.kitOne K (.type "NoneType") (.type "bool") = some false; exact kit_ty (by decide +kernel)
    · show PySem.W.kitOne K (.type "dict") (.type "bool") = some false; exact kit_ty (by decide +kernel)
  | seq k gs =>
    cases k
    · cases h; show PySem.W.kitOne K (.type "list") (.type "bool") = some false; exact kit_ty (by decide +kernel)
    · cases h; show PySem.W.kitOne K (.type "tuple") (.type "bool") = some false; exact kit_ty (by decide +kernel)
theorem kit_s {K : PySem.W.Frag} {T : String} {g : Gt} (h : Tn T g) : PySem.W.kitOne K (.type T) (.type "str") = some (isS g) := by
  cases g with
  | int i => cases h; show PySem.W.kitOne K (.type "int") (.type "str") = some false; exact kit_ty (by decide +kernel)
  | str z => cases h; show PySem.W.kitOne K (.type "str") (.type "str") = some true; exact kit_ty (by decide +kernel)
  | bl b => cases h; show PySem.W.kitOne K (.type "bool") (.type "str") = some false; exact kit_ty (by decide +kernel)
  | oth =>
    rcases h with rfl | rfl
    · show PySem.W.kitOne K (.type "NoneType") (.type "str") = some false; exact kit_ty (by decide +kernel)
    · show PySem.W.kitOne K (.type "dict") (.type "str") = some false; exact kit_ty (by decide +kernel)
  | seq k gs =>
    cases k
    · cases h; show PySem.W.kitOne K (.type "list") (.type "str") = some false; exact kit_ty (by decide +kernel)
    · cases h; show PySem.W.kitOne K (.type "tuple") (.type "str") = some false; exact kit_ty (by decide +kernel)
theorem eqS_of {K : PySem.W.Frag} {H : Hp} {v : V} {g : Gt} {z : Str} {Q : VK} (h : GA H v g) (q : Q (.bl (hd z g)) H) : ES.rEqS K v (.str z) H Q := by
  cases h with
  | int i => exact .inl ⟨rfl, by rw [decide_eq_false (fun z => by cases z)]; exact q⟩
  | str y =>
    refine .inl ⟨rfl, ?_⟩
    have : decide (V.str y = V.str z) = hd z (.str y) := by
      show _ = decide (y = z)
      rw [decide_eq_decide]
      exact ⟨fun h => V.str.inj h, fun h => by rw [h]⟩
    rw [this]
    exact q
  | bl b => exact .inl ⟨rfl, by rw [decide_eq_false (fun z => by cases z)]; exact q⟩
  | non => exact .inl ⟨rfl, by rw [decide_eq_false (fun z => by cases z)]; exact q⟩
  | dct h => exact .inr ⟨_, _, rfl, rfl, .inr (.inr ⟨_, h⟩), q⟩
  | @seq a k vs gs h r =>
    cases k
    · exact .inr ⟨_, _, rfl, rfl, .inl ⟨_, sq_of h⟩, q⟩
    · exact .inr ⟨_, _, rfl, rfl, .inr (.inl ⟨_, st_of h⟩), q⟩
def spIsLG : Sp := fun vs H Q _ => ∃ (v : V) (g : Gt), vs = [v] ∧ GA H v g ∧ ∀ H', Ex H H' → Q (.bl (isSq g)) H'
def spIsIG : Sp := fun vs H Q _ => ∃ (v : V) (g : Gt), vs = [v] ∧ GA H v g ∧ Q (.bl (isI g)) H
def spWhG : Sp := fun vs H Q _ => ∃ (v : V) (g : Gt) (lo hi : Int), vs = [v, .int lo, .int hi] ∧ GA H v g ∧ ∀ H', Ex H H' → Q (.bl (whole lo hi g)) H'
def spPartG : Sp := fun vs H Q _ => ∃ (v : V) (g : Gt) (L : List Nat) (w n : Nat), vs = [v, .str (tx L), .int (w : Int), .int (n : Int)] ∧ GA H v g ∧ L.length ≤ 10 ∧ ∀ H', Ex H H' → Q (.bl (isP L.length w n g)) H'
def spWithG : Sp := fun vs H Q _ => ∃ (v : V) (g : Gt) (l w n : Nat) (H0 : Hp), vs = [v] ∧ GA H0 v g ∧ isP l w n g = true ∧ Ex H0 H ∧ ∀ r H' us, Ex H H' → H r = none → H' r = some (.lst us) → GAs H0 us (kids g) → Q (.ref r) H'
section
variable {P : Program} {w : World} {K : PySem.W.Frag} {mg : Str → Option Value} {base : Heap}
theorem ok_isLG {f : Addr} {fd : FuncData} (F : Fun K "is_list" "is_list" s_is_list f fd) (T : Tx mg) : FnOk P w K mg base CX0 1 f fd ["value"] spIsLG := by
  refine F.ok sc_is_list (fun vs H Q E h => ?_) (fun cdv A outer s H vs Q E hr h => ?_)
  · obtain ⟨v, g, rfl, _⟩ := h
    rfl
  · obtain ⟨v, g, rfl, hg, q⟩ := h
    refine ⟨_, (pss_one (ps_ret (pe_callB call_isiT (by rfl) T.isinstance PyProof.Rows.boot_isinstance (pa_cons (pv 0) (pa_cons (pe_tup (pa_cons (pe_bltn (v := .ty "list") (by rfl) T.list PyProof.Rows.boot_list rfl) (pa_cons (pe_bltn (v := .ty "tuple") (by rfl) T.tuple PyProof.Rows.boot_tuple rfl) pa_nil))) pa_nil))))), ?_⟩
    refine ⟨_, rfl, by show 2 ≤ sizeLine; decide, fun t ht => ?_⟩
    obtain ⟨TT, ty, tn⟩ := GA.ty (K := K) (GA.ex (Ex.new ht) hg)
    exact ⟨_, t, _, _, _, _, rfl, upd_same, .cons (.ty _) (.cons (.ty _) .nil), ty, kit_l tn, q _ (Ex.new ht)⟩
theorem ok_isIG {f : Addr} {fd : FuncData} (F : Fun K "is_integer" "is_integer" s_is_integer f fd) (T : Tx mg) : FnOk P w K mg base CX0 1 f fd ["value"] spIsIG := by
  refine F.ok sc_is_integer (fun vs H Q E h => ?_) (fun cdv A outer s H vs Q E hr h => ?_)
  · obtain ⟨v, g, rfl, _⟩ := h
    rfl
  · obtain ⟨v, g, rfl, hg, q⟩ := h
    obtain ⟨TT, ty, tn⟩ := GA.ty (K := K) hg
    refine ⟨_, (pss_one (ps_ret (pe_and (pe_callB call_isi (by rfl) T.isinstance PyProof.Rows.boot_isinstance (pa_cons (pv 0) (pa_cons (pe_bltn (v := .ty "int") (by rfl) T.int PyProof.Rows.boot_int rfl) pa_nil))) (pe_one (pe_not (pe_callB call_isi (by rfl) T.isinstance PyProof.Rows.boot_isinstance (pa_cons (pv 0) (pa_cons (pe_bltn (v := .ty "bool") (by rfl) T.bool PyProof.Rows.boot_bool rfl) pa_nil)))))))), ?_⟩
    refine ⟨_, rfl, _, _, _, _, _, rfl, .ty _, ty, kit_i tn, _, rfl, ?_⟩
    cases g with
    | int i => exact ⟨_, rfl, _, _, _, _, _, rfl, .ty _, ty, kit_b tn, _, rfl, q⟩
    | bl b => exact ⟨_, rfl, _, _, _, _, _, rfl, .ty _, ty, kit_b tn, _, rfl, q⟩
    | str z => exact q
    | oth => exact q
    | seq k gs => exact q
theorem ok_whG {f : Addr} {fd : FuncData} (F : Fun K "is_whole" "is_whole" s_is_whole f fd) (T : Tx mg) (c_is_integer : Kn P w K mg base "is_integer" ["value"] 1 spIsIG) : FnOk P w K mg base CX0 2 f fd ["value", "low", "high"] spWhG := by
  refine F.ok sc_is_whole (fun vs H Q E h => ?_) (fun cdv A outer s H vs Q E hr h => ?_)
  · obtain ⟨v, g, lo, hi, rfl, _⟩ := h
    rfl
  · obtain ⟨v, g, lo, hi, rfl, hg, q⟩ := h
    refine ⟨_, (pss_one (ps_ret (pe_and (pe_call c_is_integer.ok (hr.mono (by decide)) (by rfl) c_is_integer.g c_is_integer.kp c_is_integer.b .nil pass0 (pa_cons (pv 0) pa_nil)) (pe_one (pe_chain op_le op_le (pv 1) (pv 0) (pv 2)))))), ?_⟩
    have q0 := q H (Ex.refl _)
    refine ⟨_, rfl, v, g, rfl, hg, _, rfl, ?_⟩
    cases hg with
    | int i =>
      refine ⟨_, rfl, _, rfl, _, _, rfl, rfl, _, rfl, ?_⟩
      have e : whole lo hi (.int i) = (decide (lo ≤ i) && decide (i ≤ hi)) := rfl
      rw [e] at q0
      cases hl : decide (lo ≤ i) with
      | true =>
        rw [hl, Bool.true_and] at q0
        exact ⟨_, rfl, _, _, rfl, rfl, q0⟩
      | false =>
        rw [hl, Bool.false_and] at q0
        exact q0
    | str z => exact q0
    | bl b => exact q0
    | non => exact q0
    | dct h => exact q0
    | seq h r => exact q0
end
end Law

namespace Law
open PySem PySem.Spec PyProof.Rows L2 Evl EK
/-- a word of these letters -/
structure WG (L : List Nat) (m : Nat) (w : List Nat) : Prop where
  len : w.length = m
  of : ∀ c ∈ w, c ∈ L
def wv (ws : List (List Nat)) : List V := ws.map fun w => V.str (tx w)
def spIsL : Sp := fun vs H Q _ => ∃ (a : Addr) (xs : List V), vs = [.ref a] ∧ H a = some (.lst xs) ∧ ∀ H', Ex H H' → Q (.bl true) H'
section
variable {P : Program} {w : World} {K : PySem.W.Frag} {mg : Str → Option Value} {base : Heap}
theorem ok_isL {f : Addr} {fd : FuncData} (F : Fun K "is_list" "is_list" s_is_list f fd) (T : Tx mg) : FnOk P w K mg base CX0 1 f fd ["value"] spIsL := by
  refine F.ok sc_is_list (fun vs H Q E h => ?_) (fun cdv A outer s H vs Q E hr h => ?_)
  · obtain ⟨a, xs, rfl, _⟩ := h
    rfl
  · obtain ⟨a, xs, rfl, ha, q⟩ := h
    refine ⟨_, (pss_one (ps_ret (pe_callB call_isiT (by rfl) T.isinstance PyProof.Rows.boot_isinstance (pa_cons (pv 0) (pa_cons (pe_tup (pa_cons (pe_bltn (v := .ty "list") (by rfl) T.list PyProof.Rows.boot_list rfl) (pa_cons (pe_bltn (v := .ty "tuple") (by rfl) T.tuple PyProof.Rows.boot_tuple rfl) pa_nil))) pa_nil))))), ?_⟩
    refine ⟨_, rfl, by show 2 ≤ sizeLine; decide, fun t ht => ?_⟩
    exact ⟨_, t, _, _, _, true, rfl, upd_same, .cons (.ty _) (.cons (.ty _) .nil), .base (.lst (Ex.new ht _ _ ha)), kit_lt, q _ (Ex.new ht)⟩
end
/-- a value that is no text -/
def NoS (K : PySem.W.Frag) (H : Hp) (v : V) : Prop := ∃ t, TyX K H v t ∧ PySem.W.kitOne K t (.type "str") = some false
def azB (c : Nat) : Bool := decide (97 ≤ c) && decide (c ≤ 122)
def areB (x : List Nat) : Bool := decide (2 ≤ x.length ∧ x.length ≤ 4) && (x.all azB && decide (ST.dct (x.map sg) x.length = x.length))
theorem areB_good {L : List Nat} (h : LG L) : areB L = true := by
  unfold areB
  rw [decide_eq_true (show 2 ≤ L.length ∧ L.length ≤ 4 from ⟨h.lo, h.hi⟩), decide_eq_true (dct_nodup h.nd _ (Nat.le_refl _)), Bool.and_true, Bool.true_and, List.all_eq_true]
  intro c hc
  have := h.az c hc
  unfold azB
  rw [decide_eq_true this.1, decide_eq_true this.2]
  rfl
theorem a_dec (c : Nat) : (!decide ((sg c).cps.toList < (Str.ofString "a").cps.toList)) = decide (97 ≤ c) := by
  by_cases h : 97 ≤ c
  · rw [le_a h, decide_eq_true h]
  · rw [decide_eq_false h, show (Str.ofString "a").cps.toList = [97] by decide +kernel, show (sg c).cps.toList = [c] from rfl, decide_eq_true]
    · rfl
    · rw [List.cons_lt_cons_iff]
      exact .inl (by omega)
theorem z_dec (c : Nat) : (!decide ((Str.ofString "z").cps.toList < (sg c).cps.toList)) = decide (c ≤ 122) := by
  by_cases h : c ≤ 122
  · rw [le_z h, decide_eq_true h]
  · rw [decide_eq_false h, show (Str.ofString "z").cps.toList = [122] by decide +kernel, show (sg c).cps.toList = [c] from rfl, decide_eq_true]
    · rfl
    · rw [List.cons_lt_cons_iff]
      exact .inl (by omega)
def wdB (L x : List Nat) : Bool := decide (1 ≤ x.length ∧ x.length ≤ 8 ∧ ∀ c ∈ x, c ∈ L)
def spAreG (K : PySem.W.Frag) : Sp := fun vs H Q _ => ∃ v, vs = [v] ∧ ((∃ x, v = .str (tx x) ∧ x.length < 500 ∧ ∀ H', Ex H H' → Q (.bl (areB x)) H') ∨ (NoS K H v ∧ Q (.bl false) H))
def spWS (K : PySem.W.Frag) : Sp := fun vs H Q _ => ∃ L : List Nat, L.length ≤ 10 ∧ ((∃ T, vs = [.str (tx L), .str (tx T)] ∧ (∀ H', Ex H H' → (∀ c ∈ T, c ∈ L) → Q .non H') ∧
    ∀ H' i c, Ex H H' → T[i]? = some c → c ∉ L → (∀ j d, j < i → T[j]? = some d → d ∈ L) → Q (.int (i : Nat)) H') ∨
  ∃ v, vs = [.str (tx L), v] ∧ NoS K H v ∧ Q (.int 0) H)
def spWdG (K : PySem.W.Frag) : Sp := fun vs H Q _ => ∃ (L : List Nat) (v : V), vs = [.str (tx L), v] ∧ L.length ≤ 10 ∧ ((∃ x, v = .str (tx x) ∧ x.length < 900 ∧ ∀ H', Ex H H' → Q (.bl (wdB L x)) H') ∨ (NoS K H v ∧ Q (.bl false) H))
theorem tx_all (z : Str) : z = tx z.cps.toList := by
  cases z
  simp [tx]
section
variable {P : Program} {w : World} {K : PySem.W.Frag} {mg : Str → Option Value} {base : Heap}
theorem ok_areG {f : Addr} {fd : FuncData} (F : Fun K "are_letters" "are_letters" s_are_letters f fd) (T : Tx mg) : FnOk P w K mg base CX0 1 f fd ["value"] (spAreG K) := by
  refine F.ok sc_are_letters (fun vs H Q E h => ?_) (fun cdv A outer s H vs Q E hr h => ?_)
  · obtain ⟨v, rfl, _⟩ := h
    rfl
  · obtain ⟨v, rfl, h⟩ := h
    refine ⟨_, (pss_cons (ps_if (PW.pt (pw_or (pt_not (pt_val (pe_callB call_isi (by rfl) T.isinstance PyProof.Rows.boot_isinstance (pa_cons (pv 0) (pa_cons (pe_bltn (v := .ty "str") (by rfl) T.str PyProof.Rows.boot_str rfl) pa_nil))))) (pw_or1 (pt_not (pt_chain op_le op_le pe_int (pe_callB call_len_str (by rfl) T.len PySem.boot_len (pa_cons (pv 0) pa_nil)) pe_int))))) (pss_one (ps_ret pe_bl)) pss_nil)
      (pss_one (ps_ret (pe_and (pe_callB (cr_all rfl) (by rfl) T.all PyProof.Rows.boot_all (pa_cons (pe_lc (own := [("sign", 1)]) (g := gName 1) (tt := tYes) rfl sc_are_letters.nd (pi_str (pv 0)) (blkOk_by (N := N_are_letters) (sc := defScope s_are_letters) (by decide +kernel)) (fun _ _ _ _ _ => (pg_name (i := 1) sc_are_letters.nd rfl (Or.inl rfl))) (fun _ _ _ _ _ => pts_nil) (fun _ _ _ _ _ => (pe_chain op_le_str op_le_str pe_str (pv 1) pe_str))) pa_nil)) (pe_one (pe_cmpR op_eq (EN.pe_lenSetS rfl (by rfl) T.len (by rfl) T.set (pv 0)) (pe_callB call_len_str (by rfl) T.len PySem.boot_len (pa_cons (pv 0) pa_nil)) (nomark _))))))), ?_⟩
    rcases h with ⟨x, rfl, hx, q⟩ | ⟨⟨t, ty, kk⟩, q⟩
    · refine ⟨_, rfl, _, _, _, _, true, rfl, .ty _, .base (.str _), kit_ss, true, rfl, ?_⟩
      have q0 := q H (Ex.refl _)
      by_cases h2 : 2 ≤ x.length
      · by_cases h4 : x.length ≤ 4
        · refine ⟨_, rfl, _, rfl, tx_le (by omega), _, _, rfl, rfl, _, rfl, ite2 (fun _ => ?_) (fun hn => absurd (decide_eq_true (by rw [tx_len]; omega)) hn)⟩
          refine ⟨_, _, rfl, rfl, _, rfl, ite2 (fun hb => ?_) (fun _ => ?_)⟩
          · rw [tx_len, decide_eq_true (by omega)] at hb
            cases hb
          refine ⟨_, rfl, _, rfl, fun D hD => ?_⟩
          refine lc_str (x := tx x) (fun i H' => Ex H H' ∧ H' D = some (.lst (((x.take i).map azB).map V.bl))) ⟨Ex.new hD, upd_same⟩ (fun i c H' hic hw => ?_) (fun H' hw => ?_)
          · obtain ⟨e, hl⟩ := hw
            have hc := tx_at hic
            have hi := (List.getElem?_eq_some_iff.mp hc).1
            have fin : ∀ b : Bool, azB c = b → ∃ acc, H' D = some (.lst acc) ∧ acc.length < sizeLine ∧ Ex H (L2.upd H' D (.lst (acc ++ [V.bl b]))) ∧ (L2.upd H' D (.lst (acc ++ [V.bl b]))) D = some (.lst (((x.take (i + 1)).map azB).map V.bl)) := fun b hb => by
              refine ⟨_, hl, ?_, e.mut hD, ?_⟩
              · rw [List.length_map, List.length_map, List.length_take]
                exact sz_lt (by omega)
              · rw [upd_same, List.take_add_one, hc, List.map_append, List.map_append]
                show _ = some (HO.lst (_ ++ [V.bl (azB c)]))
                rw [hb]
            refine ⟨rfl, _, rfl, _, _, rfl, rfl, _, rfl, ite2 (fun hb => ?_) (fun hn => ?_)⟩
            · refine ⟨_, _, rfl, rfl, ?_⟩
              refine fin _ ?_
              have hb2 : (!decide ((sg c).cps.toList < (Str.ofString "a").cps.toList)) = true := hb
              rw [a_dec] at hb2
              unfold azB
              rw [hb2, Bool.true_and]
              exact (z_dec c).symm
            · refine fin _ ?_
              have hb2 : ¬ (!decide ((sg c).cps.toList < (Str.ofString "a").cps.toList)) = true := hn
              rw [a_dec, Bool.not_eq_true] at hb2
              unfold azB
              rw [hb2, Bool.false_and]
          · obtain ⟨e, hl⟩ := hw
            rw [tx_size, List.take_length] at hl
            refine ⟨D, _, rfl, sq_of hl, _, rfl, ?_⟩
            have q1 := q H' e
            have ea : areB x = ((x.map azB).all id && decide (ST.dct (x.map sg) x.length = x.length)) := by
              unfold areB
              rw [decide_eq_true (show 2 ≤ x.length ∧ x.length ≤ 4 from ⟨h2, h4⟩), Bool.true_and, List.all_map]
              rfl
            rw [ea] at q1
            cases hall : (x.map azB).all id with
            | false =>
              rw [hall, Bool.false_and] at q1
              exact q1
            | true =>
              rw [hall, Bool.true_and] at q1
              refine ⟨_, rfl, _, rfl, by rw [tx_size]; omega, _, rfl, _, rfl, tx_le (by omega), rfl, ?_⟩
              have e2 : decide (V.int ((ST.dct (ST.signsOf (tx x)) (tx x).cps.size : Nat) : Int) = V.int (((tx x).length : Nat) : Int)) = decide (ST.dct (x.map sg) x.length = x.length) := by
                rw [decide_eq_decide, sgs_of, tx_size, tx_len]
                constructor
                · intro z
                  have := V.int.inj z
                  omega
                · intro z
                  rw [z]
              show Q (V.bl (decide (V.int ((ST.dct (ST.signsOf (tx x)) (tx x).cps.size : Nat) : Int) = V.int (((tx x).length : Nat) : Int)))) H'
              rw [e2]
              exact q1
        · have ea : areB x = false := by
            unfold areB
            rw [decide_eq_false (fun z => h4 z.2), Bool.false_and]
          rw [ea] at q0
          refine ⟨_, rfl, _, rfl, tx_le (by omega), _, _, rfl, rfl, _, rfl, ite2 (fun _ => ?_) (fun _ => ?_)⟩
          · refine ⟨_, _, rfl, rfl, _, rfl, ite2 (fun _ => q0) (fun hb => absurd (by rw [tx_len, decide_eq_false (by omega)]; rfl) hb)⟩
          · exact ⟨_, rfl, q0⟩
      · have ea : areB x = false := by
          unfold areB
          rw [decide_eq_false (fun z => h2 z.1), Bool.false_and]
        rw [ea] at q0
        refine ⟨_, rfl, _, rfl, tx_le (by omega), _, _, rfl, rfl, _, rfl, ite2 (fun hb => absurd (of_decide_eq_true hb) (by rw [tx_len]; omega)) (fun _ => ?_)⟩
        exact ⟨_, rfl, q0⟩
    · exact ⟨_, rfl, _, _, _, _, false, rfl, .ty _, ty, kk, false, rfl, q⟩
theorem ok_ws {f : Addr} {fd : FuncData} (F : Fun K "wrong_sign" "wrong_sign" s_wrong_sign f fd) (T : Tx mg) : FnOk P w K mg base CX0 1 f fd ["letters", "text"] (spWS K) := by
  refine F.ok sc_wrong_sign (fun vs H Q E h => ?_) (fun cdv A outer s H vs Q E hr h => ?_)
  · obtain ⟨L, _, ⟨T, rfl, _⟩ | ⟨v, rfl, _⟩⟩ := h <;> rfl
  · obtain ⟨L, hL, h⟩ := h
    refine ⟨_, (pss_cons (ps_if (pt_not (pt_val (pe_callB call_isi (by rfl) T.isinstance PyProof.Rows.boot_isinstance (pa_cons (pv 1) (pa_cons (pe_bltn (v := .ty "str") (by rfl) T.str PyProof.Rows.boot_str rfl) pa_nil))))) (pss_one (ps_ret pe_int)) pss_nil)
      (pss_cons (ps_for PassesOwn.never rfl (EN.pi_enumS (by rfl) T.enumerate (pa_cons (pv 1) pa_nil)) (pg_tup (by rfl) (pgs_cons (pg_name (i := 2) sc_wrong_sign.nd rfl (Or.inl rfl)) (pgs_cons (pg_name (i := 3) sc_wrong_sign.nd rfl (Or.inl rfl)) pgs_nil))) (pss_one (ps_if (pt_cmpR op_notIn_sign (pv 3) (pv 0) rfl) (pss_one (ps_ret (pv 2))) pss_nil)))
      (pss_one (ps_ret pe_non)))), ?_⟩
    rcases h with ⟨T, rfl, q1, q2⟩ | ⟨v, rfl, ⟨t, ty, kk⟩, q⟩
    · refine ⟨_, rfl, _, _, _, _, true, rfl, .ty _, .base (.str _), kit_ss, true, rfl, ?_⟩
      refine ⟨_, rfl, _, rfl, ?_⟩
      refine EN.for_enumS (x := tx T) (fun i σ H' => ∃ y2 y3 : Option V, σ = [some (.str (tx L)), some (.str (tx T)), y2, y3] ∧ Ex H H' ∧ ∀ j d, j < i → T[j]? = some d → d ∈ L) ⟨none, none, rfl, Ex.refl _, fun j d hj => absurd hj (Nat.not_lt_zero _)⟩ (fun i c T' σ H' hic hw hT => ?_) (fun σ H' hw => ?_)
      · obtain ⟨y2, y3, rfl, e, ih⟩ := hw
        have hc := tx_at hic
        refine ⟨T', _, rfl, .inl (.inl upd_same), rfl, _, _, rfl, _, _, rfl, rfl, ?_⟩
        refine ⟨_, rfl, _, rfl, c, _, rfl, rfl, _, rfl, ?_⟩
        rw [show (tx L).cps.toList = L from rfl]
        by_cases hm : c ∈ L
        · rw [decide_eq_true hm]
          refine ⟨_, _, rfl, e.trans (Ex.new hT), fun j d hj hd => ?_⟩
          by_cases hji : j = i
          · rw [hji, hc] at hd
            rw [← Option.some.inj hd]
            exact hm
          · exact ih j d (by omega) hd
        · rw [decide_eq_false hm]
          exact ⟨_, rfl, q2 _ i c (e.trans (Ex.new hT)) hc hm ih⟩
      · obtain ⟨y2, y3, rfl, e, ih⟩ := hw
        refine q1 _ e fun c hc => ?_
        obtain ⟨j, hj, rfl⟩ := List.mem_iff_getElem.mp hc
        exact ih j _ (by rw [tx_size]; exact hj) (List.getElem?_eq_getElem hj)
    · refine ⟨_, rfl, _, _, _, _, false, rfl, .ty _, ty, kk, false, rfl, ?_⟩
      exact q
theorem ok_wdG {f : Addr} {fd : FuncData} (F : Fun K "_is_word" "_is_word" s_is_word f fd) (T : Tx mg) (c_wrong_sign : Kn P w K mg base "wrong_sign" ["letters", "text"] 1 (spWS K)) : FnOk P w K mg base CX0 2 f fd ["letters", "value"] (spWdG K) := by
  refine F.ok sc_is_word (fun vs H Q E h => ?_) (fun cdv A outer s H vs Q E hr h => ?_)
  · obtain ⟨L, v, rfl, _⟩ := h
    rfl
  · obtain ⟨L, v, rfl, hL, h⟩ := h
    refine ⟨_, (pss_one (ps_ret (pe_and (pe_callB call_isi (by rfl) T.isinstance PyProof.Rows.boot_isinstance (pa_cons (pv 1) (pa_cons (pe_bltn (v := .ty "str") (by rfl) T.str PyProof.Rows.boot_str rfl) pa_nil))) (pe_and (pe_chain op_le op_le pe_int (pe_callB call_len_str (by rfl) T.len PySem.boot_len (pa_cons (pv 1) pa_nil)) pe_int) (pe_one (pe_cmpR op_isN (pe_call c_wrong_sign.ok (hr.mono (by decide)) (by rfl) c_wrong_sign.g c_wrong_sign.kp c_wrong_sign.b .nil pass0 (pa_cons (pv 0) (pa_cons (pv 1) pa_nil))) pe_non (nomark _))))))), ?_⟩
    rcases h with ⟨x, rfl, hx, q⟩ | ⟨⟨t, ty, kk⟩, q⟩
    · have q0 := q H (Ex.refl _)
      refine ⟨_, rfl, _, _, _, _, true, rfl, .ty _, .base (.str _), kit_ss, true, rfl, ?_⟩
      by_cases h1 : 1 ≤ x.length
      · by_cases h8 : x.length ≤ 8
        · refine ⟨_, rfl, _, rfl, tx_le (by omega), _, _, rfl, rfl, _, rfl, ite2 (fun _ => ?_) (fun hn => absurd (decide_eq_true (by rw [tx_len]; omega)) hn)⟩
          refine ⟨_, _, rfl, rfl, _, rfl, ite2 (fun _ => ?_) (fun hn => absurd (decide_eq_true (by rw [tx_len]; omega)) hn)⟩
          refine ⟨_, rfl, _, rfl, L, hL, .inl ⟨x, rfl, fun H' e hall => ⟨rfl, ?_⟩, fun H' i c e hi hc _ => ⟨rfl, ?_⟩⟩⟩
          · have ew : wdB L x = true := decide_eq_true ⟨h1, h8, hall⟩
            have q1 := q H' e
            rw [ew] at q1
            exact q1
          · have ew : wdB L x = false := decide_eq_false fun z => hc (z.2.2 c (List.mem_of_getElem? hi))
            have q1 := q H' e
            rw [ew] at q1
            exact q1
        · have ew : wdB L x = false := decide_eq_false fun z => h8 z.2.1
          rw [ew] at q0
          refine ⟨_, rfl, _, rfl, tx_le (by omega), _, _, rfl, rfl, _, rfl, ite2 (fun _ => ?_) (fun hn => absurd (decide_eq_true (by rw [tx_len]; omega)) hn)⟩
          exact ⟨_, _, rfl, rfl, _, rfl, ite2 (fun hb => absurd (of_decide_eq_true hb) (by rw [tx_len]; omega)) (fun _ => q0)⟩
      · have ew : wdB L x = false := decide_eq_false fun z => h1 z.1
        rw [ew] at q0
        exact ⟨_, rfl, _, rfl, tx_le (by omega), _, _, rfl, rfl, _, rfl, ite2 (fun hb => absurd (of_decide_eq_true hb) (by rw [tx_len]; omega)) (fun _ => ⟨false, rfl, q0⟩)⟩
    · exact ⟨_, rfl, _, _, _, _, false, rfl, .ty _, ty, kk, false, rfl, q⟩
end
end Law

/-! words.index(text), slices: words a list or a tuple of texts -/
namespace SQ
open PySem PySem.Spec PyProof.Rows L2
section
variable {X : Cx}
def rIxSL (K : PySem.W.Frag) : V → List V → Hp → VK → Prop := fun x xs H Q => ∃ (a : Addr) (zs : List Str) (k : Str), x = V.ref a ∧ xs = [.str k] ∧ SqL K H a (zs.map V.str) ∧ k ∈ zs ∧ Q (.int (zs.idxOf k : Nat)) H
def rIxST (K : PySem.W.Frag) : V → List V → Hp → VK → Prop := fun x xs H Q => ∃ (a : Addr) (zs : List Str) (k : Str), x = V.ref a ∧ xs = [.str k] ∧ SqT K H a (zs.map V.str) ∧ k ∈ zs ∧ Q (.int (zs.idxOf k : Nat)) H
theorem mt_ixL : MtR X "list.index" (rIxSL X.K) := by
  intro pins s σ H x xs v us Q I rx rxs h
  obtain ⟨a, zs, k, rfl, rfl, hs, hk, q⟩ := h
  cases rx
  cases rxs with
  | cons ry rt =>
    cases rt
    obtain ⟨t, rfl⟩ := ry
    obtain ⟨its, rv, pl, hz⟩ := I.list hs
    rw [List.length_map] at hz
    exact SeqAt.list_index_strs pl.isList (Vals.strs rv) hz hk ⟨.int _, H, I.tok _, ⟨_, rfl⟩, q⟩
theorem mt_ixT : MtR X "tuple.index" (rIxST X.K) := by
  intro pins s σ H x xs v us Q I rx rxs h
  obtain ⟨a, zs, k, rfl, rfl, hs, hk, q⟩ := h
  cases rx
  cases rxs with
  | cons ry rt =>
    cases rt
    obtain ⟨t, rfl⟩ := ry
    obtain ⟨its, rv, pl, hz⟩ := I.tuple hs
    exact SeqAt.tuple_index_strs pl (Vals.strs rv) hk ⟨.int _, H, I.tok _, ⟨_, rfl⟩, q⟩
variable {o e : Expr} {es : List Expr} {to : TE} {t : TA} {apos cpos : Pos}
/-- a tuple whose object stands fast -/
def FrT (H : Hp) (x : V) : Prop := ∃ (a : Addr) (ob : Obj) (u : HO), x = .ref a ∧ H a = some (.frz ob u) ∧ ob.cls = .type "tuple" ∧ ob.dict = none
def tIx (K : PySem.W.Frag) (to : TE) (t : TA) : TE := fun σ H Q => tBM K "list" (rIxSL K) to t σ H Q ∨ to σ H fun x H1 => FrT H1 x ∧ t σ H1 fun xs H2 => rIxST K x xs H2 Q
theorem pe_index (ho : PE X o to) (ha : PA X (e :: es) t)
    (hbase : attributeBase o "index" X.env (eval o X.env) = eval o X.env := by rfl)
    (hfew : ((backTo cpos (starEach (e :: es) X.env)).all (fun x => !x.1) && (backToKw cpos (keywordEach [] X.env)).all (fun x => x.1.isSome)
      && decide ((e :: es).length + ([] : List Keyword).length + (if ([] : List Keyword).isEmpty then 0 else 1) < 30)) = true := by rfl)
    (hline : (apos.endLine == cpos.line) = true := by rfl) (hs : starEach (e :: es) X.env = (false, eval e X.env) :: starEach es X.env := by rfl) (hplain : (backTo cpos (starEach es X.env)).any (·.1) = false := by rfl) :
    PE X (.Call (.Attribute o "index" apos) (e :: es) [] cpos) (tIx X.K to t) := by
  refine ⟨fun pins s σ H Q I h => ?_⟩
  rcases h with h | h
  · exact (pe_bm PySem.F.plainAttrs_list PySem.F.slot_list_index PySem.F.type_list_index mt_ixL ho ha hbase hfew hline hs hplain).run pins s σ H Q I h
  · refine wpAny_Call_method_late hbase hfew hline rfl (thn (ho.run pins s σ H _ I h) fun v s1 ⟨x, H1, I1, r1, ty, q1⟩ => ?_)
    obtain ⟨a, ob, u, rfl, hf, hc, hd⟩ := ty
    have rr := r1
    cases r1
    have hg := (I1.hok a _ hf).1
    refine ⟨"tuple", "tuple.index", PySem.F.plainAttrs_tuple, PySem.F.slot_tuple_index, PySem.F.type_tuple_index, ⟨ob, hg, hc⟩, fun b e => ?_, ?_⟩
    · cases e
      exact ⟨ob, hg, hd⟩
    · have hA := ha.run cpos pins s1 σ H1 _ I1 q1
      rw [hs] at hA ⊢
      refine Calls.callWith_builtin (by show (false || (backTo cpos (starEach es X.env)).any (·.1)) = false; rw [hplain] <;> rfl) (Calls.evalArgs_plain ?_)
      exact thn hA fun us s2 ⟨vs, H2, I2, r2, q2⟩ => mt_ixT pins s2 σ H2 _ vs _ us Q I2 rr r2 q2
/-- tuple(list), its object standing fast -/
theorem call_tuple_fr : CallR X (.type "tuple") (fun xs H Q => ∃ p ys, xs = [.ref p] ∧ SqL X.K H p ys ∧ ∀ l ob, H l = none → ob.cls = .type "tuple" → ob.dict = none → Q (.ref l) (upd H l (.frz ob (.tup ys)))) := by
  intro pins s σ H xs us Q I r h
  obtain ⟨p, ys, rfl, hq, q⟩ := h
  obtain ⟨u, rfl, rx⟩ := vals1 r
  cases rx
  obtain ⟨its, r', pl, hz⟩ := I.list hq
  have hlen := r'.length
  refine call_tuple_list pl.isList (fun h' kp => ?_) (by simp only [List.size_toArray] <;> omega)
  have I1 : Inv X pins σ H { s with heap := h' } := I.kept (t' := s.toks) kp
  have hn : (h'.push { cls := .type "tuple", data := .seq its.toArray }).get? h'.objs.size = some { cls := .type "tuple", data := .seq its.toArray } := Heap.get?_push_size _ rfl
  have I2 : Inv X pins σ (upd H h'.objs.size (.frz { cls := .type "tuple", data := .seq its.toArray } (.tup ys))) { s with heap := h'.push { cls := .type "tuple", data := .seq its.toArray } } :=
    I1.laid (t' := s.toks) (fun b o e => Heap.get?_push_of_some _ e) (Nat.le_refl _) (show ObjOk X.prog X.w _ _ _ (.frz _ (.tup ys)) from ⟨hn, hz, its, r', IsTup.new _ _⟩)
  exact ⟨.ref h'.objs.size, _, I2, rfl, q _ _ (I1.hok.fresh (Nat.le_refl _)) rfl rfl⟩
def rSlQ (K : PySem.W.Frag) : V → Option Int → Option Int → Hp → VK → Prop := fun x lo hi H Q => rSlL K x lo hi H Q ∨ rSlA K x lo hi H Q
theorem sl_seq : SlR X (rSlQ X.K) := sl_list.or sl_tupA
/-- words: a list, or a tuple that stands fast -/
def WQ (H : Hp) (a : Addr) (k : Bool) (xs : List V) : Prop := if k = true then ∃ ob : Obj, H a = some (.frz ob (.tup xs)) ∧ ob.cls = .type "tuple" ∧ ob.dict = none else H a = some (.lst xs)
def Sk (K : PySem.W.Frag) (H : Hp) (a : Addr) (k : Bool) (xs : List V) : Prop := if k = true then SqT K H a xs else SqL K H a xs
theorem WQ.ex {H H' : Hp} {a : Addr} {k : Bool} {xs : List V} (h : WQ H a k xs) (e : ∀ b o, H b = some o → H' b = some o) : WQ H' a k xs := by
  cases k
  · exact e _ _ h
  · obtain ⟨ob, h1, h2⟩ := h
    exact ⟨ob, e _ _ h1, h2⟩
theorem WQ.sk {K : PySem.W.Frag} {H : Hp} {a : Addr} {k : Bool} {xs : List V} (h : WQ H a k xs) : Sk K H a k xs := by
  cases k
  · exact Or.inl (Or.inl h)
  · obtain ⟨ob, h1, _⟩ := h
    exact Or.inl (Or.inr ⟨ob, h1⟩)
theorem Sk.seq {K : PySem.W.Frag} {H : Hp} {a : Addr} {k : Bool} {xs : List V} (h : Sk K H a k xs) : SqL K H a xs ∨ SqT K H a xs := by
  cases k
  · exact .inl h
  · exact .inr h
theorem Sk.ex {K : PySem.W.Frag} {H H' : Hp} {a : Addr} {k : Bool} {xs : List V} (h : Sk K H a k xs) (e : ∀ b o, H b = some o → H' b = some o) : Sk K H' a k xs := by
  have rd : ∀ u, Rd H a u → Rd H' a u := fun u r => by
    rcases r with r | ⟨o, r⟩
    · exact .inl (e _ _ r)
    · exact .inr ⟨o, e _ _ r⟩
  cases k
  · rcases h with h | h
    · exact Or.inl (rd _ h)
    · exact Or.inr h
  · rcases h with h | h
    · exact Or.inl (rd _ h)
    · exact Or.inr h
theorem WQ.seq {K : PySem.W.Frag} {H : Hp} {a : Addr} {k : Bool} {xs : List V} (h : WQ H a k xs) : SqL K H a xs ∨ SqT K H a xs := h.sk.seq
theorem WQ.ty {K : PySem.W.Frag} {H : Hp} {a : Addr} {k : Bool} {xs : List V} (h : WQ H a k xs) : TyX K H (.ref a) (if k = true then .type "tuple" else .type "list") := by
  cases k
  · exact .base (.lst h)
  · obtain ⟨ob, h1, _⟩ := h
    exact .fTuple h1
theorem WQ.rd {H : Hp} {a : Addr} {xs : List V} (h : WQ H a true xs) : Rd H a (.tup xs) := by
  obtain ⟨ob, h1, _⟩ := h
  exact .inr ⟨ob, h1⟩
end
end SQ

namespace Law
open PySem PySem.Spec PyProof.Rows L2 Evl EK TR
theorem tx_inj {a b : List Nat} (h : tx a = tx b) : a = b := by
  have h2 : (tx a).cps.toList = (tx b).cps.toList := by rw [h]
  exact h2
theorem flat_wv (ws : List (List Nat)) : (wv ws).all flatV = true := by
  unfold wv
  rw [List.all_map, List.all_eq_true]
  intro x _
  rfl
theorem inV_wv {u : List Nat} {ws : List (List Nat)} : inV (.str (tx u)) (wv ws) = decide (u ∈ ws) := by
  unfold inV wv
  rw [List.any_map, Bool.eq_iff_iff, List.any_eq_true, decide_eq_true_eq]
  constructor
  · rintro ⟨x, hx, he⟩
    have he2 : (tx x == tx u) = true := he
    rw [beq_iff_eq] at he2
    rw [← tx_inj he2]
    exact hx
  · intro h
    refine ⟨u, h, ?_⟩
    show (tx u == tx u) = true
    rw [beq_iff_eq]
/-- an element of the words: a text, or no text -/
inductive El (K : PySem.W.Frag) (H : Hp) : V → Option (List Nat) → Prop
  | txt (x : List Nat) : x.length < 900 → El K H (.str (tx x)) (some x)
  | odd {v : V} : NoS K H v → El K H v none
inductive Els (K : PySem.W.Frag) (H : Hp) : List V → List (Option (List Nat)) → Prop
  | nil : Els K H [] []
  | cons {v : V} {e : Option (List Nat)} {vs : List V} {es : List (Option (List Nat))} : El K H v e → Els K H vs es → Els K H (v :: vs) (e :: es)
theorem Els.len {K : PySem.W.Frag} {H : Hp} {vs : List V} {es : List (Option (List Nat))} (h : Els K H vs es) : vs.length = es.length := by
  induction h with
  | nil => rfl
  | cons _ _ ih => rw [List.length_cons, List.length_cons, ih]
theorem Els.get {K : PySem.W.Frag} {H : Hp} {vs : List V} {es : List (Option (List Nat))} (h : Els K H vs es) : ∀ {i : Nat} {v : V}, vs[i]? = some v → ∃ e, es[i]? = some e ∧ El K H v e := by
  induction h with
  | nil => intro i v h; cases h
  | @cons v e vs es h1 h2 ih =>
    intro i u hu
    cases i with
    | zero => cases hu; exact ⟨e, rfl, h1⟩
    | succ i => exact ih hu
theorem Els.get' {K : PySem.W.Frag} {H : Hp} {vs : List V} {es : List (Option (List Nat))} (h : Els K H vs es) : ∀ {i : Nat} {e : Option (List Nat)}, es[i]? = some e → ∃ v, vs[i]? = some v ∧ El K H v e := by
  induction h with
  | nil => intro i v h; cases h
  | @cons v e vs es h1 h2 ih =>
    intro i u hu
    cases i with
    | zero => cases hu; exact ⟨v, rfl, h1⟩
    | succ i => exact ih hu
theorem TyOf_ex {K : PySem.W.Frag} {H H' : Hp} {v : V} {t : Value} (h : TyOf K H v t) (e : Ex H H') : TyOf K H' v t := by
  cases h with
  | non => exact .non
  | bl x => exact .bl x
  | int i => exact .int i
  | str x => exact .str x
  | flt x => exact .flt x
  | lst h => exact .lst (e _ _ h)
  | frz h => exact .frz (e _ _ h)
  | tup h => exact .tup (e _ _ h)
  | dK h => exact .dK (e _ _ h)
  | dT h => exact .dT (e _ _ h)
  | ins h a b c d f => exact .ins (e _ _ h) a b c d f
theorem TyX_ex {K : PySem.W.Frag} {H H' : Hp} {v : V} {t : Value} (h : TyX K H v t) (e : Ex H H') : TyX K H' v t := by
  cases h with
  | base h => exact .base (TyOf_ex h e)
  | byt b => exact .byt b
  | set h => exact .set (e _ _ h)
  | kList h c => exact .kList h c
  | kTuple h c => exact .kTuple h c
  | kDict h c => exact .kDict h c
  | fTuple h => exact .fTuple (e _ _ h)
  | fDict h => exact .fDict (e _ _ h)
theorem NoS.ex {K : PySem.W.Frag} {H H' : Hp} {v : V} (h : NoS K H v) (e : Ex H H') : NoS K H' v := by
  obtain ⟨t, ty, k⟩ := h
  exact ⟨t, TyX_ex ty e, k⟩
theorem El.ex {K : PySem.W.Frag} {H H' : Hp} {v : V} {x : Option (List Nat)} (h : El K H v x) (e : Ex H H') : El K H' v x := by
  cases h with
  | txt x l => exact .txt x l
  | odd n => exact .odd (n.ex e)
theorem Els.ex {K : PySem.W.Frag} {H H' : Hp} {vs : List V} {es : List (Option (List Nat))} (h : Els K H vs es) (e : Ex H H') : Els K H' vs es := by
  induction h with
  | nil => exact .nil
  | cons h1 _ ih => exact .cons (h1.ex e) ih
def lenB (es : List (Option (List Nat))) (x : List Nat) : Bool := match es[0]? with | some (some y) => decide (x.length = y.length) | _ => false
/-- the word at i is right, those ahead of it being so -/
def goodB (L : List Nat) (es : List (Option (List Nat))) (i : Nat) : Bool :=
  match es[i]? with
  | some (some x) => wdB L x && lenB es x && !decide (some x ∈ es.take i)
  | _ => false
/-- the first wrong place of the words -/
def badW (L : List Nat) (es : List (Option (List Nat))) : Option Nat :=
  if es.length = 0 then some 0 else if !goodB L es 0 then some 0 else if es.length = 1 then none else if !goodB L es 1 then some 1 else if es.length = 2 then none else if !goodB L es 2 then some 2 else if es.length = 3 then none else some 3
theorem bad_nil {L : List Nat} {es : List (Option (List Nat))} (h : es.length = 0) : badW L es = some 0 := if_pos h
theorem bad_at {L : List Nat} {es : List (Option (List Nat))} {i : Nat} (h3 : i < 3) (hl : i < es.length) (hg : ∀ j, j < i → goodB L es j = true) (hb : goodB L es i = false) : badW L es = some i := by
  unfold badW
  rw [if_neg (by omega)]
  by_cases h0 : i = 0
  · subst h0
    rw [hb]
    rfl
  rw [hg 0 (by omega), if_neg (by decide), if_neg (by omega)]
  by_cases h1 : i = 1
  · subst h1
    rw [hb]
    rfl
  have h2 : i = 2 := by omega
  subst h2
  rw [hg 1 (by omega), if_neg (by decide), if_neg (by omega), hb]
  rfl
theorem bad_none {L : List Nat} {es : List (Option (List Nat))} (h0 : es.length ≠ 0) (h3 : es.length ≤ 3) (hg : ∀ j, j < es.length → goodB L es j = true) : badW L es = none := by
  unfold badW
  rw [if_neg h0, hg 0 (by omega), if_neg (by decide)]
  by_cases h1 : es.length = 1
  · rw [if_pos h1]
  rw [if_neg h1, hg 1 (by omega), if_neg (by decide)]
  by_cases h2 : es.length = 2
  · rw [if_pos h2]
  rw [if_neg h2, hg 2 (by omega), if_neg (by decide), if_pos (by omega)]
theorem bad_3 {L : List Nat} {es : List (Option (List Nat))} (h3 : 3 < es.length) (hg : ∀ j, j < 3 → goodB L es j = true) : badW L es = some 3 := by
  unfold badW
  rw [if_neg (by omega), hg 0 (by omega), if_neg (by decide), if_neg (by omega), hg 1 (by omega), if_neg (by decide), if_neg (by omega), hg 2 (by omega), if_neg (by decide), if_neg (by omega)]
theorem forqS {K : PySem.W.Frag} {ta : TA} {g : TG} {tb : TS} {D : Ends} {σ : L2.St} {H : Hp} {k : Bool} {xs : List V} (hv : ∀ R : List V → Hp → Prop, (∀ a H2, Ex H H2 → SQ.Sk K H2 a k xs → R [.ref a] H2) → ta σ H R) (Pv : Hp → Nat → L2.St → Hp → Prop)
    (h0 : ∀ H2, Ex H H2 → Pv H2 0 σ H2) (hk : ∀ H2 i σ H', Pv H2 i σ H' → Ex H2 H')
    (hs : ∀ (H2 : Hp) (i : Nat) (x : V) (T : Addr) (σ : L2.St) (H' : Hp), xs[i]? = some x → Pv H2 i σ H' → H' T = none → g (.ref T) σ (upd H' T (.tup [.int (i : Nat), x])) fun σ2 H3 => tb { D with nx := Pv H2 (i + 1), ct := Pv H2 (i + 1), bk := D.nx } σ2 H3)
    (hd : ∀ H2 σ H', Pv H2 xs.length σ H' → D.nx σ H') : tFor (iEnumQ K ta) g tb D σ H := by
  cases k
  · exact .inl (hv _ fun a H2 e h => ⟨a, xs, rfl, h, EN.for_enumL (Pv H2) (h0 H2 e) (fun i σ H' p => SQ.Sk.ex (k := false) h (hk H2 i σ H' p)) (hs H2) (hd H2)⟩)
  · exact .inr (hv _ fun a H2 e h => ⟨a, xs, rfl, h, EN.for_enumT (Pv H2) (h0 H2 e) (fun i σ H' p => SQ.Sk.ex (k := true) h (hk H2 i σ H' p)) (hs H2) (hd H2)⟩)
theorem sl_ob {K : PySem.W.Frag} {H : Hp} {a : Addr} {k : Bool} {xs : List V} {lo hi : Option Int} {Q : VK} (h : SQ.Sk K H a k xs) (q : ∀ D H2, Ex H H2 → SQ.Sk K H2 D k (cutV xs lo hi) → Q (.ref D) H2) : SQ.rSlQ K (.ref a) lo hi H Q := by
  cases k
  · exact .inl ⟨a, _, rfl, h, fun D hD => q D _ (Ex.new hD) (sq_of upd_same)⟩
  · refine .inr ⟨a, _, rfl, h, fun hw => q a H (Ex.refl _) ?_, fun _ D hD => q D _ (Ex.new hD) (st_of upd_same)⟩
    have e : cutV xs lo hi = xs := by
      unfold cutV
      rw [hw.1, hw.2, List.drop_zero, Nat.sub_zero, List.take_length]
    rw [e]
    exact h
theorem ix_ob {K : PySem.W.Frag} {H : Hp} {a : Addr} {k : Bool} {xs : List V} {i : Nat} {v : V} {Q : VK} (h : SQ.Sk K H a k xs) (hi : xs[i]? = some v) (q : Q v H) : rIx K (.ref a) (.int (i : Nat)) H Q := by
  cases k
  · exact .inl ⟨a, xs, _, v, rfl, rfl, h, atI_nat hi, q⟩
  · exact .inr (.inl ⟨a, xs, _, v, rfl, rfl, h, atI_nat hi, q⟩)
/-- is_list of words -/
def spIsW : Sp := fun vs H Q _ => ∃ (a : Addr) (k : Bool) (xs : List V), vs = [.ref a] ∧ SQ.WQ H a k xs ∧ ∀ H', Ex H H' → Q (.bl true) H'
section
variable {P : Program} {w : World} {K : PySem.W.Frag} {mg : Str → Option Value} {base : Heap}
theorem ok_isW {f : Addr} {fd : FuncData} (F : Fun K "is_list" "is_list" s_is_list f fd) (T : Tx mg) : FnOk P w K mg base CX0 1 f fd ["value"] spIsW := by
  refine F.ok sc_is_list (fun vs H Q E h => ?_) (fun cdv A outer s H vs Q E hr h => ?_)
  · obtain ⟨a, k, xs, rfl, _⟩ := h
    rfl
  · obtain ⟨a, k, xs, rfl, ha, q⟩ := h
    refine ⟨_, (pss_one (ps_ret (pe_callB call_isiT (by rfl) T.isinstance PyProof.Rows.boot_isinstance (pa_cons (pv 0) (pa_cons (pe_tup (pa_cons (pe_bltn (v := .ty "list") (by rfl) T.list PyProof.Rows.boot_list rfl) (pa_cons (pe_bltn (v := .ty "tuple") (by rfl) T.tuple PyProof.Rows.boot_tuple rfl) pa_nil))) pa_nil))))), ?_⟩
    refine ⟨_, rfl, by show 2 ≤ sizeLine; decide, fun t ht => ?_⟩
    have ty := (ha.ex (Ex.new (o := .tup [.ty "list", .ty "tuple"]) ht)).ty (K := K)
    cases k
    · exact ⟨_, t, _, _, _, true, rfl, upd_same, .cons (.ty _) (.cons (.ty _) .nil), ty, kit_lt, q _ (Ex.new ht)⟩
    · exact ⟨_, t, _, _, _, true, rfl, upd_same, .cons (.ty _) (.cons (.ty _) .nil), ty, kit_tt, q _ (Ex.new ht)⟩
end
def spWWG (K : PySem.W.Frag) : Sp := fun vs H Q _ => ∃ (L : List Nat) (a : Addr) (k : Bool) (xs : List V) (es : List (Option (List Nat))), vs = [.str (tx L), .ref a] ∧ L.length ≤ 10 ∧ SQ.WQ H a k xs ∧ Els K H xs es ∧ xs.length < 100 ∧
  ∀ H', Ex H H' → (∀ i : Nat, badW L es = some i → Q (.int i) H') ∧ (badW L es = none → Q .non H')
theorem good_txt {L : List Nat} {es : List (Option (List Nat))} {i : Nat} (h : goodB L es i = true) : ∃ x, es[i]? = some (some x) := by
  unfold goodB at h
  split at h
  · exact ⟨_, by assumption⟩
  · cases h
/-- the words ahead, all of them texts -/
theorem els_texts {K : PySem.W.Frag} {H : Hp} {xs : List V} {es : List (Option (List Nat))} (E : Els K H xs es) : ∀ i, (∀ j, j < i → ∃ x, es[j]? = some (some x)) → i ≤ xs.length → ∃ ws : List (List Nat), xs.take i = wv ws ∧ es.take i = ws.map some
  | 0, _, _ => ⟨[], rfl, rfl⟩
  | i + 1, h, hl => by
    obtain ⟨ws, e1, e2⟩ := els_texts E i (fun j hj => h j (by omega)) (by omega)
    obtain ⟨x, hx⟩ := h i (by omega)
    obtain ⟨v, hv, hE⟩ := E.get' hx
    cases hE with
    | txt x l =>
      refine ⟨ws ++ [x], ?_, ?_⟩
      · rw [List.take_add_one, hv, e1]
        unfold wv
        rw [List.map_append]
        rfl
      · rw [List.take_add_one, hx, e2, List.map_append]
        rfl
section
variable {P : Program} {w : World} {K : PySem.W.Frag} {mg : Str → Option Value} {base : Heap}
theorem ok_wwG {f : Addr} {fd : FuncData} (F : Fun K "wrong_word" "wrong_word" s_wrong_word f fd) (T : Tx mg) (c_is_list : Kn P w K mg base "is_list" ["value"] 1 spIsW)
    (c_is_word : Kn P w K mg base "_is_word" ["letters", "value"] 2 (spWdG K)) : FnOk P w K mg base CX0 3 f fd ["letters", "words"] (spWWG K) := by
  refine F.ok sc_wrong_word (fun vs H Q E h => ?_) (fun cdv A outer s H vs Q E hr h => ?_)
  · obtain ⟨L, a, k, xs, es, rfl, _⟩ := h
    rfl
  · obtain ⟨L, a, k, xs, es, rfl, hL, ha, EE, hx, q⟩ := h
    have le := EE.len
    refine ⟨_, (pss_cons (ps_if (PW.pt (pw_or (pt_not (pt_val (pe_call c_is_list.ok (hr.mono (by decide)) (by rfl) c_is_list.g c_is_list.kp c_is_list.b .nil pass0 (pa_cons (pv 1) pa_nil)))) (pw_or1 (pt_cmpR op_eq (pe_callB call_len_seq (by rfl) T.len PySem.boot_len (pa_cons (pv 1) pa_nil)) pe_int (nomark _))))) (pss_one (ps_ret pe_int)) pss_nil)
      (pss_cons (ps_for PassesOwn.never rfl (TR.pi_enumQ (by rfl) T.enumerate (pa_cons (pe_slice SQ.sl_seq (pv 1) po_none (po_some pe_int)) pa_nil)) (pg_tup (by rfl) (pgs_cons (pg_name (i := 2) sc_wrong_word.nd rfl (Or.inl rfl)) (pgs_cons (pg_name (i := 3) sc_wrong_word.nd rfl (Or.inl rfl)) pgs_nil))) (pss_one (ps_if (PW.pt (pw_or (pt_not (pt_val (pe_call c_is_word.ok (hr.mono (by decide)) (by rfl) c_is_word.g c_is_word.kp c_is_word.b .nil pass0 (pa_cons (pv 0) (pa_cons (pv 3) pa_nil))))) (pw_or (pt_cmpR op_ne (pe_callB call_len_str (by rfl) T.len PySem.boot_len (pa_cons (pv 3) pa_nil)) (pe_callB call_len_str (by rfl) T.len PySem.boot_len (pa_cons (pe_ix ix_seq (pv 1) pe_int (fun _ _ => rfl)) pa_nil)) (nomark _)) (pw_or1 (pt_cmpR op_in_seq (pv 3) (pe_slice SQ.sl_seq (pv 1) po_none (po_some (pv 2))) rfl))))) (pss_one (ps_ret (pv 2))) pss_nil)))
      (pss_one (ps_ret (pe_ifExp (pt_cmpR op_gt (pe_callB call_len_seq (by rfl) T.len PySem.boot_len (pa_cons (pv 1) pa_nil)) pe_int (nomark _)) pe_int pe_non))))), ?_⟩
    refine ⟨_, rfl, a, k, _, rfl, ha, fun H1 e1 => ⟨true, rfl, ?_⟩⟩
    refine ⟨_, rfl, a, _, rfl, (ha.ex e1).seq, rfl, _, rfl, ite2 (fun hb => ?_) (fun hn => ?_)⟩
    · have hb2 := V.int.inj (of_decide_eq_true hb)
      exact (q _ e1).1 0 (bad_nil (by omega))
    have hn0 : es.length ≠ 0 := fun z => hn (decide_eq_true (by rw [le, z]; rfl))
    have hcut : cutV xs none (some (3 : Int)) = xs.take 3 := by
      unfold cutV
      rw [show (3 : Int) = ((3 : Nat) : Int) from rfl, HT.sIx_none, HT.sIx_nat, Nat.sub_zero, List.drop_zero, List.take_eq_take_iff]
      omega
    refine forqS (k := k) (xs := xs.take 3) (fun R hR => ⟨_, rfl, _, rfl, sl_ob (ha.ex e1).sk fun D H2 e2 hD => hR D H2 e2 (by rw [← hcut]; exact hD)⟩)
      (fun H2 i σ H' => ∃ y2 y3 : Option V, σ = [some (.str (tx L)), some (.ref a), y2, y3] ∧ Ex H H' ∧ Ex H2 H' ∧ ∀ j, j < i → goodB L es j = true) (fun H2 e2 => ⟨none, none, rfl, e1.trans e2, Ex.refl _, fun j hj => absurd hj (Nat.not_lt_zero _)⟩) (fun H2 i σ H' hw => ?_) (fun H2 i x T' σ H' hx hw hT => ?_) (fun H2 σ H' hw => ?_)
    · obtain ⟨_, _, _, _, e, _⟩ := hw
      exact e
    · obtain ⟨y2, y3, rfl, e3, e4, hg⟩ := hw
      have hi3 : i < 3 := by
        have := (List.getElem?_eq_some_iff.mp hx).1
        rw [List.length_take] at this
        omega
      have hxi : xs[i]? = some x := by
        rw [List.getElem?_take_of_lt hi3] at hx
        exact hx
      have hil := (List.getElem?_eq_some_iff.mp hxi).1
      obtain ⟨ex, hex, hE⟩ := EE.get hxi
      have e5 := e3.trans (Ex.new (o := .tup [.int (i : Nat), x]) hT)
      have e6 := e4.trans (Ex.new (o := .tup [.int (i : Nat), x]) hT)
      refine ⟨T', _, rfl, .inl (.inl upd_same), rfl, _, _, rfl, _, _, rfl, rfl, ?_⟩
      cases hE with
      | odd hn =>
        refine ⟨_, rfl, _, rfl, L, _, rfl, hL, .inr ⟨hn.ex e5, false, rfl, ?_⟩⟩
        refine ⟨_, rfl, (q _ e5).1 i (bad_at hi3 (by omega) hg ?_)⟩
        unfold goodB
        rw [hex]
      | txt u lu =>
        refine ⟨_, rfl, _, rfl, L, _, rfl, hL, .inl ⟨u, rfl, by omega, fun H3 e7 => ?_⟩⟩
        have e8 := e5.trans e7
        cases hwd : wdB L u with
        | false =>
          refine ⟨false, rfl, _, rfl, (q _ e8).1 i (bad_at hi3 (by omega) hg ?_)⟩
          unfold goodB
          rw [hex]
          show (wdB L u && lenB es u && !decide (some u ∈ es.take i)) = false
          rw [hwd]
          rfl
        | true =>
          obtain ⟨y, hy⟩ : ∃ y, es[0]? = some (some y) := by
            by_cases h0 : i = 0
            · subst h0
              exact ⟨u, hex⟩
            · exact good_txt (hg 0 (by omega))
          obtain ⟨v0, hv0, hE0⟩ := EE.get' hy
          have gd : goodB L es i = (decide (u.length = y.length) && !decide (some u ∈ es.take i)) := by
            unfold goodB lenB
            rw [hex, hy]
            show (wdB L u && decide (u.length = y.length) && !decide (some u ∈ es.take i)) = _
            rw [hwd, Bool.true_and]
          cases hE0 with
          | txt y ly =>
            refine ⟨true, rfl, _, rfl, _, rfl, tx_le (by omega), _, rfl, ix_ob (ha.ex e8).sk hv0 ⟨_, rfl, tx_le (by omega), rfl, _, rfl, ite2 (fun hb => ?_) (fun hb => ?_)⟩⟩
            · refine ⟨_, rfl, (q _ e8).1 i (bad_at hi3 (by omega) hg ?_)⟩
              rw [gd, decide_eq_false, Bool.false_and]
              intro z
              rw [decide_eq_true (show V.int ((tx u).length : Int) = V.int ((tx y).length : Int) by rw [tx_len, tx_len, z])] at hb
              cases hb
            have hlen : u.length = y.length := by
              by_cases z : u.length = y.length
              · exact z
              · refine absurd ?_ hb
                rw [decide_eq_false]
                · rfl
                · intro z2
                  have := V.int.inj z2
                  rw [tx_len, tx_len] at this
                  exact z (by omega)
            obtain ⟨ws, w1, w2⟩ := els_texts EE i (fun j hj => good_txt (hg j hj)) (by omega)
            have hcut2 : cutV xs none (some (i : Int)) = wv ws := by
              unfold cutV
              rw [HT.sIx_none, HT.sIx_nat, Nat.sub_zero, List.drop_zero, ← w1, List.take_eq_take_iff]
              omega
            refine ⟨_, rfl, _, rfl, _, rfl, _, rfl, sl_ob (ha.ex e8).sk fun D2 H9 e9 hD3 => ?_⟩
            rw [hcut2] at hD3
            have mem : decide (some u ∈ es.take i) = decide (u ∈ ws) := by
              rw [w2, decide_eq_decide]
              constructor
              · intro h
                obtain ⟨z, hz, e⟩ := List.mem_map.mp h
                cases e
                exact hz
              · intro h
                exact List.mem_map.mpr ⟨u, h, rfl⟩
            rw [decide_eq_true hlen, Bool.true_and, mem] at gd
            refine ⟨D2, _, rfl, hD3.seq, rfl, flat_wv _, ?_⟩
            refine ⟨_, rfl, ?_⟩
            rw [inV_wv]
            cases hm : decide (u ∈ ws) with
            | true =>
              rw [hm] at gd
              exact ⟨_, rfl, (q _ (e8.trans e9)).1 i (bad_at hi3 (by omega) hg gd)⟩
            | false =>
              rw [hm] at gd
              refine ⟨_, _, rfl, e8.trans e9, (e6.trans e7).trans e9, fun j hj => ?_⟩
              by_cases hji : j = i
              · rw [hji]
                exact gd
              · exact hg j (by omega)
    · obtain ⟨y2, y3, rfl, e3, e4, hg⟩ := hw
      rw [List.length_take] at hg
      refine ⟨_, rfl, a, _, rfl, (ha.ex e3).seq, _, _, rfl, rfl, _, rfl, ite2 (fun hb => ?_) (fun hb => ?_)⟩
      · have hb2 : (3 : Int) < (xs.length : Int) := of_decide_eq_true hb
        exact (q _ e3).1 3 (bad_3 (by omega) fun j hj => hg j (by omega))
      · have hb2 : ¬ (3 : Int) < (xs.length : Int) := fun z => hb (decide_eq_true z)
        exact (q _ e3).2 (bad_none hn0 (by omega) fun j hj => hg j (by omega))
end
end Law

namespace Law
open PySem PySem.Spec PyProof.Rows L2 Evl EK
/-- a value without parts, as data -/
inductive Fl : V → PyData → Prop
  | non : Fl .non .none
  | bl (b : Bool) : Fl (.bl b) (.bool b)
  | int (i : Int) : Fl (.int i) (.int i)
  | str (z : Str) : Fl (.str z) (.str z)
inductive Fls : List V → List PyData → Prop
  | nil : Fls [] []
  | cons {v : V} {d : PyData} {vs : List V} {ds : List PyData} : Fl v d → Fls vs ds → Fls (v :: vs) (d :: ds)
theorem Fls.get {vs : List V} {ds : List PyData} (h : Fls vs ds) : ∀ {i : Nat} {v : V}, vs[i]? = some v → ∃ d, Fl v d := by
  induction h with
  | nil => intro i v h; cases h
  | @cons v d vs ds h1 _ ih =>
    intro i u hu
    cases i with
    | zero => cases hu; exact ⟨d, h1⟩
    | succ i => exact ih hu
/-- the values that errors keep -/
inductive AV (H : Hp) : V → PyData → Prop
  | flat {v : V} {d : PyData} : Fl v d → AV H v d
  | tup {a : Addr} {vs : List V} {ds : List PyData} : H a = some (.tup vs) → Fls vs ds → vs.length ≤ 50 → AV H (.ref a) (.tuple ds)
  | lst {a : Addr} {vs : List V} {ds : List PyData} : H a = some (.lst vs) → Fls vs ds → vs.length ≤ 50 → AV H (.ref a) (.list ds)
  | emp {a : Addr} : H a = some (.dK []) → AV H (.ref a) (.dict [])
  | one {a : Addr} {k : Str} {i : Int} : H a = some (.dK [(.inr k, .int i)]) → AV H (.ref a) (.dict [(.str k, .int i)])
theorem AV.ex {H H' : Hp} {v : V} {d : PyData} (h : AV H v d) (e : Ex H H') : AV H' v d := by
  cases h with
  | flat f => exact .flat f
  | tup h f l => exact .tup (e _ _ h) f l
  | lst h f l => exact .lst (e _ _ h) f l
  | emp h => exact .emp (e _ _ h)
  | one h => exact .one (e _ _ h)
theorem Fl.de {K : PySem.W.Frag} {H : Hp} {v : V} {d : PyData} (h : Fl v d) : DY.DE K H v d := by
  cases h with
  | non => exact .non
  | bl b => exact .bl b
  | int i => exact .int i
  | str z => exact .str z
theorem Fls.de {K : PySem.W.Frag} {H : Hp} {vs : List V} {ds : List PyData} (h : Fls vs ds) : DY.DEs K H vs ds := by
  induction h with
  | nil => exact .nil
  | cons h1 _ ih => exact .cons h1.de ih
theorem AV.de {K : PySem.W.Frag} {H : Hp} {v : V} {d : PyData} (h : AV H v d) : DY.DE K H v d := by
  cases h with
  | flat f => exact f.de
  | tup h f l => exact .tup (st_of h) f.de
  | lst h f l => exact .lst (sq_of h) f.de
  | emp h => exact .emp h
  | one h => exact .one h
theorem Fl.kinds {K : PySem.W.Frag} {v : V} {d : PyData} (h : Fl v d) (H : Hp) : ∃ t, TyX K H v t ∧ PySem.W.kitOne K t (.type "list") = some false ∧ PySem.W.kitOne K t (.type "tuple") = some false ∧ PySem.W.kitOne K t (.type "dict") = some false := by
  cases h with
  | non => exact ⟨_, .base .non, kit_ty (by decide +kernel), kit_ty (by decide +kernel), kit_ty (by decide +kernel)⟩
  | bl b => exact ⟨_, .base (.bl b), kit_ty (by decide +kernel), kit_ty (by decide +kernel), kit_ty (by decide +kernel)⟩
  | int n => exact ⟨_, .base (.int n), kit_ty (by decide +kernel), kit_ty (by decide +kernel), kit_ty (by decide +kernel)⟩
  | str z => exact ⟨_, .base (.str z), kit_ty (by decide +kernel), kit_ty (by decide +kernel), kit_ty (by decide +kernel)⟩
theorem kl_l {K : PySem.W.Frag} : PySem.W.kitOne K (.type "list") (.type "list") = some true := kit_ty (by decide +kernel)
theorem kt_l {K : PySem.W.Frag} : PySem.W.kitOne K (.type "tuple") (.type "list") = some false := kit_ty (by decide +kernel)
theorem kt_t {K : PySem.W.Frag} : PySem.W.kitOne K (.type "tuple") (.type "tuple") = some true := kit_ty (by decide +kernel)
theorem kd_l {K : PySem.W.Frag} : PySem.W.kitOne K (.type "dict") (.type "list") = some false := kit_ty (by decide +kernel)
theorem kd_t {K : PySem.W.Frag} : PySem.W.kitOne K (.type "dict") (.type "tuple") = some false := kit_ty (by decide +kernel)
theorem kd_d {K : PySem.W.Frag} : PySem.W.kitOne K (.type "dict") (.type "dict") = some true := kit_ty (by decide +kernel)
def spKf : Sp := fun vs H Q _ => ∃ v d, vs = [v] ∧ Fl v d ∧ Q v H
def spKept : Sp := fun vs H Q _ => ∃ v d, vs = [v] ∧ AV H v d ∧ ∀ v' H', Ex H H' → AV H' v' d → Q v' H'
section
variable {P : Program} {w : World} {K : PySem.W.Frag} {mg : Str → Option Value} {base : Heap}
theorem ok_kf {f : Addr} {fd : FuncData} (F : Fun K "_kept" "_kept" s_kept f fd) (T : Tx mg) : FnOk P w K mg base CX0 1 f fd ["value"] spKf := by
  refine F.ok sc_kept (fun vs H Q E h => ?_) (fun cdv A outer s H vs Q E hr h => ?_)
  · obtain ⟨v, d, rfl, _⟩ := h
    rfl
  · obtain ⟨v, d, rfl, hv, q⟩ := h
    refine ⟨_, (pss_cons (ps_if (pt_val (pe_callB call_isi (by rfl) T.isinstance PyProof.Rows.boot_isinstance (pa_cons (pv 0) (pa_cons (pe_bltn (v := .ty "list") (by rfl) T.list PyProof.Rows.boot_list rfl) pa_nil)))) (pss_one ps_never) pss_nil)
      (pss_cons (ps_if (pt_val (pe_callB call_isi (by rfl) T.isinstance PyProof.Rows.boot_isinstance (pa_cons (pv 0) (pa_cons (pe_bltn (v := .ty "tuple") (by rfl) T.tuple PyProof.Rows.boot_tuple rfl) pa_nil)))) (pss_one ps_never) pss_nil)
      (pss_cons (ps_if (pt_val (pe_callB call_isi (by rfl) T.isinstance PyProof.Rows.boot_isinstance (pa_cons (pv 0) (pa_cons (pe_bltn (v := .ty "dict") (by rfl) T.dict PyProof.Rows.boot_dict rfl) pa_nil)))) (pss_one ps_never) pss_nil)
      (pss_one (ps_ret (pv 0)))))), ?_⟩
    obtain ⟨t, ty, k1, k2, k3⟩ := hv.kinds (K := K) H
    refine ⟨_, rfl, _, _, _, _, false, rfl, .ty _, ty, k1, false, rfl, iteF ?_⟩
    refine ⟨_, rfl, _, _, _, _, false, rfl, .ty _, ty, k2, false, rfl, iteF ?_⟩
    refine ⟨_, rfl, _, _, _, _, false, rfl, .ty _, ty, k3, false, rfl, iteF ?_⟩
    exact ⟨_, rfl, q⟩
theorem ok_kept {f : Addr} {fd : FuncData} (F : Fun K "_kept" "_kept" s_kept f fd) (T : Tx mg) (c_kept : Kn P w K mg base "_kept" ["value"] 1 spKf) : FnOk P w K mg base CX0 2 f fd ["value"] spKept := by
  refine F.ok sc_kept (fun vs H Q E h => ?_) (fun cdv A outer s H vs Q E hr h => ?_)
  · obtain ⟨v, d, rfl, _⟩ := h
    rfl
  · obtain ⟨v, d, rfl, hv, q⟩ := h
    refine ⟨_, (pss_cons (ps_if (pt_val (pe_callB call_isi (by rfl) T.isinstance PyProof.Rows.boot_isinstance (pa_cons (pv 0) (pa_cons (pe_bltn (v := .ty "list") (by rfl) T.list PyProof.Rows.boot_list rfl) pa_nil)))) (pss_one (ps_ret (pe_lc (own := [("part", 1)]) (g := gName 1) (tt := tYes) rfl sc_kept.nd (pi_list (pv 0)) (blkOk_by (N := N_kept) (sc := defScope s_kept) (by decide +kernel)) (fun _ _ _ _ _ => (pg_name (i := 1) sc_kept.nd rfl (Or.inl rfl))) (fun _ _ _ _ _ => pts_nil) (fun _ _ _ _ _ => (pe_call c_kept.ok (hr.mono (by decide)) (by rfl) c_kept.g c_kept.kp c_kept.b .nil pass0 (pa_cons (pv 1) pa_nil)))))) pss_nil)
      (pss_cons (ps_if (pt_val (pe_callB call_isi (by rfl) T.isinstance PyProof.Rows.boot_isinstance (pa_cons (pv 0) (pa_cons (pe_bltn (v := .ty "tuple") (by rfl) T.tuple PyProof.Rows.boot_tuple rfl) pa_nil)))) (pss_one (ps_ret (pe_callTy call_tuple_of (by rfl) T.tuple PyProof.Rows.boot_tuple (pa_cons (pe_lc (own := [("part", 1)]) (g := gName 1) (tt := tYes) rfl sc_kept.nd (pi_tup (pv 0)) (blkOk_by (N := N_kept) (sc := defScope s_kept) (by decide +kernel)) (fun _ _ _ _ _ => (pg_name (i := 1) sc_kept.nd rfl (Or.inl rfl))) (fun _ _ _ _ _ => pts_nil) (fun _ _ _ _ _ => (pe_call c_kept.ok (hr.mono (by decide)) (by rfl) c_kept.g c_kept.kp c_kept.b .nil pass0 (pa_cons (pv 1) pa_nil)))) pa_nil)))) pss_nil)
      (pss_cons (ps_if (pt_val (pe_callB call_isi (by rfl) T.isinstance PyProof.Rows.boot_isinstance (pa_cons (pv 0) (pa_cons (pe_bltn (v := .ty "dict") (by rfl) T.dict PyProof.Rows.boot_dict rfl) pa_nil)))) (pss_one (ps_ret (pe_lock (pe_dc (own := [("key", 2)]) (g := gName 2) (tt := tYes) rfl sc_kept.nd (pi_keys (pv 0)) (blkOk_by (N := N_kept) (sc := defScope s_kept) (by decide +kernel)) (fun _ _ _ _ _ => (pg_name (i := 2) sc_kept.nd rfl (Or.inl rfl))) (fun _ _ _ _ _ => pts_nil) (fun _ _ _ _ _ => (pv 2)) (fun _ _ _ _ _ => (pe_call c_kept.ok (hr.mono (by decide)) (by rfl) c_kept.g c_kept.kp c_kept.b .nil pass0 (pa_cons (pe_dget (hu_of hr) (pv 0) (pv 2) (fun _ _ => rfl)) pa_nil))))))) pss_nil)
      (pss_one (ps_ret (pv 0)))))), ?_⟩
    cases hv with
    | flat hv =>
      obtain ⟨t, ty, k1, k2, k3⟩ := hv.kinds (K := K) H
      refine ⟨_, rfl, _, _, _, _, false, rfl, .ty _, ty, k1, false, rfl, iteF ?_⟩
      refine ⟨_, rfl, _, _, _, _, false, rfl, .ty _, ty, k2, false, rfl, iteF ?_⟩
      refine ⟨_, rfl, _, _, _, _, false, rfl, .ty _, ty, k3, false, rfl, iteF ?_⟩
      exact ⟨_, rfl, q _ _ (Ex.refl _) (.flat hv)⟩
    | @lst a xs ds ha fx hl =>
      refine ⟨_, rfl, _, _, _, _, true, rfl, .ty _, .base (.lst ha), kl_l, true, rfl, iteT ?_⟩
      refine ⟨_, rfl, a, rfl, ⟨_, sq_of ha⟩, fun D hD => ?_⟩
      refine lc_list (fun i H' => Ex H H' ∧ H D = none ∧ H' D = some (.lst (xs.take i))) ⟨Ex.new hD, hD, upd_same⟩ (fun i H' _ p => sq_of (p.1 _ _ ha)) (fun i x H' hx p => ?_) (fun H' p => ?_)
      · obtain ⟨e, h0, hz⟩ := p
        obtain ⟨d, fd⟩ := fx.get hx
        refine ⟨rfl, ?_⟩
        refine ⟨_, rfl, _, _, rfl, fd, _, hz, ?_, e.mut h0, h0, ?_⟩
        · rw [List.length_take]
          exact Nat.lt_of_le_of_lt (Nat.min_le_right _ _) (Nat.lt_of_le_of_lt hl (by decide))
        · rw [upd_same, List.take_add_one, hx]
          rfl
      · obtain ⟨e, h0, hz⟩ := p
        rw [List.take_length] at hz
        exact q _ _ e (.lst hz fx hl)
    | @tup a xs ds ha fx hl =>
      refine ⟨_, rfl, _, _, _, _, false, rfl, .ty _, .base (.tup ha), kt_l, false, rfl, iteF ?_⟩
      refine ⟨_, rfl, _, _, _, _, true, rfl, .ty _, .base (.tup ha), kt_t, true, rfl, iteT ?_⟩
      refine ⟨_, rfl, a, rfl, ⟨_, st_of ha⟩, fun D hD => ?_⟩
      refine lc_tup (fun i H' => Ex H H' ∧ H D = none ∧ H' D = some (.lst (xs.take i))) ⟨Ex.new hD, hD, upd_same⟩ (fun i H' _ p => st_of (p.1 _ _ ha)) (fun i x H' hx p => ?_) (fun H' p => ?_)
      · obtain ⟨e, h0, hz⟩ := p
        obtain ⟨d, fd⟩ := fx.get hx
        refine ⟨rfl, ?_⟩
        refine ⟨_, rfl, _, _, rfl, fd, _, hz, ?_, e.mut h0, h0, ?_⟩
        · rw [List.length_take]
          exact Nat.lt_of_le_of_lt (Nat.min_le_right _ _) (Nat.lt_of_le_of_lt hl (by decide))
        · rw [upd_same, List.take_add_one, hx]
          rfl
      · obtain ⟨e, h0, hz⟩ := p
        rw [List.take_length] at hz
        refine ⟨D, _, rfl, .inl ⟨sq_of hz, fun p hp => ?_⟩⟩
        exact q _ _ (e.trans (Ex.new hp)) (.tup upd_same fx hl)
    | @emp a ha =>
      refine ⟨_, rfl, _, _, _, _, false, rfl, .ty _, .base (.dK ha), kd_l, false, rfl, iteF ?_⟩
      refine ⟨_, rfl, _, _, _, _, false, rfl, .ty _, .base (.dK ha), kd_t, false, rfl, iteF ?_⟩
      refine ⟨_, rfl, _, _, _, _, true, rfl, .ty _, .base (.dK ha), kd_d, true, rfl, iteT ?_⟩
      refine ⟨a, _, ha, True.intro, fun od => ?_⟩
      refine ⟨_, rfl, a, od, rfl, .inl ⟨[], upd_same, fun D hD => ⟨fun i m H' => i = 0 ∧ H' = upd (upd H a (.frz od (.dK []))) D (.dK []), ⟨0, rfl, rfl⟩, ?_⟩⟩⟩
      rintro i m H' ⟨rfl, rfl⟩
      have ne : D ≠ a := fun z => by
        rw [z, upd_same] at hD
        cases hD
      have hD2 : H D = none := by
        rw [upd_ne ne] at hD
        exact hD
      have hfz : (upd (upd H a (.frz od (.dK []))) D (.dK [])) a = some (.frz od (.dK [])) := by
        rw [upd_ne ne.symm, upd_same]
      refine .inl ⟨⟨hfz, Nat.le_refl _⟩, hfz, ?_⟩
      refine q _ _ (fun b o e => ?_) (.emp (by rw [upd_ne ne, upd_same]))
      by_cases hb : b = a
      · subst hb
        rw [upd_same, ← ha, e]
      · rw [upd_ne hb, upd_ne (fun z => by rw [z, hD2] at e; cases e), upd_ne hb]
        exact e
    | @one a k n ha =>
      refine ⟨_, rfl, _, _, _, _, false, rfl, .ty _, .base (.dK ha), kd_l, false, rfl, iteF ?_⟩
      refine ⟨_, rfl, _, _, _, _, false, rfl, .ty _, .base (.dK ha), kd_t, false, rfl, iteF ?_⟩
      refine ⟨_, rfl, _, _, _, _, true, rfl, .ty _, .base (.dK ha), kd_d, true, rfl, iteT ?_⟩
      refine ⟨a, _, ha, True.intro, fun od => ?_⟩
      refine ⟨_, rfl, a, od, rfl, .inl ⟨[(.inr k, .int n)], upd_same, fun D hD => ⟨fun i m H' => (i = 0 ∧ m = 1 ∧ H' = upd (upd H a (.frz od (.dK [(.inr k, .int n)]))) D (.dK [])) ∨ (i = 1 ∧ m = 0 ∧ H' = upd (upd H a (.frz od (.dK [(.inr k, .int n)]))) D (.dK [(.inr k, .int n)])), ⟨1, .inl ⟨rfl, rfl, rfl⟩⟩, ?_⟩⟩⟩
      have ne : D ≠ a := fun z => by
        rw [z, upd_same] at hD
        cases hD
      have hD2 : H D = none := by
        rw [upd_ne ne] at hD
        exact hD
      have hfz : ∀ o, (upd (upd H a (.frz od (.dK [(.inr k, .int n)]))) D o) a = some (.frz od (.dK [(.inr k, .int n)])) := fun o => by
        rw [upd_ne ne.symm, upd_same]
      rintro i m H' (⟨rfl, rfl, rfl⟩ | ⟨rfl, rfl, rfl⟩)
      · refine .inr ⟨⟨hfz _, by show 0 < 1; decide⟩, fun H' => H' = upd (upd H a (.frz od (.dK [(.inr k, .int n)]))) D (.dK [(.inr k, .int n)]), fun H' h => ⟨0, by omega, .inr ⟨rfl, rfl, h⟩⟩, ?_⟩
        rintro x H' ⟨rfl, kk, vv, hkv, rfl⟩
        cases hkv
        refine ⟨rfl, ?_⟩
        refine ⟨_, rfl, _, rfl, _, rfl, a, .int n, rfl, .inl ⟨_, .inr k, .inr ⟨od, hfz _⟩, rfl, ?_⟩, _, _, rfl, .int n, [], .inr k, rfl, upd_same, by show 0 < sizeLine; decide, ?_⟩
        · simp [valV]
        · rw [upd_upd]
          rfl
      · refine .inl ⟨⟨hfz _, Nat.le_refl _⟩, hfz _, ?_⟩
        refine q _ _ (fun b o e => ?_) (.one (by rw [upd_ne ne, upd_same]))
        by_cases hb : b = a
        · subst hb
          rw [upd_same, ← ha, e]
        · rw [upd_ne hb, upd_ne (fun z => by rw [z, hD2] at e; cases e), upd_ne hb]
          exact e
end
/-- what the __init__ of an error leaves -/
def ErE (H : Hp) (a C : Addr) (fs : List (Str × V)) (H' : Hp) : Prop := ∃ dx, H' a = some (exo a C (some dx)) ∧ H' dx = some (exd dx fs) ∧ H dx = none ∧ dx ≠ a ∧ ∀ b o, H b = some o → b ≠ a → H' b = some o
/-- the error stands -/
structure Ers (H : Hp) (a C dx : Addr) (fs : List (Str × V)) (H' : Hp) : Prop where
  o : H' a = some (exo a C (some dx))
  x : H' dx = some (exd dx fs)
  n : H dx = none
  ne : dx ≠ a
  k : ∀ b o, H b = some o → b ≠ a → H' b = some o
theorem AV.keep {H H' : Hp} {a C : Addr} {d : Option Addr} {v : V} {x : PyData} (h : AV H v x) (ha : H a = some (exo a C d)) (k : ∀ b o, H b = some o → b ≠ a → H' b = some o) : AV H' v x := by
  cases h with
  | flat f => exact .flat f
  | tup h f l => exact .tup (k _ _ h (fun z => by rw [z, ha] at h; cases h)) f l
  | lst h f l => exact .lst (k _ _ h (fun z => by rw [z, ha] at h; cases h)) f l
  | emp h => exact .emp (k _ _ h (fun z => by rw [z, ha] at h; cases h))
  | one h => exact .one (k _ _ h (fun z => by rw [z, ha] at h; cases h))
theorem ers_new {H H1 : Hp} {a C dx : Addr} {f : Str} {v : V} (ha : H a = some (exo a C none)) (e : Ex H H1) (hd : H1 dx = none) (hne : dx ≠ a) : Ers H a C dx [(f, v)] (upd (upd H1 dx (exd dx [(f, v)])) a (exo a C (some dx))) where
  o := upd_same
  x := by rw [upd_ne hne, upd_same]
  n := by
    cases q : H dx with
    | none => rfl
    | some o =>
      have := e _ _ q
      rw [hd] at this
      cases this
  ne := hne
  k := fun b o z nb => by
    have z1 := e _ _ z
    rw [upd_ne nb, upd_ne (fun y => by rw [y, hd] at z1; cases z1)]
    exact z1
theorem ers_put {H H1 H2 : Hp} {a C dx : Addr} {f : Str} {v : V} {fs : List (Str × V)} (E : Ers H a C dx fs H1) (e : Ex H1 H2) : Ers H a C dx ((f, v) :: fs) (upd H2 dx (exd dx ((f, v) :: fs))) where
  o := by rw [upd_ne E.ne.symm]; exact e _ _ E.o
  x := upd_same
  n := E.n
  ne := E.ne
  k := fun b o z nb => by
    rw [upd_ne (fun y => by rw [y, E.n] at z; cases z)]
    exact e _ _ (E.k b o z nb)
/-- a value that stood when the first field was stored -/
theorem AV.over {H : Hp} {dx : Addr} {x : PyData} {fs gs : List (Str × V)} {v : V} (h : AV H v x) (hd : H dx = some (exd dx gs)) : AV (upd H dx (exd dx fs)) v x := by
  have ne : ∀ {b : Addr} {o : HO}, H b = some o → (∀ z : exd dx gs = o, False) → b ≠ dx := fun hb hn z => by
    rw [z, hd] at hb
    exact hn (Option.some.inj hb)
  cases h with
  | flat f => exact .flat f
  | tup h f l => exact .tup (by rw [upd_ne (ne h (fun z => by cases z))]; exact h) f l
  | lst h f l => exact .lst (by rw [upd_ne (ne h (fun z => by cases z))]; exact h) f l
  | emp h => exact .emp (by rw [upd_ne (ne h (fun z => by cases z))]; exact h)
  | one h => exact .one (by rw [upd_ne (ne h (fun z => by cases z))]; exact h)
theorem AV.newx {H : Hp} {a C dx : Addr} {fs : List (Str × V)} {v : V} {x : PyData} (h : AV H v x) (ha : H a = some (exo a C none)) (hd : H dx = none) : AV (upd (upd H dx (exd dx fs)) a (exo a C (some dx))) v x :=
  h.keep ha fun b o z nb => by
    rw [upd_ne nb, upd_ne (fun y => by rw [y, hd] at z; cases z)]
    exact z
def spE1 (C : Addr) (f : Str) : Sp := fun vs H Q _ => ∃ a v d, vs = [.ref a, v] ∧ H a = some (exo a C none) ∧ AV H v d ∧ ∀ dx v' H', Ers H a C dx [(f, v')] H' → AV H' v' d → Q .non H'
def spE2 (C : Addr) (f g : Str) : Sp := fun vs H Q _ => ∃ a v d u e, vs = [.ref a, v, u] ∧ H a = some (exo a C none) ∧ AV H v d ∧ AV H u e ∧ ∀ dx v' u' H', Ers H a C dx [(g, u'), (f, v')] H' → AV H' v' d → AV H' u' e → Q .non H'
def spE3 (C : Addr) (f g h : Str) : Sp := fun vs H Q _ => ∃ a v d u e w b, vs = [.ref a, v, u, w] ∧ H a = some (exo a C none) ∧ AV H v d ∧ AV H u e ∧ AV H w b ∧ ∀ dx v' u' w' H', Ers H a C dx [(h, w'), (g, u'), (f, v')] H' → AV H' v' d → AV H' u' e → AV H' w' b → Q .non H'
/-- the base -/
structure BaseC (K : PySem.W.Frag) (mg : Str → Option Value) (C0 : Addr) : Prop where
  g : mg "SkipsError" = some (.ref C0)
  r : ClX.CRead K C0 (.type "type")
  v : PySem.W.findCls K (.ref C0) (.type "type") "__init__" = some (.val (.builtin "ValueError.__init__"))
section
variable {P : Program} {w : World} {K : PySem.W.Frag} {mg : Str → Option Value} {base : Heap}
theorem ok_BadLetters {f C C0 : Addr} {fd : FuncData} (F : Fun K "__init__" "BadLetters.__init__" s_BadLetters_init f fd) (T : Tx mg) (B0 : BaseC K mg C0) (O : OexC K C) (N : PySem.W.findIn K (.ref C) "letters" = some none) (c_kept : Kn P w K mg base "_kept" ["value"] 2 spKept) :
    FnOk P w K mg base CX0 3 f fd ["self", "letters"] (spE1 C "letters") := by
  refine F.ok sc_BadLetters_init (fun vs H Q E h => ?_) (fun cdv A outer s H vs Q E hr h => ?_)
  · obtain ⟨a, v, d, rfl, _⟩ := h
    rfl
  · obtain ⟨a, v, d, rfl, ha, hv, q⟩ := h
    obtain ⟨g_SkipsError, R_SkipsError, V_SkipsError⟩ := B0
    refine ⟨_, (pss_cons (ps_expr (EK.pe_skinit (by rfl) g_SkipsError R_SkipsError V_SkipsError (pa_cons (pv 0) (pa_cons pe_str pa_nil))))
      (pss_one (ps_ost (pv 0) (pe_call c_kept.ok (hr.mono (by decide)) (by rfl) c_kept.g c_kept.kp c_kept.b .nil pass0 (pa_cons (pv 1) pa_nil))))), ?_⟩
    refine ⟨_, rfl, a, C, _, rfl, by show 1 ≤ 1000; decide, O, ha, ?_⟩
    refine ⟨_, rfl, v, d, rfl, hv, fun v' H1 e1 hv1 => ⟨_, rfl, a, C, rfl, O, N, .inl ⟨e1 _ _ ha, fun dx hd hne => ?_⟩⟩⟩
    exact q dx v' _ (ers_new ha e1 hd hne) (hv1.newx (e1 _ _ ha) hd)
theorem ok_BadWords {f C C0 : Addr} {fd : FuncData} (F : Fun K "__init__" "BadWords.__init__" s_BadWords_init f fd) (T : Tx mg) (B0 : BaseC K mg C0) (O : OexC K C) (N : PySem.W.findIn K (.ref C) "place" = some none) (c_kept : Kn P w K mg base "_kept" ["value"] 2 spKept) :
    FnOk P w K mg base CX0 3 f fd ["self", "place"] (spE1 C "place") := by
  refine F.ok sc_BadWords_init (fun vs H Q E h => ?_) (fun cdv A outer s H vs Q E hr h => ?_)
  · obtain ⟨a, v, d, rfl, _⟩ := h
    rfl
  · obtain ⟨a, v, d, rfl, ha, hv, q⟩ := h
    obtain ⟨g_SkipsError, R_SkipsError, V_SkipsError⟩ := B0
    refine ⟨_, (pss_cons (ps_expr (EK.pe_skinit (by rfl) g_SkipsError R_SkipsError V_SkipsError (pa_cons (pv 0) (pa_cons pe_str pa_nil))))
      (pss_one (ps_ost (pv 0) (pe_call c_kept.ok (hr.mono (by decide)) (by rfl) c_kept.g c_kept.kp c_kept.b .nil pass0 (pa_cons (pv 1) pa_nil))))), ?_⟩
    refine ⟨_, rfl, a, C, _, rfl, by show 1 ≤ 1000; decide, O, ha, ?_⟩
    refine ⟨_, rfl, v, d, rfl, hv, fun v' H1 e1 hv1 => ⟨_, rfl, a, C, rfl, O, N, .inl ⟨e1 _ _ ha, fun dx hd hne => ?_⟩⟩⟩
    exact q dx v' _ (ers_new ha e1 hd hne) (hv1.newx (e1 _ _ ha) hd)
theorem ok_NoPartial {f C C0 : Addr} {fd : FuncData} (F : Fun K "__init__" "NoPartial.__init__" s_NoPartial_init f fd) (T : Tx mg) (B0 : BaseC K mg C0) (O : OexC K C) (N : PySem.W.findIn K (.ref C) "partial" = some none) (c_kept : Kn P w K mg base "_kept" ["value"] 2 spKept) :
    FnOk P w K mg base CX0 3 f fd ["self", "partial"] (spE1 C "partial") := by
  refine F.ok sc_NoPartial_init (fun vs H Q E h => ?_) (fun cdv A outer s H vs Q E hr h => ?_)
  · obtain ⟨a, v, d, rfl, _⟩ := h
    rfl
  · obtain ⟨a, v, d, rfl, ha, hv, q⟩ := h
    obtain ⟨g_SkipsError, R_SkipsError, V_SkipsError⟩ := B0
    refine ⟨_, (pss_cons (ps_expr (EK.pe_skinit (by rfl) g_SkipsError R_SkipsError V_SkipsError (pa_cons (pv 0) (pa_cons pe_str pa_nil))))
      (pss_one (ps_ost (pv 0) (pe_call c_kept.ok (hr.mono (by decide)) (by rfl) c_kept.g c_kept.kp c_kept.b .nil pass0 (pa_cons (pv 1) pa_nil))))), ?_⟩
    refine ⟨_, rfl, a, C, _, rfl, by show 1 ≤ 1000; decide, O, ha, ?_⟩
    refine ⟨_, rfl, v, d, rfl, hv, fun v' H1 e1 hv1 => ⟨_, rfl, a, C, rfl, O, N, .inl ⟨e1 _ _ ha, fun dx hd hne => ?_⟩⟩⟩
    exact q dx v' _ (ers_new ha e1 hd hne) (hv1.newx (e1 _ _ ha) hd)
theorem ok_BadPlace {f C C0 : Addr} {fd : FuncData} (F : Fun K "__init__" "BadPlace.__init__" s_BadPlace_init f fd) (T : Tx mg) (B0 : BaseC K mg C0) (O : OexC K C) (N : PySem.W.findIn K (.ref C) "number" = some none) (c_kept : Kn P w K mg base "_kept" ["value"] 2 spKept) :
    FnOk P w K mg base CX0 3 f fd ["self", "number"] (spE1 C "number") := by
  refine F.ok sc_BadPlace_init (fun vs H Q E h => ?_) (fun cdv A outer s H vs Q E hr h => ?_)
  · obtain ⟨a, v, d, rfl, _⟩ := h
    rfl
  · obtain ⟨a, v, d, rfl, ha, hv, q⟩ := h
    obtain ⟨g_SkipsError, R_SkipsError, V_SkipsError⟩ := B0
    refine ⟨_, (pss_cons (ps_expr (EK.pe_skinit (by rfl) g_SkipsError R_SkipsError V_SkipsError (pa_cons (pv 0) (pa_cons pe_str pa_nil))))
      (pss_one (ps_ost (pv 0) (pe_call c_kept.ok (hr.mono (by decide)) (by rfl) c_kept.g c_kept.kp c_kept.b .nil pass0 (pa_cons (pv 1) pa_nil))))), ?_⟩
    refine ⟨_, rfl, a, C, _, rfl, by show 1 ≤ 1000; decide, O, ha, ?_⟩
    refine ⟨_, rfl, v, d, rfl, hv, fun v' H1 e1 hv1 => ⟨_, rfl, a, C, rfl, O, N, .inl ⟨e1 _ _ ha, fun dx hd hne => ?_⟩⟩⟩
    exact q dx v' _ (ers_new ha e1 hd hne) (hv1.newx (e1 _ _ ha) hd)
theorem ok_TooMany {f C C0 : Addr} {fd : FuncData} (F : Fun K "__init__" "TooMany.__init__" s_TooMany_init f fd) (T : Tx mg) (B0 : BaseC K mg C0) (O : OexC K C) (N1 : PySem.W.findIn K (.ref C) "what" = some none) (N2 : PySem.W.findIn K (.ref C) "many" = some none) (N3 : PySem.W.findIn K (.ref C) "most" = some none)
    (c_kept : Kn P w K mg base "_kept" ["value"] 2 spKept) : FnOk P w K mg base CX0 3 f fd ["self", "what", "many", "most"] (spE3 C "what" "many" "most") := by
  refine F.ok sc_TooMany_init (fun vs H Q E h => ?_) (fun cdv A outer s H vs Q E hr h => ?_)
  · obtain ⟨a, v, d, u, e, z, b, rfl, _⟩ := h
    rfl
  · obtain ⟨a, v, d, u, e, z, b, rfl, ha, hv, hu, hz, q⟩ := h
    obtain ⟨g_SkipsError, R_SkipsError, V_SkipsError⟩ := B0
    refine ⟨_, (pss_cons (ps_expr (EK.pe_skinit (by rfl) g_SkipsError R_SkipsError V_SkipsError (pa_cons (pv 0) (pa_cons pe_str pa_nil))))
      (pss_cons (ps_ost (pv 0) (pe_call c_kept.ok (hr.mono (by decide)) (by rfl) c_kept.g c_kept.kp c_kept.b .nil pass0 (pa_cons (pv 1) pa_nil)))
      (pss_cons (ps_ost (pv 0) (pe_call c_kept.ok (hr.mono (by decide)) (by rfl) c_kept.g c_kept.kp c_kept.b .nil pass0 (pa_cons (pv 2) pa_nil)))
      (pss_one (ps_ost (pv 0) (pe_call c_kept.ok (hr.mono (by decide)) (by rfl) c_kept.g c_kept.kp c_kept.b .nil pass0 (pa_cons (pv 3) pa_nil))))))), ?_⟩
    refine ⟨_, rfl, a, C, _, rfl, by show 1 ≤ 1000; decide, O, ha, ?_⟩
    refine ⟨_, rfl, v, d, rfl, hv, fun v' H1 e1 hv1 => ⟨_, rfl, a, C, rfl, O, N1, .inl ⟨e1 _ _ ha, fun dx hd hne => ?_⟩⟩⟩
    have E1 := ers_new (f := "what") (v := v') ha e1 hd hne
    have hv2 := hv1.newx (fs := [("what", v')]) (e1 _ _ ha) hd
    refine ⟨_, rfl, u, e, rfl, hu.keep ha E1.k, fun u' H3 e3 hu3 => ⟨_, rfl, a, C, rfl, O, N2, .inr ⟨dx, _, e3 _ _ E1.o, e3 _ _ E1.x, by show 1 ≤ 900; decide, ?_⟩⟩⟩
    have E2 := ers_put (f := "many") (v := u') E1 e3
    have hv4 := (hv2.ex e3).over (fs := [("many", u'), ("what", v')]) (e3 _ _ E1.x)
    have hu4 := hu3.over (fs := [("many", u'), ("what", v')]) (e3 _ _ E1.x)
    refine ⟨_, rfl, z, b, rfl, hz.keep ha E2.k, fun z' H5 e5 hz5 => ⟨_, rfl, a, C, rfl, O, N3, .inr ⟨dx, _, e5 _ _ E2.o, e5 _ _ E2.x, by show 2 ≤ 900; decide, ?_⟩⟩⟩
    exact q dx v' u' z' _ (ers_put E2 e5) ((hv4.ex e5).over (e5 _ _ E2.x)) ((hu4.ex e5).over (e5 _ _ E2.x)) (hz5.over (e5 _ _ E2.x))
end
theorem AV.via {H H' : Hp} {v : V} {x : PyData} (h : AV H v x) (k : ∀ b o, H b = some o → (∀ xs, o = .tup xs → H' b = some o) ∧ (∀ xs, o = .lst xs → H' b = some o) ∧ (∀ xs, o = .dK xs → H' b = some o)) : AV H' v x := by
  cases h with
  | flat f => exact .flat f
  | tup h f l => exact .tup ((k _ _ h).1 _ rfl) f l
  | lst h f l => exact .lst ((k _ _ h).2.1 _ rfl) f l
  | emp h => exact .emp ((k _ _ h).2.2 _ rfl)
  | one h => exact .one ((k _ _ h).2.2 _ rfl)
theorem raise_endN {H1 H2 : Hp} {a C dx : Addr} {fs : List (Str × V)} {E : XK} (ha : H1 a = none) (e : Ers (upd H1 a (exo a C none)) a C dx fs H2)
    (q : ∀ d H', Ex H1 H' → H1 d = none → H' d = some (.xd fs) → (∀ v x, AV H2 v x → AV H' v x) → E (.ref C) (some d) H') :
    V.non = .non ∧ ∃ (d : Addr) (fs' : List (Str × V)), H2 a = some (exo a C (some d)) ∧ H2 d = some (exd d fs') ∧ H1 d = none ∧ E (.ref C) (some d) (upd (del H2 a) d (.xd fs')) := by
  have hd : H1 dx = none := by
    have := e.n
    rw [upd_ne e.ne] at this
    exact this
  have keep : ∀ b o, H2 b = some o → b ≠ a → b ≠ dx → (upd (del H2 a) dx (.xd fs)) b = some o := fun b o h n1 n2 => by
    rw [upd_ne n2, del_ne n1]
    exact h
  refine ⟨rfl, dx, _, e.o, e.x, hd, q dx _ (fun b o h => ?_) hd upd_same fun v x hv => ?_⟩
  · have nb : b ≠ a := fun z => by rw [z, ha] at h; cases h
    have nx : b ≠ dx := fun z => by rw [z, hd] at h; cases h
    exact keep b o (e.k b o (by rw [upd_ne nb]; exact h) nb) nb nx
  · refine hv.via fun b o h => ?_
    have go : (∀ z : exo a C (some dx) = o, False) → (∀ z : exd dx fs = o, False) → (upd (del H2 a) dx (.xd fs)) b = some o := fun h1 h2 => by
      refine keep b o h (fun z => ?_) (fun z => ?_)
      · rw [z, e.o] at h
        exact h1 (Option.some.inj h)
      · rw [z, e.x] at h
        exact h2 (Option.some.inj h)
    refine ⟨fun xs z => ?_, fun xs z => ?_, fun xs z => ?_⟩ <;> subst z <;> exact go (fun z => by cases z) (fun z => by cases z)
structure ErrC (K : PySem.W.Frag) (C f C0 : Addr) : Prop where
  o : OexC K C
  i : PySem.W.findIn K (.ref C) "__init__" = some (some (.ref f))
  t : PySem.W.typeIn K (.ref f) = some (.type "function")
  x : XfC K C
  e : ExcC K C
  s : PySem.W.kitOne K (.ref C) (.ref C0) = some true
structure Kn' (P : Program) (w : World) (K : PySem.W.Frag) (mg : Str → Option Value) (base : Heap) (CX : CXT) (x : Str) (ps : List Str) (k : Nat) (sp : Sp) where
  f : Addr
  fd : FuncData
  ok : FnOk P w K mg base CX k f fd ps sp
  g : mg x = some (.ref f)
  kp : PySem.W.keepIn K (.ref f) = true
  b : Binds K fd ps []
theorem av_int {H : Hp} {v : V} {i : Int} (h : AV H v (.int i)) : v = .int i := by
  cases h with
  | flat f => cases f; rfl
theorem av_str {H : Hp} {v : V} {z : Str} (h : AV H v (.str z)) : v = .str z := by
  cases h with
  | flat f => cases f; rfl
/-- an error with one field, whose value is the data x -/
def RzD (E : XK) (H : Hp) (C : Addr) (f : Str) (x : PyData) : Prop := ∀ d v' H', Ex H H' → H d = none → H' d = some (.xd [(f, v')]) → AV H' v' x → E (.ref C) (some d) H'
theorem RzD.ex {E : XK} {H H' : Hp} {C : Addr} {f : Str} {x : PyData} (h : RzD E H C f x) (e : Ex H H') : RzD E H' C f x := fun d v' H2 e2 hd hx hv => h d v' H2 (e.trans e2) (fresh_back e hd) hx hv
/-- an error with its fields -/
def RzF (E : XK) (H : Hp) (C : Addr) (fs : List (Str × V)) : Prop := ∀ d H', Ex H H' → H d = none → H' d = some (.xd fs) → E (.ref C) (some d) H'
theorem RzF.ex {E : XK} {H H' : Hp} {C : Addr} {fs : List (Str × V)} (h : RzF E H C fs) (e : Ex H H') : RzF E H' C fs := fun d H2 e2 hd hx => h d H2 (e.trans e2) (fresh_back e hd) hx
end Law

namespace Law
open PySem PySem.Spec PyProof.Rows L2 Evl EK TR
theorem raise_endD {H1 H2 : Hp} {a C dx : Addr} {f : Str} {v' : V} {x : PyData} {E : XK} (ha : H1 a = none) (e : Ers (upd H1 a (exo a C none)) a C dx [(f, v')] H2) (hv : AV H2 v' x) (q : RzD E H1 C f x) :
    V.non = .non ∧ ∃ (d : Addr) (fs' : List (Str × V)), H2 a = some (exo a C (some d)) ∧ H2 d = some (exd d fs') ∧ H1 d = none ∧ E (.ref C) (some d) (upd (del H2 a) d (.xd fs')) := by
  have hd : H1 dx = none := by
    have := e.n
    rw [upd_ne e.ne] at this
    exact this
  have keep : ∀ b o, H2 b = some o → b ≠ a → b ≠ dx → (upd (del H2 a) dx (.xd [(f, v')])) b = some o := fun b o h n1 n2 => by
    rw [upd_ne n2, del_ne n1]
    exact h
  refine ⟨rfl, dx, _, e.o, e.x, hd, q dx v' _ (fun b o h => ?_) hd upd_same ?_⟩
  · have nb : b ≠ a := fun z => by rw [z, ha] at h; cases h
    have nx : b ≠ dx := fun z => by rw [z, hd] at h; cases h
    exact keep b o (e.k b o (by rw [upd_ne nb]; exact h) nb) nb nx
  · refine hv.via fun b o h => ?_
    have go : (∀ z : exo a C (some dx) = o, False) → (∀ z : exd dx [(f, v')] = o, False) → (upd (del H2 a) dx (.xd [(f, v')])) b = some o := fun h1 h2 => by
      refine keep b o h (fun z => ?_) (fun z => ?_)
      · rw [z, e.o] at h
        exact h1 (Option.some.inj h)
      · rw [z, e.x] at h
        exact h2 (Option.some.inj h)
    refine ⟨fun xs z => ?_, fun xs z => ?_, fun xs z => ?_⟩ <;> subst z <;> exact go (fun z => by cases z) (fun z => by cases z)
/-- letters that are none -/
def OddL (K : PySem.W.Frag) (H : Hp) (v : V) : Prop := (∃ x, v = .str (tx x) ∧ x.length < 500 ∧ areB x = false) ∨ NoS K H v
def spCheckG (K : PySem.W.Frag) (CL CW : Addr) : Sp := fun vs H Q E => ∃ (v : V) (a : Addr) (k : Bool) (xs : List V), vs = [v, .ref a] ∧ SQ.WQ H a k xs ∧
  ((∃ L es, v = .str (tx L) ∧ LG L ∧ Els K H xs es ∧ xs.length < 100 ∧ ∀ H', Ex H H' → (∀ i : Nat, badW L es = some i → RzD E H' CW "place" (.int i)) ∧ (badW L es = none → Q .non H')) ∨
   (∃ d, AV H v d ∧ OddL K H v ∧ ∀ H', Ex H H' → RzD E H' CL "letters" d))
section
variable {P : Program} {w : World} {K : PySem.W.Frag} {mg : Str → Option Value} {base : Heap} {C_BadLetters C_BadWords C_BadText C_BadWish fL fW fT fX C0 : Addr} {fdL fdW fdT fdX : FuncData}
theorem ok_checkG {f : Addr} {fd : FuncData} (F : Fun K "check_words" "check_words" s_check_words f fd) (T : Tx mg) (E1 : ErrC K C_BadLetters fL C0) (E2 : ErrC K C_BadWords fW C0) (g_BadLetters : mg "BadLetters" = some (.ref C_BadLetters)) (g_BadWords : mg "BadWords" = some (.ref C_BadWords))
    (I_BadLetters : FnOk P w K mg base CX0 3 fL fdL ["self", "letters"] (spE1 C_BadLetters "letters")) (B_BadLetters : Binds K fdL ["self", "letters"] []) (I_BadWords : FnOk P w K mg base CX0 3 fW fdW ["self", "place"] (spE1 C_BadWords "place")) (B_BadWords : Binds K fdW ["self", "place"] [])
    (c_are_letters : Kn P w K mg base "are_letters" ["value"] 1 (spAreG K)) (c_wrong_word : Kn P w K mg base "wrong_word" ["letters", "words"] 3 (spWWG K)) : FnOk P w K mg base (L2.CX P w) 5 f fd ["letters", "words"] (spCheckG K C_BadLetters C_BadWords) := by
  refine F.okX sc_check_words (fun vs H Q E h => ?_) (fun cdv A outer s H vs Q E hr h => ?_)
  · obtain ⟨v, a, k, xs, rfl, _⟩ := h
    rfl
  · obtain ⟨v, a, k, xs, rfl, ha, h⟩ := h
    obtain ⟨O_BadLetters, i_BadLetters, t_BadLetters, _, _, _⟩ := E1
    obtain ⟨O_BadWords, i_BadWords, t_BadWords, _, _, _⟩ := E2
    refine ⟨_, (pss_cons (ps_if (pt_not (pt_val (pe_call c_are_letters.ok (hr.mono (by decide)) (by rfl) c_are_letters.g c_are_letters.kp c_are_letters.b .nil pass0 (pa_cons (pv 0) pa_nil)))) (pss_one (ps_raise rfl (takes_of rfl rfl rfl rfl) (pmk_oex O_BadLetters i_BadLetters t_BadLetters I_BadLetters (hr.mono (by decide)) B_BadLetters .nil pass0 (by rfl) g_BadLetters (pa_cons (pv 0) pa_nil)))) pss_nil)
      (pss_cons (ps_set (i := 2) sc_check_words.nd rfl (Or.inl rfl) (pe_call c_wrong_word.ok (hr.mono (by decide)) (by rfl) c_wrong_word.g c_wrong_word.kp c_wrong_word.b .nil pass0 (pa_cons (pv 0) (pa_cons (pv 1) pa_nil))))
      (pss_one (ps_if (pt_cmpR op_notN (pv 2) pe_non (nomark _)) (pss_one (ps_raise rfl (takes_of rfl rfl rfl rfl) (pmk_oex O_BadWords i_BadWords t_BadWords I_BadWords (hr.mono (by decide)) B_BadWords .nil pass0 (by rfl) g_BadWords (pa_cons (pv 2) pa_nil)))) pss_nil)))), ?_⟩
    rcases h with ⟨L, es, rfl, hL, EE, hx, q⟩ | ⟨d, hv, ho, q⟩
    · have h4 := hL.hi
      refine ⟨_, rfl, _, rfl, .inl ⟨L, rfl, by omega, fun H1 e1 => ?_⟩⟩
      rw [areB_good hL]
      refine ⟨true, rfl, ?_⟩
      refine ⟨_, rfl, _, rfl, L, a, k, xs, es, rfl, by omega, ha.ex e1, EE.ex e1, hx, fun H2 e2 => ?_⟩
      have q2 := q H2 (e1.trans e2)
      refine ⟨fun i hi => ?_, fun hn => ?_⟩
      · refine ⟨_, rfl, rfl, _, rfl, ite2 (fun _ => ?_) (fun hb => absurd (by simp) hb)⟩
        exact ⟨_, rfl, by show 1 ≤ 1000; decide, fun a ha => ⟨a, _, _, rfl, upd_same, .flat (.int _), fun dx v' H3 er av => raise_endD ha er av (q2.1 i hi)⟩⟩
      · exact ⟨_, rfl, rfl, _, rfl, ite2 (fun hb => absurd hb (by decide)) (fun _ => q2.2 hn)⟩
    · rcases ho with ⟨x, rfl, hx, hb⟩ | hn
      · refine ⟨_, rfl, _, rfl, .inl ⟨x, rfl, hx, fun H1 e1 => ?_⟩⟩
        rw [hb]
        refine ⟨false, rfl, ?_⟩
        exact ⟨_, rfl, by show 1 ≤ 1000; decide, fun a ha => ⟨a, _, d, rfl, upd_same, (hv.ex e1).ex (Ex.new ha), fun dx v' H3 er av => raise_endD ha er av (q H1 e1)⟩⟩
      · refine ⟨_, rfl, _, rfl, .inr ⟨hn, false, rfl, ?_⟩⟩
        exact ⟨_, rfl, by show 1 ≤ 1000; decide, fun a ha => ⟨a, _, d, rfl, upd_same, hv.ex (Ex.new ha), fun dx v' H3 er av => raise_endD ha er av (q H (Ex.refl _))⟩⟩
end
end Law

namespace Law
open PySem PySem.Spec PyProof.Rows L2 Evl EK TR
theorem dot_sg : Str.ofString "." = sg 46 := by decide +kernel
theorem sg_inj {c d : Nat} : V.str (sg c) = V.str (sg d) ↔ c = d := by
  constructor
  · intro h
    have h1 : sg c = sg d := V.str.inj h
    have h2 : (sg c).cps.toList = (sg d).cps.toList := by rw [h1]
    exact List.head_eq_of_cons_eq h2
  · intro h
    rw [h]
/-- does the k-th sign of z stand there -/
def okAt (K z : List Nat) (o k : Nat) : Bool := decide (K.length ≤ o + k) || (K.getD (o + k) 0 == 46 || K.getD (o + k) 0 == z.getD k 0)
def fitsF (K z : List Nat) (o : Nat) : Bool := (List.range z.length).all (okAt K z o)
def slidF (K : List Nat) (b : Nat) : List Nat := K.drop b ++ List.replicate (min b K.length) 46
theorem getD_at {l : List Nat} {i : Nat} (h : i < l.length) : l[i]? = some (l.getD i 0) := by
  rw [List.getD_eq_getElem?_getD, List.getElem?_eq_getElem h]
  rfl
theorem at_of_lt {l : List Nat} {i : Nat} (h : i < l.length) : atI l (i : Int) = some (l.getD i 0) := atI_nat (getD_at h)
def sgn (S z : List Nat) (n : Nat) : List Bool := (List.range n).map fun i => S.getD i 0 == 46 || S.getD i 0 == z.getD i 0
theorem sgn_succ (S z : List Nat) (n : Nat) : sgn S z (n + 1) = sgn S z n ++ [S.getD n 0 == 46 || S.getD n 0 == z.getD n 0] := by
  unfold sgn
  rw [List.range_succ, List.map_append]
  rfl
theorem sgn_len (S z : List Nat) (n : Nat) : (sgn S z n).length = n := by
  unfold sgn
  rw [List.length_map, List.length_range]
theorem bl_snoc (bs : List Bool) (b : Bool) : bs.map V.bl ++ [.bl b] = (bs ++ [b]).map V.bl := by
  rw [List.map_append]
  rfl
theorem fits_eq (K z : List Nat) (o : Nat) : (sgn ((K.drop o).take z.length) z (min ((K.drop o).take z.length).length z.length)).all id = fitsF K z o := by
  have hn : min ((K.drop o).take z.length).length z.length = min (K.length - o) z.length := by
    rw [List.length_take, List.length_drop]
    omega
  rw [hn, Bool.eq_iff_iff]
  unfold sgn fitsF
  rw [List.all_map, List.all_eq_true, List.all_eq_true]
  have get : ∀ k, k < min (K.length - o) z.length → ((K.drop o).take z.length).getD k 0 = K.getD (o + k) 0 := fun k hk => by
    rw [List.getD_eq_getElem?_getD, List.getD_eq_getElem?_getD, List.getElem?_take_of_lt (by omega), List.getElem?_drop]
  constructor
  · intro h k hk
    rw [List.mem_range] at hk
    unfold okAt
    by_cases q : K.length ≤ o + k
    · rw [decide_eq_true q]
      rfl
    · have h1 := h k (List.mem_range.mpr (by omega))
      have h1 : (((K.drop o).take z.length).getD k 0 == 46 || ((K.drop o).take z.length).getD k 0 == z.getD k 0) = true := h1
      rw [get k (by omega)] at h1
      rw [h1, Bool.or_true]
  · intro h k hk
    rw [List.mem_range] at hk
    have h1 := h k (List.mem_range.mpr (by omega))
    unfold okAt at h1
    rw [decide_eq_false (by omega), Bool.false_or] at h1
    show (((K.drop o).take z.length).getD k 0 == 46 || ((K.drop o).take z.length).getD k 0 == z.getD k 0) = true
    rw [get k hk]
    exact h1
theorem mul_dot (m : Nat) : Txt.mul (sg 46) (m : Int) = tx (List.replicate m 46) := by
  by_cases h : m = 0
  · subst h
    rfl
  · rw [sg_tx, mul_tx [46] (by omega), show (m : Int).toNat = m by omega]
    refine congrArg tx ?_
    clear h
    induction m with
    | zero => rfl
    | succ k ih => rw [List.replicate_succ, List.flatten_cons, ih]; rfl
theorem cut1 (k : List Nat) (o i : Nat) : cutS (tx k) (some ((o : Int) + (0 + (i : Int)))) (some ((o : Int) + (0 + (i : Int)) + 1)) = tx ((k.drop (o + i)).take 1) := by
  have := cut_mid k (o + i) 1
  rw [← this, show (o : Int) + (0 + (i : Int)) = ((o + i : Nat) : Int) by omega]
  rfl
theorem in_three {k z : List Nat} {o i : Nat} (hi : i < z.length) : inV (.str (tx ((k.drop (o + i)).take 1))) [.str (Str.ofString ""), .str (Str.ofString "."), .str (sg (z.getD i 0))] = okAt k z o i := by
  have e0 : Str.ofString "" = tx [] := by decide +kernel
  rw [e0, dot_sg]
  show ((tx [] == tx ((k.drop (o + i)).take 1)) || ((sg 46 == tx ((k.drop (o + i)).take 1)) || ((sg (z.getD i 0) == tx ((k.drop (o + i)).take 1)) || false))) = okAt k z o i
  have tt : ∀ a b : List Nat, (tx a == tx b) = decide (a = b) := fun a b => by
    rw [Bool.eq_iff_iff, beq_iff_eq, decide_eq_true_eq]
    exact ⟨fun h => tx_inj h, fun h => by rw [h]⟩
  rw [sg_tx, sg_tx, tt, tt, tt, Bool.or_false]
  unfold okAt
  by_cases q : k.length ≤ o + i
  · rw [List.drop_eq_nil_of_le q, decide_eq_true q]
    rfl
  · have hg : k[o + i]? = some (k.getD (o + i) 0) := getD_at (by omega)
    have e1 : (k.drop (o + i)).take 1 = [k.getD (o + i) 0] := by
      obtain ⟨hlt, he⟩ := List.getElem?_eq_some_iff.mp hg
      rw [List.drop_eq_getElem_cons hlt, he]
      rfl
    rw [e1, decide_eq_false q]
    generalize k.getD (o + i) 0 = c
    generalize z.getD i 0 = d
    rw [Bool.eq_iff_iff]
    simp
    constructor
    · rintro (h | h)
      · exact .inl h.symm
      · exact .inr h.symm
    · rintro (h | h)
      · exact .inl h.symm
      · exact .inr h.symm
def oks (k z : List Nat) (o n : Nat) : List Bool := (List.range n).map (okAt k z o)
theorem oks_succ (k z : List Nat) (o n : Nat) : oks k z o (n + 1) = oks k z o n ++ [okAt k z o n] := by
  unfold oks
  rw [List.range_succ, List.map_append]
  rfl
theorem oks_len (k z : List Nat) (o n : Nat) : (oks k z o n).length = n := by
  unfold oks
  rw [List.length_map, List.length_range]
theorem oks_all (k z : List Nat) (o : Nat) : (oks k z o z.length).all id = fitsF k z o := by
  unfold oks fitsF
  rw [List.all_map]
  rfl
def spFits : Sp := fun vs H Q _ => ∃ (k z : List Nat) (o : Nat), vs = [.str (tx k), .str (tx z), .int (o : Int)] ∧ k.length < 500 ∧ z.length < 500 ∧ o < 1000 ∧ ∀ H', Ex H H' → Q (.bl (fitsF k z o)) H'
def spSlid : Sp := fun vs H Q _ => ∃ (k : List Nat) (b : Nat), vs = [.str (tx k), .int (b : Int)] ∧ k.length < 500 ∧ ∀ H', Ex H H' → Q (.str (tx (slidF k b))) H'
section
variable {P : Program} {w : World} {K : PySem.W.Frag} {mg : Str → Option Value} {base : Heap}
theorem ok_fits {f : Addr} {fd : FuncData} (F : Fun K "fits" "fits" s_fits f fd) (T : Tx mg) : FnOk P w K mg base CX0 1 f fd ["known", "word", "offset"] spFits := by
  refine F.ok sc_fits (fun vs H Q E h => ?_) (fun cdv A outer s H vs Q E hr h => ?_)
  · obtain ⟨k, z, o, rfl, _⟩ := h
    rfl
  · obtain ⟨k, z, o, rfl, hk, hz, ho, q⟩ := h
    refine ⟨_, (pss_cons (ps_set (i := 3) sc_fits.nd rfl (Or.inl rfl) (pe_slice sl_str (pv 0) (po_some (pv 2)) (po_some (pe_op op_add (pv 2) (pe_callB call_len_str (by rfl) T.len PySem.boot_len (pa_cons (pv 1) pa_nil))))))
      (pss_one (ps_ret (pe_callB (cr_all rfl) (by rfl) T.all PyProof.Rows.boot_all (pa_cons (pe_lc (own := [("sign", 4), ("letter", 5)]) (g := gTup K 2 (gCons (gName 4) (gCons (gName 5) gNil))) (tt := tYes) rfl sc_fits.nd (ZS.pi_zipS (by rfl) T.zip (pa_cons (pv 3) (pa_cons (pv 1) pa_nil))) (blkOk_by (N := N_fits) (sc := defScope s_fits) (by decide +kernel)) (fun _ _ _ _ _ => (pg_tup (by rfl) (pgs_cons (pg_name (i := 4) sc_fits.nd rfl (Or.inl rfl)) (pgs_cons (pg_name (i := 5) sc_fits.nd rfl (Or.inl rfl)) pgs_nil)))) (fun _ _ _ _ _ => pts_nil) (fun _ _ _ _ _ => (pe_or (pe_cmpR op_eq (pv 4) pe_str (nomark _)) (pe_one (pe_cmpR op_eq (pv 4) (pv 5) (nomark _)))))) pa_nil))))), ?_⟩
    refine ⟨_, rfl, _, rfl, _, rfl, _, rfl, _, rfl, _, rfl, tx_le (by omega), _, _, rfl, rfl, _, rfl, _, rfl, tx_le (by omega), ?_⟩
    rw [tx_len, cut_mid]
    obtain ⟨S, hS⟩ : ∃ S, (k.drop o).take z.length = S := ⟨_, rfl⟩
    have hSl : S.length ≤ z.length := by
      rw [← hS, List.length_take]
      omega
    rw [hS]
    refine ⟨_, rfl, _, rfl, _, _, rfl, fun D hD => ?_⟩
    refine ZS.lc_zipS (x := tx S) (y := tx z) (fun i H' => Ex H H' ∧ H' D = some (.lst ((sgn S z i).map V.bl))) ⟨Ex.new hD, upd_same⟩ (fun i c d T' H1 hc hd hw hT => ?_) (fun H1 hw => ?_)
    · obtain ⟨e1, hL⟩ := hw
      have hc : S[i]? = some c := by
        rw [← hc]
        simp [tx]
      have hd : z[i]? = some d := by
        rw [← hd]
        simp [tx]
      have hi := (List.getElem?_eq_some_iff.mp hc).1
      have ec : S.getD i 0 = c := by rw [List.getD_eq_getElem?_getD, hc]; rfl
      have ed : z.getD i 0 = d := by rw [List.getD_eq_getElem?_getD, hd]; rfl
      have e2 : Ex H (upd H1 T' (.tup [.str (sg c), .str (sg d)])) := e1.trans (Ex.new hT)
      have hL2 : (upd H1 T' (.tup [.str (sg c), .str (sg d)])) D = some (.lst ((sgn S z i).map V.bl)) := Ex.new hT _ _ hL
      have done : ∀ b : Bool, b = (c == 46 || c == d) → ∃ acc, (upd H1 T' (.tup [.str (sg c), .str (sg d)])) D = some (.lst acc) ∧ acc.length < sizeLine ∧ (Ex H (upd (upd H1 T' (.tup [.str (sg c), .str (sg d)])) D (.lst (acc ++ [.bl b]))) ∧ (upd (upd H1 T' (.tup [.str (sg c), .str (sg d)])) D (.lst (acc ++ [.bl b]))) D = some (.lst ((sgn S z (i + 1)).map V.bl))) := fun b hb => by
        refine ⟨_, hL2, ?_, e2.mut hD, ?_⟩
        · rw [List.length_map, sgn_len]
          exact sz_lt (by omega)
        · rw [upd_same, sgn_succ, ← bl_snoc, ec, ed, hb]
      refine ⟨T', [.str (sg c), .str (sg d)], rfl, .inl (.inl upd_same), rfl, .str (sg c), [.str (sg d)], rfl, .str (sg d), [], rfl, rfl, rfl, _, rfl, rfl, _, rfl, ?_⟩
      by_cases h46 : c = 46
      · have x1 : decide (V.str (sg c) = V.str (Str.ofString ".")) = true := decide_eq_true (by rw [dot_sg, h46])
        rw [x1]
        exact done true (by rw [h46]; rfl)
      · have x1 : decide (V.str (sg c) = V.str (Str.ofString ".")) = false := decide_eq_false (by rw [dot_sg, sg_inj]; exact h46)
        rw [x1]
        refine ⟨_, rfl, _, rfl, rfl, ?_⟩
        have x2 : (c == 46) = false := by simpa using h46
        refine done _ ?_
        rw [x2, Bool.false_or]
        by_cases hcd : c = d
        · rw [hcd]
          simp
        · have x3 : (c == d) = false := by simpa using hcd
          rw [x3]
          exact decide_eq_false (by rw [sg_inj]; exact hcd)
    · obtain ⟨e1, hL⟩ := hw
      refine ⟨D, _, rfl, sq_of hL, ?_⟩
      have x : min (tx S).cps.size (tx z).cps.size = min S.length z.length := by simp [tx]
      rw [x, ← hS, fits_eq]
      exact q _ e1
theorem ok_slid {f : Addr} {fd : FuncData} (F : Fun K "slid" "slid" s_slid f fd) (T : Tx mg) : FnOk P w K mg base CX0 1 f fd ["known", "by"] spSlid := by
  refine F.ok sc_slid (fun vs H Q E h => ?_) (fun cdv A outer s H vs Q E hr h => ?_)
  · obtain ⟨k, b, rfl, _⟩ := h
    rfl
  · obtain ⟨k, b, rfl, hk, q⟩ := h
    refine ⟨_, (pss_one (ps_ret (pe_op op_add_str (pe_slice sl_str (pv 0) (po_some (pv 1)) po_none) (pe_op ZS.op_mulS pe_str (pe_callB (call_min2 rfl) (by rfl) T.min (by decide +kernel) (pa_cons (pv 1) (pa_cons (pe_callB call_len_str (by rfl) T.len PySem.boot_len (pa_cons (pv 0) pa_nil)) pa_nil))))))), ?_⟩
    refine ⟨_, rfl, _, rfl, _, rfl, _, rfl, tx_le (by omega), ?_⟩
    refine ⟨_, rfl, _, rfl, tx k, rfl, tx_le (by omega), _, _, rfl, ?_⟩
    have em : (if ((tx k).length : Int) < (b : Int) then ((tx k).length : Int) else (b : Int)) = ((min b k.length : Nat) : Int) := by
      rw [tx_len]
      by_cases q : (k.length : Int) < (b : Int)
      · rw [if_pos q]
        omega
      · rw [if_neg q]
        omega
    rw [em]
    refine ⟨_, _, rfl, rfl, ?_, ?_⟩
    · rw [dot_sg]
      exact mulOk_of 1 1000 (by rw [sg_len]; omega) (by omega) (by omega) (by decide) (by decide)
    rw [cut_from, dot_sg, mul_dot]
    refine ⟨_, _, rfl, rfl, ?_, ?_⟩
    · rw [tx_len, tx_len, List.length_drop, List.length_replicate]
      exact sz_le (by omega)
    · rw [tx_app]
      exact q _ (Ex.refl _)
theorem ok_lfits {f : Addr} {fd : FuncData} (F : Fun K "_law_fits" "_law_fits" s_lfits f fd) (T : Tx mg) : FnOk P w K mg base CX0 1 f fd ["_law_known", "_law_word", "_law_by"] spFits := by
  refine F.ok sc_lfits (fun vs H Q E h => ?_) (fun cdv A outer s H vs Q E hr h => ?_)
  · obtain ⟨k, z, o, rfl, _⟩ := h
    rfl
  · obtain ⟨k, z, o, rfl, hk, hz, ho, q⟩ := h
    refine ⟨_, (pss_one (ps_ret (pe_callB (cr_all rfl) (by rfl) T.all PyProof.Rows.boot_all (pa_cons (pe_lc (own := [("_law_k", 3)]) (g := gName 3) (tt := tYes) rfl sc_lfits.nd (pi_range1 (by rfl) T.range (pa_cons (pe_callB call_len_str (by rfl) T.len PySem.boot_len (pa_cons (pv 1) pa_nil)) pa_nil)) (blkOk_by (N := N_lfits) (sc := defScope s_lfits) (by decide +kernel)) (fun _ _ _ _ _ => (pg_name (i := 3) sc_lfits.nd rfl (Or.inl rfl))) (fun _ _ _ _ _ => pts_nil) (fun _ _ _ _ _ => (pe_cmpR (show OpR _ _ (rIn K false) from op_in_seq) (pe_slice sl_str (pv 0) (po_some (pe_op op_add (pv 2) (pv 3))) (po_some (pe_op op_add (pe_op op_add (pv 2) (pv 3)) pe_int))) (pe_tup (pa_cons pe_str (pa_cons pe_str (pa_cons (pe_ix ix_str (pv 1) (pv 3) (fun _ _ => rfl)) pa_nil)))) rfl))) pa_nil)))), ?_⟩
    refine ⟨_, rfl, _, rfl, tx_le (by omega), _, rfl, by omega, by rw [tx_len]; omega, fun D hD => ?_⟩
    rw [tx_len, Int.toNat_natCast]
    refine lc_range (lo := 0) (n := z.length) (fun i H' => Ex H H' ∧ H' D = some (.lst ((oks k z o i).map V.bl))) ⟨Ex.new hD, upd_same⟩ (fun i H1 hi hw => ?_) (fun H1 hw => ?_)
    · obtain ⟨e1, hL⟩ := hw
      refine ⟨rfl, _, rfl, _, rfl, _, rfl, _, _, rfl, rfl, _, rfl, _, rfl, _, rfl, _, _, rfl, rfl, _, _, rfl, rfl, _, rfl, _, rfl, tx_le (by omega), ?_⟩
      rw [cut1]
      refine ⟨_, rfl, _, rfl, _, _, z.getD i 0, rfl, rfl, tx_le (by omega), by rw [show (0 : Int) + (i : Int) = (i : Int) by omega]; exact at_of_lt hi, by show 3 ≤ sizeLine; decide, fun t ht => ?_⟩
      refine ⟨t, _, rfl, .inr (st_of upd_same), rfl, rfl, ?_⟩
      refine ⟨_, Ex.new ht _ _ hL, ?_, (e1.trans (Ex.new ht)).mut hD, ?_⟩
      · rw [List.length_map, oks_len]
        exact sz_lt (by omega)
      · rw [upd_same, oks_succ, ← bl_snoc, ← in_three hi]
        rfl
    · obtain ⟨e1, hL⟩ := hw
      refine ⟨D, _, rfl, sq_of hL, ?_⟩
      rw [oks_all]
      exact q _ e1
end
end Law

namespace Fg
def canF (ws : List (List Nat)) (k : List Nat) (o : Nat) : Bool := ws.any fun z => Law.fitsF k z o
def leastN (ws : List (List Nat)) (k : List Nat) : Nat → Nat → Nat
  | 0, o => o
  | n + 1, o => if canF ws k o = true then o else leastN ws k n (o + 1)
def leastF (ws : List (List Nat)) (k : List Nat) : Nat := leastN ws k (k.length + 1) 1
theorem can_far {ws : List (List Nat)} {k : List Nat} {o : Nat} (hw : 1 ≤ ws.length) (h : k.length ≤ o) : canF ws k o = true := by
  cases ws with
  | nil => exact absurd hw (by simp)
  | cons z r =>
    unfold canF
    rw [List.any_cons, Bool.or_eq_true]
    refine .inl ?_
    unfold Law.fitsF
    rw [List.all_eq_true]
    intro i _
    unfold Law.okAt
    rw [decide_eq_true (by omega)]
    rfl
theorem leastN_stop {ws : List (List Nat)} {k : List Nat} {n o : Nat} (h : canF ws k o = true) : leastN ws k n o = o := by
  cases n with
  | zero => rfl
  | succ n =>
    unfold leastN
    rw [if_pos h]
theorem leastN_go {ws : List (List Nat)} {k : List Nat} {n o : Nat} (h : canF ws k o = false) : leastN ws k (n + 1) o = leastN ws k n (o + 1) := by
  show (if canF ws k o = true then o else leastN ws k n (o + 1)) = _
  rw [if_neg (by rw [h]; decide)]
theorem leastN_ok {ws : List (List Nat)} {k : List Nat} (hw : 1 ≤ ws.length) : ∀ (n o : Nat), k.length ≤ o + n → o ≤ leastN ws k n o ∧ leastN ws k n o ≤ max o k.length ∧ canF ws k (leastN ws k n o) = true
  | 0, o, h => ⟨Nat.le_refl _, Nat.le_max_left _ _, can_far hw h⟩
  | n + 1, o, h => by
    by_cases q : canF ws k o = true
    · rw [leastN_stop q]
      exact ⟨Nat.le_refl _, Nat.le_max_left _ _, q⟩
    · have q2 : canF ws k o = false := by simpa using q
      rw [leastN_go q2]
      have ol : o < k.length := Nat.lt_of_not_le fun z => q (can_far hw z)
      obtain ⟨h1, h2, h3⟩ := leastN_ok (k := k) hw n (o + 1) (by omega)
      exact ⟨by omega, by omega, h3⟩
theorem leastF_ok {ws : List (List Nat)} {k : List Nat} (hw : 1 ≤ ws.length) (hk : 1 ≤ k.length) : 1 ≤ leastF ws k ∧ leastF ws k ≤ k.length ∧ canF ws k (leastF ws k) = true := by
  obtain ⟨h1, h2, h3⟩ := leastN_ok (k := k) hw (k.length + 1) 1 (by omega)
  exact ⟨h1, by unfold leastF; omega, h3⟩
end Fg
namespace Law
open PySem PySem.Spec PyProof.Rows L2 Evl EK TR Fg
theorem can_any {ws : List (List Nat)} {k : List Nat} {o : Nat} : ((ws.map fun z => fitsF k z o).any id) = canF ws k o := by
  unfold canF
  rw [List.any_map]
  rfl
def spLLeast : Sp := fun vs H Q _ => ∃ (a : Addr) (ws : List (List Nat)) (k : List Nat), vs = [.ref a, .str (tx k)] ∧ H a = some (.lst (wv ws)) ∧ 1 ≤ ws.length ∧ ws.length ≤ 10 ∧ (∀ z ∈ ws, z.length < 100) ∧ k.length < 100 ∧ ∀ H', Ex H H' → Q (.int (leastF ws k : Nat)) H'
section
variable {P : Program} {w : World} {K : PySem.W.Frag} {mg : Str → Option Value} {base : Heap}
theorem ok_lleast {f : Addr} {fd : FuncData} (F : Fun K "_law_least" "_law_least" s_lleast f fd) (T : Tx mg) (c_lfits : Kn P w K mg base "_law_fits" ["_law_known", "_law_word", "_law_by"] 1 spFits) : FnOk P w K mg base CX0 2 f fd ["_law_words", "_law_known"] spLLeast := by
  refine F.ok sc_lleast (fun vs H Q E h => ?_) (fun cdv A outer s H vs Q E hr h => ?_)
  · obtain ⟨a, ws, k, rfl, _⟩ := h
    rfl
  · obtain ⟨a, ws, k, rfl, ha, w1, w10, wz, hk, q⟩ := h
    refine ⟨_, (pss_cons (ps_set (i := 2) sc_lleast.nd rfl (Or.inr rfl) pe_int)
      (pss_cons (ps_while PassesOwn.never (pt_not (pt_val (pe_callB (cr_any rfl) (by rfl) T.any PyProof.Rows.boot_any (pa_cons (pe_lc (own := [("_law_word", 3)]) (g := gName 3) (tt := tYes) rfl sc_lleast.nd (pi_list (pv 0)) (blkOk_by (N := N_lleast) (sc := defScope s_lleast) (by decide +kernel)) (fun _ _ _ _ _ => (pg_name (i := 3) sc_lleast.nd rfl (Or.inl rfl))) (fun _ _ _ _ _ => pts_nil) (fun _ _ _ _ _ => (pe_call c_lfits.ok (hr.mono (by decide)) (by rfl) c_lfits.g c_lfits.kp c_lfits.b .nil pass0 (pa_cons (pv 1) (pa_cons (pv 3) (pa_cons (pv 2) pa_nil)))))) pa_nil)))) (pss_one (ps_set (i := 2) sc_lleast.nd rfl (Or.inr rfl) (pe_op op_add (pv 2) pe_int))))
      (pss_one (ps_ret (pv 2))))), ?_⟩
    dsimp only [gName]
    refine ⟨fun m σ H' => ∃ (o : Nat), σ = [some (.ref a), some (.str (tx k)), some (.int (o : Nat)), none] ∧ Ex H H' ∧ leastN ws k m o = leastF ws k ∧ o + m = k.length + 2,
      ⟨k.length + 1, 1, rfl, Ex.refl _, rfl, by omega⟩, fun m σ H' hw => ?_⟩
    obtain ⟨o, rfl, e1, hl, hm⟩ := hw
    refine ⟨_, rfl, a, rfl, ⟨_, sq_of (e1 _ _ ha)⟩, fun D hD => ?_⟩
    refine lc_list (xs := wv ws) (fun i H' => Ex H H' ∧ H' D = some (.lst (((ws.take i).map fun z => fitsF k z o).map V.bl))) ⟨e1.trans (Ex.new hD), upd_same⟩ (fun i H' _ p => sq_of (p.1 _ _ ha)) (fun i x H2 hx hw => ?_) (fun H2 hw => ?_)
    · obtain ⟨e2, hL⟩ := hw
      unfold wv at hx
      rw [List.getElem?_map] at hx
      obtain ⟨z, hz, rfl⟩ := Option.map_eq_some_iff.mp hx
      refine ⟨rfl, _, rfl, _, rfl, _, rfl, k, z, o, rfl, by omega, Nat.lt_trans (wz z (List.mem_of_getElem? hz)) (by decide), by omega, fun H3 e3 => ⟨_, e3 _ _ hL, ?_, (e2.trans e3).mut (fresh_back e1 hD), ?_⟩⟩
      · rw [List.length_map, List.length_map, List.length_take]
        exact sz_lt (by omega)
      · rw [upd_same, List.take_add_one, hz, List.map_append, List.map_append]
        rfl
    · obtain ⟨e2, hL⟩ := hw
      rw [show (wv ws).length = ws.length by unfold wv; rw [List.length_map], List.take_length] at hL
      refine ⟨D, _, rfl, sq_of hL, ?_⟩
      rw [can_any]
      cases hc : canF ws k o with
      | true =>
        refine ⟨true, rfl, ?_⟩
        refine ⟨_, rfl, ?_⟩
        rw [leastN_stop hc] at hl
        rw [hl]
        exact q _ e2
      | false =>
        refine ⟨false, rfl, fun σ' H' => ∃ m', m' < m ∧ ∃ (o : Nat), σ' = [some (.ref a), some (.str (tx k)), some (.int (o : Nat)), none] ∧ Ex H H' ∧ leastN ws k m' o = leastF ws k ∧ o + m' = k.length + 2, fun σ' H' h => h, ?_⟩
        cases m with
        | zero =>
          rw [can_far w1 (by omega)] at hc
          cases hc
        | succ m =>
          rw [leastN_go hc] at hl
          exact ⟨_, rfl, _, _, rfl, rfl, m, Nat.lt_succ_self m, o + 1, rfl, e2, hl, by omega⟩
end
end Law

namespace Fg
abbrev Mvt := Nat × Option Nat × List Nat
def viewF (p : List Nat) (i c : Nat) : List Nat := p.take i ++ [c] ++ p.drop (i + 1)
def mvF (ws : List (List Nat)) (p : List Nat) (i c : Nat) : Mvt :=
  if (decide (46 ∈ viewF p i c) && canF ws (viewF p i c) 0) = true then (0, none, viewF p i c)
  else (leastF ws (viewF p i c), if viewF p i c ∈ ws then some (ws.idxOf (viewF p i c)) else none, Law.slidF (viewF p i c) (leastF ws (viewF p i c)))
theorem view_len {p : List Nat} {i c : Nat} (h : i < p.length) : (viewF p i c).length = p.length := by
  unfold viewF
  rw [List.length_append, List.length_append, List.length_take, List.length_drop]
  simp
  omega
end Fg
namespace Law
open PySem PySem.Spec PyProof.Rows L2 Evl EK TR Fg
def nvV : Option Nat → V
  | none => .non
  | some n => .int (n : Nat)
def MvA (H : Hp) (v : V) (m : Mvt) : Prop := ∃ b, v = .ref b ∧ H b = some (.tup [.int (m.1 : Nat), nvV m.2.1, .str (tx m.2.2)])
theorem MvA.ex {H H' : Hp} {v : V} {m : Mvt} (h : MvA H v m) (e : Ex H H') : MvA H' v m := by
  obtain ⟨b, rfl, hb⟩ := h
  exact ⟨b, rfl, e _ _ hb⟩
theorem view_eq {p : List Nat} {i c : Nat} : cutS (tx p) none (some (i : Int)) ++ sg c ++ cutS (tx p) (some ((i : Int) + 1)) none = tx (viewF p i c) := by
  rw [cut_to, show (i : Int) + 1 = ((i + 1 : Nat) : Int) by omega, cut_from, sg_tx, tx_app, tx_app]
  rfl
theorem cutE {te : TE} {σ : L2.St} {H : Hp} {Q : VK} (Pv : V → Hp → Prop) (h : ∀ R : VK, (∀ v H', Pv v H' → R v H') → te σ H R) (r : ∀ v H', Pv v H' → Q v H') : te σ H Q := h Q r
theorem idx_tx {x : List Nat} : ∀ {ws : List (List Nat)}, (ws.map tx).idxOf (tx x) = ws.idxOf x
  | [] => rfl
  | y :: r => by
    rw [List.map_cons, List.idxOf_cons, List.idxOf_cons, idx_tx]
    have : (tx y == tx x) = (y == x) := by
      rw [Bool.eq_iff_iff, beq_iff_eq, beq_iff_eq]
      exact ⟨fun h => tx_inj h, fun h => by rw [h]⟩
    rw [this]
def spLMove : Sp := fun vs H Q _ => ∃ (a : Addr) (ws : List (List Nat)) (p : List Nat) (i c : Nat), vs = [.ref a, .str (tx p), .int (i : Nat), .str (sg c)] ∧ H a = some (.lst (wv ws)) ∧ 1 ≤ ws.length ∧ ws.length ≤ 10 ∧ (∀ z ∈ ws, z.length < 100) ∧ p.length < 100 ∧ i < p.length ∧
  ∀ H' v, Ex H H' → MvA H' v (mvF ws p i c) → Q v H'
section
variable {P : Program} {w : World} {K : PySem.W.Frag} {mg : Str → Option Value} {base : Heap}
theorem ok_lmove {f : Addr} {fd : FuncData} (F : Fun K "_law_move" "_law_move" s_lmove f fd) (T : Tx mg) (c_lfits : Kn P w K mg base "_law_fits" ["_law_known", "_law_word", "_law_by"] 1 spFits) (c_lleast : Kn P w K mg base "_law_least" ["_law_words", "_law_known"] 2 spLLeast) :
    FnOk P w K mg base CX0 3 f fd ["_law_words", "_law_partial", "_law_place", "_law_letter"] spLMove := by
  refine F.ok sc_lmove (fun vs H Q E h => ?_) (fun cdv A outer s H vs Q E hr h => ?_)
  · obtain ⟨a, ws, p, i, c, rfl, _⟩ := h
    rfl
  · obtain ⟨a, ws, p, i, c, rfl, ha, w1, w10, wz, hp, hi, q⟩ := h
    refine ⟨_, (pss_cons (ps_set (i := 4) sc_lmove.nd rfl (Or.inr rfl) (pe_op op_add_str (pe_op op_add_str (pe_slice sl_str (pv 1) po_none (po_some (pv 2))) (pv 3)) (pe_slice sl_str (pv 1) (po_some (pe_op op_add (pv 2) pe_int)) po_none)))
      (pss_cons (ps_if (PW.pt (pw_and (pt_cmpR op_in_sign pe_str (pv 4) rfl) (pw_and1 (pt_val (pe_callB (cr_any rfl) (by rfl) T.any PyProof.Rows.boot_any (pa_cons (pe_lc (own := [("_law_word", 5)]) (g := gName 5) (tt := tYes) rfl sc_lmove.nd (pi_list (pv 0)) (blkOk_by (N := N_lmove) (sc := defScope s_lmove) (by decide +kernel)) (fun _ _ _ _ _ => (pg_name (i := 5) sc_lmove.nd rfl (Or.inl rfl))) (fun _ _ _ _ _ => pts_nil) (fun _ _ _ _ _ => (pe_call c_lfits.ok (hr.mono (by decide)) (by rfl) c_lfits.g c_lfits.kp c_lfits.b .nil pass0 (pa_cons (pv 4) (pa_cons (pv 5) (pa_cons pe_int pa_nil)))))) pa_nil)))))) (pss_one (ps_ret (pe_tup (pa_cons pe_int (pa_cons pe_non (pa_cons (pv 4) pa_nil)))))) pss_nil)
      (pss_cons (ps_set (i := 6) sc_lmove.nd rfl (Or.inl rfl) (pe_call c_lleast.ok (hr.mono (by decide)) (by rfl) c_lleast.g c_lleast.kp c_lleast.b .nil pass0 (pa_cons (pv 0) (pa_cons (pv 4) pa_nil))))
      (pss_one (ps_ret (pe_tup (pa_cons (pv 6) (pa_cons (pe_ifExp (pt_cmpR op_in_seq (pv 4) (pv 0) rfl) (pe_bm PySem.F.plainAttrs_list PySem.F.slot_list_index PySem.F.type_list_index SQ.mt_ixL (pe_callTy call_list_of (by rfl) T.list PyProof.Rows.boot_list (pa_cons (pv 0) pa_nil)) (pa_cons (pv 4) pa_nil)) pe_non) (pa_cons (pe_op op_add_str (pe_slice sl_str (pv 4) (po_some (pv 6)) po_none) (pe_op ZS.op_mulS pe_str (pv 6))) pa_nil))))))))), ?_⟩
    have pl : (tx p).length ≤ sizeLine := tx_le (by omega)
    refine ⟨_, rfl, _, rfl, _, rfl, _, rfl, pl, _, rfl, _, _, rfl, rfl, ?_, _, rfl, _, rfl, _, _, rfl, rfl, _, rfl, _, rfl, pl, _, _, rfl, rfl, ?_, ?_⟩
    · rw [cut_to, tx_len, List.length_take, sg_len]
      exact sz_le (by omega)
    · rw [cut_to, show (i : Int) + 1 = ((i + 1 : Nat) : Int) by omega, cut_from, sg_tx, tx_app, tx_len, tx_len, List.length_append, List.length_take, List.length_drop]
      exact sz_le (by simp; omega)
    obtain ⟨vw, hvw⟩ : ∃ vw, viewF p i c = vw := ⟨_, rfl⟩
    have vl : vw.length = p.length := by rw [← hvw]; exact view_len hi
    dsimp only [gName]
    refine' st_eq (σ' := [some (.ref a), some (.str (tx p)), some (.int (i : Nat)), some (.str (sg c)), some (.str (tx vw)), none, none]) (by rw [← hvw, ← view_eq]; rfl) ?_
    refine q_when (b := decide (46 ∈ vw) && canF ws vw 0) (et_and (fun H4 e4 Q4 q4 => ?_) (fun _ H4 e4 Q4 q4 => ?_)) (fun hb H3 e3 => ?_) (fun hb H3 e3 => ?_)
    · exact ⟨_, rfl, 46, tx vw, congrArg V.str dot_sg, rfl, _, rfl, q4 _ (Ex.refl _)⟩
    · refine ⟨_, rfl, a, rfl, ⟨_, sq_of (e4 _ _ ha)⟩, fun D hD => ?_⟩
      refine lc_list (xs := wv ws) (fun i H' => Ex H4 H' ∧ H' D = some (.lst (((ws.take i).map fun z => fitsF vw z 0).map V.bl))) ⟨Ex.new hD, upd_same⟩ (fun i H' _ p => sq_of (p.1 _ _ (e4 _ _ ha))) (fun i x H2 hx hw => ?_) (fun H2 hw => ?_)
      · obtain ⟨e2, hL⟩ := hw
        unfold wv at hx
        rw [List.getElem?_map] at hx
        obtain ⟨z, hz, rfl⟩ := Option.map_eq_some_iff.mp hx
        refine ⟨rfl, _, rfl, _, rfl, vw, z, 0, rfl, by omega, Nat.lt_trans (wz z (List.mem_of_getElem? hz)) (by decide), by decide, fun H3 e3 => ⟨_, e3 _ _ hL, ?_, (e2.trans e3).mut hD, ?_⟩⟩
        · rw [List.length_map, List.length_map, List.length_take]
          exact sz_lt (by omega)
        · rw [upd_same, List.take_add_one, hz, List.map_append, List.map_append]
          rfl
      · obtain ⟨e2, hL⟩ := hw
        rw [show (wv ws).length = ws.length by unfold wv; rw [List.length_map], List.take_length] at hL
        refine ⟨D, _, rfl, sq_of hL, ?_⟩
        rw [can_any]
        exact ⟨_, rfl, q4 _ e2⟩
    · refine ⟨_, rfl, by show 3 ≤ sizeLine; decide, fun b hb2 => q _ _ (e3.trans (Ex.new hb2)) ⟨b, rfl, ?_⟩⟩
      unfold mvF
      rw [hvw, if_pos hb]
      exact upd_same
    · obtain ⟨l1, l2, _⟩ := leastF_ok (k := vw) w1 (by omega)
      refine ⟨_, rfl, _, rfl, a, ws, vw, rfl, e3 _ _ ha, w1, w10, wz, by omega, fun H5 e5 => ?_⟩
      have e6 := e3.trans e5
      dsimp only [gName]
      refine ⟨_, rfl, ?_⟩
      refine cutE (fun v H' => Ex H H' ∧ v = nvV (if vw ∈ ws then some (ws.idxOf vw) else none)) (fun R rest => ?_) ?_
      · refine ⟨_, rfl, _, rfl, a, _, rfl, .inl (sq_of (e6 _ _ ha)), rfl, flat_wv _, _, rfl, ?_⟩
        rw [inV_wv]
        refine ite2 (fun hm => ?_) (fun hm => ?_)
        · refine ⟨_, rfl, a, _, rfl, .inl (sq_of (e6 _ _ ha)), fun l hl => ⟨.inl ⟨rfl, _, sq_of upd_same⟩, _, rfl, ?_⟩⟩
          have hm2 : vw ∈ ws := of_decide_eq_true hm
          refine ⟨l, ws.map tx, tx vw, rfl, rfl, ?_, List.mem_map.mpr ⟨vw, hm2, rfl⟩, rest _ _ ⟨e6.trans (Ex.new hl), ?_⟩⟩
          · rw [List.map_map]
            exact sq_of upd_same
          · rw [if_pos hm2, idx_tx]
            rfl
        · have hm2 : vw ∉ ws := fun z => hm (decide_eq_true z)
          show R V.non H5
          exact rest _ _ ⟨e6, by rw [if_neg hm2]; rfl⟩
      · rintro v H6 ⟨e7, rfl⟩
        refine ⟨_, rfl, _, rfl, _, rfl, _, rfl, tx_le (by omega), ?_⟩
        refine ⟨_, rfl, _, _, rfl, rfl, ?_, ?_⟩
        · rw [dot_sg]
          exact mulOk_of 1 1000 (by rw [sg_len]; omega) (by omega) (by omega) (by decide) (by decide)
        rw [cut_from, dot_sg, mul_dot]
        refine ⟨_, _, rfl, rfl, ?_, by show 3 ≤ sizeLine; decide, fun b hb2 => ?_⟩
        · rw [tx_len, tx_len, List.length_drop, List.length_replicate]
          exact sz_le (by omega)
        rw [tx_app]
        refine q _ _ (e7.trans (Ex.new hb2)) ⟨b, rfl, ?_⟩
        have hm : mvF ws p i c = (leastF ws vw, if vw ∈ ws then some (ws.idxOf vw) else none, vw.drop (leastF ws vw) ++ List.replicate (leastF ws vw) 46) := by
          unfold mvF slidF
          rw [hvw, hb, Nat.min_eq_left l2]
          rfl
        rw [hm]
        exact upd_same
end
end Law

/-! the walk over the partial words, pure -/
namespace Fg
open Law
def dots (p : List Nat) : List Nat := (List.range p.length).filter fun k => p.getD k 0 == 46
def succs (L : List Nat) (ws : List (List Nat)) (p : List Nat) : List (List Nat) := (dots p).flatMap fun i => L.map fun c => (mvF ws p i c).2.2
/-- so many steps of the walk lead from these found and waiting ones to all that are found -/
inductive Exp (L : List Nat) (ws : List (List Nat)) : Nat → List (List Nat) → List (List Nat) → List (List Nat) → Prop
  | done (found : List (List Nat)) : Exp L ws 0 found [] found
  | old {n : Nat} {found wt r : List (List Nat)} {p : List Nat} : p ∈ found → Exp L ws n found wt r → Exp L ws (n + 1) found (wt ++ [p]) r
  | new {n : Nat} {found wt r : List (List Nat)} {p : List Nat} : p ∉ found → Exp L ws n (found ++ [p]) (wt ++ succs L ws p) r → Exp L ws (n + 1) found (wt ++ [p]) r
theorem Exp.nil {L : List Nat} {ws : List (List Nat)} {n : Nat} {found r : List (List Nat)} (h : Exp L ws n found [] r) : r = found := by
  generalize hw : ([] : List (List Nat)) = wt at h
  cases h with
  | done => rfl
  | old _ _ => exact absurd hw (by simp)
  | new _ _ => exact absurd hw (by simp)
theorem Exp.snoc {L : List Nat} {ws : List (List Nat)} {n : Nat} {found wt r : List (List Nat)} {p : List Nat} (h : Exp L ws n found (wt ++ [p]) r) : ∃ m, n = m + 1 ∧ ((p ∈ found ∧ Exp L ws m found wt r) ∨ (p ∉ found ∧ Exp L ws m (found ++ [p]) (wt ++ succs L ws p) r)) := by
  generalize hw : wt ++ [p] = wt' at h
  cases h with
  | done => exact absurd hw (by simp)
  | @old n found wt2 r p2 h1 h2 =>
    obtain ⟨e1, e2⟩ := List.append_inj' hw rfl
    cases e2
    subst e1
    exact ⟨n, rfl, .inl ⟨h1, h2⟩⟩
  | @new n found wt2 r p2 h1 h2 =>
    obtain ⟨e1, e2⟩ := List.append_inj' hw rfl
    cases e2
    subst e1
    exact ⟨n, rfl, .inr ⟨h1, h2⟩⟩
structure Wds (L : List Nat) (m : Nat) (ws : List (List Nat)) : Prop where
  lo : 1 ≤ ws.length
  hi : ws.length ≤ 3
  of : ∀ z ∈ ws, WG L m z
  nd : ws.Nodup
  m1 : 1 ≤ m
  m6 : m ≤ 6
  no : 46 ∉ L
/-- a partial word -/
structure Pt (ws : List (List Nat)) (m : Nat) (p : List Nat) : Prop where
  len : p.length = m
  dot : 46 ∈ p
  fit : canF ws p 0 = true
def masks : List Nat → List (List Nat)
  | [] => [[]]
  | c :: r => (masks r).map (fun q => c :: q) ++ (masks r).map (fun q => 46 :: q)
theorem masks_len : ∀ z : List Nat, (masks z).length = 2 ^ z.length
  | [] => rfl
  | c :: r => by
    unfold masks
    rw [List.length_append, List.length_map, List.length_map, masks_len r, List.length_cons, Nat.pow_succ]
    omega
theorem fits_masks : ∀ {z p : List Nat}, p.length = z.length → (∀ i, i < z.length → p.getD i 0 = 46 ∨ p.getD i 0 = z.getD i 0) → p ∈ masks z
  | [], p, hl, _ => by
    have : p = [] := List.length_eq_zero_iff.mp hl
    rw [this]
    exact List.mem_singleton.mpr rfl
  | c :: r, [], hl, _ => by simp at hl
  | c :: r, d :: q, hl, h => by
    have hl2 : q.length = r.length := by simpa using hl
    have ih := fits_masks hl2 fun i hi => by
      have := h (i + 1) (by rw [List.length_cons]; omega)
      simpa using this
    have h0 : d = 46 ∨ d = c := by
      have := h 0 (by rw [List.length_cons]; omega)
      simpa using this
    unfold masks
    rw [List.mem_append, List.mem_map, List.mem_map]
    rcases h0 with rfl | rfl
    · exact .inr ⟨q, ih, rfl⟩
    · exact .inl ⟨q, ih, rfl⟩
theorem self_masks : ∀ z : List Nat, z ∈ masks z
  | [] => List.mem_singleton.mpr rfl
  | c :: r => by
    unfold masks
    rw [List.mem_append, List.mem_map]
    exact .inl ⟨r, self_masks r, rfl⟩
theorem fits_at {p z : List Nat} {o : Nat} (h : fitsF p z o = true) {i : Nat} (hi : i < z.length) (hp : o + i < p.length) : p.getD (o + i) 0 = 46 ∨ p.getD (o + i) 0 = z.getD i 0 := by
  unfold fitsF at h
  rw [List.all_eq_true] at h
  have := h i (List.mem_range.mpr hi)
  unfold okAt at this
  rw [decide_eq_false (by omega), Bool.false_or, Bool.or_eq_true, beq_iff_eq, beq_iff_eq] at this
  exact this
theorem Pt.mask {L : List Nat} {ws : List (List Nat)} {m : Nat} {p : List Nat} (W : Wds L m ws) (h : Pt ws m p) : ∃ z ∈ ws, p ∈ masks z := by
  have hf := h.fit
  unfold canF at hf
  rw [List.any_eq_true] at hf
  obtain ⟨z, hz, hf⟩ := hf
  have zl := (W.of z hz).len
  refine ⟨z, hz, fits_masks (by rw [h.len, zl]) fun i hi => ?_⟩
  have := fits_at hf hi (by rw [h.len]; omega)
  rwa [Nat.zero_add] at this
theorem Pt.sign {L : List Nat} {ws : List (List Nat)} {m : Nat} {p : List Nat} (W : Wds L m ws) (h : Pt ws m p) : ∀ c ∈ p, c = 46 ∨ c ∈ L := fun c hc => by
  have hf := h.fit
  unfold canF at hf
  rw [List.any_eq_true] at hf
  obtain ⟨z, hz, hf⟩ := hf
  have zl := (W.of z hz).len
  obtain ⟨i, hi, e⟩ := List.mem_iff_getElem.mp hc
  have hl := h.len
  have := fits_at hf (i := i) (by omega) (by omega)
  rw [Nat.zero_add, List.getD_eq_getElem?_getD, List.getElem?_eq_getElem hi, List.getD_eq_getElem?_getD, List.getElem?_eq_getElem (show i < z.length by omega)] at this
  have : p[i] = 46 ∨ p[i] = z[i] := this
  rw [e] at this
  rcases this with h | h
  · exact .inl h
  · rw [h]
    exact .inr ((W.of z hz).of _ (List.getElem_mem _))
theorem sum_const {α : Type} (f : α → Nat) (k : Nat) : ∀ l : List α, (∀ x ∈ l, f x = k) → (l.map f).sum = l.length * k
  | [], _ => by simp
  | x :: r, h => by
    rw [List.map_cons, List.sum_cons, sum_const f k r (fun y hy => h y (List.mem_cons_of_mem _ hy)), h x (List.mem_cons_self ..), List.length_cons, Nat.succ_mul]
    omega
theorem found_le {L : List Nat} {ws : List (List Nat)} {m : Nat} (W : Wds L m ws) {found : List (List Nat)} (nd : found.Nodup) (h : ∀ p ∈ found, Pt ws m p) : found.length + ws.length ≤ ws.length * 2 ^ m := by
  have e : (ws.flatMap masks).length = ws.length * 2 ^ m := by
    rw [List.length_flatMap]
    exact sum_const _ _ _ fun z hz => by rw [masks_len, (W.of z hz).len]
  have nd2 : (found ++ ws).Nodup := by
    rw [List.nodup_append]
    refine ⟨nd, W.nd, fun a ha b hb e => ?_⟩
    subst e
    exact W.no ((W.of _ hb).of _ (h _ ha).dot)
  have sub : (found ++ ws) ⊆ ws.flatMap masks := fun p hp => by
    rw [List.mem_flatMap]
    rcases List.mem_append.mp hp with hp | hp
    · obtain ⟨z, hz, hm⟩ := (h p hp).mask W
      exact ⟨z, hz, hm⟩
    · exact ⟨p, hp, self_masks p⟩
  have := nd2.length_le_of_subset sub
  rw [List.length_append, e] at this
  exact this
theorem found63 {L : List Nat} {ws : List (List Nat)} {m : Nat} (W : Wds L m ws) (hm : ws.length = 1 ∨ m ≤ 4) {found : List (List Nat)} (nd : found.Nodup) (h : ∀ p ∈ found, Pt ws m p) : found.length ≤ 63 := by
  have h1 := found_le W nd h
  have hp : ∀ k : Nat, k ≤ 6 → (ws.length = 1 ∨ k ≤ 4) → ws.length * 2 ^ k ≤ 63 + ws.length := fun k hk hh => by
    have lo := W.lo
    have hi := W.hi
    have : k = 0 ∨ k = 1 ∨ k = 2 ∨ k = 3 ∨ k = 4 ∨ k = 5 ∨ k = 6 := by omega
    rcases this with rfl | rfl | rfl | rfl | rfl | rfl | rfl <;> omega
  have := hp m W.m6 hm
  omega
theorem dots_mem {p : List Nat} {i : Nat} (h : i ∈ dots p) : i < p.length ∧ p.getD i 0 = 46 := by
  unfold dots at h
  rw [List.mem_filter, List.mem_range, beq_iff_eq] at h
  exact h
theorem slid_len (K : List Nat) (b : Nat) : (slidF K b).length = K.length := by
  unfold slidF
  rw [List.length_append, List.length_drop, List.length_replicate]
  omega
theorem slid_get (K : List Nat) (b i : Nat) (h : i < K.length) : (slidF K b).getD i 0 = if b + i < K.length then K.getD (b + i) 0 else 46 := by
  unfold slidF
  by_cases q : b + i < K.length
  · rw [if_pos q, List.getD_eq_getElem?_getD, List.getElem?_append_left (by rw [List.length_drop]; omega), List.getElem?_drop, List.getD_eq_getElem?_getD]
  · rw [if_neg q, List.getD_eq_getElem?_getD, List.getElem?_append_right (by rw [List.length_drop]; omega), List.getElem?_replicate, if_pos (by rw [List.length_drop]; omega)]
    rfl
theorem slid_fit {ws : List (List Nat)} {k : List Nat} {b : Nat} (h : canF ws k b = true) : canF ws (slidF k b) 0 = true := by
  unfold canF at h ⊢
  rw [List.any_eq_true] at h ⊢
  obtain ⟨z, hz, hf⟩ := h
  refine ⟨z, hz, ?_⟩
  unfold fitsF at hf ⊢
  rw [List.all_eq_true] at hf ⊢
  intro i hi
  have := hf i hi
  unfold okAt at this ⊢
  rw [slid_len, Nat.zero_add]
  by_cases q : k.length ≤ i
  · rw [decide_eq_true q]
    rfl
  · rw [decide_eq_false q, Bool.false_or, slid_get _ _ _ (by omega)]
    by_cases q2 : b + i < k.length
    · rw [if_pos q2]
      rw [decide_eq_false (by omega), Bool.false_or] at this
      exact this
    · rw [if_neg q2]
      rfl
theorem mv_pt {L : List Nat} {ws : List (List Nat)} {m : Nat} (W : Wds L m ws) {p : List Nat} (hp : p.length = m) {i c : Nat} (hi : i < m) : Pt ws m (mvF ws p i c).2.2 := by
  have vl : (viewF p i c).length = m := by rw [view_len (by omega), hp]
  have m1 := W.m1
  unfold mvF
  by_cases q : (decide (46 ∈ viewF p i c) && canF ws (viewF p i c) 0) = true
  · rw [if_pos q]
    rw [Bool.and_eq_true, decide_eq_true_eq] at q
    exact ⟨vl, q.1, q.2⟩
  · rw [if_neg q]
    obtain ⟨l1, l2, l3⟩ := leastF_ok (k := viewF p i c) W.lo (by omega)
    refine ⟨by rw [slid_len, vl], ?_, slid_fit l3⟩
    show 46 ∈ slidF _ _
    unfold slidF
    rw [List.mem_append]
    refine .inr (List.mem_replicate.mpr ⟨by omega, rfl⟩)
theorem succs_pt {L : List Nat} {ws : List (List Nat)} {m : Nat} (W : Wds L m ws) {p : List Nat} (hp : p.length = m) : ∀ q ∈ succs L ws p, Pt ws m q := fun q hq => by
  unfold succs at hq
  obtain ⟨i, hi, hq⟩ := List.mem_flatMap.mp hq
  obtain ⟨c, _, rfl⟩ := List.mem_map.mp hq
  exact mv_pt W hp (by rw [← hp]; exact (dots_mem hi).1)
theorem dot_pt {L : List Nat} {ws : List (List Nat)} {m : Nat} (W : Wds L m ws) : Pt ws m (List.replicate m 46) := by
  have m1 := W.m1
  refine ⟨List.length_replicate, List.mem_replicate.mpr ⟨by omega, rfl⟩, ?_⟩
  unfold canF
  rw [List.any_eq_true]
  cases hw : ws with
  | nil => have := W.lo; rw [hw] at this; simp at this
  | cons z r =>
    refine ⟨z, List.mem_cons_self .., ?_⟩
    unfold fitsF
    rw [List.all_eq_true]
    intro i _
    unfold okAt
    rw [List.length_replicate, Nat.zero_add]
    by_cases q : m ≤ i
    · rw [decide_eq_true q]
      rfl
    · rw [List.getD_eq_getElem?_getD, List.getElem?_replicate, if_pos (by omega)]
      simp
theorem exp_total {L : List Nat} {ws : List (List Nat)} {m : Nat} (W : Wds L m ws) (hm : ws.length = 1 ∨ m ≤ 4) : ∀ (a b : Nat) (found wt : List (List Nat)), found.Nodup → (∀ p ∈ found, Pt ws m p) → (∀ p ∈ wt, Pt ws m p) → 64 - found.length ≤ a → wt.length ≤ b → ∃ n r, Exp L ws n found wt r
  | a, 0, found, wt, nd, hf, hw, ha, hb => by
    have : wt = [] := List.length_eq_zero_iff.mp (by omega)
    rw [this]
    exact ⟨0, found, .done found⟩
  | 0, b + 1, found, wt, nd, hf, hw, ha, hb => by
    have := found63 W hm nd hf
    omega
  | a + 1, b + 1, found, wt, nd, hf, hw, ha, hb => by
    rcases List.eq_nil_or_concat wt with rfl | ⟨wt2, p, rfl⟩
    · exact ⟨0, found, .done found⟩
    · rw [List.concat_eq_append] at hw hb ⊢
      have hp := hw p (by simp)
      have hw2 : ∀ q ∈ wt2, Pt ws m q := fun q hq => hw q (by simp [hq])
      by_cases q : p ∈ found
      · obtain ⟨n, r, h⟩ := exp_total W hm (a + 1) b found wt2 nd hf hw2 ha (by rw [List.length_append] at hb; simp at hb; omega)
        exact ⟨n + 1, r, .old q h⟩
      · have nd2 : (found ++ [p]).Nodup := by
          rw [List.nodup_append]
          exact ⟨nd, by simp, fun x hx y hy e => by rw [List.mem_singleton.mp hy] at e; exact q (e ▸ hx)⟩
        have hf2 : ∀ q ∈ found ++ [p], Pt ws m q := fun x hx => by
          rcases List.mem_append.mp hx with h | h
          · exact hf x h
          · rw [List.mem_singleton.mp h]
            exact hp
        have hf63 := found63 W hm nd2 hf2
        rw [List.length_append] at hf63
        obtain ⟨n, r, h⟩ := exp_total W hm a (wt2 ++ succs L ws p).length (found ++ [p]) (wt2 ++ succs L ws p) nd2 hf2 (fun x hx => by
          rcases List.mem_append.mp hx with h | h
          · exact hw2 x h
          · exact succs_pt W hp.len x h) (by rw [List.length_append]; simp at hf63 ⊢; omega) (Nat.le_refl _)
        exact ⟨n + 1, r, .new q h⟩
termination_by a b => (a, b)
theorem exp_inv {L : List Nat} {ws : List (List Nat)} {m : Nat} (W : Wds L m ws) {n : Nat} {found wt r : List (List Nat)} (h : Exp L ws n found wt r) : found.Nodup → (∀ p ∈ found, Pt ws m p) → (∀ p ∈ wt, Pt ws m p) → r.Nodup ∧ ∀ p ∈ r, Pt ws m p := by
  induction h with
  | done found => exact fun nd hf _ => ⟨nd, hf⟩
  | @old n found wt r p _ _ ih => exact fun nd hf hw => ih nd hf fun q hq => hw q (by simp [hq])
  | @new n found wt r p q _ ih =>
    intro nd hf hw
    have hp := hw p (by simp)
    refine ih ?_ (fun x hx => ?_) (fun x hx => ?_)
    · rw [List.nodup_append]
      exact ⟨nd, by simp, fun x hx y hy e => by rw [List.mem_singleton.mp hy] at e; exact q (e ▸ hx)⟩
    · rcases List.mem_append.mp hx with h | h
      · exact hf x h
      · rw [List.mem_singleton.mp h]
        exact hp
    · rcases List.mem_append.mp hx with h | h
      · exact hw x (by simp [h])
      · exact succs_pt W hp.len x h
/-- all partial words, in the order in which they are found -/
theorem walk_all {L : List Nat} {ws : List (List Nat)} {m : Nat} (W : Wds L m ws) (hm : ws.length = 1 ∨ m ≤ 4) : ∃ n r, Exp L ws n [] [List.replicate m 46] r ∧ r.Nodup ∧ (∀ p ∈ r, Pt ws m p) ∧ r.length ≤ 63 := by
  have hw : ∀ p ∈ [List.replicate m 46], Pt ws m p := fun p hp => by
    rw [List.mem_singleton.mp hp]
    exact dot_pt W
  obtain ⟨n, r, h⟩ := exp_total (L := L) W hm 64 1 [] [List.replicate m 46] List.nodup_nil (fun _ h => nomatch h) hw (by simp) (by simp)
  obtain ⟨nd, hr⟩ := exp_inv W h List.nodup_nil (fun _ h => nomatch h) hw
  exact ⟨n, r, h, nd, hr, found63 W hm nd hr⟩
end Fg

/-! xs == [] and xs != [], whatever stands in xs -/
namespace NL
open PySem PySem.Spec PyProof.Rows L2
def rEqNil (K : PySem.W.Frag) : R2 := fun x y H Q => ∃ a b xs, x = .ref a ∧ y = .ref b ∧ SqL K H a xs ∧ SqL K H b [] ∧ Q (.bl (decide (xs.length = 0))) H
def rNeNil (K : PySem.W.Frag) : R2 := fun x y H Q => ∃ a b xs, x = .ref a ∧ y = .ref b ∧ SqL K H a xs ∧ SqL K H b [] ∧ Q (.bl (!decide (xs.length = 0))) H
section
variable {X : Cx}
theorem op_eqNil (hu : X.A.units + 64 < cLine) : OpR X (compareOp .Eq) (rEqNil X.K) := by
  intro pins s σ H x y v u Q I rx ry h
  obtain ⟨a, b, xs, rfl, rfl, ha, hb, q⟩ := h
  cases (show v = Value.ref a from rx)
  cases (show u = Value.ref b from ry)
  obtain ⟨us, r1, p1, _⟩ := I.list ha
  obtain ⟨ws, r2, p2, _⟩ := I.list hb
  cases r2
  have l1 := r1.length
  have un : X.A.units < cLine := by omega
  show wpAny _ _ (richCompare .Eq _ _) _ _ _
  by_cases hx : xs.length = 0
  · rw [decide_eq_true hx] at q
    have hz : us.toArray.size = ([] : List Value).toArray.size := by rw [List.size_toArray, List.size_toArray, ← l1, hx]; rfl
    refine (SeqAt.RcAt.lists (e := fun _ => true) p1.isList p2.isList hz un fun j h1 h2 => absurd h2 (Nat.not_lt_zero j)) X.prog X.w _ _ ?_
    refine ⟨.bl true, H, I, ?_, q⟩
    show Value.bool _ = Value.bool true
    rw [show ((List.range us.toArray.size).all fun _ => true) = true from List.all_eq_true.mpr fun _ _ => rfl]
  · rw [decide_eq_false hx] at q
    refine (SeqAt.RcAt.lists_lengths p1.isList p2.isList ?_ un) X.prog X.w _ _ ⟨.bl false, H, I, rfl, q⟩
    rw [bne_iff_ne, List.size_toArray, List.size_toArray, ← l1]
    exact hx
theorem op_neNil (hu : X.A.units + 64 < cLine) : OpR X (compareOp .NotEq) (rNeNil X.K) := by
  intro pins s σ H x y v u Q I rx ry h
  obtain ⟨a, b, xs, rfl, rfl, ha, hb, q⟩ := h
  cases (show v = Value.ref a from rx)
  cases (show u = Value.ref b from ry)
  obtain ⟨us, r1, p1, _⟩ := I.list ha
  obtain ⟨ws, r2, p2, _⟩ := I.list hb
  cases r2
  have l1 := r1.length
  have un : X.A.units < cLine := by omega
  show wpAny _ _ (richCompare .NotEq _ _) _ _ _
  by_cases hx : xs.length = 0
  · rw [decide_eq_true hx] at q
    have hz : us.toArray.size = ([] : List Value).toArray.size := by rw [List.size_toArray, List.size_toArray, ← l1, hx]; rfl
    refine (SeqAt.RcNeAt.lists (e := fun _ => true) p1.isList p2.isList hz un fun j h1 h2 => absurd h2 (Nat.not_lt_zero j)) X.prog X.w _ _ ?_
    refine ⟨.bl false, H, I, ?_, q⟩
    show Value.bool _ = Value.bool false
    rw [show ((List.range us.toArray.size).all fun _ => true) = true from List.all_eq_true.mpr fun _ _ => rfl]
    rfl
  · rw [decide_eq_false hx] at q
    refine (SeqAt.RcNeAt.lists_lengths p1.isList p2.isList ?_ un) X.prog X.w _ _ ⟨.bl true, H, I, rfl, q⟩
    rw [bne_iff_ne, List.size_toArray, List.size_toArray, ← l1]
    exact hx
end
end NL

namespace Srt
open PySem PySem.Spec PyProof.Rows
theorem lt_tri : ∀ a b : List Nat, ltCps a b = false → ltCps b a = false → a = b
  | [], [], _, _ => rfl
  | [], _ :: _, h, _ => by cases h
  | _ :: _, [], _, h => by cases h
  | x :: a, y :: b, h1, h2 => by
    unfold ltCps at h1 h2
    rw [Bool.or_eq_false_iff, Bool.and_eq_false_iff, decide_eq_false_iff_not, beq_eq_false_iff_ne] at h1 h2
    have e : x = y := by omega
    subst e
    rw [lt_tri a b (h1.2.resolve_left (by simp)) (h2.2.resolve_left (by simp))]
theorem le_trans' : ∀ a b c : List Nat, ltCps b a = false → ltCps c b = false → ltCps c a = false
  | [], [], [], _, _ => rfl
  | [], [], _ :: _, _, h => h
  | [], _ :: _, [], _, h => by cases h
  | [], _ :: _, _ :: _, _, _ => rfl
  | _ :: _, [], _, h, _ => by cases h
  | _ :: _, _ :: _, [], _, h => by cases h
  | x :: a, y :: b, z :: c, h1, h2 => by
    unfold ltCps at h1 h2 ⊢
    rw [Bool.or_eq_false_iff, Bool.and_eq_false_iff, decide_eq_false_iff_not, beq_eq_false_iff_ne] at h1 h2 ⊢
    refine ⟨by omega, ?_⟩
    by_cases q : z = x
    · have e1 : y = x := by omega
      subst q
      subst e1
      exact .inr (le_trans' a b c (h1.2.resolve_left (by simp)) (h2.2.resolve_left (by simp)))
    · exact .inl q
theorem pw : ∀ (r : List Str) (x : Str), risingS x r = true → (x :: r).Pairwise (fun a b => ltCps b.cps.toList a.cps.toList = false)
  | [], x, _ => by simp
  | y :: r, x, h => by
    unfold risingS at h
    rw [Bool.and_eq_true] at h
    have h1 : ltCps y.cps.toList x.cps.toList = false := by simpa using h.1
    have ih := pw r y h.2
    refine List.pairwise_cons.mpr ⟨fun z hz => ?_, ih⟩
    rcases List.mem_cons.mp hz with rfl | hz
    · exact h1
    · exact le_trans' _ _ _ h1 (List.rel_of_pairwise_cons ih hz)
theorem uniq {ys zs : List Str} (p : ys.Perm zs) (h1 : sortedS ys = true) (h2 : sortedS zs = true) : ys = zs := by
  have pr : ∀ l : List Str, sortedS l = true → l.Pairwise (fun a b => ltCps b.cps.toList a.cps.toList = false) := fun l h => by
    cases l with
    | nil => simp
    | cons x r => exact pw r x h
  refine List.Perm.eq_of_pairwise (fun a b _ _ h3 h4 => ?_) (pr _ h1) (pr _ h2) p
  have := lt_tri _ _ h3 h4
  exact TL.ext_tl this.symm
end Srt
namespace Law
open PySem PySem.Spec PyProof.Rows L2 Evl EK TR Fg
theorem wv_map (ws : List (List Nat)) : wv ws = (ws.map tx).map V.str := by
  unfold wv
  rw [List.map_map]
  rfl
theorem of_perm {ys : List Str} {r : List (List Nat)} (h : ys.Perm (r.map tx)) : ∃ us : List (List Nat), ys = us.map tx ∧ us.Perm r := by
  refine ⟨ys.map fun z => z.cps.toList, ?_, ?_⟩
  · rw [List.map_map]
    refine (List.map_id ys).symm.trans (List.map_congr_left fun z _ => ?_)
    exact (tx_of z).symm
  · have := h.map (fun z : Str => z.cps.toList)
    rw [List.map_map] at this
    refine this.trans ?_
    refine List.Perm.of_eq ?_
    refine (List.map_congr_left fun z _ => ?_).trans (List.map_id r)
    exact tx_list z
theorem wv_snoc (ws : List (List Nat)) (x : List Nat) : wv (ws ++ [x]) = wv ws ++ [.str (tx x)] := by
  unfold wv
  rw [List.map_append]
  rfl
/-- what is found, sorted -/
def SrtOf (us r : List (List Nat)) : Prop := us.Perm r ∧ sortedS (us.map tx) = true
theorem SrtOf.uniq {us vs r : List (List Nat)} (h1 : SrtOf us r) (h2 : SrtOf vs r) : us = vs := by
  have := Srt.uniq ((h1.1.trans h2.1.symm).map tx) h1.2 h2.2
  have h3 := congrArg (List.map fun z : Str => z.cps.toList) this
  rw [List.map_map, List.map_map] at h3
  have e : ∀ l : List (List Nat), l.map ((fun z : Str => z.cps.toList) ∘ tx) = l := fun l => (List.map_congr_left fun z _ => tx_list z).trans (List.map_id l)
  rw [e, e] at h3
  exact h3
def spLPartials : Sp := fun vs H Q _ => ∃ (a : Addr) (L : List Nat) (m : Nat) (ws : List (List Nat)) (n : Nat) (r : List (List Nat)), vs = [.str (tx L), .ref a] ∧ H a = some (.lst (wv ws)) ∧ Wds L m ws ∧ L.length ≤ 4 ∧ Exp L ws n [] [List.replicate m 46] r ∧ r.length ≤ 63 ∧
  ∀ H' b us, Ex H H' → H b = none → H' b = some (.lst (wv us)) → SrtOf us r → Q (.ref b) H'
theorem exp_len {L : List Nat} {ws : List (List Nat)} {n : Nat} {found wt r : List (List Nat)} (h : Exp L ws n found wt r) : found.length ≤ r.length := by
  induction h with
  | done => exact Nat.le_refl _
  | old _ _ ih => exact ih
  | new _ _ ih => rw [List.length_append] at ih; simp at ih; omega
theorem fil_succ (P : Nat → Bool) (i : Nat) : (List.range (i + 1)).filter P = (List.range i).filter P ++ (if P i = true then [i] else []) := by
  rw [List.range_succ, List.filter_append]
  congr 1
  by_cases q : P i = true
  · rw [if_pos q, List.filter_cons_of_pos q]
    rfl
  · rw [if_neg q, List.filter_cons_of_neg q]
    rfl
/-- what follows of the first places -/
def part (L : List Nat) (ws : List (List Nat)) (p : List Nat) (j : Nat) : List (List Nat) := ((dots p).take j).flatMap fun i => L.map fun c => (mvF ws p i c).2.2
theorem part_0 {L : List Nat} {ws : List (List Nat)} {p : List Nat} : part L ws p 0 = [] := rfl
theorem part_all {L : List Nat} {ws : List (List Nat)} {p : List Nat} : part L ws p (dots p).length = succs L ws p := by
  unfold part succs
  rw [List.take_length]
theorem part_succ {L : List Nat} {ws : List (List Nat)} {p : List Nat} {j i : Nat} (h : (dots p)[j]? = some i) : part L ws p (j + 1) = part L ws p j ++ L.map fun c => (mvF ws p i c).2.2 := by
  unfold part
  rw [List.take_add_one, h, List.flatMap_append]
  simp
theorem part_len {L : List Nat} {ws : List (List Nat)} {p : List Nat} (l4 : L.length ≤ 4) (hp : p.length ≤ 6) (j : Nat) : (part L ws p j).length ≤ 24 := by
  unfold part
  rw [List.length_flatMap, sum_const _ L.length _ (fun x _ => by rw [List.length_map])]
  have h1 : ((dots p).take j).length ≤ 6 := by
    rw [List.length_take]
    have : (dots p).length ≤ p.length := by
      unfold dots
      exact Nat.le_trans (List.length_filter_le _ _) (by rw [List.length_range]; exact Nat.le_refl _)
    omega
  exact Nat.le_trans (Nat.mul_le_mul h1 l4) (by decide)
section
variable {P : Program} {w : World} {K : PySem.W.Frag} {mg : Str → Option Value} {base : Heap}
theorem ok_lpartials {f : Addr} {fd : FuncData} (F : Fun K "_law_partials" "_law_partials" s_lpartials f fd) (T : Tx mg) (c_lmove : Kn P w K mg base "_law_move" ["_law_words", "_law_partial", "_law_place", "_law_letter"] 3 spLMove) :
    FnOk P w K mg base CX0 4 f fd ["_law_letters", "_law_words"] spLPartials := by
  refine F.ok sc_lpartials (fun vs H Q E h => ?_) (fun cdv A outer s H vs Q E hr h => ?_)
  · obtain ⟨a, L, m, ws, n, r, rfl, _⟩ := h
    rfl
  · obtain ⟨a, L, m, ws, n, r, rfl, ha, W, l4, hE, r63, q⟩ := h
    refine ⟨_, (pss_cons (ps_par (i := 2) (j := 3) (by rfl) sc_lpartials.nd rfl rfl (by decide) rfl rfl (pa_cons (pe_lst pa_nil) (pa_cons (pe_lst (pa_cons (pe_op ZS.op_mulS pe_str (pe_callB call_len_str (by rfl) T.len PySem.boot_len (pa_cons (pe_ix ix_list (pv 1) pe_int (fun _ _ => rfl)) pa_nil))) pa_nil)) pa_nil)) (by rfl))
      (pss_cons (ps_while PassesOwn.never (pt_cmpR (NL.op_neNil hr.units) (pv 3) (pe_lst pa_nil) (nomark _)) (pss_cons (ps_set (i := 4) sc_lpartials.nd rfl (Or.inr rfl) (pe_bm0 PySem.F.plainAttrs_list PySem.F.slot_list_pop PySem.F.type_list_pop mt_pop (pv 3)))
      (pss_one (ps_if (pt_cmpR op_notIn_seq (pv 4) (pv 2) rfl) (pss_cons (ps_expr (pe_bm PySem.F.plainAttrs_list PySem.F.slot_list_append PySem.F.type_list_append mt_append (pv 2) (pa_cons (pv 4) pa_nil)))
      (pss_one (ps_for PassesOwn.never rfl (pi_list (pe_lc (own := [("_law_k", 6)]) (g := gName 6) rfl sc_lpartials.nd (pi_range1 (by rfl) T.range (pa_cons (pe_callB call_len_str (by rfl) T.len PySem.boot_len (pa_cons (pv 4) pa_nil)) pa_nil)) (blkOk_by (N := N_lpartials) (sc := defScope s_lpartials) (by decide +kernel)) (fun _ _ _ _ _ => (pg_name (i := 6) sc_lpartials.nd rfl (Or.inl rfl))) (fun _ _ _ _ _ => (pts_one (pt_cmpR op_eq (pe_ix ix_str (pv 4) (pv 6) (fun _ _ => rfl)) pe_str (nomark _)))) (fun _ _ _ _ _ => (pv 6)))) (pg_name (i := 5) sc_lpartials.nd rfl (Or.inr rfl)) (pss_one (ps_set (i := 3) sc_lpartials.nd rfl (Or.inl rfl) (pe_op op_cat (pv 3) (pe_lc (own := [("_law_letter", 7)]) (g := gName 7) (tt := tYes) rfl sc_lpartials.nd (pi_str (pv 0)) (blkOk_by (N := N_lpartials) (sc := defScope s_lpartials) (by decide +kernel)) (fun _ _ _ _ _ => (pg_name (i := 7) sc_lpartials.nd rfl (Or.inl rfl))) (fun _ _ _ _ _ => pts_nil) (fun _ _ _ _ _ => (pe_ix (show IxR _ (rIxT K) from ix_tup) (pe_call c_lmove.ok (hr.mono (by decide)) (by rfl) c_lmove.g c_lmove.kp c_lmove.b .nil pass0 (pa_cons (pv 1) (pa_cons (pv 4) (pa_cons (pv 5) (pa_cons (pv 7) pa_nil))))) pe_int (fun _ _ => rfl)))))))))) pss_nil))))
      (pss_one (ps_ret (pe_callB cr_sortedS (by rfl) T.sorted PyProof.Rows.boot_sorted (pa_cons (pv 2) pa_nil)))))), ?_⟩
    have m1 := W.m1
    have m6 := W.m6
    obtain ⟨z0, hz0⟩ : ∃ z0, ws[0]? = some z0 := ⟨_, List.getElem?_eq_getElem W.lo⟩
    have zl := (W.of z0 (List.mem_of_getElem? hz0)).len
    have wz : ∀ z ∈ ws, z.length < 100 := fun z hz => by rw [(W.of z hz).len]; omega
    refine ⟨by show 0 ≤ sizeLine; decide, fun fa hfa => ?_⟩
    have e1 : Ex H (upd H fa (.lst [])) := Ex.new hfa
    refine ⟨_, rfl, a, _, _, .str (tx z0), rfl, rfl, sq_of (e1 _ _ ha), atI_nat (j := 0) (by unfold wv; rw [List.getElem?_map, hz0]; rfl), _, rfl, tx_le (by omega), _, _, rfl, rfl, ?_, by show 1 ≤ sizeLine; decide, fun wa hwa => ?_⟩
    · rw [dot_sg]
      exact mulOk_of 1 1000 (by rw [sg_len]; omega) (by rw [tx_len]; omega) (by rw [tx_len]; omega) (by decide) (by decide)
    rw [dot_sg, mul_dot, tx_len, zl]
    have nfw : wa ≠ fa := fun z => by rw [z, upd_same] at hwa; cases hwa
    have wa0 : H wa = none := by rwa [upd_ne nfw] at hwa
    refine ⟨_, _, rfl, ?_⟩
    dsimp only
    refine ⟨fun k σ H' => ∃ (wa : Addr) (found wt : List (List Nat)) (y4 y5 y6 y7 : Option V), σ = [some (.str (tx L)), some (.ref a), some (.ref fa), some (.ref wa), y4, y5, y6, y7] ∧ Ex H H' ∧ H wa = none ∧ wa ≠ fa ∧ H' fa = some (.lst (wv found)) ∧ H' wa = some (.lst (wv wt)) ∧ Exp L ws k found wt r ∧ wt.length ≤ 100 * found.length + 10 ∧ ∀ p ∈ wt, p.length = m,
      ⟨n, wa, [], [List.replicate m 46], _, _, _, _, rfl, e1.trans (Ex.new hwa), wa0, nfw, by rw [upd_ne nfw.symm]; exact upd_same, upd_same, hE, by simp, fun p hp => by rw [List.mem_singleton.mp hp, List.length_replicate]⟩, fun k σ H' hw => ?_⟩
    clear hwa wa0 nfw hE
    obtain ⟨wa, found, wt, y4, y5, y6, y7, rfl, e2, wa0, nfw, hF, hW, hE, hl, hm⟩ := hw
    have f63 := exp_len hE
    refine ⟨_, rfl, by show 0 ≤ sizeLine; decide, fun e0 he0 => ?_⟩
    have e3 := e2.trans (Ex.new (o := .lst []) he0)
    have hF3 := (Ex.new (o := .lst []) he0) _ _ hF
    have hW3 := (Ex.new (o := .lst []) he0) _ _ hW
    have he1 : (L2.upd H' e0 (.lst [])) e0 = some (.lst []) := upd_same
    generalize (L2.upd H' e0 (.lst [])) = H3 at e3 hF3 hW3 he1 ⊢
    refine ⟨wa, e0, _, rfl, rfl, sq_of hW3, sq_of he1, _, rfl, ?_⟩
    rcases List.eq_nil_or_concat wt with rfl | ⟨wt2, p, rfl⟩
    · have hr := hE.nil
      refine ⟨_, rfl, ?_⟩
      refine ⟨fa, found.map tx, rfl, by rw [← wv_map]; exact sq_of hF3, by rw [List.length_map]; omega, fun ys b perm srt hb => ?_⟩
      obtain ⟨us, rfl, pu⟩ := of_perm perm
      exact q _ _ us (e3.trans (Ex.new hb)) (fresh_back e3 hb) (by rw [wv_map]; exact upd_same) ⟨hr ▸ pu, srt⟩
    · rw [List.concat_eq_append] at hW3 hE hl hm ⊢
      have hne : ¬ (wv (wt2 ++ [p])).length = 0 := by
        rw [wv_snoc, List.length_append]
        simp
      rw [decide_eq_false hne]
      refine ⟨fun σ2 H4 => ∃ m', m' < k ∧ ∃ (wa : Addr) (found wt : List (List Nat)) (y4 y5 y6 y7 : Option V), σ2 = [some (.str (tx L)), some (.ref a), some (.ref fa), some (.ref wa), y4, y5, y6, y7] ∧ Ex H H4 ∧ H wa = none ∧ wa ≠ fa ∧ H4 fa = some (.lst (wv found)) ∧ H4 wa = some (.lst (wv wt)) ∧ Exp L ws m' found wt r ∧ wt.length ≤ 100 * found.length + 10 ∧ ∀ p ∈ wt, p.length = m, fun σ2 H2 h => h, ?_⟩
      have pl : p.length = m := hm p (by simp)
      have ple : (tx p).length ≤ sizeLine := tx_le (by omega)
      have hm2 : ∀ x ∈ wt2, x.length = m := fun x hx => hm x (by simp [hx])
      have hl2 : wt2.length + 1 ≤ 100 * found.length + 10 := by
        rw [List.length_append] at hl
        simpa using hl
      refine ⟨_, rfl, .inl ⟨rfl, _, sq_of hW3⟩, wa, _, .str (tx p), rfl, rfl, hW3, by rw [wv_snoc, List.length_append]; simp, ?_⟩
      rw [wv_snoc, List.dropLast_concat]
      have e4 := e3.mut (o := .lst (wv wt2)) wa0
      have hF4 : (L2.upd H3 wa (.lst (wv wt2))) fa = some (.lst (wv found)) := by
        rw [upd_ne nfw.symm]
        exact hF3
      have hW4 : (L2.upd H3 wa (.lst (wv wt2))) wa = some (.lst (wv wt2)) := upd_same
      generalize (L2.upd H3 wa (.lst (wv wt2))) = H4 at e4 hF4 hW4 ⊢
      dsimp only [gName]
      refine' st_eq (σ' := [some (.str (tx L)), some (.ref a), some (.ref fa), some (.ref wa), some (.str (tx p)), y5, y6, y7]) rfl ?_
      refine ⟨_, rfl, _, rfl, fa, _, rfl, .inl (sq_of hF4), rfl, flat_wv _, _, rfl, ?_⟩
      rw [inV_wv]
      obtain ⟨k2, rfl, hc⟩ := hE.snoc
      rcases hc with ⟨hin, hE2⟩ | ⟨hin, hE2⟩
      · rw [decide_eq_true hin]
        exact ⟨k2, by omega, wa, found, wt2, _, _, _, _, rfl, e4, wa0, nfw, hF4, hW4, hE2, by omega, hm2⟩
      · rw [decide_eq_false hin]
        have f2 := exp_len hE2
        rw [List.length_append] at f2
        have hfa0 : H fa = none := hfa
        refine ⟨_, rfl, .inl ⟨rfl, _, sq_of hF4⟩, _, rfl, fa, _, _, rfl, rfl, hF4, sz_lt (by unfold wv; rw [List.length_map]; omega), ?_⟩
        rw [← wv_snoc]
        have e5 := e4.mut (o := .lst (wv (found ++ [p]))) hfa0
        have hW5 : (L2.upd H4 fa (.lst (wv (found ++ [p])))) wa = some (.lst (wv wt2)) := by
          rw [upd_ne nfw]
          exact hW4
        have hF5 : (L2.upd H4 fa (.lst (wv (found ++ [p])))) fa = some (.lst (wv (found ++ [p]))) := upd_same
        generalize (L2.upd H4 fa (.lst (wv (found ++ [p])))) = H5 at e5 hF5 hW5 ⊢
        refine ⟨_, rfl, _, rfl, ple, _, rfl, by omega, by rw [tx_len]; omega, fun D hD => ?_⟩
        rw [tx_len, Int.toNat_natCast]
        refine lc_range (lo := 0) (n := p.length) (fun i H' => Ex H5 H' ∧ H' D = some (.lst (((List.range i).filter fun k => p.getD k 0 == 46).map fun k => V.int (k : Nat)))) ⟨Ex.new hD, upd_same⟩ (fun i H1 hi hw => ?_) (fun H6 hw => ?_)
        · obtain ⟨e6, hL⟩ := hw
          refine ⟨rfl, _, rfl, _, rfl, _, _, p.getD i 0, rfl, rfl, ple, by rw [show (0 : Int) + (i : Int) = (i : Int) by omega]; exact at_of_lt hi, rfl, _, rfl, ?_⟩
          have edec : decide (V.str (sg (p.getD i 0)) = V.str (sg 46)) = (p.getD i 0 == 46) := by
            rw [Bool.eq_iff_iff, decide_eq_true_eq, beq_iff_eq]
            exact sg_inj
          show (fun b H3 => if b = true then _ else _) (decide (V.str (sg (p.getD i 0)) = V.str (sg 46))) H1
          rw [edec]
          have ll : (((List.range i).filter fun k => p.getD k 0 == 46).map fun k => V.int (k : Nat)).length ≤ i := by
            rw [List.length_map]
            exact Nat.le_trans (List.length_filter_le _ _) (by rw [List.length_range]; exact Nat.le_refl _)
          cases hb : (p.getD i 0 == 46) with
          | true =>
            refine (if_pos rfl).mpr ⟨_, rfl, _, hL, sz_lt (by omega), e6.mut hD, ?_⟩
            rw [upd_same, fil_succ, hb, if_pos rfl, List.map_append, show (0 : Int) + (i : Int) = (i : Int) by omega]
            rfl
          | false =>
            refine (if_neg (by decide)).mpr ⟨e6, ?_⟩
            rw [hL, fil_succ, hb, if_neg (by decide), List.append_nil]
        · obtain ⟨e6, hL⟩ := hw
          have hW6 := e6 _ _ hW5
          have hF6 := e6 _ _ hF5
          have e7 := e5.trans e6
          refine ⟨D, rfl, ⟨_, sq_of hL⟩, ?_⟩
          have hlen : ∀ j, (part L ws p j).length ≤ 24 := part_len l4 (by omega)
          refine for_list (xs := (dots p).map fun k => V.int (k : Nat)) (fun j σ H' => ∃ (wb : Addr) (y5 y6 y7 : Option V), σ = [some (.str (tx L)), some (.ref a), some (.ref fa), some (.ref wb), some (.str (tx p)), y5, y6, y7] ∧ Ex H6 H' ∧ H wb = none ∧ wb ≠ fa ∧ H' wb = some (.lst (wv (wt2 ++ part L ws p j))))
            ⟨wa, _, _, _, rfl, Ex.refl _, wa0, nfw, by rw [part_0, List.append_nil]; exact hW6⟩ (fun j σ H' _ p => sq_of (p.choose_spec.choose_spec.choose_spec.choose_spec.2.1 _ _ hL)) (fun j x σ H7 hx hw => ?_) (fun σ H7 hw => ?_)
          · obtain ⟨wb, y5, y6, y7, rfl, e8, wb0, nfb, hB⟩ := hw
            rw [List.getElem?_map] at hx
            obtain ⟨i, hi, rfl⟩ := Option.map_eq_some_iff.mp hx
            have him := (dots_mem (List.mem_of_getElem? hi)).1
            dsimp only [gName]
            refine' st_eq (σ' := [some (.str (tx L)), some (.ref a), some (.ref fa), some (.ref wb), some (.str (tx p)), some (.int (i : Nat)), y6, y7]) rfl ?_
            refine ⟨_, rfl, _, rfl, _, rfl, fun D2 hD2 => ?_⟩
            have e9 := e7.trans e8
            refine lc_str (x := tx L) (fun i2 H' => Ex H7 H' ∧ H' D2 = some (.lst (wv ((L.take i2).map fun c => (mvF ws p i c).2.2)))) ⟨Ex.new hD2, upd_same⟩ (fun i2 c H' hic hw => ?_) (fun H' hw => ?_)
            · obtain ⟨e10, hL2⟩ := hw
              have hc := tx_at hic
              have hi2 := (List.getElem?_eq_some_iff.mp hc).1
              refine ⟨rfl, _, rfl, _, rfl, _, rfl, _, rfl, a, ws, p, i, c, rfl, (e9.trans e10) _ _ ha, W.lo, Nat.le_trans W.hi (by decide), wz, by omega, him, fun H8 v e11 hv => ?_⟩
              obtain ⟨b, rfl, hb⟩ := hv
              refine ⟨b, _, _, _, rfl, rfl, st_of hb, atI_nat (j := 2) rfl, _, e11 _ _ hL2, ?_, (e10.trans e11).mut hD2, ?_⟩
              · unfold wv
                rw [List.length_map, List.length_map, List.length_take]
                exact sz_lt (by omega)
              · rw [upd_same, List.take_add_one, hc, List.map_append, ← wv_snoc]
                rfl
            · obtain ⟨e10, hL2⟩ := hw
              rw [tx_size, List.take_length] at hL2
              have ps := part_succ (L := L) (ws := ws) hi
              have p1 := hlen j
              refine ⟨wb, D2, _, _, rfl, rfl, e10 _ _ hB, hL2, ?_, fun wc hwc => ?_⟩
              · unfold wv
                rw [List.length_map, List.length_map, List.length_append, List.length_map]
                exact Nat.le_of_lt (sz_lt (by omega))
              · have nwc : wc ≠ fa := fun z => by
                  rw [z, e10 _ _ (e8 _ _ hF6)] at hwc
                  cases hwc
                refine ⟨wc, _, _, _, rfl, (e8.trans e10).trans (Ex.new hwc), fresh_back (e9.trans e10) hwc, nwc, ?_⟩
                rw [upd_same, ps, ← List.append_assoc]
                unfold wv
                rw [List.map_append (l₁ := wt2 ++ part L ws p j)]
          · obtain ⟨wb, y5, y6, y7, rfl, e8, wb0, nfb, hB⟩ := hw
            rw [List.length_map, part_all] at hB
            exact ⟨k2, by omega, wb, found ++ [p], wt2 ++ succs L ws p, _, _, _, _, rfl, e7.trans e8, wb0, nfb, e8 _ _ hF6, hB, hE2, by rw [List.length_append, List.length_append, ← part_all]; have := hlen (dots p).length; simp only [List.length_cons, List.length_nil]; omega, fun x hx => by
              rcases List.mem_append.mp hx with h | h
              · exact hm2 x h
              · exact (succs_pt W pl x h).len⟩
end
end Law

namespace Law
open PySem PySem.Spec PyProof.Rows L2 Evl EK TR Fg
theorem PenAt.both {p : PenI} {H0 H : Hp} {a : Addr} {n : Nat} {o : HO} (P : PenAt p H0 H n) (hd : a ≠ p.d) (hc : a ≠ p.c) : PenAt p (L2.upd H0 a o) (L2.upd H a o) n := by
  obtain ⟨e, h0, hc0, hl, op, lf, ho, hdk⟩ := P
  refine ⟨fun b u h => ?_, (upd_ne hd.symm).trans h0, (upd_ne hc.symm).trans hc0, hl, op, lf, ho, (upd_ne hd.symm).trans hdk⟩
  by_cases q : b = a
  · subst q
    rw [upd_same] at h ⊢
    exact h
  · rw [upd_ne q] at h ⊢
    exact e b u h
theorem fresh_nc {p : PenI} {H0 H : Hp} {n : Nat} {a : Addr} (P : PenAt p H0 H n) (h : H a = none) : a ≠ p.c := fun e => by
  rw [e, P.1 _ _ P.2.2.1] at h
  cases h
theorem iteN {c A B : Prop} [Decidable c] (hc : ¬ c) (h : A) : if (!decide c) = true then A else B := by
  rw [decide_eq_false hc]
  exact (if_pos rfl).mpr h
theorem iteNn {c A B : Prop} [Decidable c] (hc : c) (h : B) : if (!decide c) = true then A else B := by
  rw [decide_eq_true hc]
  exact (if_neg (by decide)).mpr h
/-- signs picked one by one -/
def Picks (p : PenI) (H0 : Hp) (n : Nat) (z : Str) (D : Addr) (i : Nat) (H : Hp) : Prop := PenAt p H0 H (n + i) ∧ ∃ cs : List Nat, cs.length = i ∧ (∀ c ∈ cs, c ∈ z.cps.toList) ∧ H D = some (.lst ((cs.map sg).map V.str))
def spSomeWord : Sp := fun vs H Q _ => ∃ (p : PenI) (H0 : Hp) (n m : Nat) (L : List Nat), vs = [.ref p.d, .str (tx L), .int (m : Nat)] ∧ PenAt p H0 H n ∧ n < 800000 ∧ 0 < L.length ∧ L.length < 900 ∧ m ≤ 20 ∧
  ∀ H' u, PenAt p H0 H' (n + m) → WG L m u → Q (.str (tx u)) H'
def spSomeWords : Sp := fun vs H Q _ => ∃ (p : PenI) (H0 : Hp) (n m k : Nat) (L : List Nat), vs = [.ref p.d, .str (tx L), .int (m : Nat), .int (k : Nat)] ∧ PenAt p H0 H n ∧ n < 700000 ∧ 0 < L.length ∧ L.length < 900 ∧ m ≤ 20 ∧ 1 ≤ k ∧ k ≤ 20 ∧
  ∀ (H1 H' : Hp) (b : Addr) (ws : List (List Nat)), Ex H0 H1 → PenAt p H1 H' (n + 1 + m * k) → H0 b = none → H1 b = some (.lst (wv ws)) → 1 ≤ ws.length → ws.length ≤ k → (∀ z ∈ ws, WG L m z) → ws.Nodup → Q (.ref b) H'
def tv (u : List Nat) : V := .str (tx u)
theorem wv_tv (ws : List (List Nat)) : wv ws = ws.map tv := rfl
def spShuf : Sp := fun vs H Q _ => ∃ (p : PenI) (H0 : Hp) (n : Nat) (a : Addr) (us : List (List Nat)), vs = [.ref p.d, .ref a] ∧ PenAt p H0 H n ∧ n < 800000 ∧ H a = some (.lst (us.map tv)) ∧ us.length ≤ 100 ∧
  ∀ (H1 H' : Hp) (r : Addr) (ws : List (List Nat)), Ex H0 H1 → PenAt p H1 H' (n + us.length) → H0 r = none → H1 r = some (.lst (ws.map tv)) → ws.Perm us → Q (.ref r) H'
theorem erase_tv : ∀ (m : List (List Nat)) (k : Nat), (m.map tv).eraseIdx k = (m.eraseIdx k).map tv
  | [], k => by simp
  | x :: r, 0 => rfl
  | x :: r, k + 1 => by
    show tv x :: (r.map tv).eraseIdx k = tv x :: (r.eraseIdx k).map tv
    rw [erase_tv r k]
theorem perm_erase : ∀ {m : List (List Nat)} {k : Nat} {x : List Nat}, m[k]? = some x → (x :: m.eraseIdx k).Perm m
  | y :: r, 0, x, h => by
    cases h
    exact List.Perm.refl _
  | y :: r, k + 1, x, h => by
    have h2 := perm_erase (m := r) (k := k) h
    exact (List.Perm.swap _ _ _).trans (h2.cons y)
  | [], _, _, h => by simp at h
section
variable {P : Program} {w : World} {K : PySem.W.Frag} {mg : Str → Option Value} {base : Heap}
theorem ok_someword {f : Addr} {fd : FuncData} (F : Fun K "_law_some_word" "_law_some_word" s_lsome_word f fd) (T : Tx mg) (c_pickS : Kn P w K mg base "_law_pick" ["_law_pen", "_law_items"] 2 spPickS) :
    FnOk P w K mg base CX0 3 f fd ["_law_pen", "_law_letters", "_law_width"] spSomeWord := by
  refine F.ok sc_lsome_word (fun vs H Q E h => ?_) (fun cdv A outer s H vs Q E hr h => ?_)
  · obtain ⟨p, H0, n, m, L, rfl, _⟩ := h
    rfl
  · obtain ⟨p, H0, n, m, L, rfl, P0, hn, hz0, hz1, m20, q⟩ := h
    refine ⟨_, (pss_one (ps_ret (pe_join pe_str (pe_lc (own := [("_law_k", 3)]) (g := gName 3) (tt := tYes) rfl sc_lsome_word.nd (pi_range1 (by rfl) T.range (pa_cons (pv 2) pa_nil)) (blkOk_by (N := N_lsome_word) (sc := defScope s_lsome_word) (by decide +kernel)) (fun _ _ _ _ _ => (pg_name (i := 3) sc_lsome_word.nd rfl (Or.inl rfl))) (fun _ _ _ _ _ => pts_nil) (fun _ _ _ _ _ => (pe_call c_pickS.ok (hr.mono (by decide)) (by rfl) c_pickS.g c_pickS.kp c_pickS.b .nil pass0 (pa_cons (pv 0) (pa_cons (pv 1) pa_nil)))))))), ?_⟩
    refine ⟨⟨_, rfl⟩, _, rfl, _, rfl, by omega, by omega, fun D hD => ?_⟩
    rw [Int.toNat_natCast]
    have d0 := fresh0 P0 hD
    have d1 := fresh_ne P0 hD
    refine lc_range (lo := 0) (n := m) (Picks p H0 n (tx L) D) ⟨P0.upd d0 d1, [], rfl, (fun c h => nomatch h), upd_same⟩ (fun i H hi hw => ?_) (fun H hw => ?_)
    · obtain ⟨Q1, cs, hcs, hcz, hL⟩ := hw
      refine ⟨rfl, _, rfl, _, rfl, p, upd H0 D (.lst ((cs.map sg).map V.str)), n + i, tx L, rfl, Q1.keep hL d1, by omega, by rw [tx_len]; exact hz0, by rw [tx_len]; omega, fun H5 c P5 hc => ?_⟩
      have hL5 := P5.1 _ _ upd_same
      refine ⟨_, hL5, ?_, (Q1.drop hL P5).upd d0 d1, cs ++ [c], by rw [List.length_append, hcs]; rfl, fun x hx => ?_, ?_⟩
      · rw [List.length_map, List.length_map, hcs]
        exact sz_lt (by omega)
      · rcases List.mem_append.mp hx with h | h
        · exact hcz x h
        · rw [List.mem_singleton.mp h]
          exact hc
      · rw [upd_same, ← sg_snoc]
        rfl
    · obtain ⟨Q1, cs, hcs, hcz, hL⟩ := hw
      refine ⟨_, D, cs.map sg, rfl, rfl, .inl (sq_of hL), join_bound cs (by omega), ?_⟩
      rw [join_sg]
      exact q _ cs Q1 ⟨hcs, hcz⟩
theorem ok_somewords {f : Addr} {fd : FuncData} (F : Fun K "_law_some_words" "_law_some_words" s_lsome_words f fd) (T : Tx mg) (c_ldraw : Kn P w K mg base "_law_draw" ["_law_pen", "_law_many"] 1 spDraw) (c_lsome_word : Kn P w K mg base "_law_some_word" ["_law_pen", "_law_letters", "_law_width"] 3 spSomeWord) :
    FnOk P w K mg base CX0 4 f fd ["_law_pen", "_law_letters", "_law_width", "_law_most"] spSomeWords := by
  refine F.ok sc_lsome_words (fun vs H Q E h => ?_) (fun cdv A outer s H vs Q E hr h => ?_)
  · obtain ⟨p, H0, n, m, k, L, rfl, _⟩ := h
    rfl
  · obtain ⟨p, H0, n, m, k, L, rfl, P0, hn, hz0, hz1, m20, k1, k20, q⟩ := h
    refine ⟨_, (pss_cons (ps_set (i := 4) sc_lsome_words.nd rfl (Or.inl rfl) (pe_lst pa_nil))
      (pss_cons (ps_for PassesOwn.never rfl (pi_range1 (by rfl) T.range (pa_cons (pe_op op_add pe_int (pe_call c_ldraw.ok (hr.mono (by decide)) (by rfl) c_ldraw.g c_ldraw.kp c_ldraw.b .nil pass0 (pa_cons (pv 0) (pa_cons (pv 3) pa_nil)))) pa_nil)) (pg_name (i := 5) sc_lsome_words.nd rfl (Or.inl rfl)) (pss_cons (ps_set (i := 6) sc_lsome_words.nd rfl (Or.inl rfl) (pe_call c_lsome_word.ok (hr.mono (by decide)) (by rfl) c_lsome_word.g c_lsome_word.kp c_lsome_word.b .nil pass0 (pa_cons (pv 0) (pa_cons (pv 1) (pa_cons (pv 2) pa_nil)))))
      (pss_one (ps_if (pt_cmpR op_notIn_seq (pv 6) (pv 4) rfl) (pss_one (ps_expr (pe_bm PySem.F.plainAttrs_list PySem.F.slot_list_append PySem.F.type_list_append mt_append (pv 4) (pa_cons (pv 6) pa_nil)))) pss_nil))))
      (pss_one (ps_ret (pv 4))))), ?_⟩
    refine ⟨by show 0 ≤ sizeLine; decide, fun b hb => ?_⟩
    have b0 := fresh0 P0 hb
    have b1 := fresh_ne P0 hb
    have b2 := fresh_nc P0 hb
    have P1 := P0.both (o := .lst []) b1 b2
    generalize (upd H b (.lst [])) = H1 at P1 ⊢
    refine ⟨_, rfl, _, rfl, p, _, n, k, rfl, P1, by omega, by omega, by omega, fun H2 r2 P2 r20 r21 => ⟨_, _, rfl, rfl, _, rfl, by omega, by omega, ?_⟩⟩
    obtain ⟨c, hc⟩ : ∃ c : Nat, (1 + r2).toNat = c := ⟨_, rfl⟩
    rw [hc]
    have hm20 : m * c ≤ m * k := Nat.mul_le_mul_left _ (by omega)
    have h400 : m * k ≤ 20 * 20 := Nat.mul_le_mul m20 k20
    refine for_range (lo := 0) (n := c) (fun i σ H' => ∃ (ws : List (List Nat)) (y5 y6 : Option V), σ = [some (.ref p.d), some (.str (tx L)), some (.int (m : Nat)), some (.int (k : Nat)), some (.ref b), y5, y6] ∧ PenAt p (upd H0 b (.lst (wv ws))) H' (n + 1 + m * i) ∧ ws.length ≤ i ∧ (1 ≤ i → 1 ≤ ws.length) ∧ (∀ z ∈ ws, WG L m z) ∧ ws.Nodup)
      ⟨[], none, none, rfl, P2, Nat.le_refl _, fun z => absurd z (by decide), (fun z h => nomatch h), List.nodup_nil⟩ (fun i σ H3 hi hw => ?_) (fun σ H3 hw => ?_)
    · obtain ⟨ws, y5, y6, rfl, P3, w1, w2, w3, w4⟩ := hw
      have hmi : m * i ≤ m * c := Nat.mul_le_mul_left _ (by omega)
      refine ⟨_, rfl, _, rfl, _, rfl, p, _, _, m, L, rfl, P3, by omega, hz0, hz1, m20, fun H4 u P4 hu => ?_⟩
      have hb4 := P4.1 _ _ upd_same
      dsimp only [gName]
      refine' st_eq (σ' := [some (.ref p.d), some (.str (tx L)), some (.int (m : Nat)), some (.int (k : Nat)), some (.ref b), some (.int (0 + (i : Int))), some (.str (tx u))]) rfl ?_
      refine ⟨_, rfl, _, rfl, b, _, rfl, .inl (sq_of hb4), rfl, flat_wv _, _, rfl, ?_⟩
      rw [inV_wv]
      have en : n + 1 + m * i + m = n + 1 + m * (i + 1) := by rw [Nat.mul_succ]; omega
      by_cases hin : u ∈ ws
      · rw [decide_eq_true hin]
        refine ⟨ws, _, _, rfl, P4.le (by omega), by omega, fun _ => ?_, w3, w4⟩
        cases ws with
        | nil => cases hin
        | cons x r => exact Nat.succ_pos _
      · rw [decide_eq_false hin]
        refine ⟨_, rfl, .inl ⟨rfl, _, sq_of hb4⟩, _, rfl, b, _, _, rfl, rfl, hb4, sz_lt (by unfold wv; rw [List.length_map]; omega), ?_⟩
        rw [← wv_snoc]
        have P5 := P4.both (o := .lst (wv (ws ++ [u]))) b1 b2
        refine ⟨ws ++ [u], _, _, rfl, ?_, by rw [List.length_append]; simp; omega, fun _ => by simp, fun z hz => ?_, ?_⟩
        · rw [← en]
          rw [show upd (upd H0 b (.lst (wv ws))) b (.lst (wv (ws ++ [u]))) = upd H0 b (.lst (wv (ws ++ [u]))) from upd_upd] at P5
          exact P5
        · rcases List.mem_append.mp hz with h | h
          · exact w3 z h
          · rw [List.mem_singleton.mp h]
            exact hu
        · rw [List.nodup_append]
          exact ⟨w4, by simp, fun x hx y hy e => by rw [List.mem_singleton.mp hy] at e; exact hin (e ▸ hx)⟩
    · obtain ⟨ws, y5, y6, rfl, P3, w1, w2, w3, w4⟩ := hw
      exact ⟨_, rfl, q _ _ b ws (Ex.new b0) (P3.le (by omega)) b0 upd_same (w2 (by omega)) (by omega) w3 w4⟩
theorem ok_shuf {f : Addr} {fd : FuncData} (F : Fun K "_law_shuffled" "_law_shuffled" s_lshuffled f fd) (T : Tx mg) (c_ldraw : Kn P w K mg base "_law_draw" ["_law_pen", "_law_many"] 1 spDraw) : FnOk P w K mg base CX0 2 f fd ["_law_pen", "_law_items"] spShuf := by
  refine F.ok sc_lshuffled (fun vs H Q E h => ?_) (fun cdv A outer s H vs Q E hr h => ?_)
  · obtain ⟨p, H0, n, a, ns, rfl, _⟩ := h
    rfl
  · obtain ⟨p, H0, n, a, ns, rfl, P0, hn, ha, hl, q⟩ := h
    refine ⟨_, (pss_cons (ps_par (i := 2) (j := 3) (by rfl) sc_lshuffled.nd rfl rfl (by decide) rfl rfl (pa_cons (pe_callTy call_list_of (by rfl) T.list PyProof.Rows.boot_list (pa_cons (pv 1) pa_nil)) (pa_cons (pe_lst pa_nil) pa_nil)) (by rfl))
      (pss_cons (ps_while PassesOwn.never (pt_cmpR (NL.op_neNil hr.units) (pv 2) (pe_lst pa_nil) (nomark _)) (pss_one (ps_expr (pe_bm PySem.F.plainAttrs_list PySem.F.slot_list_append PySem.F.type_list_append mt_append (pv 3) (pa_cons (pe_bm PySem.F.plainAttrs_list PySem.F.slot_list_pop PySem.F.type_list_pop mt_popAt (pv 2) (pa_cons (pe_call c_ldraw.ok (hr.mono (by decide)) (by rfl) c_ldraw.g c_ldraw.kp c_ldraw.b .nil pass0 (pa_cons (pv 0) (pa_cons (pe_callB call_len_seq (by rfl) T.len PySem.boot_len (pa_cons (pv 2) pa_nil)) pa_nil))) pa_nil)) pa_nil)))))
      (pss_one (ps_ret (pv 3))))), ?_⟩
    refine ⟨_, rfl, a, _, rfl, .inl (sq_of ha), fun l hl0 => ⟨by show 0 ≤ sizeLine; decide, fun r hr0 => ?_⟩⟩
    have l0 := fresh0 P0 hl0
    have l1 := fresh_ne P0 hl0
    have l2 := fresh_nc P0 hl0
    have P1 := P0.both (o := .lst (ns.map tv)) l1 l2
    have r0' := fresh0 P1 hr0
    have r1 := fresh_ne P1 hr0
    have r2 := fresh_nc P1 hr0
    have P2 := P1.both (o := .lst []) r1 r2
    have nlr : l ≠ r := fun z => by rw [z, upd_same] at r0'; cases r0'
    have r0 : H0 r = none := by rwa [upd_ne nlr.symm] at r0'
    refine ⟨_, _, rfl, ?_⟩
    refine ⟨fun m σ H' => ∃ (Hb : Hp) (left found : List (List Nat)), σ = [some (.ref p.d), some (.ref a), some (.ref l), some (.ref r)] ∧ Ex H0 Hb ∧ PenAt p Hb H' (n + found.length) ∧ Hb l = some (.lst (left.map tv)) ∧ Hb r = some (.lst (found.map tv)) ∧ (left ++ found).Perm ns ∧ m = left.length,
      ⟨ns.length, _, ns, [], rfl, (Ex.new l0).trans (Ex.new r0'), P2, by rw [upd_ne nlr]; exact upd_same, upd_same, by simp, rfl⟩, fun m σ H' hw => ?_⟩
    obtain ⟨Hb, left, found, rfl, e, Pb, hL, hF, perm, hm⟩ := hw
    have plen := perm.length_eq
    rw [List.length_append] at plen
    refine ⟨_, rfl, by show 0 ≤ sizeLine; decide, fun e0 he0 => ?_⟩
    have Pc := Pb.ex (Ex.new (o := .lst []) he0)
    have he1 : (L2.upd H' e0 (.lst [])) e0 = some (.lst []) := upd_same
    generalize (L2.upd H' e0 (.lst [])) = H2 at Pc he1 ⊢
    refine ⟨l, e0, _, rfl, rfl, sq_of (Pc.1 _ _ hL), sq_of he1, _, rfl, ?_⟩
    rw [List.length_map]
    by_cases hz : left.length = 0
    · refine iteNn hz ?_
      have hle : left = [] := List.length_eq_zero_iff.mp hz
      rw [hle] at perm
      exact ⟨_, rfl, q Hb H2 r found e (Pc.le (by omega)) r0 hF perm⟩
    · refine iteN hz ?_
      refine ⟨fun σ2 H3 => ∃ m', m' < m ∧ ∃ (Hb : Hp) (left found : List (List Nat)), σ2 = [some (.ref p.d), some (.ref a), some (.ref l), some (.ref r)] ∧ Ex H0 Hb ∧ PenAt p Hb H3 (n + found.length) ∧ Hb l = some (.lst (left.map tv)) ∧ Hb r = some (.lst (found.map tv)) ∧ (left ++ found).Perm ns ∧ m' = left.length, fun σ2 H2 h => h, ?_⟩
      refine ⟨_, rfl, .inl ⟨rfl, _, sq_of (Pc.1 _ _ hF)⟩, _, rfl, .inl ⟨rfl, _, sq_of (Pc.1 _ _ hL)⟩, _, rfl, _, rfl, l, _, rfl, .inl (sq_of (Pc.1 _ _ hL)), ?_⟩
      refine ⟨p, Hb, n + found.length, _, rfl, Pc, by omega, by rw [List.length_map]; omega, by rw [List.length_map]; omega, fun H4 dr P4 dr0 dr1 => ?_⟩
      rw [List.length_map] at dr1
      obtain ⟨k, rfl⟩ : ∃ k : Nat, dr = (k : Int) := ⟨dr.toNat, (Int.toNat_of_nonneg dr0).symm⟩
      have hk : k < left.length := by omega
      have hx : left[k]? = some left[k] := List.getElem?_eq_getElem hk
      obtain ⟨x, hxx⟩ : ∃ x, left[k] = x := ⟨_, rfl⟩
      rw [hxx] at hx
      have pe := perm_erase hx
      have le := pe.length_eq
      rw [List.length_cons] at le
      refine ⟨l, _, _, k, tv x, rfl, rfl, P4.1 _ _ hL, by omega, by omega, ?_, by rw [List.getElem?_map, hx]; rfl, ?_⟩
      · unfold seqIndex?
        rw [List.length_map]
        simp only []
        split <;> simp_all <;> omega
      rw [erase_tv]
      have P5 := P4.both (o := .lst ((left.eraseIdx k).map tv)) l1 l2
      have e5 : Ex H0 (L2.upd Hb l (.lst ((left.eraseIdx k).map tv))) := e.mut l0
      have hL5 : (L2.upd Hb l (.lst ((left.eraseIdx k).map tv))) l = some (.lst ((left.eraseIdx k).map tv)) := upd_same
      have hF5 : (L2.upd Hb l (.lst ((left.eraseIdx k).map tv))) r = some (.lst (found.map tv)) := by
        rw [upd_ne nlr.symm]
        exact hF
      generalize (L2.upd Hb l (.lst ((left.eraseIdx k).map tv))) = Hc at P5 e5 hL5 hF5
      have P6 := P5.both (o := .lst (found.map tv ++ [tv x])) r1 r2
      refine ⟨r, _, _, rfl, rfl, P5.1 _ _ hF5, sz_lt (by rw [List.length_map]; omega), ?_⟩
      refine ⟨m - 1, by omega, _, left.eraseIdx k, found ++ [x], rfl, e5.mut r0, by rw [List.length_append]; exact P6, by rw [upd_ne nlr]; exact hL5, ?_, ?_, by omega⟩
      · rw [upd_same, List.map_append]
        rfl
      · refine List.Perm.trans ?_ perm
        rw [← List.append_assoc]
        refine List.perm_append_comm.trans ?_
        show (x :: (left.eraseIdx k ++ found)).Perm _
        rw [← List.cons_append]
        exact pe.append_right found
end
end Law

namespace Law
open PySem PySem.Spec PyProof.Rows L2 Evl EK TR Fg
/-- what of the text the class Fitting has -/
structure FC (K : PySem.W.Frag) (C : Addr) : Prop where
  cl : Cls K C
  nw : NoAttr K C "_words"
  nf : NoAttr K C "_found"
def fFs (w f : V) : List (Str × V) := [("_words", w), ("_found", f)]
theorem putF2 (w f : V) : putF "_found" f (putF "_words" w []) = fFs w f := by
  have a1 : ¬ (("_words" : Str) = "_found") := by decide +kernel
  simp [putF, fFs, a1]
theorem fl_words (w f : V) : (fFs w f).lookup ("_words" : Str) = some w := rfl
theorem fl_found (w f : V) : (fFs w f).lookup ("_found" : Str) = some f := rfl
theorem fl_can (w f : V) : (fFs w f).lookup ("can" : Str) = none := rfl
theorem fl_least (w f : V) : (fFs w f).lookup ("least" : Str) = none := rfl
structure FI where
  o : Addr
  dx : Addr
  wt : Addr
  d : Addr
def CacheOk (ws : List (List Nat)) (kvs : List (Key × V)) : Prop := ∀ t v, valV kvs (.inr (tx t)) = some v → v = .bl (canF ws t 0)
theorem Rd.up {B H : Hp} {a : Addr} {u : HO} (h : Rd B a u) (e : Ex B H) : Rd H a u := by
  rcases h with h | ⟨o, h⟩
  · exact .inl (e _ _ h)
  · exact .inr ⟨o, e _ _ h⟩
theorem Rd.at {B H : Hp} {a : Addr} {u : HO} (h : Rd B a u) (e : H a = B a) : Rd H a u := by
  rcases h with h | ⟨o, h⟩
  · exact .inl (e.trans h)
  · exact .inr ⟨o, e.trans h⟩
theorem Rd.ne {H : Hp} {a b : Addr} {xs : List V} (h : Rd H a (.tup xs)) (hb : H b = none ∨ ∃ C dx fs, H b = some (.ins C dx fs)) : a ≠ b := fun z => by
  subst z
  rcases h with h | ⟨o, h⟩ <;> rcases hb with hb | ⟨C, dx, fs, hb⟩ <;> (rw [h] at hb; cases hb)
/-- a fitting whose cache has changed since B -/
def FitAt (C : Addr) (p : FI) (ws : List (List Nat)) (B H : Hp) (n : Nat) : Prop := Ex B H ∧ B p.d = none ∧ B p.o = some (.ins C p.dx (fFs (.ref p.wt) (.ref p.d))) ∧ Rd B p.wt (.tup (wv ws)) ∧ ∃ kvs, kvs.length ≤ n ∧ H p.d = some (.dK kvs) ∧ CacheOk ws kvs
section
variable {C : Addr} {p : FI} {ws : List (List Nat)} {B H H' : Hp} {n m : Nat}
theorem FitAt.ex (F : FitAt C p ws B H n) (e : Ex H H') : FitAt C p ws B H' n := by
  obtain ⟨e0, h0, ho, hw, kvs, hl, hd, hc⟩ := F
  exact ⟨e0.trans e, h0, ho, hw, kvs, hl, e _ _ hd, hc⟩
theorem FitAt.le (F : FitAt C p ws B H n) (h : n ≤ m) : FitAt C p ws B H m := by
  obtain ⟨e0, h0, ho, hw, kvs, hl, r⟩ := F
  exact ⟨e0, h0, ho, hw, kvs, Nat.le_trans hl h, r⟩
theorem FitAt.up (F : FitAt C p ws B H n) : Ex B (del H p.d) := fun b u h => by
  have nb : b ≠ p.d := fun z => by rw [z, F.2.1] at h; cases h
  rw [del_ne nb]
  exact F.1 _ _ h
theorem FitAt.plus (F : FitAt C p ws B H n) : FitAt C p ws (del H p.d) H n := by
  have up := F.up
  obtain ⟨e0, h0, ho, hw, r⟩ := F
  refine ⟨fun b u h => ?_, del_same, up _ _ ho, Rd.up hw up, r⟩
  by_cases q : b = p.d
  · rw [q, del_same] at h
    cases h
  · rw [del_ne q] at h
    exact h
theorem FitAt.back (F : FitAt C p ws B H n) (F' : FitAt C p ws (del H p.d) H' m) : FitAt C p ws B H' m := by
  have up := F.up
  obtain ⟨e0, h0, ho, hw, r⟩ := F
  exact ⟨up.trans F'.1, h0, ho, hw, F'.2.2.2.2⟩
/-- what is no dict stays -/
theorem FitAt.keep (F : FitAt C p ws B H n) (F' : FitAt C p ws (del H p.d) H' m) {b : Addr} {u : HO} (h : H b = some u) (hn : b ≠ p.d) : H' b = some u := F'.1 _ _ (by rw [del_ne hn]; exact h)
theorem FitAt.ne (F : FitAt C p ws B H n) {b : Addr} {u : HO} (h : H b = some u) (hu : ∀ kvs, u ≠ .dK kvs) : b ≠ p.d := fun z => by
  obtain ⟨_, _, _, _, kvs, _, hd, _⟩ := F
  rw [z, hd] at h
  exact hu kvs (Option.some.inj h).symm
end
theorem can_drop {ws : List (List Nat)} {k : List Nat} {o : Nat} : canF ws (k.drop o) 0 = canF ws k o := by
  unfold canF
  congr 1
  funext z
  unfold fitsF
  congr 1
  funext i
  unfold okAt
  rw [List.length_drop, Nat.zero_add, List.getD_eq_getElem?_getD, List.getElem?_drop, ← List.getD_eq_getElem?_getD]
  congr 1
  rw [decide_eq_decide]
  omega
def spInitF (C : Addr) : Sp := fun vs H Q _ => ∃ (o dx a : Addr) (k : Bool) (ws : List (List Nat)) (H0 : Hp), vs = [.ref o, .ref a] ∧ Ex H0 H ∧ H0 o = none ∧ H o = some (.ins C dx []) ∧ SQ.WQ H0 a k (wv ws) ∧
  ∀ H' wt d, Ex H0 H' → H0 d = none → FitAt C ⟨o, dx, wt, d⟩ ws (del H' d) H' 0 → Q .non H'
def spCan (C : Addr) : Sp := fun vs H Q _ => ∃ (p : FI) (ws : List (List Nat)) (B : Hp) (n off : Nat) (k : List Nat), vs = [.ref p.o, .str (tx k), .int (off : Nat)] ∧ FitAt C p ws B H n ∧ n < 90000 ∧ ws.length ≤ 10 ∧ (∀ z ∈ ws, z.length < 100) ∧ k.length < 100 ∧ off < 900 ∧
  ∀ H', FitAt C p ws B H' (n + 1) → Q (.bl (canF ws k off)) H'
def spLeast (C : Addr) : Sp := fun vs H Q _ => ∃ (p : FI) (ws : List (List Nat)) (B : Hp) (n : Nat) (k : List Nat), vs = [.ref p.o, .str (tx k), .int ((1 : Nat) : Int)] ∧ FitAt C p ws B H n ∧ n < 80000 ∧ 1 ≤ ws.length ∧ ws.length ≤ 10 ∧ (∀ z ∈ ws, z.length < 100) ∧ k.length < 100 ∧
  ∀ H', FitAt C p ws B H' (n + k.length + 3) → Q (.int (leastF ws k : Nat)) H'
section
variable {P : Program} {w : World} {K : PySem.W.Frag} {mg : Str → Option Value} {base : Heap} {C : Addr}
theorem ok_initF {f : Addr} {fd : FuncData} (F : Fun K "__init__" "Fitting.__init__" s_Fitting_init f fd) (T : Tx mg) (S : FC K C) : FnOk P w K mg base CX0 1 f fd ["self", "words"] (spInitF C) := by
  refine F.ok sc_Fitting_init (fun vs H Q E h => ?_) (fun cdv A outer s H vs Q E hr h => ?_)
  · obtain ⟨o, dx, a, k, ws, H0, rfl, _⟩ := h
    rfl
  · obtain ⟨o, dx, a, k, ws, H0, rfl, e0, ho0, ho, ha0, q⟩ := h
    refine ⟨_, (pss_cons (ps_fld (pv 0) (pe_callTy call_tuple_of (by rfl) T.tuple PyProof.Rows.boot_tuple (pa_cons (pv 1) pa_nil)) rfl)
      (pss_one (ps_fld (pv 0) pe_dnewK rfl))), ?_⟩
    have ha := ha0.ex e0
    have go : ∀ (H1 : Hp) (wt : Addr), Ex H H1 → Rd H1 wt (.tup (wv ws)) → ∃ a_1 C_1 dx_1 fs, V.ref o = .ref a_1 ∧ H1 a_1 = some (.ins C_1 dx_1 fs) ∧ Cls K C_1 ∧ NoAttr K C_1 "_words" ∧ fs.length < 1000 ∧ ∀ d, upd H1 a_1 (.ins C_1 dx_1 (putF "_words" (.ref wt) fs)) d = none →
        ∃ a_2 C_2 dx_2 fs2, V.ref o = .ref a_2 ∧ (upd (upd H1 a_1 (.ins C_1 dx_1 (putF "_words" (.ref wt) fs))) d (.dK [])) a_2 = some (.ins C_2 dx_2 fs2) ∧ Cls K C_2 ∧ NoAttr K C_2 "_found" ∧ fs2.length < 1000 ∧ Q .non (upd (upd (upd H1 a_1 (.ins C_1 dx_1 (putF "_words" (.ref wt) fs))) d (.dK [])) a_2 (.ins C_2 dx_2 (putF "_found" (.ref d) fs2))) := by
      intro H1 wt e1 hw
      have ho1 := e1 _ _ ho
      have nwo : wt ≠ o := Rd.ne hw (.inr ⟨_, _, _, ho1⟩)
      refine ⟨o, C, dx, [], rfl, ho1, S.cl, S.nw, by show 0 < 1000; decide, fun d hd => ?_⟩
      have ndo : d ≠ o := fun z => by rw [z, upd_same] at hd; cases hd
      have hd1 : H1 d = none := by rwa [upd_ne ndo] at hd
      have nwd : wt ≠ d := Rd.ne hw (.inl hd1)
      refine ⟨o, C, dx, _, rfl, by rw [upd_ne ndo.symm]; exact upd_same, S.cl, S.nf, by show 1 < 1000; decide, ?_⟩
      rw [putF2]
      have hd0 : H0 d = none := fresh_back (e0.trans e1) hd1
      refine q _ wt d (((((e0.trans e1).mut ho0)).trans (Ex.new hd)).mut ho0) hd0 ⟨fun b u h => ?_, del_same, ?_, ?_, [], Nat.le_refl _, ?_, fun t v h => by cases h⟩
      · by_cases z : b = d
        · rw [z, del_same] at h
          cases h
        · rw [del_ne z] at h
          exact h
      · rw [del_ne ndo.symm]
        exact upd_same
      · exact Rd.at hw (by rw [del_ne nwd, upd_ne nwo, upd_ne nwd, upd_ne nwo])
      · rw [upd_ne ndo]
        exact upd_same
    cases k
    · refine ⟨_, rfl, a, _, rfl, .inl ⟨sq_of ha, fun l hl => ⟨_, rfl, ?_⟩⟩⟩
      obtain ⟨a1, C1, dx1, fs1, x1, x2, x3, x4, x5, x6⟩ := go _ l (Ex.new hl) (.inl upd_same)
      exact ⟨a1, C1, dx1, fs1, x1, x2, x3, x4, x5, fun d hd => ⟨_, rfl, x6 d hd⟩⟩
    · refine ⟨_, rfl, a, _, rfl, .inr ⟨.inl ha.rd, ⟨_, rfl, ?_⟩⟩⟩
      obtain ⟨a1, C1, dx1, fs1, x1, x2, x3, x4, x5, x6⟩ := go _ a (Ex.refl _) ha.rd
      exact ⟨a1, C1, dx1, fs1, x1, x2, x3, x4, x5, fun d hd => ⟨_, rfl, x6 d hd⟩⟩
theorem ok_can {f : Addr} {fd : FuncData} (F : Fun K "can" "Fitting.can" s_Fitting_can f fd) (T : Tx mg) (S : FC K C) (c_fits : Kn P w K mg base "fits" ["known", "word", "offset"] 1 spFits) : FnOk P w K mg base CX0 2 f fd ["self", "known", "offset"] (spCan C) := by
  refine F.ok sc_Fitting_can (fun vs H Q E h => ?_) (fun cdv A outer s H vs Q E hr h => ?_)
  · obtain ⟨p, ws, B, n, off, k, rfl, _⟩ := h
    rfl
  · obtain ⟨p, ws, B, n, off, k, rfl, FA, hn, w10, wz, hk, ho9, q⟩ := h
    refine ⟨_, (pss_cons (ps_set (i := 3) sc_Fitting_can.nd rfl (Or.inr rfl) (pe_slice sl_str (pv 1) (po_some (pv 2)) po_none))
      (pss_cons (ps_if (pt_cmp (pc_dnotin (hu_of hr) (pv 3) (pe_fld (pv 0) rfl))) (pss_one (ps_dput (hu_of hr) (pe_fld (pv 0) rfl) (pv 3) (pe_callB (cr_any rfl) (by rfl) T.any PyProof.Rows.boot_any (pa_cons (pe_lc (own := [("word", 4)]) (g := gName 4) (tt := tYes) rfl sc_Fitting_can.nd (pi_tup (pe_fld (pv 0) rfl)) (blkOk_by (N := N_Fitting_can) (sc := defScope s_Fitting_can) (by decide +kernel)) (fun _ _ _ _ _ => (pg_name (i := 4) sc_Fitting_can.nd rfl (Or.inl rfl))) (fun _ _ _ _ _ => pts_nil) (fun _ _ _ _ _ => (pe_call c_fits.ok (hr.mono (by decide)) (by rfl) c_fits.g c_fits.kp c_fits.b .nil pass0 (pa_cons (pv 3) (pa_cons (pv 4) (pa_cons pe_int pa_nil)))))) pa_nil)) rfl)) pss_nil)
      (pss_one (ps_ret (pe_dget (hu_of hr) (pe_fld (pv 0) rfl) (pv 3) (fun _ _ => rfl)))))), ?_⟩
    have FP := FA.plus
    obtain ⟨e0, h0, ho, hw, kvs, hl, hd, hc⟩ := FP
    have hoH := e0 _ _ ho
    have hwH := Rd.up hw e0
    refine ⟨_, rfl, _, rfl, _, rfl, _, rfl, tx_le (by omega), ?_⟩
    rw [cut_from]
    obtain ⟨rs, hrs⟩ : ∃ rs, k.drop off = rs := ⟨_, rfl⟩
    have rl : rs.length < 100 := by
      rw [← hrs, List.length_drop]
      omega
    rw [hrs]
    dsimp only [gName]
    refine ⟨_, rfl, _, rfl, p.o, C, p.dx, _, _, rfl, hoH, S.cl, S.nf, fl_found .., ?_⟩
    refine ⟨p.d, _, rfl, DGet.k (k := .inr (tx rs)) hd, _, rfl, ?_⟩
    cases hv : valV kvs (.inr (tx rs)) with
    | some v =>
      refine iteF ?_
      have := hc rs v hv
      subst this
      refine ⟨_, rfl, p.o, C, p.dx, _, _, rfl, hoH, S.cl, S.nf, fl_found .., _, rfl, p.d, _, rfl, by rw [← hv]; exact DGet.k (k := .inr (tx rs)) hd, ?_⟩
      rw [← hrs, can_drop]
      exact q _ (FA.le (by omega))
    | none =>
      refine iteT ?_
      refine ⟨_, rfl, p.o, C, p.dx, _, _, rfl, hoH, S.cl, S.nw, fl_words .., p.wt, rfl, ⟨_, .inl hwH⟩, fun D hD => ?_⟩
      refine lc_tup (xs := wv ws) (fun i H' => Ex H H' ∧ H' D = some (.lst (((ws.take i).map fun z => fitsF rs z 0).map V.bl))) ⟨Ex.new hD, upd_same⟩ (fun i H' _ p => .inl (Rd.up hwH p.1)) (fun i x H2 hx hw2 => ?_) (fun H2 hw2 => ?_)
      · obtain ⟨e2, hL⟩ := hw2
        unfold wv at hx
        rw [List.getElem?_map] at hx
        obtain ⟨z, hz, rfl⟩ := Option.map_eq_some_iff.mp hx
        refine ⟨rfl, _, rfl, _, rfl, rs, z, 0, rfl, by omega, Nat.lt_trans (wz z (List.mem_of_getElem? hz)) (by decide), by decide, fun H3 e3 => ⟨_, e3 _ _ hL, ?_, (e2.trans e3).mut hD, ?_⟩⟩
        · rw [List.length_map, List.length_map, List.length_take]
          exact sz_lt (by omega)
        · rw [upd_same, List.take_add_one, hz, List.map_append, List.map_append]
          rfl
      · obtain ⟨e2, hL⟩ := hw2
        rw [show (wv ws).length = ws.length by unfold wv; rw [List.length_map], List.take_length] at hL
        refine ⟨D, _, rfl, sq_of hL, ?_⟩
        rw [can_any]
        refine ⟨_, rfl, p.o, C, p.dx, _, _, rfl, e2 _ _ hoH, S.cl, S.nf, fl_found .., _, rfl, p.d, _, rfl, DPut.k (k := .inr (tx rs)) (e2 _ _ hd) (sz_lt (by omega)), ?_⟩
        have npo : p.o ≠ p.d := fun z => by rw [z, hd] at hoH; cases hoH
        have hg : DGet (upd H2 p.d (.dK (putK kvs (.inr (tx rs)) (.bl (canF ws rs 0))))) p.d (.str (tx rs)) (some (.bl (canF ws rs 0))) := by
          have := DGet.k (k := .inr (tx rs)) (upd_same (H := H2) (a := p.d) (o := .dK (putK kvs (.inr (tx rs)) (.bl (canF ws rs 0)))))
          rw [valV_put, if_pos rfl] at this
          exact this
        refine ⟨_, rfl, p.o, C, p.dx, _, _, rfl, by rw [upd_ne npo]; exact e2 _ _ hoH, S.cl, S.nf, fl_found .., _, rfl, p.d, _, rfl, hg, ?_⟩
        have hcan : canF ws rs 0 = canF ws k off := by rw [← hrs, can_drop]
        have hx := length_putK kvs (.inr (tx rs)) (V.bl (canF ws rs 0))
        have F2 : FitAt C p ws (del H p.d) (upd H2 p.d (.dK (putK kvs (.inr (tx rs)) (.bl (canF ws rs 0))))) (n + 1) := ⟨(e0.trans e2).mut del_same, del_same, ho, hw, _, by omega, upd_same, fun t v h => by
          rw [valV_put] at h
          by_cases z : (.inr (tx t) : Key) = .inr (tx rs)
          · rw [if_pos z] at h
            cases h
            rw [tx_inj (Sum.inr.inj z)]
          · rw [if_neg z] at h
            exact hc t v h⟩
        rw [hcan] at F2 ⊢
        exact q _ (FA.back F2)
theorem ok_least {f fc : Addr} {fd fdc : FuncData} (F : Fun K "least" "Fitting.least" s_Fitting_least f fd) (T : Tx mg) (S : FC K C) (Me_can : Meth K C "can" fc) (F_can : FnOk P w K mg base CX0 2 fc fdc ["self", "known", "offset"] (spCan C)) (b_can : Binds K fdc ["self", "known", "offset"] []) :
    FnOk P w K mg base CX0 3 f fd ["self", "known", "low"] (spLeast C) := by
  refine F.ok sc_Fitting_least (fun vs H Q E h => ?_) (fun cdv A outer s H vs Q E hr h => ?_)
  · obtain ⟨p, ws, B, n, k, rfl, _⟩ := h
    rfl
  · obtain ⟨p, ws, B, n, k, rfl, FA, hn, w1, w10, wz, hk, q⟩ := h
    refine ⟨_, (pss_cons (ps_set (i := 3) sc_Fitting_least.nd rfl (Or.inl rfl) (pv 2))
      (pss_cons (ps_while PassesOwn.never (pt_not (pt_val (pe_meth (pv 0) S.cl Me_can F_can (hr.mono (by decide)) b_can .nil pass0 (pa_cons (pv 1) (pa_cons (pv 3) pa_nil))))) (pss_one (ps_aug (i := 3) sc_Fitting_least.nd rfl (Or.inl rfl) pe_int ip_add)))
      (pss_one (ps_ret (pv 3))))), ?_⟩
    refine ⟨_, rfl, ?_⟩
    dsimp only [gName]
    refine ⟨fun m σ H' => ∃ (o n' : Nat), σ = [some (.ref p.o), some (.str (tx k)), some (.int ((1 : Nat) : Int)), some (.int (o : Nat))] ∧ FitAt C p ws B H' n' ∧ leastN ws k m o = leastF ws k ∧ o + m = k.length + 2 ∧ n' + m = n + k.length + 1 ∧ 1 ≤ o,
      ⟨k.length + 1, 1, n, rfl, FA, rfl, by omega, by omega, by decide⟩, fun m σ H' hw => ?_⟩
    obtain ⟨o, n', rfl, FB, hl, hm, hm2, o1⟩ := hw
    refine ⟨_, rfl, p.o, p.dx, _, rfl, FB.1 _ _ FB.2.2.1, fl_can .., _, rfl, _, rfl, ?_⟩
    refine ⟨p, ws, B, n', o, k, rfl, FB, by omega, w10, wz, hk, by omega, fun H2 F2 => ⟨_, rfl, ?_⟩⟩
    cases hc : canF ws k o with
    | true =>
      refine ⟨_, rfl, ?_⟩
      rw [leastN_stop hc] at hl
      rw [hl]
      exact q _ (F2.le (by omega))
    | false =>
      refine ⟨fun σ' H' => ∃ m', m' < m ∧ ∃ (o n' : Nat), σ' = [some (.ref p.o), some (.str (tx k)), some (.int ((1 : Nat) : Int)), some (.int (o : Nat))] ∧ FitAt C p ws B H' n' ∧ leastN ws k m' o = leastF ws k ∧ o + m' = k.length + 2 ∧ n' + m' = n + k.length + 1 ∧ 1 ≤ o, fun σ' H' h => h, ?_⟩
      cases m with
      | zero =>
        rw [can_far w1 (by omega)] at hc
        cases hc
      | succ m =>
        rw [leastN_go hc] at hl
        exact ⟨_, rfl, _, _, rfl, rfl, m, Nat.lt_succ_self m, o + 1, n' + 1, rfl, F2, hl, by omega, by omega, by omega⟩
end
end Law

namespace Law
open PySem PySem.Spec PyProof.Rows L2 Evl EK TR Fg
theorem for_strX {x : Str} {g : TG} {tb : TS} {D : Ends} {σ : L2.St} {H : Hp} (Pv : Nat → L2.St → Hp → Prop) (h0 : Pv 0 σ H)
    (hs : ∀ i c σ H, x.cps[i]? = some c → Pv i σ H → g (.str ⟨#[c]⟩) σ H fun σ2 H2 => tb { D with nx := Pv (i + 1), ct := Pv (i + 1), bk := D.nx } σ2 H2) (hd : ∀ σ H, Pv x.cps.size σ H → D.nx σ H) :
    ∃ W : Nat → Nat → L2.St → Hp → Prop, (∃ m, W 0 m σ H) ∧ ∀ i m σ H, W i m σ H →
      ((Its x).stop i H ∧ D.nx σ H) ∨ ((Its x).go i H ∧ ∃ N : L2.St → Hp → Prop, (∀ σ' H', N σ' H' → ∃ m', m' < m ∧ W (i + 1) m' σ' H') ∧ ∀ v H', (Its x).yld i H v H' → g v σ H' fun σ2 H2 => tb { D with nx := N, ct := N, bk := D.nx } σ2 H2) := by
  refine ⟨fun i m σ H => i + m = x.cps.size ∧ Pv i σ H, ⟨_, Nat.zero_add _, h0⟩, ?_⟩
  rintro i m σ H ⟨e, p⟩
  by_cases hm : m = 0
  · have e2 : i = x.cps.size := by omega
    refine .inl ⟨by show x.cps.size ≤ i; omega, hd σ H ?_⟩
    rw [← e2]
    exact p
  · refine .inr ⟨by show i < x.cps.size; omega, Pv (i + 1), fun σ' H' p' => ⟨m - 1, by omega, by omega, p'⟩, ?_⟩
    rintro v H' ⟨rfl, c, hc, rfl⟩
    exact hs i c σ _ hc p
theorem ifS_cut {t : TT} {ta tb : TS} {D : Ends} {σ : L2.St} {H : Hp} (Pv : Bool → Hp → Prop) (h : ∀ R : Bool → Hp → Prop, (∀ b H', Pv b H' → R b H') → t σ H R) (r1 : ∀ H', Pv true H' → ta D σ H') (r0 : ∀ H', Pv false H' → tb D σ H') : tIfS t ta tb D σ H :=
  h _ fun b H' p => by
    cases b
    · exact (if_neg (by decide)).mpr (r0 H' p)
    · exact (if_pos rfl).mpr (r1 H' p)
inductive MvL (H : Hp) : List V → List Mvt → Prop
  | nil : MvL H [] []
  | cons {v : V} {m : Mvt} {vs : List V} {ms : List Mvt} : MvA H v m → MvL H vs ms → MvL H (v :: vs) (m :: ms)
theorem MvA.to {H H' : Hp} (k : ∀ b xs, H b = some (.tup xs) → H' b = some (.tup xs)) {v : V} {m : Mvt} (h : MvA H v m) : MvA H' v m := by
  obtain ⟨b, rfl, hb⟩ := h
  exact ⟨b, rfl, k _ _ hb⟩
theorem MvL.to {H H' : Hp} (k : ∀ b xs, H b = some (.tup xs) → H' b = some (.tup xs)) {vs : List V} {ms : List Mvt} (h : MvL H vs ms) : MvL H' vs ms := by
  induction h with
  | nil => exact .nil
  | cons a _ ih => exact .cons (a.to k) ih
theorem MvL.len {H : Hp} {vs : List V} {ms : List Mvt} (h : MvL H vs ms) : vs.length = ms.length := by
  induction h with
  | nil => rfl
  | cons _ _ ih => rw [List.length_cons, List.length_cons, ih]
theorem MvL.snoc {H : Hp} {v : V} {m : Mvt} (a : MvA H v m) {vs : List V} {ms : List Mvt} (h : MvL H vs ms) : MvL H (vs ++ [v]) (ms ++ [m]) := by
  induction h with
  | nil => exact .cons a .nil
  | cons b _ ih => exact .cons b ih
def MvT (H : Hp) (v : V) (ms : List Mvt) : Prop := ∃ t us, v = .ref t ∧ H t = some (.tup us) ∧ MvL H us ms
theorem MvT.to {H H' : Hp} (k : ∀ b xs, H b = some (.tup xs) → H' b = some (.tup xs)) {v : V} {ms : List Mvt} (h : MvT H v ms) : MvT H' v ms := by
  obtain ⟨t, us, rfl, ht, hm⟩ := h
  exact ⟨t, us, rfl, k _ _ ht, hm.to k⟩
theorem FitAt.upd {C : Addr} {p : FI} {ws : List (List Nat)} {B H : Hp} {n : Nat} {a : Addr} {o : HO} (F : FitAt C p ws B H n) (h : B a = none) (hd : a ≠ p.d) : FitAt C p ws B (L2.upd H a o) n := by
  obtain ⟨e0, h0, ho, hw, kvs, hl, hk, hc⟩ := F
  exact ⟨e0.mut h, h0, ho, hw, kvs, hl, by rw [upd_ne hd.symm]; exact hk, hc⟩
theorem FitAt.tups {C : Addr} {p : FI} {ws : List (List Nat)} {B H H' : Hp} {n m : Nat} (F : FitAt C p ws B H n) (F' : FitAt C p ws (del H p.d) H' m) : ∀ b xs, H b = some (.tup xs) → H' b = some (.tup xs) := fun b xs h => F.keep F' h (F.ne h fun _ z => by cases z)
def spMvs (C : Addr) : Sp := fun vs H Q _ => ∃ (p : FI) (ws : List (List Nat)) (B : Hp) (n i : Nat) (q L : List Nat) (a : Addr) (k : Bool), vs = [.str (tx L), .ref a, .ref p.o, .str (tx q), .int (i : Nat)] ∧ FitAt C p ws B H n ∧ SQ.WQ B a k (wv ws) ∧ n < 70000 ∧ L.length ≤ 4 ∧ 1 ≤ ws.length ∧ ws.length ≤ 10 ∧ (∀ z ∈ ws, z.length < 100) ∧ q.length ≤ 6 ∧ i < q.length ∧
  ∀ H' v, FitAt C p ws B H' (n + 50) → MvT H' v (L.map fun c => mvF ws q i c) → Q v H'
section
variable {P : Program} {w : World} {K : PySem.W.Frag} {mg : Str → Option Value} {base : Heap} {C : Addr}
theorem ok_mvs {f fc fl : Addr} {fd fdc fdl : FuncData} (F : Fun K "_moves" "_moves" s_mvs f fd) (T : Tx mg) (S : FC K C) (Me_can : Meth K C "can" fc) (F_can : FnOk P w K mg base CX0 2 fc fdc ["self", "known", "offset"] (spCan C)) (b_can : Binds K fdc ["self", "known", "offset"] [])
    (Me_least : Meth K C "least" fl) (F_least : FnOk P w K mg base CX0 3 fl fdl ["self", "known", "low"] (spLeast C)) (b_least : Binds K fdl ["self", "known", "low"] []) (c_slid : Kn P w K mg base "slid" ["known", "by"] 1 spSlid) :
    FnOk P w K mg base CX0 4 f fd ["letters", "words", "fitting", "partial", "place"] (spMvs C) := by
  refine F.ok sc_mvs (fun vs H Q E h => ?_) (fun cdv A outer s H vs Q E hr h => ?_)
  · obtain ⟨p, ws, B, n, i, u, L, a, k, rfl, _⟩ := h
    rfl
  · obtain ⟨p, ws, B, n, i, u, L, a, k, rfl, FA, ha, hn, l4, w1, w10, wz, hu, hi, q⟩ := h
    refine ⟨_, (pss_cons (ps_set (i := 5) sc_mvs.nd rfl (Or.inl rfl) (pe_lst pa_nil))
      (pss_cons (ps_for PassesOwn.never rfl (pi_str (pv 0)) (pg_name (i := 6) sc_mvs.nd rfl (Or.inl rfl)) (pss_cons (ps_set (i := 7) sc_mvs.nd rfl (Or.inl rfl) (pe_op op_add_str (pe_op op_add_str (pe_slice sl_str (pv 3) po_none (po_some (pv 4))) (pv 6)) (pe_slice sl_str (pv 3) (po_some (pe_op op_add (pv 4) pe_int)) po_none)))
      (pss_one (ps_if (PW.pt (pw_and (pt_cmpR op_in_sign pe_str (pv 7) rfl) (pw_and1 (pt_val (pe_meth (pv 2) S.cl Me_can F_can (hr.mono (by decide)) b_can .nil pass0 (pa_cons (pv 7) (pa_cons pe_int pa_nil))))))) (pss_one (ps_expr (pe_bm PySem.F.plainAttrs_list PySem.F.slot_list_append PySem.F.type_list_append mt_append (pv 5) (pa_cons (pe_tup (pa_cons pe_int (pa_cons pe_non (pa_cons (pv 7) pa_nil)))) pa_nil)))) (pss_cons (ps_set (i := 8) sc_mvs.nd rfl (Or.inl rfl) (pe_meth (pv 2) S.cl Me_least F_least (hr.mono (by decide)) b_least .nil pass0 (pa_cons (pv 7) (pa_cons pe_int pa_nil))))
      (pss_cons (ps_set (i := 9) sc_mvs.nd rfl (Or.inl rfl) (pe_ifExp (pt_cmpR op_in_seq (pv 7) (pv 1) rfl) (SQ.pe_index (pv 1) (pa_cons (pv 7) pa_nil)) pe_non))
      (pss_one (ps_expr (pe_bm PySem.F.plainAttrs_list PySem.F.slot_list_append PySem.F.type_list_append mt_append (pv 5) (pa_cons (pe_tup (pa_cons (pv 8) (pa_cons (pv 9) (pa_cons (pe_call c_slid.ok (hr.mono (by decide)) (by rfl) c_slid.g c_slid.kp c_slid.b .nil pass0 (pa_cons (pv 7) (pa_cons (pv 8) pa_nil))) pa_nil)))) pa_nil))))))))))
      (pss_one (ps_ret (pe_callTy call_tuple_of (by rfl) T.tuple PyProof.Rows.boot_tuple (pa_cons (pv 5) pa_nil)))))), ?_⟩
    have ul : (tx u).length ≤ sizeLine := tx_le (by omega)
    refine ⟨by show 0 ≤ sizeLine; decide, fun fa hfa => ?_⟩
    have fa0 : B fa = none := fresh_back FA.1 hfa
    have nfa : fa ≠ p.d := fun z => by
      obtain ⟨_, _, _, _, kvs, _, hd, _⟩ := FA
      rw [z, hd] at hfa
      cases hfa
    have F1 := FA.ex (Ex.new (o := .lst []) hfa)
    have k1 : (L2.upd H fa (.lst [])) fa = some (.lst []) := upd_same
    generalize (L2.upd H fa (.lst [])) = H1 at F1 k1 ⊢
    dsimp only [gName]
    refine ⟨_, rfl, _, rfl, ?_⟩
    refine for_strX (x := tx L) (fun j σ H' => ∃ (us : List V) (y6 y7 y8 y9 : Option V), σ = [some (.str (tx L)), some (.ref a), some (.ref p.o), some (.str (tx u)), some (.int (i : Nat)), some (.ref fa), y6, y7, y8, y9] ∧ FitAt C p ws B H' (n + 12 * j) ∧ H' fa = some (.lst us) ∧ MvL H' us ((L.take j).map fun c => mvF ws u i c))
      ⟨[], none, none, none, none, rfl, F1, k1, .nil⟩ (fun j c σ H2 hc hw => ?_) (fun σ H2 hw => ?_)
    · obtain ⟨us, y6, y7, y8, y9, rfl, F2, k2, M2⟩ := hw
      have hcL := tx_at hc
      have hj := (List.getElem?_eq_some_iff.mp hcL).1
      have usl := M2.len
      rw [List.length_map, List.length_take] at usl
      dsimp only [gName]
      refine ⟨_, rfl, _, rfl, _, rfl, _, rfl, ul, _, rfl, _, _, rfl, rfl, ?_, _, rfl, _, rfl, _, _, rfl, rfl, _, rfl, _, rfl, ul, _, _, rfl, rfl, ?_, ?_⟩
      · rw [cut_to, tx_len, List.length_take]
        show _ + 1 ≤ _
        exact sz_le (by omega)
      · rw [cut_to, show (i : Int) + 1 = ((i + 1 : Nat) : Int) by omega, cut_from, show (⟨#[c]⟩ : Str) = tx [c] from rfl, tx_app, tx_len, tx_len, List.length_append, List.length_take, List.length_drop]
        exact sz_le (by simp; omega)
      obtain ⟨vw, hvw⟩ : ∃ vw, viewF u i c = vw := ⟨_, rfl⟩
      have vl : vw.length = u.length := by rw [← hvw]; exact view_len hi
      dsimp only [gName]
      refine' st_eq (σ' := [some (.str (tx L)), some (.ref a), some (.ref p.o), some (.str (tx u)), some (.int (i : Nat)), some (.ref fa), some (.str (sg c)), some (.str (tx vw)), y8, y9]) (by rw [← hvw, ← view_eq]; rfl) ?_
      have hoH := F2.1 _ _ F2.2.2.1
      have next : ∀ (H' : Hp) (b : Addr), FitAt C p ws B H' (n + 12 * j + 11) → H' fa = some (.lst us) → MvL H' us ((L.take j).map fun c => mvF ws u i c) → MvA H' (.ref b) (mvF ws u i c) → FitAt C p ws B (L2.upd H' fa (.lst (us ++ [.ref b]))) (n + 12 * (j + 1)) ∧ (L2.upd H' fa (.lst (us ++ [.ref b]))) fa = some (.lst (us ++ [.ref b])) ∧ MvL (L2.upd H' fa (.lst (us ++ [.ref b]))) (us ++ [.ref b]) ((L.take (j + 1)).map fun c => mvF ws u i c) := fun H' b G1 G2 G3 G4 => by
        refine ⟨(G1.upd fa0 nfa).le (by omega), upd_same, ?_⟩
        rw [List.take_add_one, hcL, List.map_append]
        exact (MvL.snoc G4 G3).to fun b xs h => by
          rw [upd_ne (fun z => by rw [z, G2] at h; cases h)]
          exact h
      refine ifS_cut (fun b H' => b = (decide (46 ∈ vw) && canF ws vw 0) ∧ FitAt C p ws (del H2 p.d) H' (n + 12 * j + 1)) (fun R rest => ?_) (fun H3 hp => ?_) (fun H3 hp => ?_)
      · refine ⟨_, rfl, 46, tx vw, congrArg V.str dot_sg, rfl, _, rfl, ite2 (fun hd => ?_) (fun hd => ?_)⟩
        · refine ⟨_, rfl, p.o, p.dx, _, rfl, hoH, fl_can .., _, rfl, p, ws, _, n + 12 * j, 0, vw, rfl, F2.plus, by omega, w10, wz, by omega, by decide, fun H3 F3 => ⟨_, rfl, rest _ _ ⟨?_, F3⟩⟩⟩
          have hd2 : decide (46 ∈ vw) = true := hd
          rw [hd2, Bool.true_and]
        · have hd2 : decide (46 ∈ vw) = false := by
            have : ¬ decide (46 ∈ vw) = true := hd
            simpa using this
          exact rest _ _ ⟨by rw [hd2]; rfl, F2.plus.le (by omega)⟩
      · obtain ⟨hb, F3⟩ := hp
        have F3b := F2.back F3
        have k3 := F2.keep F3 k2 nfa
        have M3 := M2.to (F2.tups F3)
        refine ⟨_, rfl, .inl ⟨rfl, _, sq_of k3⟩, _, rfl, by show 3 ≤ sizeLine; decide, fun b hb2 => ?_⟩
        have e4 := Ex.new (o := .tup [.int 0, .non, .str (tx vw)]) hb2
        have mvb : MvA (L2.upd H3 b (.tup [.int 0, .non, .str (tx vw)])) (.ref b) (mvF ws u i c) := by
          refine ⟨b, rfl, ?_⟩
          unfold mvF
          rw [hvw, if_pos hb.symm]
          exact upd_same
        obtain ⟨n1, n2, n3⟩ := next _ b ((F3b.ex e4).le (by omega)) (e4 _ _ k3) (M3.to fun b xs h => e4 _ _ h) mvb
        exact ⟨fa, _, _, rfl, rfl, e4 _ _ k3, sz_lt (by omega), _, _, _, _, _, rfl, n1, n2, n3⟩
      · obtain ⟨hb, F3⟩ := hp
        have F3b := F2.back F3
        have k3 := F2.keep F3 k2 nfa
        have M3 := M2.to (F2.tups F3)
        obtain ⟨l1, l2, _⟩ := leastF_ok (k := vw) w1 (by omega)
        refine ⟨_, rfl, p.o, p.dx, _, rfl, F3b.1 _ _ F3b.2.2.1, fl_least .., _, rfl, p, ws, _, n + 12 * j + 1, vw, rfl, F3b.plus, by omega, w1, w10, wz, by omega, fun H4 F4 => ?_⟩
        have F4b := F3b.back F4
        have k4 := F3b.keep F4 k3 nfa
        have M4 := M3.to (F3b.tups F4)
        have a4 := ha.ex F4b.1
        dsimp only [gName]
        refine' st_eq (σ' := [some (.str (tx L)), some (.ref a), some (.ref p.o), some (.str (tx u)), some (.int (i : Nat)), some (.ref fa), some (.str (sg c)), some (.str (tx vw)), some (.int (leastF ws vw : Nat)), y9]) rfl ?_
        refine cutE (fun v H' => H' = H4 ∧ v = nvV (if vw ∈ ws then some (ws.idxOf vw) else none)) (fun R rest => ?_) ?_
        · refine ⟨_, rfl, _, rfl, a, _, rfl, a4.seq, rfl, flat_wv _, _, rfl, ?_⟩
          rw [inV_wv]
          refine ite2 (fun hm => ?_) (fun hm => ?_)
          · have hm2 : vw ∈ ws := of_decide_eq_true hm
            have fin := rest (nvV (if vw ∈ ws then some (ws.idxOf vw) else none)) H4 ⟨rfl, rfl⟩
            rw [if_pos hm2] at fin
            have fin : R (.int ((ws.map tx).idxOf (tx vw) : Nat)) H4 := by rw [idx_tx]; exact fin
            have mem : tx vw ∈ ws.map tx := List.mem_map.mpr ⟨vw, hm2, rfl⟩
            rw [wv_map] at a4
            cases k
            · exact .inl ⟨_, rfl, .inl ⟨rfl, _, sq_of a4⟩, _, rfl, a, ws.map tx, tx vw, rfl, rfl, sq_of a4, mem, fin⟩
            · have a5 := a4.rd
              obtain ⟨ob, a6, a7, a8⟩ := a4
              exact .inr ⟨_, rfl, ⟨a, ob, _, rfl, a6, a7, a8⟩, _, rfl, a, ws.map tx, tx vw, rfl, rfl, .inl a5, mem, fin⟩
          · have hm2 : vw ∉ ws := fun z => hm (decide_eq_true z)
            have fin := rest (nvV (if vw ∈ ws then some (ws.idxOf vw) else none)) H4 ⟨rfl, rfl⟩
            rw [if_neg hm2] at fin
            exact fin
        · rintro v H5 ⟨rfl, rfl⟩
          dsimp only [gName]
          refine' st_eq (σ' := [some (.str (tx L)), some (.ref a), some (.ref p.o), some (.str (tx u)), some (.int (i : Nat)), some (.ref fa), some (.str (sg c)), some (.str (tx vw)), some (.int (leastF ws vw : Nat)), some (nvV (if vw ∈ ws then some (ws.idxOf vw) else none))]) rfl ?_
          refine ⟨_, rfl, .inl ⟨rfl, _, sq_of k4⟩, _, rfl, _, rfl, _, rfl, _, rfl, vw, leastF ws vw, rfl, by omega, fun H6 e6 => ⟨by show 3 ≤ sizeLine; decide, fun b hb2 => ?_⟩⟩
          have e7 := e6.trans (Ex.new (o := .tup [.int (leastF ws vw : Nat), nvV (if vw ∈ ws then some (ws.idxOf vw) else none), .str (tx (slidF vw (leastF ws vw)))]) hb2)
          have mvb : MvA (L2.upd H6 b (.tup [.int (leastF ws vw : Nat), nvV (if vw ∈ ws then some (ws.idxOf vw) else none), .str (tx (slidF vw (leastF ws vw)))])) (.ref b) (mvF ws u i c) := by
            refine ⟨b, rfl, ?_⟩
            have hm : mvF ws u i c = (leastF ws vw, if vw ∈ ws then some (ws.idxOf vw) else none, slidF vw (leastF ws vw)) := by
              unfold mvF
              rw [hvw, ← hb]
              rfl
            rw [hm]
            exact upd_same
          obtain ⟨n1, n2, n3⟩ := next _ b ((F4b.ex e7).le (by omega)) (e7 _ _ k4) (M4.to fun b xs h => e7 _ _ h) mvb
          exact ⟨fa, _, _, rfl, rfl, e7 _ _ k4, sz_lt (by omega), _, _, _, _, _, rfl, n1, n2, n3⟩
    · obtain ⟨us, y6, y7, y8, y9, rfl, F2, k2, M2⟩ := hw
      rw [tx_size, List.take_length] at M2
      rw [tx_size] at F2
      refine ⟨_, rfl, fa, _, rfl, .inl ⟨sq_of k2, fun t ht => ?_⟩⟩
      exact q _ _ ((F2.ex (Ex.new ht)).le (by omega)) ⟨t, us, rfl, upd_same, M2.to fun b xs h => (Ex.new ht) _ _ h⟩
end
end Law

namespace Law
open PySem PySem.Spec PyProof.Rows L2 Evl EK TR Fg
theorem out_it {J : It} {n : Nat} {G : Hp → Prop} {Y : Nat → Hp → V → Hp → Prop} (w : Walk J n G Y) {Body : V → Hp → (Hp → Prop) → Prop} {S : Hp → Prop} {H0 : Hp} (Pv : Nat → Hp → Prop) (h0 : Pv 0 H0) (hG : ∀ i H, i ≤ n → Pv i H → G H)
    (hs : ∀ i x H H', i < n → Pv i H → Y i H x H' → Body x H' (Pv (i + 1))) (hd : ∀ H, Pv n H → S H) :
    ∃ W : Nat → Nat → Hp → Prop, (∃ m, W 0 m H0) ∧ ∀ i m H, W i m H → (J.stop i H ∧ S H) ∨ (J.go i H ∧ ∃ N : Hp → Prop, (∀ H', N H' → ∃ m', m' < m ∧ W (i + 1) m' H') ∧ ∀ x H', J.yld i H x H' → Body x H' N) := by
  refine ⟨fun i m H => m = n - i ∧ i ≤ n ∧ Pv i H, ⟨n, by simp, Nat.zero_le _, h0⟩, ?_⟩
  rintro i m H ⟨rfl, hi, p⟩
  have q := hG i H hi p
  by_cases hlt : i < n
  · exact .inr ⟨w.goes i H hlt q, Pv (i + 1), fun H' p' => ⟨n - (i + 1), by omega, rfl, hlt, p'⟩, fun x H' y => hs i x H H' hlt p (w.yields i H x H' hlt q y)⟩
  · have e : i = n := by omega
    subst e
    exact .inl ⟨w.stops H q, hd H p⟩
theorem walk_enumS {x : Str} : Walk (EN.ItS x) x.cps.size (fun _ => True) (fun i H v H' => ∃ T c, v = .ref T ∧ H T = none ∧ H' = L2.upd H T (.tup [.int (i : Nat), .str ⟨#[c]⟩]) ∧ x.cps[i]? = some c) :=
  ⟨fun i H hi _ => hi, fun H _ => rfl, fun i H v H' hi _ y => by
    obtain ⟨T, c, rfl, hT, rfl, hc⟩ := y
    exact ⟨T, c, rfl, hT, rfl, hc⟩⟩
theorem putK_new {kvs : List (Key × V)} {k : Key} {v : V} (h : valV kvs k = none) : putK kvs k v = kvs ++ [(k, v)] := by
  unfold putK
  rw [valV_any, h]
  rfl
theorem MvL.get {H : Hp} {vs : List V} {ms : List Mvt} (h : MvL H vs ms) : ∀ {i : Nat} {v : V}, vs[i]? = some v → ∃ m, ms[i]? = some m ∧ MvA H v m := by
  induction h with
  | nil => intro i v h; cases h
  | @cons v m vs ms a _ ih =>
    intro i u hu
    cases i with
    | zero => cases hu; exact ⟨m, rfl, a⟩
    | succ i => exact ih hu
inductive RowL (H : Hp) (L : List Nat) (ws : List (List Nat)) (p : List Nat) : List (Key × V) → List Nat → Prop
  | nil : RowL H L ws p [] []
  | cons {i : Nat} {v : V} {kvs : List (Key × V)} {is : List Nat} : MvT H v (L.map fun c => mvF ws p i c) → RowL H L ws p kvs is → RowL H L ws p ((.inl (i : Int), v) :: kvs) (i :: is)
inductive TabL (H : Hp) (L : List Nat) (ws : List (List Nat)) (xs : List Addr) : List (Key × V) → List (List Nat) → Prop
  | nil : TabL H L ws xs [] []
  | cons {p : List Nat} {b : Addr} {rows kvs : List (Key × V)} {ps : List (List Nat)} : H b = some (.dK rows) → (∀ x ∈ xs, b ≠ x) → RowL H L ws p rows (dots p) → TabL H L ws xs kvs ps → TabL H L ws xs ((.inr (tx p), .ref b) :: kvs) (p :: ps)
section
variable {H H' : Hp} {L : List Nat} {ws : List (List Nat)} {p : List Nat} {xs : List Addr}
theorem RowL.to (k : ∀ b xs, H b = some (.tup xs) → H' b = some (.tup xs)) {kvs : List (Key × V)} {is : List Nat} (h : RowL H L ws p kvs is) : RowL H' L ws p kvs is := by
  induction h with
  | nil => exact .nil
  | cons a _ ih => exact .cons (a.to k) ih
theorem RowL.none {kvs : List (Key × V)} {is : List Nat} (h : RowL H L ws p kvs is) {i : Nat} (hi : i ∉ is) : valV kvs (.inl (i : Int)) = none := by
  induction h with
  | nil => rfl
  | @cons j v kvs is _ _ ih =>
    have hj : j ≠ i := fun z => hi (z ▸ List.mem_cons_self ..)
    rw [valV_neg (fun z => hj (by have := Sum.inl.inj z; omega))]
    exact ih fun z => hi (List.mem_cons_of_mem _ z)
theorem RowL.get {kvs : List (Key × V)} {is : List Nat} (h : RowL H L ws p kvs is) {i : Nat} (hi : i ∈ is) : ∃ v, valV kvs (.inl (i : Int)) = some v ∧ MvT H v (L.map fun c => mvF ws p i c) := by
  induction h with
  | nil => cases hi
  | @cons j v kvs is a _ ih =>
    by_cases hj : j = i
    · subst hj
      exact ⟨v, valV_pos rfl, a⟩
    · rw [valV_neg (fun z => hj (by have := Sum.inl.inj z; omega))]
      exact ih ((List.mem_cons.mp hi).resolve_left (fun z => hj z.symm))
theorem RowL.snoc {kvs : List (Key × V)} {is : List Nat} {i : Nat} {v : V} (h : RowL H L ws p kvs is) (a : MvT H v (L.map fun c => mvF ws p i c)) : RowL H L ws p (kvs ++ [(.inl (i : Int), v)]) (is ++ [i]) := by
  induction h with
  | nil => exact .cons a .nil
  | cons b _ ih => exact .cons b ih
theorem RowL.len {kvs : List (Key × V)} {is : List Nat} (h : RowL H L ws p kvs is) : kvs.length = is.length := by
  induction h with
  | nil => rfl
  | cons _ _ ih => rw [List.length_cons, List.length_cons, ih]
theorem TabL.to (k : ∀ b o, H b = some o → (∀ x ∈ xs, b ≠ x) → H' b = some o) (kt : ∀ b ys, H b = some (.tup ys) → ∀ x ∈ xs, b ≠ x) {kvs : List (Key × V)} {ps : List (List Nat)} (h : TabL H L ws xs kvs ps) : TabL H' L ws xs kvs ps := by
  induction h with
  | nil => exact .nil
  | cons a n r _ ih => exact .cons (k _ _ a n) n (r.to fun b ys hb => k _ _ hb (kt _ _ hb)) ih
theorem TabL.none {kvs : List (Key × V)} {ps : List (List Nat)} (h : TabL H L ws xs kvs ps) (hp : p ∉ ps) : valV kvs (.inr (tx p)) = none := by
  induction h with
  | nil => rfl
  | @cons q b rows kvs ps _ _ _ _ ih =>
    have hq : q ≠ p := fun z => hp (z ▸ List.mem_cons_self ..)
    rw [valV_neg (fun z => hq (tx_inj (Sum.inr.inj z)))]
    exact ih fun z => hp (List.mem_cons_of_mem _ z)
theorem TabL.get {kvs : List (Key × V)} {ps : List (List Nat)} (h : TabL H L ws xs kvs ps) (hp : p ∈ ps) : ∃ b rows, valV kvs (.inr (tx p)) = some (.ref b) ∧ H b = some (.dK rows) ∧ (∀ x ∈ xs, b ≠ x) ∧ RowL H L ws p rows (dots p) := by
  induction h with
  | nil => cases hp
  | @cons q b rows kvs ps a n r _ ih =>
    by_cases hq : q = p
    · subst hq
      exact ⟨b, rows, valV_pos rfl, a, n, r⟩
    · rw [valV_neg (fun z => hq (tx_inj (Sum.inr.inj z)))]
      exact ih ((List.mem_cons.mp hp).resolve_left (fun z => hq z.symm))
theorem TabL.snoc {kvs rows : List (Key × V)} {ps : List (List Nat)} {b : Addr} (h : TabL H L ws xs kvs ps) (a : H b = some (.dK rows)) (n : ∀ x ∈ xs, b ≠ x) (r : RowL H L ws p rows (dots p)) : TabL H L ws xs (kvs ++ [(.inr (tx p), .ref b)]) (ps ++ [p]) := by
  induction h with
  | nil => exact .cons a n r .nil
  | cons b n' r' _ ih => exact .cons b n' r' ih
theorem TabL.len {kvs : List (Key × V)} {ps : List (List Nat)} (h : TabL H L ws xs kvs ps) : kvs.length = ps.length := by
  induction h with
  | nil => rfl
  | cons _ _ _ _ ih => rw [List.length_cons, List.length_cons, ih]
theorem TabL.keys {kvs : List (Key × V)} {ps : List (List Nat)} (h : TabL H L ws xs kvs ps) : kvs.map (·.1) = (ps.map tx).map Sum.inr := by
  induction h with
  | nil => rfl
  | cons _ _ _ _ ih => rw [List.map_cons, ih]; rfl
theorem TabL.fresh {R : Addr} (hR : H R = Option.none) {kvs : List (Key × V)} {ps : List (List Nat)} (h : TabL H L ws xs kvs ps) : TabL H L ws (R :: xs) kvs ps := by
  induction h with
  | nil => exact .nil
  | @cons p b rows kvs ps a n r _ ih =>
    refine .cons a (fun x hx => ?_) r ih
    rcases List.mem_cons.mp hx with rfl | hx
    · intro y
      rw [y, hR] at a
      cases a
    · exact n x hx
theorem dots_nd (p : List Nat) : (dots p).Nodup := List.Nodup.sublist List.filter_sublist List.nodup_range
theorem not_take {l : List Nat} (h : l.Nodup) {j i : Nat} (hj : l[j]? = some i) : i ∉ l.take j := fun z => by
  obtain ⟨k, hk, e⟩ := List.mem_iff_getElem.mp z
  rw [List.length_take] at hk
  rw [List.getElem_take] at e
  obtain ⟨hl, e2⟩ := List.getElem?_eq_some_iff.mp hj
  exact List.pairwise_iff_getElem.mp h k j (by omega) hl (by omega) (e.trans e2.symm)
theorem TabL.mono {ys : List Addr} (hy : ∀ y ∈ ys, y ∈ xs) {kvs : List (Key × V)} {ps : List (List Nat)} (h : TabL H L ws xs kvs ps) : TabL H L ws ys kvs ps := by
  induction h with
  | nil => exact .nil
  | cons a n r _ ih => exact .cons a (fun x hx => n x (hy x hx)) r ih
end
/-- the program's table -/
def spTable (K : PySem.W.Frag) (CL CW CT : Addr) : Sp := fun vs H Q E => ∃ (v : V) (a : Addr) (k : Bool) (xs : List V), vs = [v, .ref a] ∧ SQ.WQ H a k xs ∧
  ((∃ (L : List Nat) (m : Nat) (ws : List (List Nat)) (n : Nat) (r : List (List Nat)), v = .str (tx L) ∧ xs = wv ws ∧ LG L ∧ Wds L m ws ∧ Exp L ws n [] [List.replicate m 46] r ∧ r.length ≤ 63 ∧
     ∀ H', Ex H H' → (31 < r.length → RzF E H' CT [("most", .int 31), ("many", .int (r.length : Nat)), ("what", .str "partial words")]) ∧
       (r.length ≤ 31 → ∀ b kvs us, H' b = some (.dK kvs) → SrtOf us r → TabL H' L ws [] kvs us → Q (.ref b) H')) ∨
   (∃ L es i, v = .str (tx L) ∧ LG L ∧ Els K H xs es ∧ xs.length < 100 ∧ badW L es = some i ∧ ∀ H', Ex H H' → RzD E H' CW "place" (.int (i : Nat))) ∨
   (∃ d, AV H v d ∧ OddL K H v ∧ ∀ H', Ex H H' → RzD E H' CL "letters" d))
theorem wds_good {L : List Nat} {m : Nat} {ws : List (List Nat)} (W : Wds L m ws) : badW L (ws.map some) = none := by
  have lo := W.lo
  have hi := W.hi
  refine bad_none (by rw [List.length_map]; omega) (by rw [List.length_map]; omega) fun j hj => ?_
  rw [List.length_map] at hj
  have h0 : ws[0]? = some ws[0] := List.getElem?_eq_getElem (by omega)
  have hjj : ws[j]? = some ws[j] := List.getElem?_eq_getElem hj
  have w0 := W.of _ (List.getElem_mem (show 0 < ws.length by omega))
  have wj := W.of _ (List.getElem_mem hj)
  have m1 := W.m1
  have m6 := W.m6
  unfold goodB
  rw [List.getElem?_map, hjj]
  show (wdB L ws[j] && lenB (ws.map some) ws[j] && !decide (some ws[j] ∈ (ws.map some).take j)) = true
  have e1 : wdB L ws[j] = true := decide_eq_true ⟨by rw [wj.len]; omega, by rw [wj.len]; omega, wj.of⟩
  have e2 : lenB (ws.map some) ws[j] = true := by
    unfold lenB
    rw [List.getElem?_map, h0]
    exact decide_eq_true (by rw [wj.len, w0.len])
  have e3 : decide (some ws[j] ∈ (ws.map some).take j) = false := by
    refine decide_eq_false fun z => ?_
    rw [← List.map_take] at z
    obtain ⟨y, hy, e⟩ := List.mem_map.mp z
    cases e
    obtain ⟨i, hi2, ei⟩ := List.mem_iff_getElem.mp hy
    rw [List.length_take] at hi2
    rw [List.getElem_take] at ei
    exact List.pairwise_iff_getElem.mp W.nd i j (by omega) hj (by omega) ei
  rw [e1, e2, e3]
  rfl
end Law

namespace Law
open PySem PySem.Spec PyProof.Rows L2 Evl EK TR Fg
theorem exp_nd {L : List Nat} {ws : List (List Nat)} {n : Nat} {found wt r : List (List Nat)} (h : Exp L ws n found wt r) : found.Nodup → r.Nodup := by
  induction h with
  | done => exact id
  | old _ _ ih => exact ih
  | @new n found wt r p q _ ih =>
    intro nd
    refine ih ?_
    rw [List.nodup_append]
    exact ⟨nd, by simp, fun x hx y hy e => by rw [List.mem_singleton.mp hy] at e; exact q (e ▸ hx)⟩
theorem not_takeT {α : Type} {l : List α} (h : l.Nodup) {j : Nat} {i : α} (hj : l[j]? = some i) : i ∉ l.take j := fun z => by
  obtain ⟨k, hk, e⟩ := List.mem_iff_getElem.mp z
  rw [List.length_take] at hk
  rw [List.getElem_take] at e
  obtain ⟨hl, e2⟩ := List.getElem?_eq_some_iff.mp hj
  exact List.pairwise_iff_getElem.mp h k j (by omega) hl (by omega) (e.trans e2.symm)
theorem els_wv {K : PySem.W.Frag} {H : Hp} : ∀ {ws : List (List Nat)}, (∀ w ∈ ws, w.length < 900) → Els K H (wv ws) (ws.map some)
  | [], _ => .nil
  | w :: ws, h => .cons (.txt w (h w (List.mem_cons_self ..))) (els_wv fun u hu => h u (List.mem_cons_of_mem _ hu))
section
variable {P : Program} {w : World} {K : PySem.W.Frag} {mg : Str → Option Value} {base : Heap} {C_Fitting C_BadLetters C_BadWords C_TooMany fi fT C0 : Addr} {fdi fdT : FuncData}
theorem ok_table {f : Addr} {fd : FuncData} (F : Fun K "_table" "_table" s_table f fd) (T : Tx mg) (S : FC K C_Fitting) (M_Fitting : Mk K C_Fitting fi) (g_Fitting : mg "Fitting" = some (.ref C_Fitting)) (F_Fitting : FnOk P w K mg base CX0 1 fi fdi ["self", "words"] (spInitF C_Fitting)) (b_Fitting : Binds K fdi ["self", "words"] [])
    (E3 : ErrC K C_TooMany fT C0) (g_TooMany : mg "TooMany" = some (.ref C_TooMany)) (I_TooMany : FnOk P w K mg base CX0 3 fT fdT ["self", "what", "many", "most"] (spE3 C_TooMany "what" "many" "most")) (B_TooMany : Binds K fdT ["self", "what", "many", "most"] [])
    (c_check_words : Kn' P w K mg base (L2.CX P w) "check_words" ["letters", "words"] 5 (spCheckG K C_BadLetters C_BadWords)) (c_mvs : Kn P w K mg base "_moves" ["letters", "words", "fitting", "partial", "place"] 4 (spMvs C_Fitting)) :
    FnOk P w K mg base (L2.CX P w) 6 f fd ["letters", "words"] (spTable K C_BadLetters C_BadWords C_TooMany) := by
  refine F.okX sc_table (fun vs H Q E h => ?_) (fun cdv A outer s H vs Q E hr h => ?_)
  · obtain ⟨v, a, k, xs, rfl, _⟩ := h
    rfl
  · obtain ⟨v, a, k, xs, rfl, ha, h⟩ := h
    obtain ⟨O_TooMany, i_TooMany, t_TooMany, _, _, _⟩ := E3
    refine ⟨_, (pss_cons (ps_expr (pe_callS c_check_words.ok (hr.mono (by decide)) (by rfl) c_check_words.g c_check_words.kp c_check_words.b (fun σ => passAt (takes_of rfl rfl rfl rfl) σ) (pa_cons (pv 0) (pa_cons (pv 1) pa_nil))))
      (pss_cons (ps_set (i := 2) sc_table.nd rfl (Or.inr rfl) (pe_make M_Fitting F_Fitting (hr.mono (by decide)) (by rfl) g_Fitting b_Fitting .nil pass0 (pa_cons (pv 1) pa_nil)))
      (pss_cons (ps_set (i := 3) sc_table.nd rfl (Or.inr rfl) pe_dnewK)
      (pss_cons (ps_set (i := 4) sc_table.nd rfl (Or.inl rfl) (pe_lst (pa_cons (pe_op ZS.op_mulS pe_str (pe_callB call_len_str (by rfl) T.len PySem.boot_len (pa_cons (pe_ix ix_seq (pv 1) pe_int (fun _ _ => rfl)) pa_nil))) pa_nil)))
      (pss_cons (ps_while (passes_of rfl) (pt_truth (pv 4) (by intro _; rfl)) (pss_cons (ps_set (i := 5) sc_table.nd rfl (Or.inr rfl) (pe_bm0 PySem.F.plainAttrs_list PySem.F.slot_list_pop PySem.F.type_list_pop mt_pop (pv 4)))
      (pss_one (ps_if (pt_cmp (pc_dnotin (hu_of hr) (pv 5) (pv 3))) (pss_cons (ps_setLc (i := 6) (own := [("place", 7), ("sign", 8)]) (g := gTup K 2 (gCons (gName 7) (gCons (gName 8) gNil))) rfl sc_table.nd rfl rfl (sw_true rfl rfl rfl (by decide +kernel)) (EN.pi_enumS (by rfl) T.enumerate (pa_cons (pv 5) pa_nil)) (blkOk_by (N := N_table) (sc := defScope s_table) (by decide +kernel)) (fun _ _ _ _ _ => (pg_tup (by rfl) (pgs_cons (pg_name (i := 7) sc_table.nd rfl (Or.inl rfl)) (pgs_cons (pg_name (i := 8) sc_table.nd rfl (Or.inl rfl)) pgs_nil)))) (fun _ _ _ _ _ => (pts_one (pt_cmpR op_eq (pv 8) pe_str (nomark _)))) (fun _ _ _ _ _ => (pv 7)))
      (pss_cons (ps_dput (hu_of hr) (pv 3) (pv 5) (pe_dc (own := [("place", 7)]) (g := gName 7) (tt := tYes) rfl sc_table.nd (pi_list (pv 6)) (blkOk_by (N := N_table) (sc := defScope s_table) (by decide +kernel)) (fun _ _ _ _ _ => (pg_name (i := 7) sc_table.nd rfl (Or.inl rfl))) (fun _ _ _ _ _ => pts_nil) (fun _ _ _ _ _ => (pv 7)) (fun _ _ _ _ _ => (pe_call c_mvs.ok (hr.mono (by decide)) (by rfl) c_mvs.g c_mvs.kp c_mvs.b .nil pass0 (pa_cons (pv 0) (pa_cons (pv 1) (pa_cons (pv 2) (pa_cons (pv 5) (pa_cons (pv 7) pa_nil)))))))) rfl)
      (pss_one (ps_expr (pe_bm PySem.F.plainAttrs_list PySem.F.slot_list_extend PySem.F.type_list_extend mt_extend (pv 4) (pa_cons (pe_lc2 (wi1 := iTup K _) (own := [("place", 7), ("_", 9), ("after", 10)]) (vs1 := [9, 10]) (g := (gName 7)) (g1 := (gTup K 3 (gCons (gName 9) (gCons (gName 9) (gCons (gName 10) gNil))))) (tt := tYes) (tt1 := tYes) rfl sc_table.nd (pi_list (pv 6)) (blkOk_by (N := N_table) (sc := defScope s_table) (by decide +kernel)) (by decide) (fun _ _ _ _ _ => (pg_name (i := 7) sc_table.nd rfl (Or.inl rfl))) (fun _ _ _ _ _ => pts_nil) (fun _ _ _ _ _ => (pi_tup (pe_dget (hu_of hr) (pe_dget (hu_of hr) (pv 3) (pv 5) (fun _ _ => rfl)) (pv 7) (fun _ _ => rfl)))) (fun _ _ _ _ _ => (pg_tup (by rfl) (pgs_cons (pg_name (i := 9) sc_table.nd rfl (Or.inl rfl)) (pgs_cons (pg_name (i := 9) sc_table.nd rfl (Or.inl rfl)) (pgs_cons (pg_name (i := 10) sc_table.nd rfl (Or.inl rfl)) pgs_nil))))) (fun _ _ _ _ _ => pts_nil) (fun _ _ _ _ _ => (pv 10))) pa_nil)))))) pss_nil))))
      (pss_cons (ps_if (pt_cmpR op_gt (pe_callB call_lenD (by rfl) T.len PySem.boot_len (pa_cons (pv 3) pa_nil)) (pe_glob (v := .int 31) rfl T.m_MOST_PARTIALS ⟨_, rfl⟩) (nomark _)) (pss_one (ps_raise rfl (takes_of rfl rfl rfl rfl) (pmk_oex O_TooMany i_TooMany t_TooMany I_TooMany (hr.mono (by decide)) B_TooMany .nil pass0 (by rfl) g_TooMany (pa_cons pe_str (pa_cons (pe_callB call_lenD (by rfl) T.len PySem.boot_len (pa_cons (pv 3) pa_nil)) (pa_cons (pe_glob (v := .int 31) rfl T.m_MOST_PARTIALS ⟨_, rfl⟩) pa_nil)))))) pss_nil)
      (pss_one (ps_ret (pe_dc (own := [("partial", 5)]) (g := gName 5) (tt := tYes) rfl sc_table.nd (pi_list (pe_callB cr_sortedS (by rfl) T.sorted PyProof.Rows.boot_sorted (pa_cons (pe_callTy (call_listD rfl) (by rfl) T.list PyProof.Rows.boot_list (pa_cons (pv 3) pa_nil)) pa_nil))) (blkOk_by (N := N_table) (sc := defScope s_table) (by decide +kernel)) (fun _ _ _ _ _ => (pg_name (i := 5) sc_table.nd rfl (Or.inl rfl))) (fun _ _ _ _ _ => pts_nil) (fun _ _ _ _ _ => (pv 5)) (fun _ _ _ _ _ => (pe_dget (hu_of hr) (pv 3) (pv 5) (fun _ _ => rfl)))))))))))), ?_⟩
    rcases h with ⟨L, m, ws, n, r, rfl, rfl, hL, W, hE, r63, q⟩ | ⟨L, es, i, rfl, hL, EE, hx, hb, q⟩ | ⟨d, hv, ho, q⟩
    · have rnd := exp_nd hE List.nodup_nil
      have l4 := hL.hi
      have m1 := W.m1
      have m6 := W.m6
      have wlo := W.lo
      have whi := W.hi
      have wz : ∀ z ∈ ws, z.length < 100 := fun z hz => by rw [(W.of z hz).len]; omega
      obtain ⟨z0, hz0⟩ : ∃ z0, ws[0]? = some z0 := ⟨_, List.getElem?_eq_getElem W.lo⟩
      have zl := (W.of z0 (List.mem_of_getElem? hz0)).len
      refine ⟨_, rfl, _, rfl, _, a, k, _, rfl, ha, .inl ⟨L, ws.map some, rfl, hL, els_wv fun z hz => Nat.lt_trans (wz z hz) (by decide), by unfold wv; rw [List.length_map]; omega, fun H1 e1 => ⟨fun i hi => ?_, fun _ => ?_⟩⟩⟩
      · rw [wds_good W] at hi
        cases hi
      have ha1 := ha.ex e1
      refine ⟨_, rfl, fun o dx ho hdx hne => ?_⟩
      have ho8 : (L2.upd H1 dx (.own o)) o = none := by rw [upd_ne hne.symm]; exact ho
      refine ⟨o, dx, a, k, ws, H1, rfl, (Ex.new hdx).trans (Ex.new ho8), ho, upd_same, ha1, fun H2 wt d e2 hd0 FA => ⟨rfl, ?_⟩⟩
      obtain ⟨p, hp⟩ : ∃ p : FI, (⟨o, dx, wt, d⟩ : FI) = p := ⟨_, rfl⟩
      have epo : p.o = o := by rw [← hp]
      have epd : p.d = d := by rw [← hp]
      rw [hp] at FA
      have epd2 : d = p.d := epd.symm
      rw [epd2] at FA hd0
      -- found, waiting
      dsimp only [gName]
      intro fa hfa
      have F3 := FA.ex (Ex.new (o := .dK []) hfa)
      have hfa0 := hfa
      have nfp : fa ≠ p.d := fun z => by
        obtain ⟨_, _, _, _, kvs, _, hd, _⟩ := FA
        rw [z, hd] at hfa
        cases hfa
      have k3 : (L2.upd H2 fa (.dK [])) fa = some (.dK []) := upd_same
      have Bfa : del H2 p.d fa = none := by rw [del_ne nfp]; exact hfa
      have ha2 := ha1.ex e2
      have aD : SQ.WQ (del H2 p.d) a k (wv ws) := ha1.ex fun b u hb => by
        have nb : b ≠ p.d := fun z => by rw [z, hd0] at hb; cases hb
        rw [del_ne nb]
        exact e2 _ _ hb
      have eHB : Ex H (del H2 p.d) := fun b u hb => by
        have nb : b ≠ p.d := fun z => by rw [z, fresh_back e1 hd0] at hb; cases hb
        rw [del_ne nb]
        exact e2 _ _ (e1 _ _ hb)
      clear ha ha1 FA hfa hfa0 hp epd epd2
      generalize (L2.upd H2 fa (.dK [])) = H3 at F3 k3 ⊢
      obtain ⟨B, hB⟩ : ∃ B, del H2 p.d = B := ⟨_, rfl⟩
      rw [hB] at F3 Bfa aD eHB
      clear hB ha2
      have ha3 := aD.ex F3.1
      dsimp only [gName]
      refine ⟨_, rfl, ix_ob (i := 0) ha3.sk (by unfold wv; rw [List.getElem?_map, hz0]; rfl) ⟨_, rfl, tx_le (by omega), _, _, rfl, rfl, ?_, by show 1 ≤ sizeLine; decide, fun wa hwa => ?_⟩⟩
      · rw [dot_sg]
        exact mulOk_of 1 1000 (by rw [sg_len]; omega) (by rw [tx_len]; omega) (by rw [tx_len]; omega) (by decide) (by decide)
      rw [dot_sg, mul_dot, tx_len, zl]
      have F4 := F3.ex (Ex.new (o := .lst [.str (tx (List.replicate m 46))]) hwa)
      have nwf : wa ≠ fa := fun z => by rw [z, k3] at hwa; cases hwa
      have nwp : wa ≠ p.d := fun z => by
        obtain ⟨_, _, _, _, kvs, _, hd, _⟩ := F3
        rw [z, hd] at hwa
        cases hwa
      have Bwa : B wa = none := fresh_back F3.1 hwa
      have k4 := (Ex.new (o := .lst [.str (tx (List.replicate m 46))]) hwa) _ _ k3
      have w4 : (L2.upd H3 wa (.lst [.str (tx (List.replicate m 46))])) wa = some (.lst (wv [List.replicate m 46])) := upd_same
      generalize (L2.upd H3 wa (.lst [.str (tx (List.replicate m 46))])) = H4 at F4 k4 w4 ⊢
      clear F3 k3 hwa ha3
      dsimp only [gName]
      refine' st_eq (σ' := [some (.str (tx L)), some (.ref a), some (.ref p.o), some (.ref fa), some (.ref wa), none, none, none, none, none, none]) (by rw [epo]; rfl) ?_
      -- the walk
      refine ⟨fun x σ H' => ∃ (found wt : List (List Nat)) (kvs : List (Key × V)) (y5 y6 y7 y8 y9 y10 : Option V), σ = [some (.str (tx L)), some (.ref a), some (.ref p.o), some (.ref fa), some (.ref wa), y5, y6, y7, y8, y9, y10] ∧ FitAt C_Fitting p ws B H' (310 * found.length) ∧ H' fa = some (.dK kvs) ∧ H' wa = some (.lst (wv wt)) ∧ TabL H' L ws [p.d, fa, wa] kvs found ∧ Exp L ws x found wt r ∧ wt.length ≤ 100 * found.length + 10 ∧ ∀ p ∈ wt, p.length = m,
        ⟨n, [], [List.replicate m 46], [], none, none, none, none, none, none, rfl, F4, k4, w4, .nil, hE, by simp, fun p hp => by rw [List.mem_singleton.mp hp, List.length_replicate]⟩, fun x σ H' hw => ?_⟩
      clear F4 k4 w4 hE
      obtain ⟨found, wt, kvs, y5, y6, y7, y8, y9, y10, rfl, F5, k5, w5, T5, hE, hl, hm⟩ := hw
      have f63 := exp_len hE
      rcases List.eq_nil_or_concat wt with rfl | ⟨wt2, u, rfl⟩
      · have hr := hE.nil
        subst hr
        refine ⟨_, rfl, !(wv []).isEmpty, .inl ⟨_, sq_of w5, rfl⟩, ?_⟩
        refine iteF ?_
        have eHH : Ex H H' := eHB.trans F5.1
        have kl := T5.len
        refine ⟨_, rfl, fa, kvs, rfl, k5, _, _, rfl, rfl, _, rfl, ite2 (fun hb => ?_) (fun hb => ?_)⟩
        · have hb2 : (31 : Int) < (kvs.length : Int) := of_decide_eq_true hb
          refine ⟨_, rfl, fa, kvs, rfl, k5, by show 3 ≤ 1000; decide, fun a ha => ⟨a, _, _, _, _, _, _, rfl, upd_same, .flat (.str _), .flat (.int _), .flat (.int _), fun dx v' u' w' H3 er av au aw => raise_endN ha er fun d3 H4 e4 hd hx tr => ?_⟩⟩
          have x1 := av_str av
          have x2 := av_int au
          have x3 := av_int aw
          subst x1 x2 x3
          rw [kl] at hx hb2
          exact (q H' eHH).1 (by omega) d3 H4 e4 hd hx
        · have hb2 : ¬ (31 : Int) < (kvs.length : Int) := fun z => hb (decide_eq_true z)
          have ek : (kvs.map fun kv => kV kv.1) = (r.map tx).map V.str := by
            have := congrArg (List.map kV) T5.keys
            rw [List.map_map, List.map_map] at this
            exact this
          refine ⟨_, rfl, fa, kvs, rfl, .inl k5, fun l hl => ?_⟩
          rw [ek]
          refine ⟨l, r.map tx, rfl, sq_of upd_same, by rw [List.length_map]; omega, fun ys sp perm srt hsp => ?_⟩
          obtain ⟨us, rfl, pu⟩ := of_perm perm
          have e6 := (Ex.new (o := .lst ((r.map tx).map V.str)) hl).trans (Ex.new (o := .lst ((us.map tx).map V.str)) hsp)
          have s6 : (L2.upd (L2.upd H' l (.lst ((r.map tx).map V.str))) sp (.lst ((us.map tx).map V.str))) sp = some (.lst ((us.map tx).map V.str)) := upd_same
          generalize (L2.upd (L2.upd H' l (.lst ((r.map tx).map V.str))) sp (.lst ((us.map tx).map V.str))) = H6 at e6 s6 ⊢
          refine ⟨sp, rfl, ⟨_, sq_of s6⟩, fun D hD => ?_⟩
          have und : us.Nodup := pu.nodup_iff.mpr rnd
          refine out_it (walk_list (K := K) (a := sp) (xs := (us.map tx).map V.str)) (fun j H7 => ∃ nk, Ex H6 H7 ∧ H7 D = some (.dK nk) ∧ TabL H7 L ws [D] nk (us.take j))
            ⟨[], Ex.new hD, upd_same, .nil⟩ (fun j H7 _ p => sq_of (p.choose_spec.1 _ _ s6)) (fun j y H7 H7' hj hw hy => ?_) (fun H7 hw => ?_)
          · obtain ⟨nk, e7, d7, T7⟩ := hw
            obtain ⟨rfl, hy⟩ := hy
            rw [List.getElem?_map, List.getElem?_map] at hy
            obtain ⟨z, hz, rfl⟩ := Option.map_eq_some_iff.mp hy
            obtain ⟨g, hg, rfl⟩ := Option.map_eq_some_iff.mp hz
            obtain ⟨b, rows, hv, hb3, _, hrw⟩ := T5.get (pu.mem_iff.mp (List.mem_of_getElem? hg))
            have nl := T7.len
            rw [List.length_take] at nl
            have ul := pu.length_eq
            refine ⟨rfl, _, rfl, _, rfl, _, rfl, fa, _, rfl, by rw [← hv]; exact DGet.k (k := .inr (tx g)) (e7 _ _ (e6 _ _ k5)), nk, .inr (tx g), rfl, d7, sz_lt (by omega), putK nk (.inr (tx g)) (.ref b), e7.mut hD, upd_same, ?_⟩
            have hbH := e6 _ _ hb3
            have nbD : b ≠ D := fun z => by rw [z, hD] at hbH; cases hbH
            rw [putK_new (T7.none (not_takeT und hg)), List.take_add_one, hg]
            have up1 : ∀ b2 o2, H7' b2 = some o2 → b2 ≠ D → (L2.upd H7' D (.dK (nk ++ [(.inr (tx g), .ref b)]))) b2 = some o2 := fun b2 o2 h n => by rw [upd_ne n]; exact h
            have tn : ∀ b2 zs, H7' b2 = some (.tup zs) → b2 ≠ D := fun b2 zs h z => by rw [z, d7] at h; cases h
            refine (T7.to (fun b2 o2 h n => up1 b2 o2 h (n D (by simp))) (fun b2 zs h x hx => by rw [List.mem_singleton.mp hx]; exact tn _ _ h)).snoc (p := g) (rows := rows) (up1 _ _ (e7 _ _ hbH) nbD) (fun x hx => by rw [List.mem_singleton.mp hx]; exact nbD) ?_
            exact (hrw.to fun b2 zs h => e7 _ _ (e6 _ _ h)).to fun b2 zs h => up1 _ _ h (tn _ _ h)
          · obtain ⟨nk, e7, d7, T7⟩ := hw
            rw [List.length_map, List.length_map, List.take_length] at T7
            exact (q H7 (eHH.trans (e6.trans e7))).2 (by omega) D nk us d7 ⟨pu, srt⟩ (T7.mono fun y hy => absurd hy (by simp))
      · rw [List.concat_eq_append] at w5 hE hl hm
        refine ⟨_, rfl, !(wv (wt2 ++ [u])).isEmpty, .inl ⟨_, sq_of w5, rfl⟩, ?_⟩
        rw [show (!(wv (wt2 ++ [u])).isEmpty) = true by rw [wv_snoc]; cases wv wt2 <;> rfl]
        refine iteT ?_
        refine ⟨fun σ2 H9 => ∃ m', m' < x ∧ ∃ (found wt : List (List Nat)) (kvs : List (Key × V)) (y5 y6 y7 y8 y9 y10 : Option V), σ2 = [some (.str (tx L)), some (.ref a), some (.ref p.o), some (.ref fa), some (.ref wa), y5, y6, y7, y8, y9, y10] ∧ FitAt C_Fitting p ws B H9 (310 * found.length) ∧ H9 fa = some (.dK kvs) ∧ H9 wa = some (.lst (wv wt)) ∧ TabL H9 L ws [p.d, fa, wa] kvs found ∧ Exp L ws m' found wt r ∧ wt.length ≤ 100 * found.length + 10 ∧ ∀ p ∈ wt, p.length = m, fun σ2 H2 h => h, ?_⟩
        have ulen : u.length = m := hm u (by simp)
        have ule : (tx u).length ≤ sizeLine := tx_le (by omega)
        have hm2 : ∀ z ∈ wt2, z.length = m := fun z hz => hm z (by simp [hz])
        have hl2 : wt2.length + 1 ≤ 100 * found.length + 10 := by
          rw [List.length_append] at hl
          simpa using hl
        have kt : ∀ {H : Hp} {c : Nat} {ks : List (Key × V)} {ys : List V}, FitAt C_Fitting p ws B H c → H fa = some (.dK ks) → H wa = some (.lst ys) → ∀ b zs, H b = some (.tup zs) → ∀ x ∈ [p.d, fa, wa], b ≠ x := fun {H c ks ys} G g1 g2 b zs hb x hx => by
          rcases List.mem_cons.mp hx with rfl | hx
          · exact G.ne hb fun _ z => by cases z
          rcases List.mem_cons.mp hx with rfl | hx
          · exact fun z => by rw [z, g1] at hb; cases hb
          · rw [List.mem_singleton.mp hx]
            exact fun z => by rw [z, g2] at hb; cases hb
        have tl : ∀ {H : Hp} {c : Nat} {ks ks2 : List (Key × V)} {ys : List V} {ps : List (List Nat)} {x : Addr} {o2 : HO}, FitAt C_Fitting p ws B H c → H fa = some (.dK ks) → H wa = some (.lst ys) → x ∈ [p.d, fa, wa] → TabL H L ws [p.d, fa, wa] ks2 ps → TabL (L2.upd H x o2) L ws [p.d, fa, wa] ks2 ps := fun {H c ks ks2 ys ps x o2} G g1 g2 hx t =>
          t.to (fun b o hb n => by rw [upd_ne (n x hx)]; exact hb) (kt G g1 g2)
        refine ⟨_, rfl, .inl ⟨rfl, _, sq_of w5⟩, wa, _, .str (tx u), rfl, rfl, w5, by rw [wv_snoc, List.length_append]; simp, ?_⟩
        rw [wv_snoc, List.dropLast_concat]
        have F6 := F5.upd (o := .lst (wv wt2)) Bwa nwp
        have T6 := tl (x := wa) (o2 := .lst (wv wt2)) F5 k5 w5 (by simp) T5
        have k6 : (L2.upd H' wa (.lst (wv wt2))) fa = some (.dK kvs) := by rw [upd_ne nwf.symm]; exact k5
        have w6 : (L2.upd H' wa (.lst (wv wt2))) wa = some (.lst (wv wt2)) := upd_same
        generalize (L2.upd H' wa (.lst (wv wt2))) = H6 at F6 T6 k6 w6 ⊢
        clear F5 T5 k5 w5
        dsimp only [gName]
        refine' st_eq (σ' := [some (.str (tx L)), some (.ref a), some (.ref p.o), some (.ref fa), some (.ref wa), some (.str (tx u)), y6, y7, y8, y9, y10]) rfl ?_
        refine ⟨_, rfl, _, rfl, fa, _, rfl, DGet.k (k := .inr (tx u)) k6, _, rfl, ?_⟩
        obtain ⟨x2, rfl, hc⟩ := hE.snoc
        rcases hc with ⟨hin, hE2⟩ | ⟨hin, hE2⟩
        · obtain ⟨b, rows, hv, _⟩ := T6.get hin
          rw [hv]
          exact ⟨x2, by omega, found, wt2, kvs, _, _, _, _, _, _, rfl, F6, k6, w6, T6, hE2, by omega, hm2⟩
        · rw [T6.none hin]
          have f2 := exp_len hE2
          rw [List.length_append] at f2
          have f2 : found.length + 1 ≤ r.length := f2
          refine ⟨_, rfl, tx u, rfl, fun D hD => ?_⟩
          refine out_it (walk_enumS (x := tx u)) (fun i H' => Ex H6 H' ∧ H' D = some (.lst (((List.range i).filter fun k => u.getD k 0 == 46).map fun k => V.int (k : Nat)))) ⟨Ex.new hD, upd_same⟩ (fun _ _ _ _ => trivial) (fun i y H7 H8 hi hw hy => ?_) (fun H7 hw => ?_)
          · obtain ⟨e7, hL7⟩ := hw
            obtain ⟨T', c, rfl, hT, rfl, hc⟩ := hy
            have hc := tx_at hc
            have hi2 := (List.getElem?_eq_some_iff.mp hc).1
            have ec : u.getD i 0 = c := by rw [List.getD_eq_getElem?_getD, hc]; rfl
            have e8 := e7.trans (Ex.new (o := .tup [.int (i : Nat), .str ⟨#[c]⟩]) hT)
            have hL8 := (Ex.new (o := .tup [.int (i : Nat), .str ⟨#[c]⟩]) hT) _ _ hL7
            refine ⟨T', _, rfl, .inl (.inl upd_same), rfl, _, _, rfl, _, _, rfl, rfl, rfl, _, rfl, rfl, _, rfl, ?_⟩
            have edec : decide (V.str (sg c) = V.str (sg 46)) = (u.getD i 0 == 46) := by
              rw [ec, Bool.eq_iff_iff, decide_eq_true_eq, beq_iff_eq]
              exact sg_inj
            have edec2 : decide (V.str (⟨#[c]⟩ : Str) = V.str (sg 46)) = (u.getD i 0 == 46) := edec
            rw [edec2]
            have ll : (((List.range i).filter fun k => u.getD k 0 == 46).map fun k => V.int (k : Nat)).length ≤ i := by
              rw [List.length_map]
              exact Nat.le_trans (List.length_filter_le _ _) (by rw [List.length_range]; exact Nat.le_refl _)
            cases hb : (u.getD i 0 == 46) with
            | true =>
              refine (if_pos rfl).mpr ⟨_, rfl, _, hL8, sz_lt (by omega), e8.mut hD, ?_⟩
              rw [upd_same, fil_succ, hb, if_pos rfl, List.map_append]
              rfl
            | false =>
              refine (if_neg (by decide)).mpr ⟨e8, ?_⟩
              rw [hL8, fil_succ, hb, if_neg (by decide), List.append_nil]
          · obtain ⟨e7, hL7⟩ := hw
            rw [tx_size] at hL7
            have hL7 : H7 D = some (.lst ((dots u).map fun k => V.int (k : Nat))) := hL7
            have F7 := F6.ex e7
            have T7 : TabL H7 L ws [p.d, fa, wa] kvs found := T6.to (fun b o hb _ => e7 _ _ hb) (kt F6 k6 w6)
            have k7 := e7 _ _ k6
            have w7 := e7 _ _ w6
            clear F6 T6 k6 w6 e7 hD
            dsimp only [gName]
            refine' st_eq (σ' := [some (.str (tx L)), some (.ref a), some (.ref p.o), some (.ref fa), some (.ref wa), some (.str (tx u)), some (.ref D), y7, y8, y9, y10]) rfl ?_
            -- the rows
            refine ⟨_, rfl, D, rfl, ⟨_, sq_of hL7⟩, fun R hR => ?_⟩
            have nRp : R ≠ p.d := fun z => by
              obtain ⟨_, _, _, _, kv2, _, hd, _⟩ := F7
              rw [z, hd] at hR
              cases hR
            have nRf : R ≠ fa := fun z => by rw [z, k7] at hR; cases hR
            have nRw : R ≠ wa := fun z => by rw [z, w7] at hR; cases hR
            have nRD : R ≠ D := fun z => by rw [z, hL7] at hR; cases hR
            have nDp : D ≠ p.d := F7.ne hL7 fun _ z => by cases z
            have BR : B R = none := fresh_back F7.1 hR
            have e8 := Ex.new (o := .dK []) hR
            refine out_it (walk_list (K := K) (a := D) (xs := (dots u).map fun k => V.int (k : Nat))) (fun j H9 => ∃ rows, FitAt C_Fitting p ws B H9 (310 * found.length + 50 * j) ∧ H9 R = some (.dK rows) ∧ RowL H9 L ws u rows ((dots u).take j) ∧ TabL H9 L ws [R, p.d, fa, wa] kvs found ∧ H9 fa = some (.dK kvs) ∧ H9 wa = some (.lst (wv wt2)) ∧ H9 D = some (.lst ((dots u).map fun k => V.int (k : Nat))))
              ⟨[], F7.ex e8, upd_same, .nil, (T7.fresh hR).to (fun b o hb _ => e8 _ _ hb) (fun b zs hb z hz => by
                rcases List.mem_cons.mp hz with rfl | hz
                · exact fun z => by rw [z, hR] at hb; cases hb
                · exact kt F7 k7 w7 b zs hb z hz), e8 _ _ k7, e8 _ _ w7, e8 _ _ hL7⟩ (fun j H9 _ p => sq_of p.choose_spec.2.2.2.2.2.2) (fun j y H9 H9' hj hw hy => ?_) (fun H9 hw => ?_)
            · obtain ⟨rows, F9, R9, M9, T9, k9, w9, d9⟩ := hw
              obtain ⟨rfl, hy⟩ := hy
              rw [List.getElem?_map] at hy
              obtain ⟨i, hi, rfl⟩ := Option.map_eq_some_iff.mp hy
              have him := dots_mem (List.mem_of_getElem? hi)
              have dl : (dots u).length ≤ 6 := by
                have : (dots u).length ≤ u.length := by
                  unfold dots
                  exact Nat.le_trans (List.length_filter_le _ _) (by rw [List.length_range]; exact Nat.le_refl _)
                omega
              have hjl := (List.getElem?_eq_some_iff.mp hi).1
              have rl := M9.len
              rw [List.length_take] at rl
              refine ⟨rfl, _, rfl, _, rfl, _, rfl, _, rfl, _, rfl, _, rfl, p, ws, _, 310 * found.length + 50 * j, i, u, L, a, k, rfl, F9.plus, aD.ex F9.up, by omega, l4, by omega, by omega, wz, by omega, him.1, fun H10 v F10 M10 => ?_⟩
              have F11 := F9.back F10
              have kp : ∀ b o, H9' b = some o → b ≠ p.d → H10 b = some o := fun b o hb nb => F9.keep F10 hb nb
              have nfp : fa ≠ p.d := nfp
              refine ⟨rows, .inl (i : Int), rfl, kp _ _ R9 nRp, sz_lt (by omega), putK rows (.inl (i : Int)) v, F11.upd BR nRp |>.le (by omega), upd_same, ?_, ?_, ?_, ?_, ?_⟩
              · have nin : i ∉ (dots u).take j := fun z => by
                  exact not_take (dots_nd u) hi z
                rw [putK_new (M9.none nin), List.take_add_one, hi]
                have R10 := kp _ _ R9 nRp
                have tt : ∀ b zs, H10 b = some (.tup zs) → (L2.upd H10 R (.dK (rows ++ [(.inl (i : Int), v)]))) b = some (.tup zs) := fun b zs hb => by
                  have nb : b ≠ R := fun z => by rw [z, R10] at hb; cases hb
                  rw [upd_ne nb]
                  exact hb
                exact ((M9.to fun b zs hb => kp _ _ hb (F9.ne hb fun _ z => by cases z)).snoc M10).to tt
              · refine T9.to (fun b o hb n => ?_) (fun b zs hb z hz => ?_)
                · rw [upd_ne (n R (by simp))]
                  exact kp _ _ hb (n p.d (by simp))
                · rcases List.mem_cons.mp hz with rfl | hz
                  · exact fun z => by rw [z, R9] at hb; cases hb
                  · exact kt F9 k9 w9 b zs hb z hz
              · rw [upd_ne nRf.symm]
                exact kp _ _ k9 nfp
              · rw [upd_ne nRw.symm]
                exact kp _ _ w9 nwp
              · rw [upd_ne nRD.symm]
                exact kp _ _ d9 nDp
            · obtain ⟨rows, F9, R9, M9, T9, k9, w9, d9⟩ := hw
              rw [List.length_map, List.take_length] at M9
              rw [List.length_map] at F9
              have TT9 := T9
              have R9n : ∀ x ∈ [p.d, fa, wa], R ≠ x := fun x hx => by
                rcases List.mem_cons.mp hx with rfl | hx
                · exact nRp
                rcases List.mem_cons.mp hx with rfl | hx
                · exact nRf
                · rw [List.mem_singleton.mp hx]
                  exact nRw
              have T9 : TabL H9 L ws [p.d, fa, wa] kvs found := T9.mono fun y hy => List.mem_cons_of_mem _ hy
              have kl := T9.len
              have hn9 := T9.none hin
              refine ⟨_, rfl, _, rfl, fa, _, rfl, DPut.k (k := .inr (tx u)) k9 (sz_lt (by omega)), ?_⟩
              rw [putK_new (T9.none hin)]
              have F10 := F9.upd (o := .dK (kvs ++ [(.inr (tx u), .ref R)])) Bfa nfp
              have k10 : (L2.upd H9 fa (.dK (kvs ++ [(.inr (tx u), .ref R)]))) fa = some (.dK (kvs ++ [(.inr (tx u), .ref R)])) := upd_same
              have w10' : (L2.upd H9 fa (.dK (kvs ++ [(.inr (tx u), .ref R)]))) wa = some (.lst (wv wt2)) := by rw [upd_ne nwf]; exact w9
              have R10 : (L2.upd H9 fa (.dK (kvs ++ [(.inr (tx u), .ref R)]))) R = some (.dK rows) := by rw [upd_ne nRf]; exact R9
              have nDf : D ≠ fa := fun z => by rw [z, k9] at d9; cases d9
              have d10 : (L2.upd H9 fa (.dK (kvs ++ [(.inr (tx u), .ref R)]))) D = some (.lst ((dots u).map fun k => V.int (k : Nat))) := by rw [upd_ne nDf]; exact d9
              have tt10 : ∀ b zs, H9 b = some (.tup zs) → (L2.upd H9 fa (.dK (kvs ++ [(.inr (tx u), .ref R)]))) b = some (.tup zs) := fun b zs hb => by
                have nb : b ≠ fa := fun z => by rw [z, k9] at hb; cases hb
                rw [upd_ne nb]
                exact hb
              have M10 := M9.to tt10
              have T10 := (tl (x := fa) (o2 := .dK (kvs ++ [(.inr (tx u), .ref R)])) F9 k9 w9 (by simp) T9).snoc (p := u) R10 R9n M10
              generalize (L2.upd H9 fa (.dK (kvs ++ [(.inr (tx u), .ref R)]))) = H10 at F10 k10 w10' R10 d10 M10 T10 ⊢
              clear F9 k9 w9 R9 d9 M9 T9 TT9 tt10 F7 T7 k7 w7 e8 hR hL7
              refine ⟨_, rfl, .inl ⟨rfl, _, sq_of w10'⟩, _, rfl, D, rfl, ⟨_, sq_of d10⟩, fun Z hZ => ?_⟩
              have e11 := Ex.new (o := .lst []) hZ
              refine out_it (walk_list (K := K) (a := D) (xs := (dots u).map fun k => V.int (k : Nat))) (fun j H11 => Ex H10 H11 ∧ H11 Z = some (.lst (wv (part L ws u j))))
                ⟨e11, upd_same⟩ (fun j H11 _ p => sq_of (p.1 _ _ d10)) (fun j y H11 H11' hj hw hy => ?_) (fun H11 hw => ?_)
              · obtain ⟨e12, z12⟩ := hw
                obtain ⟨rfl, hy⟩ := hy
                rw [List.getElem?_map] at hy
                obtain ⟨i, hi, rfl⟩ := Option.map_eq_some_iff.mp hy
                obtain ⟨v, hv, t, us, rfl, ht, hus⟩ := M10.get (List.mem_of_getElem? hi)
                have hgf : valV (kvs ++ [(.inr (tx u), .ref R)]) (.inr (tx u)) = some (.ref R) := by
                  rw [← putK_new hn9, valV_put, if_pos rfl]
                refine ⟨rfl, _, rfl, _, rfl, fa, _, rfl, by rw [← hgf]; exact DGet.k (k := .inr (tx u)) (e12 _ _ k10), _, rfl, R, _, rfl, by rw [← hv]; exact DGet.k (k := .inl (i : Int)) (e12 _ _ R10), t, rfl, ⟨_, st_of (e12 _ _ ht)⟩, ?_⟩
                refine out_it (walk_tup (K := K) (a := t) (xs := us)) (fun j2 H13 => Ex H10 H13 ∧ H13 Z = some (.lst (wv (part L ws u j ++ (L.take j2).map fun c => (mvF ws u i c).2.2))))
                  ⟨e12, by rw [List.take_zero, List.map_nil, List.append_nil]; exact z12⟩ (fun j2 H13 _ p => st_of (p.1 _ _ ht)) (fun j2 y2 H13 H13' hj2 hw2 hy2 => ?_) (fun H13 hw2 => ?_)
                · obtain ⟨e14, z14⟩ := hw2
                  obtain ⟨rfl, hy2⟩ := hy2
                  obtain ⟨mm, hmm, b2, rfl, hb2⟩ := hus.get hy2
                  rw [List.getElem?_map] at hmm
                  obtain ⟨c, hc, rfl⟩ := Option.map_eq_some_iff.mp hmm
                  refine ⟨b2, _, rfl, .inl (.inl (e14 _ _ hb2)), rfl, _, _, rfl, _, _, rfl, _, _, rfl, rfl, rfl, _, rfl, _, z14, ?_, e14.mut hZ, ?_⟩
                  · have := part_len (L := L) (ws := ws) (p := u) l4 (by omega) j
                    unfold wv
                    rw [List.length_map, List.length_append, List.length_map, List.length_take]
                    exact sz_lt (by omega)
                  · rw [upd_same, List.take_add_one, hc, List.map_append, ← List.append_assoc, ← wv_snoc]
                    rfl
                · obtain ⟨e14, z14⟩ := hw2
                  rw [hus.len, List.length_map, List.take_length] at z14
                  rw [part_succ hi]
                  exact ⟨e14, z14⟩
              · obtain ⟨e12, z12⟩ := hw
                rw [List.length_map, part_all] at z12
                have pl := part_len (L := L) (ws := ws) (p := u) l4 (by omega) (dots u).length
                rw [part_all] at pl
                have F12 := F10.ex e12
                have k12 := e12 _ _ k10
                have w12 := e12 _ _ w10'
                have T12 : TabL H11 L ws [p.d, fa, wa] (kvs ++ [(.inr (tx u), .ref R)]) (found ++ [u]) := T10.to (fun b o hb _ => e12 _ _ hb) (kt F10 k10 w10')
                refine ⟨wa, Z, _, _, rfl, rfl, w12, z12, ?_, ?_⟩
                · unfold wv
                  rw [List.length_map, List.length_map]
                  exact Nat.le_of_lt (sz_lt (by omega))
                · have dl : (dots u).length ≤ 6 := by
                    have : (dots u).length ≤ u.length := by
                      unfold dots
                      exact Nat.le_trans (List.length_filter_le _ _) (by rw [List.length_range]; exact Nat.le_refl _)
                    omega
                  refine ⟨x2, by omega, found ++ [u], wt2 ++ succs L ws u, _, _, _, _, _, _, _, rfl, (F12.upd Bwa nwp).le (by rw [List.length_append]; simp only [List.length_cons, List.length_nil]; omega), by rw [upd_ne nwf.symm]; exact k12, ?_, tl (x := wa) F12 k12 w12 (by simp) T12, hE2, by rw [List.length_append, List.length_append]; simp only [List.length_cons, List.length_nil]; omega, fun z hz => ?_⟩
                  · rw [upd_same]
                    unfold wv
                    rw [List.map_append]
                  · rcases List.mem_append.mp hz with h | h
                    · exact hm2 z h
                    · exact (succs_pt W ulen z h).len
    · refine ⟨_, rfl, _, rfl, _, a, k, _, rfl, ha, .inl ⟨L, es, rfl, hL, EE, hx, fun H1 e1 => ⟨fun j hj => ?_, fun hn => ?_⟩⟩⟩
      · rw [hb] at hj
        cases hj
        exact q H1 e1
      · rw [hb] at hn
        cases hn
    · exact ⟨_, rfl, _, rfl, v, a, k, _, rfl, ha, .inr ⟨d, hv, ho, fun H' e => q H' e⟩⟩
end
end Law

namespace Law
open PySem PySem.Spec PyProof.Rows L2 Evl EK TR GX Fg
/-- letters and words that are right, and what is found -/
structure Wk (L : List Nat) (m : Nat) (ws r : List (List Nat)) : Prop where
  lg : LG L
  W : Wds L m ws
  ex : ∃ n, Exp L ws n [] [List.replicate m 46] r
  l63 : r.length ≤ 63
  pt : ∀ p ∈ r, Pt ws m p
def spPartials (K : PySem.W.Frag) (CL CW CT : Addr) : Sp := fun vs H Q E => ∃ (v : V) (a : Addr) (k : Bool) (xs : List V), vs = [v, .ref a] ∧ SQ.WQ H a k xs ∧
  ((∃ (L : List Nat) (m : Nat) (ws r : List (List Nat)), v = .str (tx L) ∧ xs = wv ws ∧ Wk L m ws r ∧
     ∀ H', Ex H H' → (31 < r.length → RzF E H' CT [("most", .int 31), ("many", .int (r.length : Nat)), ("what", .str "partial words")]) ∧
       (r.length ≤ 31 → ∀ b us, H' b = some (.tup (wv us)) → SrtOf us r → Q (.ref b) H')) ∨
   (∃ L es i, v = .str (tx L) ∧ LG L ∧ Els K H xs es ∧ xs.length < 100 ∧ badW L es = some i ∧ ∀ H', Ex H H' → RzD E H' CW "place" (.int (i : Nat))) ∨
   (∃ d, AV H v d ∧ OddL K H v ∧ ∀ H', Ex H H' → RzD E H' CL "letters" d))
def spMoves (K : PySem.W.Frag) (CB CN : Addr) : Sp := fun vs H Q E => ∃ (L : List Nat) (a : Addr) (k : Bool) (m : Nat) (ws r : List (List Nat)) (xp xq : V), vs = [.str (tx L), .ref a, xp, xq] ∧ SQ.WQ H a k (wv ws) ∧ Wk L m ws r ∧ r.length ≤ 31 ∧
  ((∃ p i, xp = .str (tx p) ∧ xq = .int (i : Nat) ∧ p ∈ r ∧ i ∈ dots p ∧ ∀ H' v, Ex H H' → MvT H' v (L.map fun c => mvF ws p i c) → Q v H') ∨
   (∃ p g d, xp = .str (tx p) ∧ p ∈ r ∧ GA H xq g ∧ AV H xq d ∧ (whole 0 ((m : Int) - 1) g = false ∨ ∃ i : Nat, xq = .int (i : Nat) ∧ i ∉ dots p) ∧ ∀ H', Ex H H' → RzD E H' CB "number" d) ∨
   (∃ d, AV H xp d ∧ ((∃ z, xp = .str (tx z) ∧ z ∉ r) ∨ NoS K H xp) ∧ ∀ H', Ex H H' → RzD E H' CN "partial" d))
section
variable {P : Program} {w : World} {K : PySem.W.Frag} {mg : Str → Option Value} {base : Heap} {C_BadLetters C_BadWords C_TooMany C_BadPlace C_NoPartial fB fN C0 : Addr} {fdB fdN : FuncData}
theorem ok_partials {f : Addr} {fd : FuncData} (F : Fun K "partials" "partials" s_partials f fd) (T : Tx mg) (c_table : Kn' P w K mg base (L2.CX P w) "_table" ["letters", "words"] 6 (spTable K C_BadLetters C_BadWords C_TooMany)) :
    FnOk P w K mg base (L2.CX P w) 7 f fd ["letters", "words"] (spPartials K C_BadLetters C_BadWords C_TooMany) := by
  refine F.okX sc_partials (fun vs H Q E h => ?_) (fun cdv A outer s H vs Q E hr h => ?_)
  · obtain ⟨v, a, k, xs, rfl, _⟩ := h
    rfl
  · obtain ⟨v, a, k, xs, rfl, ha, h⟩ := h
    refine ⟨_, (pss_one (ps_ret (pe_callTy call_tuple_of (by rfl) T.tuple PyProof.Rows.boot_tuple (pa_cons (pe_callTy (call_listD rfl) (by rfl) T.list PyProof.Rows.boot_list (pa_cons (pe_callS c_table.ok (hr.mono (by decide)) (by rfl) c_table.g c_table.kp c_table.b (fun σ => passAt (takes_of rfl rfl rfl rfl) σ) (pa_cons (pv 0) (pa_cons (pv 1) pa_nil))) pa_nil)) pa_nil)))), ?_⟩
    refine ⟨_, rfl, _, rfl, v, a, k, xs, rfl, ha, ?_⟩
    rcases h with ⟨L, m, ws, r, rfl, rfl, wk, q⟩ | h | h
    · obtain ⟨n, hE⟩ := wk.ex
      refine .inl ⟨L, m, ws, n, r, rfl, rfl, wk.lg, wk.W, hE, wk.l63, fun H' e => ⟨(q H' e).1, fun h31 b kvs us hb hs ht => ?_⟩⟩
      have ek : (kvs.map fun kv => kV kv.1) = wv us := by
        have := congrArg (List.map kV) ht.keys
        rw [List.map_map, List.map_map] at this
        rw [wv_map]
        exact this
      refine ⟨b, kvs, rfl, .inl hb, fun l hl => ?_⟩
      rw [ek]
      refine ⟨l, _, rfl, .inl ⟨sq_of upd_same, fun t ht2 => ?_⟩⟩
      exact (q _ ((e.trans (Ex.new hl)).trans (Ex.new ht2))).2 h31 t us upd_same hs
    · exact .inr (.inl h)
    · exact .inr (.inr h)
theorem ok_moves {f : Addr} {fd : FuncData} (F : Fun K "moves" "moves" s_moves f fd) (T : Tx mg) (E1 : ErrC K C_BadPlace fB C0) (E2 : ErrC K C_NoPartial fN C0) (g_BadPlace : mg "BadPlace" = some (.ref C_BadPlace)) (g_NoPartial : mg "NoPartial" = some (.ref C_NoPartial))
    (I_BadPlace : FnOk P w K mg base CX0 3 fB fdB ["self", "number"] (spE1 C_BadPlace "number")) (B_BadPlace : Binds K fdB ["self", "number"] []) (I_NoPartial : FnOk P w K mg base CX0 3 fN fdN ["self", "partial"] (spE1 C_NoPartial "partial")) (B_NoPartial : Binds K fdN ["self", "partial"] [])
    (c_is_whole : Kn P w K mg base "is_whole" ["value", "low", "high"] 2 spWhG) (c_table : Kn' P w K mg base (L2.CX P w) "_table" ["letters", "words"] 6 (spTable K C_BadLetters C_BadWords C_TooMany)) :
    FnOk P w K mg base (L2.CX P w) 7 f fd ["letters", "words", "partial", "place"] (spMoves K C_BadPlace C_NoPartial) := by
  refine F.okX sc_moves (fun vs H Q E h => ?_) (fun cdv A outer s H vs Q E hr h => ?_)
  · obtain ⟨L, a, k, m, ws, r, xp, xq, rfl, _⟩ := h
    rfl
  · obtain ⟨L, a, k, m, ws, r, xp, xq, rfl, ha, wk, r31, h⟩ := h
    obtain ⟨O_BadPlace, i_BadPlace, t_BadPlace, _, _, _⟩ := E1
    obtain ⟨O_NoPartial, i_NoPartial, t_NoPartial, _, _, _⟩ := E2
    obtain ⟨n, hE⟩ := wk.ex
    refine ⟨_, (pss_cons (ps_set (i := 4) sc_moves.nd rfl (Or.inl rfl) (pe_callS c_table.ok (hr.mono (by decide)) (by rfl) c_table.g c_table.kp c_table.b (fun σ => passAt (takes_of rfl rfl rfl rfl) σ) (pa_cons (pv 0) (pa_cons (pv 1) pa_nil))))
      (pss_cons (ps_if (PW.pt (pw_or (pt_not (pt_val (pe_callB call_isi (by rfl) T.isinstance PyProof.Rows.boot_isinstance (pa_cons (pv 2) (pa_cons (pe_bltn (v := .ty "str") (by rfl) T.str PyProof.Rows.boot_str rfl) pa_nil))))) (pw_or1 (pt_cmp (pc_dnotin (hu_of hr) (pv 2) (pv 4)))))) (pss_one (ps_raise rfl (takes_of rfl rfl rfl rfl) (pmk_oex O_NoPartial i_NoPartial t_NoPartial I_NoPartial (hr.mono (by decide)) B_NoPartial .nil pass0 (by rfl) g_NoPartial (pa_cons (pv 2) pa_nil)))) pss_nil)
      (pss_cons (ps_if (PW.pt (pw_or (pt_not (pt_val (pe_call c_is_whole.ok (hr.mono (by decide)) (by rfl) c_is_whole.g c_is_whole.kp c_is_whole.b .nil pass0 (pa_cons (pv 3) (pa_cons pe_int (pa_cons (pe_op op_sub (pe_callB call_len_str (by rfl) T.len PySem.boot_len (pa_cons (pv 2) pa_nil)) pe_int) pa_nil)))))) (pw_or1 (pt_cmp (pc_dnotin (hu_of hr) (pv 3) (pe_dget (hu_of hr) (pv 4) (pv 2) (fun _ _ => rfl))))))) (pss_one (ps_raise rfl (takes_of rfl rfl rfl rfl) (pmk_oex O_BadPlace i_BadPlace t_BadPlace I_BadPlace (hr.mono (by decide)) B_BadPlace .nil pass0 (by rfl) g_BadPlace (pa_cons (pv 3) pa_nil)))) pss_nil)
      (pss_one (ps_ret (pe_dget (hu_of hr) (pe_dget (hu_of hr) (pv 4) (pv 2) (fun _ _ => rfl)) (pv 3) (fun _ _ => rfl))))))), ?_⟩
    refine ⟨_, rfl, _, rfl, _, a, k, _, rfl, ha, .inl ⟨L, m, ws, n, r, rfl, rfl, wk.lg, wk.W, hE, wk.l63, fun H1 e1 => ⟨fun z => absurd z (by omega), fun _ b kvs us hb hs ht => ?_⟩⟩⟩
    have mem : ∀ z, z ∈ us ↔ z ∈ r := fun z => hs.1.mem_iff
    have bad : ∀ (d : PyData), AV H xp d → (∀ H', Ex H H' → RzD E H' C_NoPartial "partial" d) → ∀ a, H1 a = none → spE1 C_NoPartial "partial" (.ref a :: ([xp] ++ [])) (L2.upd H1 a (exo a C_NoPartial none))
        (fun v' H2 => v' = .non ∧ ∃ (d : Addr) (fs : List (Str × V)), H2 a = some (exo a C_NoPartial (some d)) ∧ H2 d = some (exd d fs) ∧ H1 d = none ∧ E (.ref C_NoPartial) (some d) (L2.upd (del H2 a) d (.xd fs))) (fun _ _ _ => False) := fun d hv q a ha =>
      ⟨a, xp, d, rfl, upd_same, (hv.ex e1).ex (Ex.new ha), fun dx v' H3 er av => raise_endD ha er av (q H1 e1)⟩
    rcases h with ⟨p, i, rfl, rfl, hp, hi, q⟩ | ⟨p, g, d, rfl, hp, hg, hv, hw, q⟩ | ⟨d, hv, ho, q⟩
    · obtain ⟨b2, rows, h1, h2, _, h3⟩ := ht.get ((mem p).mpr hp)
      obtain ⟨v, h4, h5⟩ := h3.get hi
      have hd := dots_mem hi
      have pl := (wk.pt p hp).len
      have m6 := wk.W.m6
      refine ⟨_, rfl, _, _, _, _, true, rfl, .ty _, .base (.str _), kit_ss, true, rfl, ?_⟩
      refine ⟨_, rfl, _, rfl, b, _, rfl, DGet.k (k := .inr (tx p)) hb, _, rfl, ?_⟩
      rw [h1]
      refine iteF ?_
      have hwh : whole 0 (((tx p).length : Nat) - 1) (.int (i : Nat)) = true := by
        rw [tx_len]
        show (decide ((0 : Int) ≤ (i : Nat)) && decide (((i : Nat) : Int) ≤ (p.length : Nat) - 1)) = true
        rw [decide_eq_true (by omega), decide_eq_true (by omega)]
        rfl
      refine ⟨_, rfl, _, rfl, _, rfl, tx_le (by omega), _, _, rfl, rfl, _, .int (i : Nat), _, _, rfl, .int _, fun H2 e2 => ⟨_, rfl, ?_⟩⟩
      rw [hwh]
      refine ⟨_, rfl, _, rfl, _, rfl, b, _, rfl, by rw [← h1]; exact DGet.k (k := .inr (tx p)) (e2 _ _ hb), b2, _, rfl, DGet.k (k := .inl (i : Int)) (e2 _ _ h2), _, rfl, ?_⟩
      rw [h4]
      refine iteF ?_
      refine ⟨_, rfl, _, rfl, b, _, rfl, by rw [← h1]; exact DGet.k (k := .inr (tx p)) (e2 _ _ hb), _, rfl, b2, _, rfl, by rw [← h4]; exact DGet.k (k := .inl (i : Int)) (e2 _ _ h2), ?_⟩
      exact q _ v (e1.trans e2) (h5.to fun b xs h => e2 _ _ h)
    · obtain ⟨b2, rows, h1, h2, _, h3⟩ := ht.get ((mem p).mpr hp)
      have pl := (wk.pt p hp).len
      have m6 := wk.W.m6
      refine ⟨_, rfl, _, _, _, _, true, rfl, .ty _, .base (.str _), kit_ss, true, rfl, ?_⟩
      refine ⟨_, rfl, _, rfl, b, _, rfl, DGet.k (k := .inr (tx p)) hb, _, rfl, ?_⟩
      rw [h1]
      refine iteF ?_
      refine ⟨_, rfl, _, rfl, _, rfl, tx_le (by omega), _, _, rfl, rfl, xq, g, _, _, rfl, GA.ex e1 hg, fun H2 e2 => ⟨_, rfl, ?_⟩⟩
      have e12 := e1.trans e2
      have badN : ∀ H3, Ex H2 H3 → ∀ a, H3 a = none → spE1 C_BadPlace "number" (.ref a :: ([xq] ++ [])) (L2.upd H3 a (exo a C_BadPlace none))
          (fun v' H4 => v' = .non ∧ ∃ (d : Addr) (fs : List (Str × V)), H4 a = some (exo a C_BadPlace (some d)) ∧ H4 d = some (exd d fs) ∧ H3 d = none ∧ E (.ref C_BadPlace) (some d) (L2.upd (del H4 a) d (.xd fs))) (fun _ _ _ => False) := fun H3 e3 a ha =>
        ⟨a, xq, d, rfl, upd_same, (hv.ex (e12.trans e3)).ex (Ex.new ha), fun dx v' H4 er av => raise_endD ha er av (q H3 (e12.trans e3))⟩
      rw [tx_len, show ((p.length : Nat) : Int) - 1 = (m : Int) - 1 by omega]
      cases hwh : whole 0 ((m : Int) - 1) g with
      | false =>
        exact ⟨_, rfl, by show 1 ≤ 1000; decide, badN H2 (Ex.refl _)⟩
      | true =>
        rcases hw with hw | ⟨i, rfl, hi⟩
        · rw [hw] at hwh
          cases hwh
        · refine ⟨_, rfl, _, rfl, _, rfl, b, _, rfl, by rw [← h1]; exact DGet.k (k := .inr (tx p)) (e2 _ _ hb), b2, _, rfl, DGet.k (k := .inl (i : Int)) (e2 _ _ h2), _, rfl, ?_⟩
          rw [h3.none hi]
          refine iteT ?_
          exact ⟨_, rfl, by show 1 ≤ 1000; decide, badN H2 (Ex.refl _)⟩
    · rcases ho with ⟨z, rfl, hz⟩ | hno
      · refine ⟨_, rfl, _, _, _, _, true, rfl, .ty _, .base (.str _), kit_ss, true, rfl, ?_⟩
        refine ⟨_, rfl, _, rfl, b, _, rfl, DGet.k (k := .inr (tx z)) hb, _, rfl, ?_⟩
        rw [ht.none (fun y => hz ((mem z).mp y))]
        refine iteT ?_
        exact ⟨_, rfl, by show 1 ≤ 1000; decide, bad d hv q⟩
      · obtain ⟨t, ty, kk⟩ := hno.ex e1
        refine ⟨_, rfl, _, _, _, _, false, rfl, .ty _, ty, kk, false, rfl, ?_⟩
        exact ⟨_, rfl, by show 1 ≤ 1000; decide, bad d hv q⟩
end
end Law

/-! repr of any single value: None, a bool, an int, a text, a list, a tuple -/
namespace RV
open PySem PySem.Spec PyProof.Rows L2 DY
structure RX (K : PySem.W.Frag) (xs : List V) (H : Hp) (Q : VK) : Prop where
  ex : ∃ v d, xs = [v] ∧ DE K H v d ∧ (∀ kvs, d ≠ .dict kvs) ∧ d.showable = true ∧ d.depth ≤ 64 ∧ d.shown.length ≤ sizeLine ∧ Q (.str d.shown) H
abbrev rRv (K : PySem.W.Frag) : List V → Hp → VK → Prop := fun xs H Q => RX K xs H Q
theorem call_reprV {X : Cx} (hg : X.A.guards = some []) (hu : X.A.units + 70 < cLine) : CallR X (.builtin "repr") (rRv X.K) := by
  intro pins s σ H xs us Q I r h
  obtain ⟨v, d, rfl, hd, hnd, h1, h3, h4, q⟩ := h.ex
  obtain ⟨u, rfl, ru⟩ := vals1 r
  have fin : ∀ h' u' tk, (∀ b o, s.heap.get? b = some o → h'.get? b = some o) → EP X pins σ Q (.str d.shown u') { s with heap := h', toks := tk } := fun h' u' tk hk => ⟨.str d.shown, H, I.kept hk, ⟨u', rfl⟩, q⟩
  have un : X.A.units + 1 < cLine := by omega
  cases hd with
  | non =>
    cases ru
    simp only [PyData.shown] at fin
    exact PySem.P.repr_of_none (fin _ _ _ fun _ _ e => e)
  | bl b =>
    cases ru
    simp only [PyData.shown] at fin
    exact PySem.P.repr_of_bool (fin _ _ _ fun _ _ e => e)
  | int i =>
    obtain ⟨t, rfl⟩ := ru
    simp only [PyData.shown] at fin
    exact PySem.P.repr_of_int (by simpa [PyData.showable] using h1) (fin _ _ _ fun _ _ e => e)
  | str z =>
    obtain ⟨t, rfl⟩ := ru
    simp only [PyData.shown] at fin h4
    exact PySem.P.repr_of_str (fin _ _ _ fun _ _ e => e) h4
  | lst hq ha =>
    rename_i a xs ds
    cases ru
    obtain ⟨its, rv, ⟨o, n, ho, hc, _, hd⟩, _⟩ := I.list hq
    have hz2 : (listText (PyData.shownAll ds)).length ≤ sizeLine := by simpa only [PyData.shown] using h4
    obtain ⟨⟨as, hr⟩, bs, hb, hk⟩ := DEs.sh I ds _ its ha rv (by simpa [PyData.showable] using h1) fun t ht => Nat.le_trans (listText_mem_le ht) hz2
    have r2 : Reads s.heap (.ref a) (.list ds) _ := Reads.list ho hc hd hr
    have hna := not_mem_of_deeper r2 (show PyData.depthAll ds < _ by simp only [PyData.depth]; omega) hb
    simp only [PyData.depth] at h3
    simp only [PyData.shown] at fin
    refine call_repr_slot un ⟨o, ho, hc⟩ F.slot_list_repr.toG ?_
    cases its with
    | nil =>
      cases rv
      cases ha
      simp only [PyData.shownAll, listText_nil] at fin
      exact call_list_repr_empty ⟨o, ho, hc⟩ ho hd ⟨_, _, rfl, fin s.heap _ _ fun _ _ e => e⟩
    | cons x l => exact call_list_reprK ho hc hd hna (by simpa using hk.length_eq) (fun i y e => hk.item i y (by simpa using e)) hg (fun b _ => Clear.nil b) (by show X.A.units + 1 + _ < cLine; omega) (fun _ _ e => e) (fun h' u' tk hk' => ⟨_, _, rfl, fin h' u' tk hk'⟩) hz2
  | tup hq ha =>
    rename_i a xs ds
    cases ru
    obtain ⟨its, rv, ⟨o, ho, hc, n, hd⟩, _⟩ := I.tuple hq
    have hz2 : (tupleText (PyData.shownAll ds)).length ≤ sizeLine := by simpa only [PyData.shown] using h4
    obtain ⟨⟨as, hr⟩, bs, hb, hk⟩ := DEs.sh I ds _ its ha rv (by simpa [PyData.showable] using h1) fun t ht => Nat.le_trans (tupleText_mem_le ht) hz2
    have r2 : Reads s.heap (.ref a) (.tuple ds) _ := Reads.tuple ho hc hd hr
    have hna := not_mem_of_deeper r2 (show PyData.depthAll ds < _ by simp only [PyData.depth]; omega) hb
    simp only [PyData.depth] at h3
    simp only [PyData.shown] at fin
    refine call_repr_slot un ⟨o, ho, hc⟩ F.slot_tuple_repr ?_
    exact call_tuple_reprK ho hc hd hna hk hg (fun b _ => Clear.nil b) (by show X.A.units + 1 + _ < cLine; omega) (fun _ _ e => e) (fun h' u' tk hk' => ⟨_, _, rfl, fin h' u' tk hk'⟩) hz2
  | emp hq => exact absurd rfl (hnd _)
  | one hq => exact absurd rfl (hnd _)
end RV

/-! a law that makes lambdas and the text of values: its code object and that one's table -/
namespace GT
open PySem PySem.Spec PyProof.Rows L2 GD
/-- a def of which the code object is known -/
structure FunC (K : PySem.W.Frag) (x qual : Str) (st : Stmt) (f : Addr) (fd : FuncData) (c : Addr) : Prop where
  ex : ∃ (oc : Value) (od : Option Addr) (kV doc pm : Value) (an : Option Addr) (ct : Value) (osl : Array (Option Value)),
    fd = PySem.W.fnOf x qual (defArgs st) (defBody st) (defScope st) .none kV doc pm an (.ref c) ct ∧ K.lookup f = some ⟨oc, od, .func fd, osl⟩ ∧ PySem.W.codeIn K (.ref c) qual = true
section
variable {P : Program} {w : World} {K : PySem.W.Frag} {mg : Str → Option Value} {base : Heap}
theorem okGC {x qual : Str} {st : Stmt} {f c : Addr} {fd : FuncData} {N ps : List Str} {k : Nat} {sp : Sp} (F : FunC K x qual st f fd c) (S : FnScope N ps (defScope st)) (len : ∀ vs H Q E, sp vs H Q E → vs.length = ps.length)
    (hbody : ∀ (A : Around) (outer : List Env) (s : Shared) (H : Hp) (vs : List V) (Q : VK) (E : XK), Room k (A.deeper (envOfC qual (defScope st) s.heap.objs.size f (.ref c))) → (A.deeper (envOfC qual (defScope st) s.heap.objs.size f (.ref c))).guards = some [] → sp vs H Q E →
      ∃ t, PSs (cxOf CX0 P w K mg base N qual (defScope st) f (.ref c) A outer s H E).nox (defBody st) t ∧ t { nx := fun _ H' => Q .non H', rt := Q } (start N vs) H) : Gd P w K mg base (k + 1) f fd ps sp := by
  obtain ⟨oc, od, kV, doc, pm, an, ct, osl, rfl, known, code⟩ := F.ex
  refine ⟨fun A outer s H args us vs Q E room free e0 bound rel told => ?_⟩
  have kin : K.In s.heap := e0.mod.kin.keeps fun b o e => (e0.bs b o e).1
  have nolim : s.heap.NoLimit := e0.mod.nolimit.keeps fun b o e => (e0.bs b o e).1
  have names : ∀ y ∈ ps.zip us, (defScope st).names.lookup y.1 = some .local ∨ ((defScope st).names.lookup y.1 = some .cell ∧ ((cellsFrom (s.heap.objs.size + 1) (defScope st).names []).lookup y.1).isSome = true) := by
    rintro ⟨n, v⟩ hy
    rcases S.par n (List.of_mem_zip hy).1 with q | q
    · exact .inl q
    · exact .inr ⟨q, PySem.W.cellsFrom_some _ _ _ (.inl q)⟩
  refine codeAny_call_function room.depth (kin _ _ known) rfl S.co S.gen rfl (PySem.W.codeRec_of kin code) (bound _ _ _ _ (wpAny_newFunctionEnv_cells S.kind names fun env made s1 z => ?_))
  subst made
  refine ⟨nolim.keeps z.toInCall.keep, codeAny_func ?_⟩
  obtain ⟨t, ht, hq⟩ := hbody A outer s H vs Q E (room.deeper _) (deeper_guards free) told
  have I := inv_start (CX := CX0) (E := E) S room.hd e0 (len _ _ _ _ told) rel z
  refine wpAny_mono (ht.nox.run [] s1 (start N vs) H _ I hq) (fun fl s' hs => ?_) fun e s' hs => hs
  cases fl with
  | ret u =>
    obtain ⟨v, σ', H', J, rv, q⟩ := hs
    exact ⟨v, H', J.os, J.bare, J.base, J.hok, rv, q⟩
  | next =>
    obtain ⟨σ', H', J, q⟩ := hs
    exact ⟨V.non, H', J.os, J.bare, J.base, J.hok, rfl, q⟩
  | brk =>
    obtain ⟨_, _, _, q⟩ := hs
    exact q.elim
  | cont =>
    obtain ⟨_, _, _, q⟩ := hs
    exact q.elim
end
/-- the script, where it is tracked, and the table -/
def two (t : Addr) (s : Hp) : Hp := fun b => if b = t then some (.tbl #[]) else s b
theorem two_t {t : Addr} {s : Hp} : two t s t = some (.tbl #[]) := if_pos rfl
theorem two_ne {t b : Addr} {s : Hp} (h : b ≠ t) : two t s b = s b := if_neg h
/-- the module's builtins -/
def Bm (mg : Str → Option Value) (h : Heap) : Prop := ∃ (bm : Addr) (ob : Obj), mg "__builtins__" = some (.ref bm) ∧ bm ≠ builtinsNs ∧ h.get? bm = some ob ∧ ob.cls = .type "module" ∧ ob.dict = some builtinsNs ∧ ob.data = .plain
theorem callGT {P : Program} {w : World} {K : PySem.W.Frag} {mg mb : Str → Option Value} {k : Nat} {fa a c t : Addr} {fd : FuncData} {x : Str} {sp : Sp} {s : Shared} {vs : List Value} {ns : List Int}
    (kin : K.In s.heap) (hns : s.heap.Ns mainGlobals mg) (hb : s.heap.Ns builtinsNs mb) (hbb : ∀ x : Str, x ≠ "__name__" → mb x = bootBuiltins x) (nolim : s.heap.NoLimit) (gens : s.gens = #[])
    (tab : s.heap.get? t = some { cls := .none, data := .fields #[] }) (tabK : K.lookup t = none) (code : PySem.W.CodeHd s.heap c t) (hbm : Bm mg s.heap)
    (ha : s.heap.get? a = some { cls := .type "list", data := .seq vs.toArray }) (hi : IntsAre vs ns) (hl : ns.length ≤ sizeLine) (room : Room k callerA)
    (F : ∀ base : Heap, K.In base → base.Ns mainGlobals mg → LamX.TabB base mg c t → Gd P w K mg base k fa fd [x] sp) (binds : ∀ (s : Shared) (u : Value), BindsTo s fd ⟨[u], []⟩ [(x, u)])
    (hsp : ∀ H : Hp, H t = some (.tbl #[]) → SqL K H a (ns.map V.int) → sp [.ref a] H (fun v _ => v = .bl true) E0) :
    codeAny (model P w) callerA (.call (.ref fa) ⟨[.ref a], []⟩) (fun r s' => r = .ok (.ret (.bool true)) ∧ OldK s.heap s'.heap ∧ s'.os = s.os ∧ AllBare s'.gens) s := by
  have rv := vals_ints hi
  have nat : a ≠ t := fun z => by
    rw [z, tab] at ha
    cases ha
  have step : ∀ H : Hp, (∀ b u, H b = some u → b ≠ t → b = a ∧ K.lookup a = none ∧ ∃ o xs, u = .frz o (.lst xs)) → H t = some (.tbl #[]) → HOk P w H s.heap → SqL K H a (ns.map V.int) →
      codeAny (model P w) callerA (.call (.ref fa) ⟨[.ref a], []⟩) (fun r s' => r = .ok (.ret (.bool true)) ∧ OldK s.heap s'.heap ∧ s'.os = s.os ∧ AllBare s'.gens) s := by
    intro H only hT hok hS
    have free : ∀ {b : Addr}, b ≠ a → b ≠ t → H b = none := fun {b} n nt => by
      cases e : H b with
      | none => rfl
      | some u => exact absurd (only b u e nt).1 n
    -- what stands at neither of the two stays in sight
    have sees : ∀ {b : Addr} {o : Obj}, s.heap.get? b = some o → (∀ us m, o.data ≠ .seq us m) → o.data ≠ .fields #[] → (hidT s.heap H).get? b = some o := fun {b o} e n1 n2 => by
      refine hidT_get e (free (fun z => ?_) fun z => ?_)
      · rw [z, ha] at e
        cases e
        exact n1 _ _ rfl
      · rw [z, tab] at e
        cases e
        exact n2 rfl
    have stays : ∀ {b : Addr} {m : Str → Option Value}, s.heap.Ns b m → (hidT s.heap H).Ns b m := fun {b m} ⟨o, es, ep, e, d, r⟩ => by
      refine ⟨o, es, ep, sees e (fun us m z => ?_) (fun z => ?_), d, r⟩
      · rw [show o.data = _ from d] at z
        cases z
      · rw [show o.data = _ from d] at z
        cases z
    have kinB : K.In (hidT s.heap H) := fun b o e => hidT_get (kin b o e) (by
      cases q : H b with
      | none => rfl
      | some u =>
        by_cases nt : b = t
        · rw [nt, tabK] at e
          cases e
        · obtain ⟨h1, h2, _⟩ := only b u q nt
          rw [h1, h2] at e
          cases e)
    have TB : LamX.TabB (hidT s.heap H) mg c t := by
      refine ⟨?_, ?_, fun z => ?_⟩
      · obtain ⟨o, us, y1, y2, y3, y4, y5, y6, y7, at_, cl, dat, v11, rest⟩ := code
        refine ⟨o, us, y1, y2, y3, y4, y5, y6, y7, sees at_ (fun _ _ z => ?_) (fun z => ?_), cl, dat, v11, rest⟩
        · rw [dat] at z
          cases z
        · rw [dat] at z
          cases z
          cases v11
      · obtain ⟨bm, ob, m1, m2, m3, m4, m5, m6⟩ := hbm
        have np : ∀ us : Array Value, ob.data ≠ .fields us := fun us z => by
          rw [m6] at z
          cases z
        refine ⟨bm, ob, m1, m2, fun z => ?_, fun z => ?_, sees m3 (fun _ _ z => ?_) (np _), m4, m5, m6⟩
        · obtain ⟨o, es, ep, e, d, _⟩ := hns
          rw [← z, m3] at e
          cases e
          rw [m6] at d
          cases d
        · rw [z, tab] at m3
          cases m3
          exact np _ rfl
        · rw [m6] at z
          cases z
      · obtain ⟨o, es, ep, e, d, _⟩ := hns
        rw [z, tab] at e
        cases e
        cases d
    have e0 : Env0 P w K mg (hidT s.heap H) callerA [] s H :=
      ⟨rfl, ⟨kinB, stays hns, ⟨mb, stays hb, hbb⟩, let ⟨mc, h1, h2⟩ := nolim; ⟨mc, stays h1, h2⟩⟩, fun b o e => of_hidT e, Nat.le_of_eq (hidT_size _ _), trivial, fun b hb => (nomatch (show b ∈ ([] : List Addr) from hb)), hok, .of_eq gens⟩
    refine codeAny_mono ((F _ kinB (stays hns) TB).run callerA [] s H ⟨[.ref a], []⟩ [.ref a] [.ref a] _ E0 room rfl e0 (binds s (.ref a)) (.cons rfl .nil) (hsp H hT hS)) fun r s' h => ?_
    cases r with
    | error e => exact h.elim
    | ok fl =>
      cases fl with
      | ret u =>
        obtain ⟨v, H', os, bare, un, hok', r', q⟩ := h
        obtain rfl : v = .bl true := q
        obtain rfl : u = Value.bool true := r'
        obtain ⟨more, hm⟩ := un.tbls t #[] hT
        have hm2 : s'.heap.get? t = some { cls := .none, data := .fields (#[] ++ more) } := hok' t _ hm
        rw [Array.empty_append] at hm2
        refine ⟨rfl, ⟨fun b o e => ?_, fun b o e => ?_⟩, os, bare⟩
        · by_cases nt : b = t
          · subst nt
            rw [tab] at e
            cases e
            exact .inr (.inl ⟨(code.tab tab).isCodeTable, rfl, #[], more, rfl, by rw [Array.empty_append]; exact hm2⟩)
          · refine .inl ?_
            cases q : H b with
            | none => exact un.keep b o e q (by intro z; exact (nomatch (show b ∈ ([] : List Addr) from z))) (by simp)
            | some u =>
              obtain ⟨_, _, ob, xs, rfl⟩ := only b u q nt
              obtain ⟨e1, _⟩ := hok b _ q
              obtain ⟨e2, _⟩ := hok' b _ (un.frzs b ob _ q)
              rw [e] at e1
              cases e1
              exact e2
        · by_cases nt : b = t
          · subst nt
            exact ⟨_, hm2⟩
          · cases q : H b with
            | none => exact ⟨o, un.keep b o e q (by intro z; exact (nomatch (show b ∈ ([] : List Addr) from z))) (by simp)⟩
            | some u =>
              obtain ⟨_, _, ob, xs, rfl⟩ := only b u q nt
              obtain ⟨e2, _⟩ := hok' b _ (un.frzs b ob _ q)
              exact ⟨_, e2⟩
      | next => exact h.elim
      | brk => exact h.elim
      | cont => exact h.elim
  cases hk : K.lookup a with
  | some o =>
    have e := kin a o hk
    rw [ha] at e
    cases e
    refine step (two t fun _ => none) (fun b u z nt => by rw [two_ne nt] at z; cases z) two_t (fun b u z => ?_) (.inr ⟨_, vs.toArray, _, hk, rfl, rfl, rfl, ?_, by simpa using rv⟩)
    · by_cases nt : b = t
      · subst nt
        rw [two_t] at z
        cases z
        exact tab
      · rw [two_ne nt] at z
        cases z
    · rw [List.size_toArray, hi.length]
      exact hl
  | none =>
    refine step (two t (one a vs ns)) (fun b u z nt => ?_) two_t (fun b u z => ?_) (.inl (.inr ⟨_, (two_ne nat).trans (if_pos rfl)⟩))
    · rw [two_ne nt] at z
      unfold one at z
      by_cases q : b = a
      · rw [if_pos q] at z
        cases z
        exact ⟨q, hk, _, _, rfl⟩
      · rw [if_neg q] at z
        cases z
    · by_cases nt : b = t
      · subst nt
        rw [two_t] at z
        cases z
        exact tab
      rw [two_ne nt] at z
      unfold one at z
      by_cases q : b = a
      · rw [if_pos q] at z
        cases z
        subst q
        exact ⟨ha, by rw [List.length_map]; exact hl, vs, _, rv, ha⟩
      · rw [if_neg q] at z
        cases z
theorem walkGT {l : PySem.W.OpenLaw} {n k : Nat} {q : Program} {loose : List Str} {XP : (Str → Option Value) → Heap → Prop} {YP : World → Heap → Prop} {d : DefRec} {K : Params → PySem.W.Frag} {x : Str}
    (hn : l.most = some n) (hn2 : n ≤ sizeLine) (hdf : d.params.defaults = []) (hr : Room k callerA) (hY : ∀ (w : World) (h : Heap), YP w h → (K w.params).In h)
    (F : ∀ (w : World) (mg : Str → Option Value) (fa : Addr) (h : Heap), YP w h → (K w.params).In h → h.Ns mainGlobals mg → mg d.name = some (.ref fa) →
      ∃ (fd : FuncData) (c t : Addr) (sp : Sp), h.get? t = some { cls := .none, data := .fields #[] } ∧ (K w.params).lookup t = none ∧ PySem.W.CodeHd h c t ∧ (∀ (s : Shared) (u : Value), BindsTo s fd ⟨[u], []⟩ [(x, u)]) ∧
        (∀ (H : Hp) (a : Addr) (ns : List Int), ns.length ≤ n → H t = some (.tbl #[]) → SqL (K w.params) H a (ns.map V.int) → sp [.ref a] H (fun v _ => v = .bl true) E0) ∧
        ∀ base : Heap, (K w.params).In base → base.Ns mainGlobals mg → LamX.TabB base mg c t → Gd l.prog w (K w.params) mg base k fa fd [x] sp) :
    PySem.W.WalkO q loose XP YP l.row.toRowW d [] (fun f vs => PySem.call f vs) := by
  refine Att.attach_call hn hdf fun w s₀ s₁ mg mb fa o pm cd doc a vs ns G Y ho hd hcd hmg hobj hints hlen hg => ?_
  have kin := hY w _ Y
  obtain ⟨fd, c, t, sp, tab, tabK, code, hb, hsp, hF⟩ := F w mg fa _ Y kin G.T.g hmg
  exact callGT kin G.T.g G.T.b G.T.builtins G.T.nolimit hg tab tabK code G.T.bmain hobj hints (Nat.le_trans hlen hn2) hr hF hb fun H hT hS => hsp H a ns hlen hT hS
end GT

/-! a call of a def whose promise holds where no text of an object is being made -/
namespace GD
open PySem PySem.Spec PyProof.Rows L2
section
variable {X : Cx} {k : Nat} {f : Addr} {fd : FuncData} {ps : List Str} {sp : Sp} {x : Str} {p pos : Pos} {e : Expr} {es : List Expr} {t : L2.TA}
theorem run_gd {pins : List (Addr × Obj)} {s : Shared} {σ : L2.St} {H : Hp} {Q : VK} {us : List Value} {vs : List V} (G : Gd X.prog X.w X.K X.mg X.base k f fd ps sp) (len : ∀ ws H Q E, sp ws H Q E → ws.length = ps.length) (free : X.A.guards = some []) (room : Room k X.A) (binds : Binds X.K fd ps [])
    (I : Inv X pins σ H s) (rel : Vals vs us) (told : sp (vs ++ []) H Q E0) : wpAny (model X.prog X.w) X.A (call (.ref f) us) (EP X pins σ Q) X.xe s := by
  rw [List.append_nil] at told
  have same : us.length = ps.length := by
    rw [← rel.length]
    exact len _ _ _ _ told
  have bt := binds s us I.kIn (by rw [List.append_nil]; exact same)
  rw [List.append_nil] at bt
  refine wpAny_call (codeAny_mono (G.run X.A X.stack s H ⟨us, []⟩ us vs Q E0 room free I.env0 bt rel told) fun r s' got => ?_)
  cases r with
  | error e => exact got.elim
  | ok fl =>
    cases fl with
    | ret u => exact I.after got
    | next => exact got.elim
    | brk => exact got.elim
    | cont => exact got.elim
theorem pe_callG (G : Gd X.prog X.w X.K X.mg X.base k f fd ps sp) (len : ∀ ws H Q E, sp ws H Q E → ws.length = ps.length) (free : X.A.guards = some []) (room : Room k X.A) (glob : Gl X x) (at_ : X.mg x = some (.ref f)) (kept : PySem.W.keepIn X.K (.ref f) = true) (binds : Binds X.K fd ps [])
    (args : PA X (e :: es) t) (nodb : (x == ("__debug__" : Str)) = false := by decide) (star : starEach (e :: es) X.env = (false, eval e X.env) :: starEach es X.env := by rfl) (plain : (backTo pos (starEach es X.env)).any (·.1) = false := by rfl) :
    PE X (.Call (.Name x p) (e :: es) [] pos) (tCall sp [] E0 t) := by
  refine ⟨fun pins s σ H Q I told => wpAny_Call_Name_kw (ld_glob I glob at_ ?_ nodb)⟩
  exact PySem.W.callWith_K (h₀ := X.base) I.ok.mod.kin kept (thn (args.run pos pins s σ H _ I told) fun us s1 ⟨vs, H1, I1, rel, q⟩ => ⟨I1.kIn, run_gd G len free room binds I1 rel q⟩) star plain
end
end GD

/-! in a try: C(..) and o.m(..) whose E hangs on the names -/
namespace MS
open PySem PySem.Spec PyProof.Rows L2 EK
section
variable {X : Cx} {CX : CXT} {k : Nat} {f C : Addr} {fd : FuncData} {ps : List Str} {sp : Sp} {dvs : List V} {ds : List Value} {E : L2.St → XK} {x m : Str} {p pos apos : Pos} {e o : Expr} {es : List Expr} {ta : TE} {t : TA}
theorem run_makeS {pins : List (Addr × Obj)} {σ : L2.St} {H : Hp} {s : Shared} {Q : VK} {us : List Value} {vs : List V} (M : Mk X.K C f) (F : FnOk X.prog X.w X.K X.mg X.base CX k f fd ps sp) (hr : Room (k + 1) X.A) (hb : Binds X.K fd ps ds) (hd : Vals dvs ds)
    (hx : PassesAt CX X σ (E σ)) (I : Inv X pins σ H s) (r : Vals vs us)
    (h : ∀ x dx, H x = none → H dx = none → dx ≠ x → sp (.ref x :: (vs ++ dvs)) (upd (upd H dx (.own x)) x (.ins C dx [])) (fun v H2 => v = .non ∧ Q (.ref x) H2) (E σ)) :
    wpAny (model X.prog X.w) X.A (call (.ref C) us) (EP X pins σ Q) X.xe s := by
  have hq := h (s.heap.objs.size + 1) s.heap.objs.size (I.hok.fresh (Nat.le_succ _)) (I.hok.fresh (Nat.le_refl _)) (Nat.ne_of_lt (Nat.lt_succ_self _))
  have I2 := Inv.made (C := C) I
  have r2 : Vals (V.ref (s.heap.objs.size + 1) :: (vs ++ dvs)) (Value.ref (s.heap.objs.size + 1) :: (us ++ ds)) := .cons rfl (r.append hd)
  have hl : (Value.ref (s.heap.objs.size + 1) :: us ++ ds).length = ps.length := by
    have e := r2.length
    rw [F.len _ _ _ _ hq] at e
    exact e.symm
  refine wpAny_call (make_map (f := f) I.kIn M.makes M.init (beq_iff_eq.mp M.fn) (codeAny_mono (F.run _ X.stack _ _ ⟨Value.ref (s.heap.objs.size + 1) :: us, []⟩ (Value.ref (s.heap.objs.size + 1) :: (us ++ ds)) _ _ (E σ) (hr.make C us [])
    (I2.env0.make C us []) (hb _ (Value.ref (s.heap.objs.size + 1) :: us) I2.kIn hl) r2 hq) fun r s' hq' => ?_))
  cases r with
  | error e => exact hx pins _ _ e s' I2 hq'
  | ok fl =>
    cases fl with
    | ret u =>
      obtain ⟨v, H', I3, rv, ev, q3⟩ := I2.after hq'
      subst ev
      exact ⟨rv, ⟨V.ref (s.heap.objs.size + 1), H', I3, rfl, q3⟩⟩
    | next => exact False.elim hq'
    | brk => exact False.elim hq'
    | cont => exact False.elim hq'
def tMakeS (C : Addr) (sp : Sp) (dvs : List V) (E : L2.St → XK) (t : TA) : TE := fun σ H Q => t σ H fun vs H1 => ∀ x dx, H1 x = none → H1 dx = none → dx ≠ x → sp (.ref x :: (vs ++ dvs)) (upd (upd H1 dx (.own x)) x (.ins C dx [])) (fun v H2 => v = .non ∧ Q (.ref x) H2) (E σ)
theorem pe_makeS (M : Mk X.K C f) (F : FnOk X.prog X.w X.K X.mg X.base CX k f fd ps sp) (hr : Room (k + 1) X.A) (hg : Gl X x) (hm : X.mg x = some (.ref C)) (hb : Binds X.K fd ps ds) (hd : Vals dvs ds) (hx : ∀ σ, PassesAt CX X σ (E σ))
    (ha : PA X (e :: es) t) (hdb : (x == ("__debug__" : Str)) = false := by decide) (he : starEach (e :: es) X.env = (false, eval e X.env) :: starEach es X.env := by rfl) (hpl : (backTo pos (starEach es X.env)).any (·.1) = false := by rfl) :
    PE X (.Call (.Name x p) (e :: es) [] pos) (tMakeS C sp dvs E t) := by
  refine ⟨fun pins s σ H Q I h => ?_⟩
  refine wpAny_Call_Name_kw (ld_glob I hg hm ?_ hdb)
  refine PySem.W.callWith_K (h₀ := X.base) I.ok.mod.kin M.kp (thn (ha.run pos pins s σ H _ I h) fun us s1 ⟨vs, H1, I1, r, q⟩ => ⟨I1.kIn, ?_⟩) he hpl
  exact run_makeS M F hr hb hd (hx σ) I1 r q
def tMethS (C : Addr) (m : Str) (sp : Sp) (E : L2.St → XK) (ta : TE) (t : TA) : TE := fun σ H Q => ta σ H fun x H1 => ∃ a dx fs, x = .ref a ∧ H1 a = some (.ins C dx fs) ∧ fs.lookup m = none ∧ t σ H1 fun vs H2 => sp (x :: vs) H2 Q (E σ)
theorem pe_methS {pl : Sem Bool} (he : PE X o ta) (c : Cls X.K C) (hm : Meth X.K C m f) (F : FnOk X.prog X.w X.K X.mg X.base CX k f fd ps sp) (hr : Room k X.A) (hb : Binds X.K fd ps []) (hx : ∀ σ, PassesAt CX X σ (E σ)) (ha : PA X (e :: es) t)
    (hst : starEach (e :: es) X.env = (false, eval e X.env) :: starEach es X.env := by rfl) (hpl : (backTo pos (starEach es X.env)).any (·.1) = false := by rfl)
    (ht : eval (.Call (.Attribute o m apos) (e :: es) [] pos) X.env = (do
      let ov ← eval o X.env
      standAt apos.atName
      let (f, first) ← holding [ov] (getMethod ov m pl)
      callWith pos f first (backTo pos (starEach (e :: es) X.env)) (backToKw pos (keywordEach [] X.env))) := by rfl) :
    PE X (.Call (.Attribute o m apos) (e :: es) [] pos) (tMethS C m sp E ta t) := by
  refine ⟨fun pins s σ H Q I h => ?_⟩
  refine PySem.W.methodCall_KW (pl := pl) (thn (he.run pins s σ H _ I h) fun u s1 ⟨x, H1, I1, rx, a, dx, fs, ex, ea, l, q⟩ => ?_) ht
  subst ex
  obtain rfl : u = Value.ref a := rx
  refine getmeth_ok I1 ea c hm l ?_
  refine PySem.W.callWith_K (first := [.ref a]) (h₀ := X.base) I.ok.mod.kin hm.kp (thn (ha.run pos pins s1 σ H1 _ I1 q) fun us s2 ⟨vs, H2, I2, r, q2⟩ => ⟨I2.kIn, ?_⟩) hst hpl
  exact run_fnS (us := .ref a :: us) (vs := .ref a :: vs) F hr hb (hx σ) I2 (.cons rfl r) q2
end
section
variable {X : Cx} {C : Addr} {x : Str} {p pos : Pos}
/-- raise C(), C without an __init__ of its own -/
theorem pmk_mk0 (T : OexC X.K C) (iC : PySem.W.findIn X.K (.ref C) "__init__" = some (some (.builtin "ValueError.__init__"))) (hg : Gl X x) (hm : X.mg x = some (.ref C)) (hdb : (x == ("__debug__" : Str)) = false := by decide) :
    PMk X (.Call (.Name x p) [] [] pos) (fun _ H Q => Q (.ref C) none H) := by
  intro pins s σ H Q I h
  refine wpAny_Call_Name_kw (ld_glob I hg hm ?_ hdb)
  refine PySem.W.callWith_K0 (first := []) I.kIn T.kC ?_
  show wpAny _ _ (call (.ref C) []) _ _ _
  have RS : Raises X (.ref C) := raises_own T.exC T.tyC
  obtain ⟨nm, q, N, bs, bm, sn, sub, ab, col, dd, k0, k1, k2, k3, k5, hC, hbm⟩ := T.cls
  obtain ⟨hp, g, dr, tk, os⟩ := s
  have up : hp.objs.size ≤ hp.objs.size + 1 := Nat.le_succ _
  have kk : ∀ b o, hp.get? b = some o → ((hp.push (PySem.W.kdv_tup [])).push (PySem.HandSPX.excO C hp.objs.size)).get? b = some o := fun b o y => Heap.get?_push_of_some _ (Heap.get?_push_of_some _ y)
  have he : ((hp.push (PySem.W.kdv_tup [])).push (PySem.HandSPX.excO C hp.objs.size)).get? (hp.objs.size + 1) = some (PySem.HandSPX.excO C hp.objs.size) := by heap_get
  have hnew : hp.get? (hp.objs.size + 1) = none := by
    cases z : hp.get? (hp.objs.size + 1) with
    | none => rfl
    | some o => exact absurd (Heap.lt_size z) (Nat.not_lt.mpr (Nat.le_succ _))
  have I2 : Inv X pins σ (upd H (hp.objs.size + 1) (exo (hp.objs.size + 1) C none)) ⟨(hp.push (PySem.W.kdv_tup [])).push (PySem.HandSPX.excO C hp.objs.size), g, dr, tk, os⟩ :=
    I.laid (t' := tk) (a := hp.objs.size + 1) (o := exo (hp.objs.size + 1) C none) (h' := (hp.push (PySem.W.kdv_tup [])).push (PySem.HandSPX.excO C hp.objs.size)) kk up (exo_ok he)
  refine wpAny_call (PySem.ExV.own_call (fv := .builtin "ValueError.__init__") F.excBase_ValueError (fun Y => PySem.HandSPX.refsVE_contains Y bm hbm) (I.kIn _ _ hC) (PySem.W.looks_findIn I.kIn iC) (fun self => .of_pure (F.excBase_ValueError.init.bind self)) (Nat.zero_le _)
    (PySem.HandSPX.init_base F.excBase_ValueError (fun Y => PySem.HandSPX.refsVE_contains Y bm hbm) (I2.kIn _ _ hC) he (Nat.zero_le _) fun h' t2 kh hx => ?_))
  refine ⟨rfl, hp.objs.size + 1, _, _, ⟨hp, g, dr, tk, os⟩, H, .ref C, none, rfl, I, fun b o y => kh b o (Nat.ne_of_lt (Nat.lt_succ_of_lt (Heap.lt_size y))) (kk b o y), hnew, hx, ⟨rfl, rfl⟩, rfl, rfl, I.hok.fresh up, rfl, I.bare, RS, h⟩
end
/-- isinstance(e, c), e the exception that the suite holds, without a dict -/
def rIsE0 (K : PySem.W.Frag) (cls : Value) (d : Option Addr) (D a : Addr) : List V → Hp → VK → Prop := fun xs H Q => ∃ (c : V) (cv : Value) (b : Bool), xs = [.ref a, c] ∧ cls = .ref D ∧ d = none ∧ ClsV c cv ∧ PySem.W.kitOne K (.ref D) cv = some b ∧ Q (.bl b) H
theorem call_isE0 {X : Cx} {a D : Addr} {cls : Value} {d : Option Addr} {oe : Obj} {pn : List (Addr × Obj)} (C : ExcC X.K D) (hz : Zc cls d oe) (hf : ∃ vs, oe.data = .fields vs) : CallR (X.suite a ((a, oe) :: pn)) (.builtin "isinstance") (rIsE0 X.K cls d D a) := by
  intro pins s σ H xs us Q I r h
  obtain ⟨c, cv, b, rfl, ec, ed, k, e, q⟩ := h
  obtain ⟨u1, u2, rfl, r1, r2⟩ := vals2 r
  cases r1
  have e2 := k.eq r2
  subst e2 ec ed
  obtain ⟨hget, _⟩ := I.pin (a, oe) (List.mem_append.mpr (.inl List.mem_cons_self))
  obtain ⟨vs, hv⟩ := hf
  have J : PySem.W.InstAt s.heap a oe D none := ⟨hget, hz.1, by unfold PySem.W.notCls; rw [hv] <;> rfl, by rw [hz.2]; exact True.intro⟩
  exact PySem.W.kia_one (PySem.W.ek_kitx C.hg C.hk C.hs C.hd C.ha C.hn C.ht C.hm) I.kIn J e (fun z => nomatch z) fun tk => ⟨.bl b, H, I.kept (t' := tk) fun _ _ z => z, rfl, q⟩
theorem pe_bmK {X : Cx} {K : PySem.W.Frag} {c : Expr} {T : String} {r : V → List V → Hp → VK → Prop} {to : TE} {t : TA} (hK : X.K = K) (h : PE X c (tBM X.K T r to t)) : PE X c (tBM K T r to t) := hK ▸ h
theorem call_isE1 {X : Cx} {K : PySem.W.Frag} {a D : Addr} {cls : Value} {d : Option Addr} {oe : Obj} {pn : List (Addr × Obj)} (hK : X.K = K) (C : ExcC K D) (hz : Zc cls d oe) (hf : ∃ vs, oe.data = .fields vs) : CallR (X.suite a ((a, oe) :: pn)) (.builtin "isinstance") (rIsE0 K cls d D a) := by
  subst hK
  exact call_isE0 C hz hf
end MS

/-! list(text) -/
namespace LS
open PySem PySem.Spec PyProof.Rows L2
def rLstS : List V → Hp → VK → Prop := fun xs H Q => ∃ z : Str, xs = [.str z] ∧ z.cps.size ≤ sizeLine ∧ ∀ l, H l = none → Q (.ref l) (upd H l (.lst (z.cps.toList.map fun c => V.str ⟨#[c]⟩)))
theorem call_list_tx {X : Cx} (hc : X.calm = true) : CallR X (.type "list") rLstS := by
  intro pins s σ H xs us Q I r h
  obtain ⟨z, rfl, hz, q⟩ := h
  obtain ⟨u, rfl, t, rfl⟩ := vals1 r
  refine call_list_str (I.ok.hd hc) z t (hn := hz) fun h' tk acc' c' hkeep hS hacc => ?_
  refine ⟨.ref s.heap.objs.size, upd H s.heap.objs.size (.lst (z.cps.toList.map fun c => V.str ⟨#[c]⟩)), I.laid hkeep (Nat.le_refl _) (show ObjOk X.prog X.w _ _ _ (.lst (z.cps.toList.map fun c => V.str ⟨#[c]⟩)) from ⟨?_, acc'.toList, c', ?_, ?_⟩), rfl, q _ (I.hok.fresh (Nat.le_refl _))⟩
  · rw [List.length_map, Array.length_toList]; exact hz
  · have el : acc'.toList.length = acc'.size := by simp
    refine vals_of_at (by rw [List.length_map, el, hacc.1, Array.length_toList]) fun j x w h1 h2 => ?_
    obtain ⟨c, u, hcu, rfl⟩ := hacc.2 j w (by rw [← Array.getElem?_toList]; exact h2)
    rw [List.getElem?_map, Array.getElem?_toList, hcu] at h1
    cases h1
    exact ⟨u, rfl⟩
  · simpa using hS
end LS

namespace Law
open PySem PySem.Spec PyProof.Rows L2 Evl EK LamX TR GX Fg
theorem PenAt.now {p : PenI} {H0 H : Hp} {n : Nat} (P : PenAt p H0 H n) : PenAt p (del H p.d) H n ∧ Ex H0 (del H p.d) := by
  obtain ⟨e0, h0, hc, hl, op, lf, ho, hd⟩ := P
  have nc : p.c ≠ p.d := fun z => by
    rw [z, h0] at hc
    cases hc
  refine ⟨⟨fun b o h => ?_, del_same, by rw [del_ne nc]; exact e0 _ _ hc, hl, op, lf, ho, hd⟩, fun b o h => ?_⟩
  · by_cases hb : b = p.d
    · rw [hb, del_same] at h
      cases h
    · rw [del_ne hb] at h
      exact h
  · rw [del_ne (fun z => by rw [z, h0] at h; cases h)]
    exact e0 _ _ h
/-- no table in it -/
def NT (H : Hp) : Prop := ∀ b ps, H b ≠ some (.tbl ps)
def noT (H : Hp) : Hp := fun b => match H b with
  | some (.tbl _) => none
  | o => o
theorem noT_of {H : Hp} {b : Addr} {o : HO} (h : H b = some o) (n : ∀ ps, o ≠ .tbl ps) : noT H b = some o := by
  unfold noT
  rw [h]
  cases o with
  | tbl ps => exact absurd rfl (n ps)
  | _ => rfl
theorem noT_nt (H : Hp) : NT (noT H) := fun b ps z => by
  unfold noT at z
  split at z
  · cases z
  · rename_i h
    exact h ps z
theorem noT_ex (H : Hp) : Ex (noT H) H := fun b o z => by
  unfold noT at z
  split at z
  · cases z
  · exact z
theorem noT_none {H : Hp} {b : Addr} (h : H b = none) : noT H b = none := by
  unfold noT
  rw [h]
theorem noT_n (H : Hp) : ExtN H (noT H) := fun b o h n => noT_of h n
theorem tabs_del {T : List (Addr × Str)} {H : Hp} {d : Addr} {kvs : List (Key × V)} (h : Tabs T H) (hd : H d = some (.dK kvs)) : Tabs T (del H d) := fun q hq => by
  obtain ⟨ps, h1, h2, h3⟩ := h q hq
  refine ⟨ps, by rw [del_ne (fun z => by rw [z, hd] at h1; cases h1)]; exact h1, h2, fun pos cv hc => ?_⟩
  obtain ⟨c, e1, e2⟩ := h3 pos cv hc
  refine ⟨c, e1, ?_⟩
  rw [del_ne (fun z => by
    rw [z, hd] at e2
    unfold CodeO at e2
    cases e2)]
  exact e2
/-- the law's state: the pen over a base without tables, and the tables -/
structure Sta (T : List (Addr × Str)) (p : PenI) (B H : Hp) (n : Nat) : Prop where
  pen : PenAt p B H n
  nt : NT B
  tabs : Tabs T H
section
variable {T : List (Addr × Str)} {p : PenI} {B H H' H1 : Hp} {n m : Nat}
theorem Sta.plus (S : Sta T p B H n) : PenAt p (del H p.d) H n := S.pen.now.1
theorem Sta.up (S : Sta T p B H n) : Ex B (del H p.d) := S.pen.now.2
theorem Sta.td (S : Sta T p B H n) : Tabs T (del H p.d) := by
  obtain ⟨kvs, h⟩ := S.pen.dict
  exact tabs_del S.tabs h
theorem Sta.back (S : Sta T p B H n) (P' : PenAt p (del H p.d) H' m) : Sta T p B H' m where
  pen := ⟨S.up.trans P'.1, S.pen.2.1, S.pen.2.2.1, S.pen.2.2.2.1, P'.2.2.2.2⟩
  nt := S.nt
  tabs := S.td.ext P'.1
theorem Sta.ex (S : Sta T p B H n) (e : Ex H H') : Sta T p B H' n := ⟨S.pen.ex e, S.nt, S.tabs.ext e⟩
theorem Sta.le (S : Sta T p B H n) (h : n ≤ m) : Sta T p B H m := ⟨S.pen.le h, S.nt, S.tabs⟩
theorem Sta.exN (S : Sta T p B H n) (e : ExtN H H') (t : Tabs T H') : Sta T p B H' n where
  pen := by
    obtain ⟨e0, h0, hc, hl, op, lf, ho, hd⟩ := S.pen
    exact ⟨fun b o h => e b o (e0 b o h) (fun ps z => S.nt b ps (by rw [h, z])), h0, hc, hl, op, lf, ho, e _ _ hd (fun ps z => by cases z)⟩
  nt := S.nt
  tabs := t
theorem Sta.bn (S : Sta T p B H n) (e : ExtN H H') : Ex B H' := fun b o h => e b o (S.pen.1 b o h) (fun ps z => S.nt b ps (by rw [h, z]))
theorem Sta.grow (S : Sta T p B H n) (P' : PenAt p H1 H' m) (e : Ex (del H p.d) H1) : Sta T p (noT H1) H' m ∧ Ex B (noT H1) := by
  obtain ⟨e0, h0, hc, hl, op, lf, ho, hd⟩ := P'
  refine ⟨⟨⟨(noT_ex H1).trans e0, noT_none h0, noT_of hc (fun ps z => by cases z), hl, op, lf, ho, hd⟩, noT_nt H1, S.td.ext (e.trans e0)⟩, fun b o h => ?_⟩
  exact noT_of ((S.up.trans e) b o h) (fun ps z => S.nt b ps (by rw [h, z]))
/-- all that stands is kept -/
theorem Sta.hold (S : Sta T p B H n) : ∃ B', Sta T p B' H n ∧ Ex B B' ∧ ∀ b o, H b = some o → b ≠ p.d → (∀ ps, o ≠ .tbl ps) → B' b = some o := by
  obtain ⟨S', e⟩ := S.grow S.plus (Ex.refl _)
  exact ⟨_, S', e, fun b o h nb nt => noT_of (by rw [del_ne nb]; exact h) nt⟩
end
def okT (d : PyData) : Bool := d.showable && decide (d.depth ≤ 64) && decide (d.shown.length ≤ 1000)
theorem rx_tup {K : PySem.W.Frag} {H : Hp} {r : Addr} {xs : List V} {ds : List PyData} {Q : VK} (hr : H r = some (.tup xs)) (hd : DY.DEs K H xs ds) (ok : okT (.tuple ds) = true) (q : Q (.str (PyData.tuple ds).shown) H) : DY.RX K [.ref r] H Q := by
  unfold okT at ok
  rw [Bool.and_eq_true, Bool.and_eq_true, decide_eq_true_eq, decide_eq_true_eq] at ok
  exact ⟨.inr ⟨r, xs, ds, rfl, st_of hr, hd, ok.1.1, ok.1.2, Nat.le_trans ok.2 (by decide), q⟩⟩

structure Exm (K : PySem.W.Frag) (CL CW CN CB CT : Addr) : Prop where
  ll : PySem.W.exmOne K (.ref CL) (.ref CL) = some true
  wl : PySem.W.exmOne K (.ref CW) (.ref CL) = some false
  ww : PySem.W.exmOne K (.ref CW) (.ref CW) = some true
  nl : PySem.W.exmOne K (.ref CN) (.ref CL) = some false
  nw : PySem.W.exmOne K (.ref CN) (.ref CW) = some false
  nn : PySem.W.exmOne K (.ref CN) (.ref CN) = some true
  bl : PySem.W.exmOne K (.ref CB) (.ref CL) = some false
  bw : PySem.W.exmOne K (.ref CB) (.ref CW) = some false
  bn : PySem.W.exmOne K (.ref CB) (.ref CN) = some false
  bb : PySem.W.exmOne K (.ref CB) (.ref CB) = some true
  tl : PySem.W.exmOne K (.ref CT) (.ref CL) = some false
  tw : PySem.W.exmOne K (.ref CT) (.ref CW) = some false
  tn : PySem.W.exmOne K (.ref CT) (.ref CN) = some false
  tb : PySem.W.exmOne K (.ref CT) (.ref CB) = some false
  tt : PySem.W.exmOne K (.ref CT) (.ref CT) = some true
structure NoF (K : PySem.W.Frag) (CL CW CN CB CT : Addr) : Prop where
  l : PySem.W.findIn K (.ref CL) "letters" = some none
  w : PySem.W.findIn K (.ref CW) "place" = some none
  n : PySem.W.findIn K (.ref CN) "partial" = some none
  b : PySem.W.findIn K (.ref CB) "number" = some none
  t1 : PySem.W.findIn K (.ref CT) "what" = some none
  t2 : PySem.W.findIn K (.ref CT) "many" = some none
  t3 : PySem.W.findIn K (.ref CT) "most" = some none
structure Gs (mg : Str → Option Value) (CL CW CN CB CT C0 : Addr) : Prop where
  l : mg "BadLetters" = some (.ref CL)
  w : mg "BadWords" = some (.ref CW)
  n : mg "NoPartial" = some (.ref CN)
  b : mg "BadPlace" = some (.ref CB)
  t : mg "TooMany" = some (.ref CT)
  s : mg "SkipsError" = some (.ref C0)
theorem room70 {k : Nat} {A : Around} (r : Room k A) : A.units + 70 < cLine := by
  have := r.un
  omega
/-- what _law_met makes of an error -/
def Emet (K : PySem.W.Frag) (CL CW CN CB CT : Addr) (Q : VK) : XK := fun cls d H' => ∃ dd, d = some dd ∧
  ((∃ v, cls = .ref CL ∧ H' dd = some (.xd [("letters", v)]) ∧ RV.RX K [v] H' fun s H2 => ∀ r, H2 r = none → Q (.ref r) (upd H2 r (.tup [.str "letters", s]))) ∨
   (∃ v, cls = .ref CW ∧ H' dd = some (.xd [("place", v)]) ∧ ∀ r, H' r = none → Q (.ref r) (upd H' r (.tup [.str "words", v]))) ∨
   (∃ v, cls = .ref CN ∧ H' dd = some (.xd [("partial", v)]) ∧ RV.RX K [v] H' fun s H2 => H2 = H' ∧ ∀ r, H2 r = none → Q (.ref r) (upd H2 r (.tup [.str "partial", s, .bl true]))) ∨
   (∃ v, cls = .ref CB ∧ H' dd = some (.xd [("number", v)]) ∧ RV.RX K [v] H' fun s H2 => ∀ r, H2 r = none → Q (.ref r) (upd H2 r (.tup [.str "place", s]))) ∨
   (∃ x y z, cls = .ref CT ∧ H' dd = some (.xd [("most", x), ("many", y), ("what", z)]) ∧ ∀ r, H' r = none → Q (.ref r) (upd H' r (.tup [z, y, x]))))
theorem takes_len {X : Cx} {W : WX} (tk : Takes X W) : Takes X (fun cls d σ H => σ.length = X.N.length → W cls d σ H) := fun u s' ⟨a, B, sI, pins, σ, H, cls, d, e, I, nb, up, sky, na, os, ag, h⟩ =>
  tk u s' ⟨a, B, sI, pins, σ, H, cls, d, e, I, nb, up, sky, na, os, ag, h I.len⟩
def TTmet (K : PySem.W.Frag) (CL CW CN CB CT : Addr) : (XK → Hp → VK → Prop) → Hp → VK → Prop := fun tl H Q => tl (Emet K CL CW CN CB CT Q) H fun _ H' => ([] : List V).length ≤ sizeLine ∧ ∀ r, H' r = none → Q (.ref r) (upd H' r (.tup []))
section
variable {X : Cx}
theorem met_gives {q : Str} {g C_BadLetters C_BadWords C_NoPartial C_BadPlace C_TooMany fL fW fN fB fT C_SkipsError : Addr} {cdg : Value} (hg : X.A.guards = some []) (hrm : Room 1 X.A) (g_repr : X.mg "repr" = none) (T : Tx X.mg) (E1 : ErrC X.K C_BadLetters fL C_SkipsError) (E2 : ErrC X.K C_BadWords fW C_SkipsError) (E3 : ErrC X.K C_NoPartial fN C_SkipsError) (E4 : ErrC X.K C_BadPlace fB C_SkipsError) (E5 : ErrC X.K C_TooMany fT C_SkipsError)
    (G : Gs X.mg C_BadLetters C_BadWords C_NoPartial C_BadPlace C_TooMany C_SkipsError) (NF : NoF X.K C_BadLetters C_BadWords C_NoPartial C_BadPlace C_TooMany) (EX : Exm X.K C_BadLetters C_BadWords C_NoPartial C_BadPlace C_TooMany) :
    GivesTo X N_lmet "_law_met" (defScope s_lmet) g cdg (defBody s_lmet) "_law_call" q (TTmet X.K C_BadLetters C_BadWords C_NoPartial C_BadPlace C_TooMany) := by
  intro f c' s H Q tl act hc h
  obtain ⟨_, _, _, XF_BadLetters, EX_BadLetters, k1⟩ := E1
  obtain ⟨_, _, _, XF_BadWords, EX_BadWords, k2⟩ := E2
  obtain ⟨_, _, _, XF_NoPartial, EX_NoPartial, k3⟩ := E3
  obtain ⟨_, _, _, XF_BadPlace, EX_BadPlace, k4⟩ := E4
  obtain ⟨_, _, _, XF_TooMany, EX_TooMany, k5⟩ := E5
  obtain ⟨g_BadLetters, g_BadWords, g_NoPartial, g_BadPlace, g_TooMany, g_SkipsError⟩ := G
  have hu70 := hrm.un
  obtain ⟨N_BadLetters_letters, N_BadWords_place, N_NoPartial_partial, N_BadPlace_number, N_TooMany_what, N_TooMany_many, N_TooMany_most⟩ := NF
  refine ⟨_, pss_cons (EK.ps_tryN (X := (cxOf C8.CX0 X.prog X.w X.K X.mg X.base N_lmet "_law_met" (defScope s_lmet) g cdg X.A X.stack s H C8.E0).nox) (i := 1) (n := "e")
      (tb := fun W D σ H => ∃ Ech : XK, (∀ cls d σ' H', Ech cls d H' → σ'.length = 2 → W cls d σ' H') ∧ σ[0]? = some (some (.ref f)) ∧ H c' = some (CodeO c' q) ∧ tl Ech H fun _ H' => D.nx σ H')
      rfl rfl sc_lmet.nd rfl rfl LamX.takes0 (fun W pn xe tk _ => ?_)
      (EK.HdsN.cons ⟨(by rfl), (by decide), .inl g_BadLetters⟩ (fun a oe cls d pn hz hf => (pss_one (ps_ret (pe_tup (pa_cons pe_str (pa_cons (pe_callB (show CallR _ _ (RV.rRv X.K) from RV.call_reprV (by exact hg) (by show X.A.units + 3 + 70 < cLine; omega)) (by rfl) g_repr boot_repr (pa_cons (pe_xf XF_BadLetters N_BadLetters_letters hz hf (pv 1)) pa_nil)) pa_nil)))))) (EK.HdsN.cons ⟨(by rfl), (by decide), .inl g_BadWords⟩ (fun a oe cls d pn hz hf => (pss_one (ps_ret (pe_tup (pa_cons pe_str (pa_cons (pe_xf XF_BadWords N_BadWords_place hz hf (pv 1)) pa_nil)))))) (EK.HdsN.cons ⟨(by rfl), (by decide), .inl g_NoPartial⟩ (fun a oe cls d pn hz hf => (pss_one (ps_ret (pe_tup (pa_cons pe_str (pa_cons (pe_callB (show CallR _ _ (RV.rRv X.K) from RV.call_reprV (by exact hg) (by show X.A.units + 3 + 70 < cLine; omega)) (by rfl) g_repr boot_repr (pa_cons (pe_xf XF_NoPartial N_NoPartial_partial hz hf (pv 1)) pa_nil)) (pa_cons (pe_callB (EK.call_isE EX_NoPartial hz hf) (by rfl) T.isinstance PyProof.Rows.boot_isinstance (pa_cons (pv 1) (pa_cons (pe_glob (v := .ref C_SkipsError) rfl g_SkipsError rfl) pa_nil))) pa_nil))))))) (EK.HdsN.cons ⟨(by rfl), (by decide), .inl g_BadPlace⟩ (fun a oe cls d pn hz hf => (pss_one (ps_ret (pe_tup (pa_cons pe_str (pa_cons (pe_callB (show CallR _ _ (RV.rRv X.K) from RV.call_reprV (by exact hg) (by show X.A.units + 3 + 70 < cLine; omega)) (by rfl) g_repr boot_repr (pa_cons (pe_xf XF_BadPlace N_BadPlace_number hz hf (pv 1)) pa_nil)) pa_nil)))))) (EK.HdsN.cons ⟨(by rfl), (by decide), .inl g_TooMany⟩ (fun a oe cls d pn hz hf => (pss_one (ps_ret (pe_tup (pa_cons (pe_xf XF_TooMany N_TooMany_what hz hf (pv 1)) (pa_cons (pe_xf XF_TooMany N_TooMany_many hz hf (pv 1)) (pa_cons (pe_xf XF_TooMany N_TooMany_most hz hf (pv 1)) pa_nil))))))) EK.HdsN.nil)))))) (pss_one (ps_ret (pe_tup pa_nil))), ?_⟩
  · refine ⟨fun pins s' σ H' D I h' => ?_⟩
    obtain ⟨Ech, hW, h1, h2, h3⟩ := h'
    exact (pss_one (ps_expr (act _ pn xe Ech _ _ (takes_len tk) hW))).run pins s' σ H' D I ⟨h1, h2, h3⟩
  · refine ⟨Emet X.K C_BadLetters C_BadWords C_NoPartial C_BadPlace C_TooMany Q, ?_, rfl, hc, ?_⟩
    · rintro cls d σ' H' h2 h3
      obtain ⟨u1, u2, rfl⟩ : ∃ u1 u2, σ' = [u1, u2] := by
        match σ', h3 with
        | [a, b], _ => exact ⟨a, b, rfl⟩
      obtain ⟨dd, rfl, ⟨v, rfl, hx, q1⟩ | ⟨v, rfl, hx, q1⟩ | ⟨v, rfl, hx, q1⟩ | ⟨v, rfl, hx, q1⟩ | ⟨x, y, z, rfl, hx, q1⟩⟩ := h2
      · refine ⟨true, EX.ll, fun _ a ha => ?_, fun z => nomatch z⟩
        refine ⟨_, rfl, rfl, rfl, dd, _, _, rfl, hx, rfl, ?_⟩
        obtain ⟨v2, d2, e1, e2, e3, e4, e5, e6, e7⟩ := q1.ex
        exact ⟨v2, d2, e1, e2, e3, e4, e5, e6, by show 2 ≤ sizeLine; decide, fun r hr2 => e7 r hr2⟩
      · refine ⟨false, EX.wl, (fun z => nomatch z), fun _ => ⟨true, EX.ww, fun _ a ha => ?_, fun z => nomatch z⟩⟩
        refine ⟨_, rfl, rfl, rfl, dd, _, _, rfl, hx, rfl, by show 2 ≤ sizeLine; decide, fun r hr2 => ?_⟩
        exact q1 r hr2
      · refine ⟨false, EX.nl, (fun z => nomatch z), fun _ => ⟨false, EX.nw, (fun z => nomatch z), fun _ => ⟨true, EX.nn, fun _ a ha => ?_, fun z => nomatch z⟩⟩⟩
        refine ⟨_, rfl, rfl, rfl, dd, _, _, rfl, hx, rfl, ?_⟩
        obtain ⟨v2, d2, e1, e2, e3, e4, e5, e6, _, e7⟩ := q1.ex
        exact ⟨v2, d2, e1, e2, e3, e4, e5, e6, _, rfl, _, _, true, rfl, rfl, ⟨dd, _, rfl, hx⟩, .own _, k3, by show 3 ≤ sizeLine; decide, fun r hr2 => e7 r hr2⟩
      · refine ⟨false, EX.bl, (fun z => nomatch z), fun _ => ⟨false, EX.bw, (fun z => nomatch z), fun _ => ⟨false, EX.bn, (fun z => nomatch z), fun _ => ⟨true, EX.bb, fun _ a ha => ?_, fun z => nomatch z⟩⟩⟩⟩
        refine ⟨_, rfl, rfl, rfl, dd, _, _, rfl, hx, rfl, ?_⟩
        obtain ⟨v2, d2, e1, e2, e3, e4, e5, e6, e7⟩ := q1.ex
        exact ⟨v2, d2, e1, e2, e3, e4, e5, e6, by show 2 ≤ sizeLine; decide, fun r hr2 => e7 r hr2⟩
      · refine ⟨false, EX.tl, (fun z => nomatch z), fun _ => ⟨false, EX.tw, (fun z => nomatch z), fun _ => ⟨false, EX.tn, (fun z => nomatch z), fun _ => ⟨false, EX.tb, (fun z => nomatch z), fun _ => ⟨true, EX.tt, fun _ a ha => ?_, fun z => nomatch z⟩⟩⟩⟩⟩
        refine ⟨_, rfl, rfl, rfl, dd, _, _, rfl, hx, rfl, _, rfl, rfl, rfl, dd, _, _, rfl, hx, rfl, _, rfl, rfl, rfl, dd, _, _, rfl, hx, rfl, by show 3 ≤ sizeLine; decide, fun r hr2 => ?_⟩
        exact q1 r hr2
    · exact h
end
end Law

/-! == and != of data without dicts; nothing is asked of the texts in it -/
namespace EQ
open PySem PySem.Spec PyProof.Rows L2
section
variable {X : Cx}
def rEqP (K : PySem.W.Frag) : R2 := fun x y H Q => ∃ d e, Dp K H x d ∧ Dp K H y e ∧ d.plain = true ∧ e.plain = true ∧ d.depth ≤ 60 ∧ Q (.bl (PyData.eqv d e)) H
def rNeP (K : PySem.W.Frag) : R2 := fun x y H Q => ∃ d e, Dp K H x d ∧ Dp K H y e ∧ d.plain = true ∧ e.plain = true ∧ d.depth ≤ 60 ∧ Q (.bl (!PyData.eqv d e)) H
theorem op_eqP (hu : X.A.units + 64 < cLine) : OpR X (compareOp .Eq) (rEqP X.K) := by
  intro pins s σ H x y v u Q I rx ry h
  obtain ⟨d, e, hd, he, sd, se, hp, q⟩ := h
  obtain ⟨as, r1⟩ := Dp.reads I d x v hd rx
  obtain ⟨bs, r2⟩ := Dp.reads I e y u he ry
  exact SeqAt.eq_plain r1 r2 sd se (by omega) ⟨.bl _, H, I, rfl, q⟩
theorem op_neP (hu : X.A.units + 64 < cLine) : OpR X (compareOp .NotEq) (rNeP X.K) := by
  intro pins s σ H x y v u Q I rx ry h
  obtain ⟨d, e, hd, he, sd, se, hp, q⟩ := h
  obtain ⟨as, r1⟩ := Dp.reads I d x v hd rx
  obtain ⟨bs, r2⟩ := Dp.reads I e y u he ry
  exact SeqAt.ne_plain r1 r2 sd se (by omega) ⟨.bl _, H, I, rfl, q⟩
end
end EQ

namespace Law
open PySem PySem.Spec PyProof.Rows L2 Evl EK LamX TR GX Fg
abbrev lamR : Str := (Str.ofString "_law_are_refused" ++ ".<locals>.") ++ "<lambda>"
structure okR (d : PyData) : Prop where
  nd : ∀ kvs, d ≠ .dict kvs
  sh : d.showable = true
  dp : d.depth ≤ 64
  sz : d.shown.length ≤ sizeLine
theorem okR_of {d : PyData} (h1 : ∀ kvs, d ≠ .dict kvs) (h2 : d.showable = true) (hl : d.layable0 = true) (hi : d.intsShort 13 = true) : okR d :=
  ⟨h1, h2, by
    have hl' : (d.canLay0 && decide (d.depth ≤ 64) && decide (d.weight ≤ 2 ^ 20)) = true := hl
    simp only [Bool.and_eq_true, decide_eq_true_eq] at hl'
    exact hl'.1.2, PyData.shown_fits_of_layable0 (B := 13) (by decide) (by decide) hl hi⟩
theorem lay_tx {L : List Nat} (h : ∀ c ∈ L, c < 1000) : PyData.canLay0 (.str (tx L)) = true := by
  simp only [PyData.canLay0]
  show Array.all (tx L).cps _ = true
  rw [Array.all_eq_true']
  intro c hc
  have hc2 : c ∈ L := by simpa [tx] using hc
  have := h c hc2
  exact decide_eq_true (by omega)
theorem okR_str {z : List Nat} (h : ∀ c ∈ z, c < 1000) (hl : z.length < 1000) : okR (.str (tx z)) := okR_of (fun _ e => by cases e) rfl (by
  show ((PyData.str (tx z)).canLay0 && decide ((PyData.str (tx z)).depth ≤ 64) && decide ((PyData.str (tx z)).weight ≤ 2 ^ 20)) = true
  rw [lay_tx h, Bool.true_and, Bool.and_eq_true, decide_eq_true_eq, decide_eq_true_eq]
  refine ⟨by show 0 ≤ 64; omega, ?_⟩
  simp only [PyData.weight, tx_size]
  omega) rfl
theorem signs_d : ∀ {z : List Nat}, (∀ c ∈ z, c < 1000) → PyData.canLayAll0 (z.map fun c => .str (sg c)) = true ∧ PyData.depthAll (z.map fun c => .str (sg c)) = 0 ∧ PyData.weightAll (z.map fun c => .str (sg c)) ≤ 2 * z.length ∧ PyData.intsShortAll 13 (z.map fun c => .str (sg c)) = true ∧ PyData.showableAll (z.map fun c => .str (sg c)) = true
  | [], _ => ⟨rfl, rfl, Nat.zero_le _, rfl, rfl⟩
  | c :: z, h => by
    obtain ⟨h1, h2, h3, h4, h5⟩ := signs_d (z := z) fun x hx => h x (List.mem_cons_of_mem _ hx)
    have hc : PyData.canLay0 (.str (sg c)) = true := lay_tx (L := [c]) fun x hx => by
      rw [List.mem_singleton.mp hx]
      exact h c (List.mem_cons_self ..)
    refine ⟨?_, ?_, ?_, ?_, ?_⟩
    · rw [List.map_cons]
      show (PyData.canLay0 (.str (sg c)) && _) = true
      rw [hc, Bool.true_and]
      exact h1
    · rw [List.map_cons]
      show max 0 (PyData.depthAll _) = 0
      rw [h2]
      rfl
    · rw [List.map_cons]
      show 1 + 1 + PyData.weightAll _ ≤ 2 * (z.length + 1)
      omega
    · rw [List.map_cons]
      show (true && _) = true
      rw [Bool.true_and]
      exact h4
    · rw [List.map_cons]
      show (true && _) = true
      rw [Bool.true_and]
      exact h5
theorem okR_signs {z : List Nat} (h : ∀ c ∈ z, c < 1000) (hl : z.length < 1000) : okR (.list (z.map fun c => .str (sg c))) := by
  obtain ⟨h1, h2, h3, h4, h5⟩ := signs_d h
  refine okR_of (fun _ e => by cases e) h5 ?_ h4
  show (PyData.canLayAll0 _ && decide (PyData.depthAll _ + 1 ≤ 64) && decide (PyData.weightAll _ ≤ 2 ^ 20)) = true
  rw [h1, h2, Bool.true_and, Bool.and_eq_true, decide_eq_true_eq, decide_eq_true_eq]
  exact ⟨by decide, by omega⟩
theorem fls_signs : ∀ z : List Nat, Fls (z.map fun c => V.str (sg c)) (z.map fun c => .str (sg c))
  | [] => .nil
  | c :: z => .cons (.str _) (fls_signs z)
theorem nos_non {K : PySem.W.Frag} {H : Hp} : NoS K H .non := ⟨_, .base .non, kit_ty (by decide +kernel)⟩
theorem nos_int {K : PySem.W.Frag} {H : Hp} {i : Int} : NoS K H (.int i) := ⟨_, .base (.int _), kit_ty (by decide +kernel)⟩
theorem nos_lst {K : PySem.W.Frag} {H : Hp} {a : Addr} {xs : List V} (h : H a = some (.lst xs)) : NoS K H (.ref a) := ⟨_, .base (.lst h), kit_ty (by decide +kernel)⟩
theorem dot_zs (n : Nat) (h : 1 ≤ n) : Txt.mul (Str.ofString "Z") (n : Int) = tx (List.replicate n 90) := by
  rw [show Str.ofString "Z" = tx [90] by decide +kernel, mul_tx [90] (by omega), Int.toNat_natCast]
  congr 1
  induction n with
  | zero => omega
  | succ n ih =>
    cases n with
    | zero => rfl
    | succ n =>
      rw [List.replicate_succ, List.flatten_cons, ih (by omega)]
      rfl
structure OddP (K : PySem.W.Frag) (B : Hp) (r : List (List Nat)) (x : V) : Prop where
  ex : ∃ d, AV B x d ∧ ((∃ z, x = .str (tx z) ∧ z ∉ r) ∨ NoS K B x) ∧ okR d
structure OddN (B : Hp) (m : Nat) (p : List Nat) (x : V) : Prop where
  ex : ∃ g d, GA B x g ∧ AV B x d ∧ (whole 0 ((m : Int) - 1) g = false ∨ ∃ i : Nat, x = .int (i : Nat) ∧ i ∉ dots p) ∧ okR d
section
variable {K : PySem.W.Frag} {CL CW CN CB CT : Addr} {H : Hp} {Q : VK} {d : PyData}
theorem met_part (ok : okR d) (hq : ∀ r H', Ex H H' → H' r = some (.tup [.str "partial", .str d.shown, .bl true]) → Q (.ref r) H') : RzD (Emet K CL CW CN CB CT Q) H CN "partial" d := fun dd v' H2 e2 _ hx av =>
  ⟨dd, rfl, .inr (.inr (.inl ⟨v', rfl, hx, ⟨⟨v', d, rfl, av.de, ok.nd, ok.sh, ok.dp, ok.sz, rfl, fun r hr => hq _ _ (e2.trans (Ex.new hr)) upd_same⟩⟩⟩))⟩
theorem met_numb (ok : okR d) (hq : ∀ r H', Ex H H' → H' r = some (.tup [.str "place", .str d.shown]) → Q (.ref r) H') : RzD (Emet K CL CW CN CB CT Q) H CB "number" d := fun dd v' H2 e2 _ hx av =>
  ⟨dd, rfl, .inr (.inr (.inr (.inl ⟨v', rfl, hx, ⟨⟨v', d, rfl, av.de, ok.nd, ok.sh, ok.dp, ok.sz, fun r hr => hq _ _ (e2.trans (Ex.new hr)) upd_same⟩⟩⟩)))⟩
theorem met_lets (ok : okR d) (hq : ∀ r H', Ex H H' → H' r = some (.tup [.str "letters", .str d.shown]) → Q (.ref r) H') : RzD (Emet K CL CW CN CB CT Q) H CL "letters" d := fun dd v' H2 e2 _ hx av =>
  ⟨dd, rfl, .inl ⟨v', rfl, hx, ⟨⟨v', d, rfl, av.de, ok.nd, ok.sh, ok.dp, ok.sz, fun r hr => hq _ _ (e2.trans (Ex.new hr)) upd_same⟩⟩⟩⟩
theorem met_word {i : Nat} (hq : ∀ r H', Ex H H' → H' r = some (.tup [.str "words", .int (i : Nat)]) → Q (.ref r) H') : RzD (Emet K CL CW CN CB CT Q) H CW "place" (.int (i : Nat)) := fun dd v' H2 e2 _ hx av => by
  have := av_int av
  subst this
  exact ⟨dd, rfl, .inr (.inl ⟨_, rfl, hx, fun r hr => hq _ _ (e2.trans (Ex.new hr)) upd_same⟩)⟩
theorem met_many {c : Nat} (hq : ∀ r H', Ex H H' → H' r = some (.tup [.str "partial words", .int (c : Nat), .int 31]) → Q (.ref r) H') : RzF (Emet K CL CW CN CB CT Q) H CT [("most", .int 31), ("many", .int (c : Nat)), ("what", .str "partial words")] := fun dd H2 e2 _ hx =>
  ⟨dd, rfl, .inr (.inr (.inr (.inr ⟨_, _, _, rfl, hx, fun r hr => hq _ _ (e2.trans (Ex.new hr)) upd_same⟩)))⟩
end
theorem Sta.low {T : List (Addr × Str)} {p : PenI} {B B' H H' : Hp} {n m : Nat} (S : Sta T p B H n) (S' : Sta T p B' H' m) (e : Ex B B') : Sta T p B H' m where
  pen := ⟨e.trans S'.pen.1, S.pen.2.1, S.pen.2.2.1, S.pen.2.2.2.1, S'.pen.2.2.2.2⟩
  nt := S.nt
  tabs := S'.tabs
structure KnG (P : Program) (w : World) (K : PySem.W.Frag) (mg : Str → Option Value) (base : Heap) (x : Str) (ps : List Str) (k : Nat) (sp : Sp) where
  f : Addr
  fd : FuncData
  ok : GD.Gd P w K mg base k f fd ps sp
  len : ∀ ws H Q E, sp ws H Q E → ws.length = ps.length
  g : mg x = some (.ref f)
  kp : PySem.W.keepIn K (.ref f) = true
  b : Binds K fd ps []
def spRefused (T2 : List (Addr × Str)) : Sp := fun vs H Q _ => ∃ (p : PenI) (B : Hp) (n : Nat) (wa ka : Addr) (L : List Nat) (m : Nat) (ws r us : List (List Nat)), vs = [.ref p.d, .str (tx L), .ref wa, .ref ka] ∧ Sta T2 p B H n ∧ n < 500000 ∧ B wa = some (.lst (wv ws)) ∧ B ka = some (.lst (wv us)) ∧ SrtOf us r ∧ Wk L m ws r ∧ r.length ≤ 31 ∧
  ∀ H', Sta T2 p B H' (n + 10) → Q (.bl true) H'
theorem walk_pos {L : List Nat} {m : Nat} {ws r : List (List Nat)} (W : Wk L m ws r) : 1 ≤ r.length := by
  obtain ⟨n, h⟩ := W.ex
  obtain ⟨k, _, hc⟩ := Exp.snoc (wt := []) (p := List.replicate m 46) h
  rcases hc with ⟨hin, _⟩ | ⟨_, h2⟩
  · cases hin
  · have := exp_len h2
    simpa using this
section
variable {P : Program} {w : World} {K : PySem.W.Frag} {mg : Str → Option Value} {base : Heap} {C_BadLetters C_BadWords C_NoPartial C_BadPlace C_TooMany fL fW fN fB fT C_SkipsError gm c Pt : Addr} {fdm : FuncData} {T2 : List (Addr × Str)}
theorem ok_refused {f : Addr} {fd : FuncData} (F : GT.FunC K "_law_are_refused" "_law_are_refused" s_lare_refused f fd c) (T : Tx mg) (g_repr : mg "repr" = none) (Fm : Fun K "_law_met" "_law_met" s_lmet gm fdm) (g_lmet : mg "_law_met" = some (.ref gm)) (b_lmet : Binds K fdm ["_law_call"] [])
    (E1 : ErrC K C_BadLetters fL C_SkipsError) (E2 : ErrC K C_BadWords fW C_SkipsError) (E3 : ErrC K C_NoPartial fN C_SkipsError) (E4 : ErrC K C_BadPlace fB C_SkipsError) (E5 : ErrC K C_TooMany fT C_SkipsError)
    (GS : Gs mg C_BadLetters C_BadWords C_NoPartial C_BadPlace C_TooMany C_SkipsError) (NF : NoF K C_BadLetters C_BadWords C_NoPartial C_BadPlace C_TooMany) (EX : Exm K C_BadLetters C_BadWords C_NoPartial C_BadPlace C_TooMany) (TB : LamX.TabB base mg c Pt)
    (hmT : (Pt, lamR) ∈ T2) (uT : ∀ q ∈ T2, q.1 = Pt → q.2 = lamR)
    (c_pickL : Kn P w K mg base "_law_pick" ["_law_pen", "_law_items"] 2 spPickL) (c_moves : Kn' P w K mg base (L2.CX P w) "moves" ["letters", "words", "partial", "place"] 7 (spMoves K C_BadPlace C_NoPartial)) (c_partials : Kn' P w K mg base (L2.CX P w) "partials" ["letters", "words"] 7 (spPartials K C_BadLetters C_BadWords C_TooMany)) :
    GD.Gd P w K mg base 11 f fd ["_law_pen", "_law_letters", "_law_words", "_law_known"] (spRefused T2) := by
  have k_lmet := Fm.kp
  obtain ⟨oc, od, kV, doc, pm, an, cdm, ct, osl, rfl, l_lmet, h_lmet⟩ := Fm.ex
  have mT : ∀ {q : Addr × Str}, q = (Pt, lamR) → q ∈ T2 := fun e => e ▸ hmT
  refine GT.okGC F sc_lare_refused (fun vs H Q E h => ?_) (fun A outer s H vs Q E hr hg h => ?_)
  · obtain ⟨p, B, n, wa, ka, L, m, ws, r, us, rfl, _⟩ := h
    rfl
  · obtain ⟨p, B, n, wa, ka, L, m, ws, r, us, rfl, S0, hn, hwa, hka, srt, wk, r31, q⟩ := h
    have rpos := walk_pos wk
    have m1 := wk.W.m1
    have m6 := wk.W.m6
    have whi := wk.W.hi
    have ul := srt.1.length_eq
    obtain ⟨z0, hz0⟩ : ∃ z0, ws[0]? = some z0 := ⟨_, List.getElem?_eq_getElem wk.W.lo⟩
    have zm := List.mem_of_getElem? hz0
    have zl := (wk.W.of z0 zm).len
    obtain ⟨u0, hu0⟩ : ∃ u0, us[0]? = some u0 := ⟨_, List.getElem?_eq_getElem (by omega)⟩
    have um : u0 ∈ r := srt.1.mem_iff.mp (List.mem_of_getElem? hu0)
    have ul0 := (wk.pt u0 um).len
    refine ⟨_, (pss_cons (ps_set (i := 4) sc_lare_refused.nd rfl (Or.inl rfl) (pe_callB call_len_str (by rfl) T.len PySem.boot_len (pa_cons (pe_ix ix_list (pv 2) pe_int (fun _ _ => rfl)) pa_nil)))
      (pss_cons (ps_for PassesOwn.never rfl (pi_list (pe_lst (pa_cons pe_non (pa_cons pe_int (pa_cons (pe_lst pa_nil) (pa_cons (pe_op ZS.op_mulS pe_str (pe_op op_add (pv 4) pe_int)) (pa_cons (pe_ix ix_list (pv 2) pe_int (fun _ _ => rfl)) (pa_cons (pe_op ZS.op_mulS pe_str (pv 4)) (pa_cons (pe_callTy (LS.call_list_tx rfl) (by rfl) T.list PyProof.Rows.boot_list (pa_cons (pe_ix ix_list (pv 3) pe_int (fun _ _ => rfl)) pa_nil)) pa_nil))))))))) (pg_name (i := 5) sc_lare_refused.nd rfl (Or.inr rfl)) (pss_one (ps_if (pt_cmpR (EQ.op_neP hr.units) (LamX.pe_lamcall (k := 7) (by rfl) g_lmet k_lmet l_lmet h_lmet b_lmet sc_lmet rfl (Or.inl rfl) (met_gives hg (hr.mono (by decide)) g_repr T E1 E2 E3 E4 E5 GS NF EX) TB rfl (mT rfl) uT (hr.mono (by decide)) (LamX.lamS_by (sc := defScope s_lare_refused) (by decide +kernel)) rfl (fun _ _ _ _ _ => rfl) (fun A outer s H E f c hr => (pe_callS c_moves.ok (hr.mono (by decide)) (by rfl) c_moves.g c_moves.kp c_moves.b (fun σ => passAt (takes_of rfl rfl rfl rfl) σ) (pa_cons (pv 1) (pa_cons (pv 2) (pa_cons (pv 5) (pa_cons pe_int pa_nil))))))) (pe_tup (pa_cons pe_str (pa_cons (pe_callB (RV.call_reprV hg (room70 hr)) (by rfl) g_repr boot_repr (pa_cons (pv 5) pa_nil)) (pa_cons pe_bl pa_nil)))) (nomark _)) (pss_one (ps_ret pe_bl)) pss_nil)))
      (pss_cons (ps_set (i := 6) sc_lare_refused.nd rfl (Or.inr rfl) (pe_call c_pickL.ok (hr.mono (by decide)) (by rfl) c_pickL.g c_pickL.kp c_pickL.b .nil pass0 (pa_cons (pv 0) (pa_cons (pv 3) pa_nil))))
      (pss_cons (ps_setLc (i := 7) (own := [("_law_place", 8)]) (g := gName 8) rfl sc_lare_refused.nd rfl rfl (sw_true rfl rfl rfl (by decide +kernel)) (pi_range1 (by rfl) T.range (pa_cons (pv 4) pa_nil)) (blkOk_by (N := N_lare_refused) (sc := defScope s_lare_refused) (by decide +kernel)) (fun _ _ _ _ _ => (pg_name (i := 8) sc_lare_refused.nd rfl (Or.inl rfl))) (fun _ _ _ _ _ => (pts_one (pt_cmpR op_ne (pe_ix ix_str (pv 6) (pv 8) (fun _ _ => rfl)) pe_str (nomark _)))) (fun _ _ _ _ _ => (pv 8)))
      (pss_cons (ps_for PassesOwn.never rfl (pi_list (pe_op op_cat (pe_lst (pa_cons pe_non (pa_cons pe_str (pa_cons (pe_un un_neg pe_int) (pa_cons (pv 4) (pa_cons pe_bl (pa_cons (pe_lst pa_nil) (pa_cons (pe_op op_pow pe_int pe_int) pa_nil)))))))) (pv 7))) (pg_name (i := 5) sc_lare_refused.nd rfl (Or.inr rfl)) (pss_one (ps_if (pt_cmpR (EQ.op_neP hr.units) (LamX.pe_lamcall (k := 7) (by rfl) g_lmet k_lmet l_lmet h_lmet b_lmet sc_lmet rfl (Or.inl rfl) (met_gives hg (hr.mono (by decide)) g_repr T E1 E2 E3 E4 E5 GS NF EX) TB rfl (mT rfl) uT (hr.mono (by decide)) (LamX.lamS_by (sc := defScope s_lare_refused) (by decide +kernel)) rfl (fun _ _ _ _ _ => rfl) (fun A outer s H E f c hr => (pe_callS c_moves.ok (hr.mono (by decide)) (by rfl) c_moves.g c_moves.kp c_moves.b (fun σ => passAt (takes_of rfl rfl rfl rfl) σ) (pa_cons (pv 1) (pa_cons (pv 2) (pa_cons (pv 6) (pa_cons (pv 5) pa_nil))))))) (pe_tup (pa_cons pe_str (pa_cons (pe_callB (RV.call_reprV hg (room70 hr)) (by rfl) g_repr boot_repr (pa_cons (pv 5) pa_nil)) pa_nil))) (nomark _)) (pss_one (ps_ret pe_bl)) pss_nil)))
      (pss_cons (ps_if (pt_cmpR (EQ.op_neP hr.units) (LamX.pe_lamcall (k := 7) (by rfl) g_lmet k_lmet l_lmet h_lmet b_lmet sc_lmet rfl (Or.inl rfl) (met_gives hg (hr.mono (by decide)) g_repr T E1 E2 E3 E4 E5 GS NF EX) TB rfl (mT rfl) uT (hr.mono (by decide)) (LamX.lamS_by (sc := defScope s_lare_refused) (by decide +kernel)) rfl (fun _ _ _ _ _ => rfl) (fun A outer s H E f c hr => (pe_callS c_partials.ok (hr.mono (by decide)) (by rfl) c_partials.g c_partials.kp c_partials.b (fun σ => passAt (takes_of rfl rfl rfl rfl) σ) (pa_cons pe_str (pa_cons (pv 2) pa_nil))))) (pe_tup (pa_cons pe_str (pa_cons pe_str pa_nil))) (nomark _)) (pss_one (ps_ret pe_bl)) pss_nil)
      (pss_one (ps_ret (pe_cmpR (EQ.op_eqP hr.units) (LamX.pe_lamcall (k := 7) (by rfl) g_lmet k_lmet l_lmet h_lmet b_lmet sc_lmet rfl (Or.inl rfl) (met_gives hg (hr.mono (by decide)) g_repr T E1 E2 E3 E4 E5 GS NF EX) TB rfl (mT rfl) uT (hr.mono (by decide)) (LamX.lamS_by (sc := defScope s_lare_refused) (by decide +kernel)) rfl (fun _ _ _ _ _ => rfl) (fun A outer s H E f c hr => (pe_callS c_partials.ok (hr.mono (by decide)) (by rfl) c_partials.g c_partials.kp c_partials.b (fun σ => passAt (takes_of rfl rfl rfl rfl) σ) (pa_cons (pv 1) (pa_cons (pe_lst (pa_cons (pe_ix (show IxR _ (rIxL K) from ix_list) (pv 2) pe_int (fun _ _ => rfl)) (pa_cons (pe_ix (show IxR _ (rIxL K) from ix_list) (pv 2) pe_int (fun _ _ => rfl)) pa_nil))) pa_nil))))) (pe_tup (pa_cons pe_str (pa_cons pe_int pa_nil))) (nomark _)))))))))), ?_⟩
    have wa1 := S0.pen.1 _ _ hwa
    have ka1 := S0.pen.1 _ _ hka
    refine ⟨_, rfl, wa, _, _, .str (tx z0), rfl, rfl, sq_of wa1, atI_nat (j := 0) (by unfold wv; rw [List.getElem?_map, hz0]; rfl), _, rfl, tx_le (by omega), ?_⟩
    rw [tx_len, zl]
    dsimp only [gName]
    refine' st_eq (σ' := [some (.ref p.d), some (.str (tx L)), some (.ref wa), some (.ref ka), some (.int (m : Nat)), none, none, none, none]) rfl ?_
    refine ⟨by show 0 ≤ sizeLine; decide, fun l1 hl1 => ?_⟩
    have S1 := S0.ex (Ex.new (o := .lst []) hl1)
    have k1 : (L2.upd H l1 (.lst [])) l1 = some (.lst []) := upd_same
    generalize (L2.upd H l1 (.lst [])) = H1 at S1 k1 ⊢
    refine ⟨_, rfl, _, _, rfl, rfl, _, _, rfl, rfl, ?_, ?_⟩
    · rw [dot_sg, show (m : Int) + 1 = ((m + 1 : Nat) : Int) by omega]
      exact mulOk_of 1 1000 (by rw [sg_len]; omega) (by omega) (by omega) (by decide) (by decide)
    refine ⟨_, rfl, wa, _, _, .str (tx z0), rfl, rfl, sq_of (S1.pen.1 _ _ hwa), atI_nat (j := 0) (by unfold wv; rw [List.getElem?_map, hz0]; rfl), _, rfl, _, _, rfl, rfl, ?_, ?_⟩
    · rw [show Str.ofString "Z" = sg 90 by decide +kernel]
      exact mulOk_of 1 1000 (by rw [sg_len]; omega) (by omega) (by omega) (by decide) (by decide)
    refine ⟨_, rfl, ka, _, _, .str (tx u0), rfl, rfl, sq_of (S1.pen.1 _ _ hka), atI_nat (j := 0) (by unfold wv; rw [List.getElem?_map, hu0]; rfl), tx u0, rfl, by rw [tx_size]; exact sz_le (by omega), fun l2 hl2 => ⟨by show 7 ≤ sizeLine; decide, fun b hb => ?_⟩⟩
    have S2 := S1.ex (Ex.new (o := .lst ((tx u0).cps.toList.map fun c => V.str ⟨#[c]⟩)) hl2)
    have k2 := (Ex.new (o := .lst ((tx u0).cps.toList.map fun c => V.str ⟨#[c]⟩)) hl2) _ _ k1
    have j2 : (L2.upd H1 l2 (.lst ((tx u0).cps.toList.map fun c => V.str ⟨#[c]⟩))) l2 = some (.lst (u0.map fun c => V.str (sg c))) := upd_same
    generalize (L2.upd H1 l2 (.lst ((tx u0).cps.toList.map fun c => V.str ⟨#[c]⟩))) = H2 at S2 k2 j2 hb ⊢
    rw [dot_sg, show (m : Int) + 1 = ((m + 1 : Nat) : Int) by omega, mul_dot, dot_zs m m1]
    obtain ⟨xs, hxs⟩ : ∃ xs, [V.non, .int 7, .ref l1, .str (tx (List.replicate (m + 1) 46)), .str (tx z0), .str (tx (List.replicate m 90)), .ref l2] = xs := ⟨_, rfl⟩
    have S3 := S2.ex (Ex.new (o := .lst xs) hb)
    have k3 := (Ex.new (o := .lst xs) hb) _ _ k2
    have j3 := (Ex.new (o := .lst xs) hb) _ _ j2
    have b3 : (L2.upd H2 b (.lst xs)) b = some (.lst xs) := upd_same
    rw [show [V.non, .int 7, .ref l1, .str (tx (List.replicate (m + 1) 46)), .str (tx z0), .str (tx (List.replicate m 90)), .ref l2] = xs from hxs]
    generalize (L2.upd H2 b (.lst xs)) = H3 at S3 k3 j3 b3 ⊢
    obtain ⟨B2, S4, eB, kB⟩ := S3.hold
    have b4 := kB _ _ b3 (S3.pen.lst_ne b3) (fun _ z => by cases z)
    have k4 := kB _ _ k3 (S3.pen.lst_ne k3) (fun _ z => by cases z)
    have j4 := kB _ _ j3 (S3.pen.lst_ne j3) (fun _ z => by cases z)
    have sm : ∀ z ∈ ws, ∀ c ∈ z, c < 1000 := fun z hz c hc => by
      have := wk.lg.az c ((wk.W.of z hz).of c hc)
      omega
    have su : ∀ z ∈ r, ∀ c ∈ z, c < 1000 := fun z hz c hc => by
      rcases (wk.pt z hz).sign wk.W c hc with rfl | h
      · decide
      · have := wk.lg.az c h
        omega
    have hodd : ∀ x ∈ xs, OddP K B2 r x := fun x hx => by
      rw [← hxs] at hx
      simp only [List.mem_cons, List.not_mem_nil, or_false] at hx
      rcases hx with rfl | rfl | rfl | rfl | rfl | rfl | rfl
      · exact ⟨_, .flat .non, .inr nos_non, okR_of (fun _ e => by cases e) rfl rfl rfl⟩
      · exact ⟨_, .flat (.int _), .inr nos_int, okR_of (fun _ e => by cases e) (by decide +kernel) (by decide +kernel) (by decide +kernel)⟩
      · exact ⟨_, .lst k4 .nil (by decide), .inr (nos_lst k4), okR_of (fun _ e => by cases e) rfl rfl rfl⟩
      · refine ⟨_, .flat (.str _), .inl ⟨_, rfl, fun z => ?_⟩, okR_str (fun c hc => by rw [(List.mem_replicate.mp hc).2]; decide) (by rw [List.length_replicate]; omega)⟩
        have := (wk.pt _ z).len
        rw [List.length_replicate] at this
        omega
      · exact ⟨_, .flat (.str _), .inl ⟨_, rfl, fun z => wk.W.no ((wk.W.of _ zm).of _ (wk.pt _ z).dot)⟩, okR_str (sm _ zm) (by omega)⟩
      · refine ⟨_, .flat (.str _), .inl ⟨_, rfl, fun z => ?_⟩, okR_str (fun c hc => by rw [(List.mem_replicate.mp hc).2]; decide) (by rw [List.length_replicate]; omega)⟩
        have := (List.mem_replicate.mp (wk.pt _ z).dot).2
        omega
      · exact ⟨_, .lst j4 (fls_signs u0) (by rw [List.length_map]; omega), .inr (nos_lst j4), okR_signs (su _ um) (by omega)⟩
    have hwa4 := eB _ _ hwa
    have hka4 := eB _ _ hka
    refine ⟨b, rfl, ⟨_, sq_of b3⟩, ?_⟩
    refine for_list (xs := xs) (fun i σ H' => ∃ y5 y6 y7 y8 : Option V, σ = [some (.ref p.d), some (.str (tx L)), some (.ref wa), some (.ref ka), some (.int (m : Nat)), y5, y6, y7, y8] ∧ Sta T2 p B2 H' n)
      ⟨none, none, none, none, rfl, S4⟩ (fun i σ H' _ p => sq_of (p.choose_spec.choose_spec.choose_spec.choose_spec.2.pen.1 _ _ b4)) (fun i x σ H5 hi hw => ?_) (fun σ H5 hw => ?_)
    · obtain ⟨y5, y6, y7, y8, rfl, S5⟩ := hw
      obtain ⟨d, o1, o2, o3⟩ := (hodd x (List.mem_of_getElem? hi)).ex
      dsimp only [gName]
      refine' st_eq (σ' := [some (.ref p.d), some (.str (tx L)), some (.ref wa), some (.ref ka), some (.int (m : Nat)), some x, y6, y7, y8]) rfl ?_
      refine ⟨S5.tabs, fun H7 eN7 T7 => ?_⟩
      have S7 := S5.exN eN7 T7
      refine ⟨_, rfl, _, rfl, _, rfl, L, wa, false, m, ws, r, x, _, rfl, S7.pen.1 _ _ hwa4, wk, r31, .inr (.inr ⟨d, o1.ex S7.pen.1, o2.imp id (fun h => h.ex S7.pen.1), fun H8 e8 => met_part o3 fun rr H9 e9 hr9 => ?_⟩)⟩
      have S9 := (S7.ex e8).ex e9
      refine ⟨_, rfl, ⟨⟨x, d, rfl, (o1.ex S9.pen.1).de, o3.nd, o3.sh, o3.dp, o3.sz, by show 3 ≤ sizeLine; decide, fun r2 hr2 => ?_⟩⟩⟩
      have e10 := Ex.new (o := .tup [.str "partial", .str d.shown, .bl true]) hr2
      refine ⟨.tuple [.str "partial", .str d.shown, .bool true], .tuple [.str "partial", .str d.shown, .bool true], .tup (st_of (e10 _ _ hr9)) (.cons (.str _) (.cons (.str _) (.cons (.bl _) .nil))), .tup (st_of upd_same) (.cons (.str _) (.cons (.str _) (.cons (.bl _) .nil))), rfl, rfl, by simp [PyData.depth, PyData.depthAll], ?_⟩
      rw [SeqAt.eqv_refl_plain _ rfl]
      exact ⟨_, rfl, ite2 (fun hb => absurd hb (by simp)) (fun _ => ⟨_, _, _, _, rfl, S9.ex e10⟩)⟩
    · obtain ⟨y5, y6, y7, y8, rfl, S5⟩ := hw
      have S6 := S5
      have ka6 := S6.pen.1 _ _ hka4
      have eu : (wv us).length = r.length := by rw [← ul]; unfold wv; rw [List.length_map]
      refine ⟨_, rfl, _, rfl, p, _, ka, _, _, rfl, S6.plus, by omega, ka6, by rw [eu]; omega, by rw [eu]; omega, fun H6 v P6 hv => ?_⟩
      have S7 := S6.back P6
      obtain ⟨p0, hp0, rfl⟩ : ∃ p0, p0 ∈ us ∧ V.str (tx p0) = v := List.mem_map.mp hv
      have pr : p0 ∈ r := srt.1.mem_iff.mp hp0
      have pl := (wk.pt p0 pr).len
      dsimp only [gName]
      refine' st_eq (σ' := [some (.ref p.d), some (.str (tx L)), some (.ref wa), some (.ref ka), some (.int (m : Nat)), y5, some (.str (tx p0)), y7, y8]) rfl ?_
      -- the shut places
      refine ⟨_, rfl, _, rfl, by omega, by omega, fun D hD => ?_⟩
      rw [Int.toNat_natCast]
      refine lc_range (lo := 0) (n := m) (fun i H' => Ex H6 H' ∧ H' D = some (.lst (((List.range i).filter fun k => !(p0.getD k 0 == 46)).map fun k => V.int (k : Nat)))) ⟨Ex.new hD, upd_same⟩ (fun i H1 hi hw => ?_) (fun H7 hw => ?_)
      · obtain ⟨e6, hL⟩ := hw
        refine ⟨rfl, _, rfl, _, rfl, _, _, p0.getD i 0, rfl, rfl, tx_le (by omega), by rw [show (0 : Int) + (i : Int) = (i : Int) by omega]; exact at_of_lt (l := p0) (by omega), rfl, _, rfl, ?_⟩
        have edec : (!decide (V.str (⟨#[p0.getD i 0]⟩ : Str) = V.str (sg 46))) = (!(p0.getD i 0 == 46)) := by
          congr 1
          rw [Bool.eq_iff_iff, decide_eq_true_eq, beq_iff_eq]
          exact sg_inj
        rw [edec]
        have ll : (((List.range i).filter fun k => !(p0.getD k 0 == 46)).map fun k => V.int (k : Nat)).length ≤ i := by
          rw [List.length_map]
          exact Nat.le_trans (List.length_filter_le _ _) (by rw [List.length_range]; exact Nat.le_refl _)
        cases hb : (!(p0.getD i 0 == 46)) with
        | true =>
          refine (if_pos rfl).mpr ⟨_, rfl, _, hL, sz_lt (by omega), e6.mut hD, ?_⟩
          rw [upd_same, fil_succ, hb, if_pos rfl, List.map_append, show (0 : Int) + (i : Int) = (i : Int) by omega]
          rfl
        | false =>
          refine (if_neg (by decide)).mpr ⟨e6, ?_⟩
          rw [hL, fil_succ, hb, if_neg (by decide), List.append_nil]
      · obtain ⟨e6, hL⟩ := hw
        have S8 := S7.ex e6
        dsimp only [gName]
        refine' st_eq (σ' := [some (.ref p.d), some (.str (tx L)), some (.ref wa), some (.ref ka), some (.int (m : Nat)), y5, some (.str (tx p0)), some (.ref D), y8]) rfl ?_
        obtain ⟨sh, hsh⟩ : ∃ sh, (((List.range m).filter fun k => !(p0.getD k 0 == 46))) = sh := ⟨_, rfl⟩
        rw [hsh] at hL
        have shl : sh.length ≤ 6 := by
          rw [← hsh]
          exact Nat.le_trans (List.length_filter_le _ _) (by rw [List.length_range]; omega)
        have shm : ∀ i ∈ sh, i ∉ dots p0 := fun i hi hd => by
          rw [← hsh, List.mem_filter] at hi
          have := (dots_mem hd).2
          rw [this] at hi
          exact absurd hi.2 (by decide)
        refine ⟨_, rfl, _, rfl, by show 0 ≤ sizeLine; decide, fun l3 hl3 => ?_⟩
        have S9 := S8.ex (Ex.new (o := .lst []) hl3)
        have q3 : (L2.upd H7 l3 (.lst [])) l3 = some (.lst []) := upd_same
        have d3 := (Ex.new (o := .lst []) hl3) _ _ hL
        generalize (L2.upd H7 l3 (.lst [])) = H8 at S9 q3 d3 ⊢
        refine ⟨_, _, rfl, rfl, ⟨by decide, by decide, by decide⟩, by show 7 ≤ sizeLine; decide, fun b3 hb3 => ?_⟩
        refine ⟨_, rfl, b3, D, _, _, rfl, rfl, upd_same, (Ex.new hb3) _ _ d3, by rw [List.length_map]; show 7 + sh.length ≤ sizeLine; exact Nat.le_of_lt (sz_lt (by omega)), fun b5 hb5 => ?_⟩
        obtain ⟨ys, hys⟩ : ∃ ys, [V.non, .str "0", .int (-1), .int (m : Nat), .bl true, .ref l3, .int ((10 : Int) ^ ((39 : Int).toNat))] ++ sh.map (fun k => V.int (k : Nat)) = ys := ⟨_, rfl⟩
        have e10 := (Ex.new (o := .lst [V.non, .str "0", .int (-1), .int (m : Nat), .bl true, .ref l3, .int ((10 : Int) ^ ((39 : Int).toNat))]) hb3).trans (Ex.new (o := .lst ys) hb5)
        have b6 : (L2.upd (L2.upd H8 b3 (.lst [V.non, .str "0", .int (-1), .int (m : Nat), .bl true, .ref l3, .int ((10 : Int) ^ ((39 : Int).toNat))])) b5 (.lst ys)) b5 = some (.lst ys) := upd_same
        rw [show [V.non, .str "0", .int (-1), .int (m : Nat), .bl true, .ref l3, .int ((10 : Int) ^ ((39 : Int).toNat))] ++ sh.map (fun k => V.int (k : Nat)) = ys from hys]
        generalize (L2.upd (L2.upd H8 b3 (.lst [V.non, .str "0", .int (-1), .int (m : Nat), .bl true, .ref l3, .int ((10 : Int) ^ ((39 : Int).toNat))])) b5 (.lst ys)) = H10 at e10 b6 ⊢
        have S10 := S9.ex e10
        have q10 := e10 _ _ q3
        obtain ⟨B3, S11, eB3, kB3⟩ := S10.hold
        have b11 := kB3 _ _ b6 (S10.pen.lst_ne b6) (fun _ z => by cases z)
        have q11 := kB3 _ _ q10 (S10.pen.lst_ne q10) (fun _ z => by cases z)
        have okI : ∀ k : Nat, k < 7 → (PyData.int (k : Nat)).layable0 = true ∧ (PyData.int (k : Nat)).intsShort 13 = true ∧ (PyData.int (k : Nat)).showable = true := by decide +kernel
        have okN : ∀ k : Nat, k < 7 → okR (.int (k : Nat)) := fun k hk => okR_of (fun _ e => by cases e) (okI k hk).2.2 (okI k hk).1 (okI k hk).2.1
        have wi : ∀ i : Int, (i < 0 ∨ (m : Int) - 1 < i) → whole 0 ((m : Int) - 1) (.int i) = false := fun i hi => by
          show (decide (0 ≤ i) && decide (i ≤ (m : Int) - 1)) = false
          rcases hi with h | h
          · rw [decide_eq_false (p := 0 ≤ i) (by omega), Bool.false_and]
          · rw [decide_eq_false (p := i ≤ (m : Int) - 1) (by omega), Bool.and_false]
        have hodn : ∀ x ∈ ys, OddN B3 m p0 x := fun x hx => by
          rw [← hys, List.mem_append] at hx
          rcases hx with hx | hx
          · simp only [List.mem_cons, List.not_mem_nil, or_false] at hx
            rcases hx with rfl | rfl | rfl | rfl | rfl | rfl | rfl
            · exact ⟨_, _, .non, .flat .non, .inl rfl, okR_of (fun _ e => by cases e) rfl rfl rfl⟩
            · exact ⟨_, _, .str _, .flat (.str _), .inl rfl, okR_of (fun _ e => by cases e) rfl (by decide +kernel) rfl⟩
            · exact ⟨_, _, .int _, .flat (.int _), .inl (wi _ (.inl (by decide))), okR_of (fun _ e => by cases e) (by decide +kernel) (by decide +kernel) (by decide +kernel)⟩
            · exact ⟨_, _, .int _, .flat (.int _), .inl (wi _ (.inr (by omega))), okN m (by omega)⟩
            · exact ⟨_, _, .bl _, .flat (.bl _), .inl rfl, okR_of (fun _ e => by cases e) rfl rfl rfl⟩
            · exact ⟨_, _, .seq (k := false) q11 .nil, .lst q11 .nil (by decide), .inl rfl, okR_of (fun _ e => by cases e) rfl rfl rfl⟩
            · refine ⟨_, _, .int _, .flat (.int _), .inl (wi _ (.inr ?_)), ⟨fun _ e => (by cases e), by decide +kernel, by decide +kernel, by decide +kernel⟩⟩
              rw [show (10 : Int) ^ ((39 : Int).toNat) = 1000000000000000000000000000000000000000 by decide +kernel]
              omega
          · obtain ⟨i, hi, rfl⟩ := List.mem_map.mp hx
            have him : i < 7 := by
              rw [← hsh, List.mem_filter, List.mem_range] at hi
              omega
            exact ⟨_, _, .int _, .flat (.int _), .inr ⟨i, rfl, shm i hi⟩, okN i him⟩
        have hwa5 := eB3 _ _ hwa4
        refine ⟨b5, rfl, ⟨_, sq_of b6⟩, ?_⟩
        refine for_list (xs := ys) (fun i σ H' => ∃ y5 y8 : Option V, σ = [some (.ref p.d), some (.str (tx L)), some (.ref wa), some (.ref ka), some (.int (m : Nat)), y5, some (.str (tx p0)), some (.ref D), y8] ∧ Sta T2 p B3 H' (n + 1))
          ⟨_, _, rfl, S11⟩ (fun i σ H' _ p => sq_of (p.choose_spec.choose_spec.2.pen.1 _ _ b11)) (fun i x σ H5 hi hw => ?_) (fun σ H5 hw => ?_)
        · obtain ⟨y5, y8, rfl, S5⟩ := hw
          obtain ⟨g, d, o0, o1, o2, o3⟩ := (hodn x (List.mem_of_getElem? hi)).ex
          dsimp only [gName]
          refine' st_eq (σ' := [some (.ref p.d), some (.str (tx L)), some (.ref wa), some (.ref ka), some (.int (m : Nat)), some x, some (.str (tx p0)), some (.ref D), y8]) rfl ?_
          refine ⟨S5.tabs, fun H7 eN7 T7 => ?_⟩
          have S7 := S5.exN eN7 T7
          refine ⟨_, rfl, _, rfl, _, rfl, _, rfl, L, wa, false, m, ws, r, _, x, rfl, S7.pen.1 _ _ hwa5, wk, r31, .inr (.inl ⟨p0, g, d, rfl, pr, GA.ex S7.pen.1 o0, o1.ex S7.pen.1, o2, fun H8 e8 => met_numb o3 fun rr H9 e9 hr9 => ?_⟩)⟩
          have S9 := (S7.ex e8).ex e9
          refine ⟨_, rfl, ⟨⟨x, d, rfl, (o1.ex S9.pen.1).de, o3.nd, o3.sh, o3.dp, o3.sz, by show 2 ≤ sizeLine; decide, fun r2 hr2 => ?_⟩⟩⟩
          have e10 := Ex.new (o := .tup [.str "place", .str d.shown]) hr2
          refine ⟨.tuple [.str "place", .str d.shown], .tuple [.str "place", .str d.shown], .tup (st_of (e10 _ _ hr9)) (.cons (.str _) (.cons (.str _) .nil)), .tup (st_of upd_same) (.cons (.str _) (.cons (.str _) .nil)), rfl, rfl, by simp [PyData.depth, PyData.depthAll], ?_⟩
          rw [SeqAt.eqv_refl_plain _ rfl]
          exact ⟨_, rfl, ite2 (fun hb => absurd hb (by simp)) (fun _ => ⟨_, _, rfl, S9.ex e10⟩)⟩
        · obtain ⟨y5, y8, rfl, S5⟩ := hw
          -- partials of letters that are none
          refine ⟨S5.tabs, fun H7 eN7 T7 => ?_⟩
          have S7 := S5.exN eN7 T7
          have oka : okR (.str "aa") := okR_of (fun _ e => by cases e) rfl (by decide +kernel) rfl
          refine ⟨_, rfl, _, wa, false, _, rfl, S7.pen.1 _ _ hwa5, .inr (.inr ⟨.str "aa", .flat (.str _), .inl ⟨[97, 97], by decide +kernel, by decide, by decide +kernel⟩, fun H8 e8 => met_lets oka fun rr H9 e9 hr9 => ?_⟩)⟩
          have S9 := (S7.ex e8).ex e9
          refine ⟨by show 2 ≤ sizeLine; decide, fun r2 hr2 => ?_⟩
          have e10 := Ex.new (o := .tup [.str "letters", .str "'aa'"]) hr2
          rw [show (PyData.str "aa").shown = Str.ofString "'aa'" by decide +kernel] at hr9
          refine ⟨.tuple [.str "letters", .str "'aa'"], .tuple [.str "letters", .str "'aa'"], .tup (st_of (e10 _ _ hr9)) (.cons (.str _) (.cons (.str _) .nil)), .tup (st_of upd_same) (.cons (.str _) (.cons (.str _) .nil)), rfl, rfl, by decide, ?_⟩
          rw [SeqAt.eqv_refl_plain _ rfl]
          refine ⟨_, rfl, ite2 (fun hb => absurd hb (by simp)) (fun _ => ?_)⟩
          have S10 := S9.ex e10
          refine ⟨S10.tabs, fun H11 eN11 T11 => ?_⟩
          have S11 := S10.exN eN11 T11
          have wa11 := S11.pen.1 _ _ hwa5
          have hat : atI (wv ws) 0 = some (V.str (tx z0)) := atI_nat (j := 0) (by unfold wv; rw [List.getElem?_map, hz0]; rfl)
          have es1 : badW L [some z0, some z0] = some 1 := by
            have w1 : wdB L z0 = true := decide_eq_true ⟨by omega, by omega, (wk.W.of z0 zm).of⟩
            refine bad_at (by decide) (by show 1 < 2; omega) (fun j hj => ?_) ?_
            · have : j = 0 := by omega
              subst this
              show (wdB L z0 && decide (z0.length = z0.length) && !decide (some z0 ∈ ([] : List (Option (List Nat))))) = true
              rw [w1, decide_eq_true rfl]
              rfl
            · show (wdB L z0 && decide (z0.length = z0.length) && !decide (some z0 ∈ [some z0])) = false
              rw [decide_eq_true (show some z0 ∈ [some z0] by simp)]
              simp
          refine ⟨_, rfl, _, rfl, wa, _, _, .str (tx z0), rfl, rfl, sq_of wa11, hat, _, rfl, wa, _, _, .str (tx z0), rfl, rfl, sq_of wa11, hat, by show 2 ≤ sizeLine; decide, fun l9 hl9 => ?_⟩
          refine ⟨_, l9, false, _, rfl, upd_same, .inr (.inl ⟨L, [some z0, some z0], 1, rfl, wk.lg, .cons (.txt z0 (by omega)) (.cons (.txt z0 (by omega)) .nil), by show 2 < 100; decide, es1, fun H8 e8 => met_word fun rr H9 e9 hr9 => ?_⟩)⟩
          have S12 := (((S11.ex (Ex.new hl9)).ex e8).ex e9)
          refine ⟨by show 2 ≤ sizeLine; decide, fun r2 hr2 => ?_⟩
          have e10 := Ex.new (o := .tup [.str "words", .int 1]) hr2
          refine ⟨.tuple [.str "words", .int 1], .tuple [.str "words", .int 1], .tup (st_of (e10 _ _ hr9)) (.cons (.str _) (.cons (.int _) .nil)), .tup (st_of upd_same) (.cons (.str _) (.cons (.int _) .nil)), rfl, rfl, by decide, ?_⟩
          rw [SeqAt.eqv_refl_plain _ rfl]
          exact q _ ((S0.low (S12.ex e10) (eB.trans eB3)).le (by omega))
end
end Law

namespace Law
open PySem PySem.Spec PyProof.Rows L2 Evl EK LamX TR GX Fg
abbrev lamL : Str := (Str.ofString "law" ++ ".<locals>.") ++ "<lambda>"
def spLaw (K : PySem.W.Frag) (T2 : List (Addr × Str)) : Sp := fun vs H Q _ => ∃ (a : Addr) (ns : List Int), vs = [.ref a] ∧ (∀ q ∈ T2, H q.1 = some (.tbl #[])) ∧ SqL K H a (ns.map V.int) ∧ ns.length ≤ 63 ∧ ∀ H', Q (.bl true) H'
def mvD (m : Mvt) : PyData := .tuple [.int (m.1 : Nat), match m.2.1 with | none => .none | some n => .int (n : Nat), .str (tx m.2.2)]
theorem dp_wv {K : PySem.W.Frag} {H : Hp} : ∀ us : List (List Nat), DpAll K H (wv us) (us.map fun u => .str (tx u))
  | [] => .nil
  | u :: us => .cons (.str _) (dp_wv us)
theorem plain_wv : ∀ us : List (List Nat), PyData.plainAll (us.map fun u => .str (tx u)) = true ∧ PyData.depthAll (us.map fun u => .str (tx u)) = 0
  | [] => ⟨rfl, rfl⟩
  | u :: us => by
    obtain ⟨h1, h2⟩ := plain_wv us
    rw [List.map_cons]
    refine ⟨?_, ?_⟩
    · show (true && _) = true
      rw [Bool.true_and]
      exact h1
    · show max 0 (PyData.depthAll _) = 0
      rw [h2]
      rfl
theorem dp_mv {K : PySem.W.Frag} {H : Hp} {v : V} {m : Mvt} (h : MvA H v m) : Dp K H v (mvD m) := by
  obtain ⟨b, rfl, hb⟩ := h
  obtain ⟨x, o, y⟩ := m
  cases o with
  | none => exact .tup (st_of hb) (.cons (.int _) (.cons .non (.cons (.str _) .nil)))
  | some n => exact .tup (st_of hb) (.cons (.int _) (.cons (.int _) (.cons (.str _) .nil)))
theorem dp_mvl {K : PySem.W.Frag} {H : Hp} {vs : List V} {ms : List Mvt} (h : MvL H vs ms) : DpAll K H vs (ms.map mvD) := by
  induction h with
  | nil => exact .nil
  | cons a _ ih => exact .cons (dp_mv a) ih
theorem dp_mvt {K : PySem.W.Frag} {H : Hp} {v : V} {ms : List Mvt} (h : MvT H v ms) : Dp K H v (.tuple (ms.map mvD)) := by
  obtain ⟨t, us, rfl, ht, hm⟩ := h
  exact .tup (st_of ht) (dp_mvl hm)
theorem plain_mv : ∀ ms : List Mvt, PyData.plainAll (ms.map mvD) = true ∧ PyData.depthAll (ms.map mvD) ≤ 1
  | [] => ⟨rfl, by decide⟩
  | m :: ms => by
    obtain ⟨h1, h2⟩ := plain_mv ms
    obtain ⟨x, o, y⟩ := m
    rw [List.map_cons]
    cases o with
    | none =>
      refine ⟨?_, ?_⟩
      · show (true && _) = true
        rw [Bool.true_and]
        exact h1
      · show max 1 (PyData.depthAll _) ≤ 1
        omega
    | some n =>
      refine ⟨?_, ?_⟩
      · show (true && _) = true
        rw [Bool.true_and]
        exact h1
      · show max 1 (PyData.depthAll _) ≤ 1
        omega
theorem lets4 {v : V} (h : v ∈ [V.str "ab", .str "ba", .str "abc", .str "zyx"]) : ∃ L, v = .str (tx L) ∧ LG L ∧ 46 ∉ L := by
  have mk : ∀ L : List Nat, (2 ≤ L.length ∧ L.length ≤ 4 ∧ (∀ c ∈ L, 97 ≤ c ∧ c ≤ 122) ∧ L.Nodup ∧ 46 ∉ L) → LG L ∧ 46 ∉ L := fun L h => ⟨⟨h.1, h.2.1, h.2.2.1, h.2.2.2.1⟩, h.2.2.2.2⟩
  simp only [List.mem_cons, List.not_mem_nil, or_false] at h
  rcases h with rfl | rfl | rfl | rfl
  · exact ⟨[97, 98], by decide +kernel, mk _ (by decide)⟩
  · exact ⟨[98, 97], by decide +kernel, mk _ (by decide)⟩
  · exact ⟨[97, 98, 99], by decide +kernel, mk _ (by decide)⟩
  · exact ⟨[122, 121, 120], by decide +kernel, mk _ (by decide)⟩
section
variable {P : Program} {w : World} {K : PySem.W.Frag} {mg : Str → Option Value} {base : Heap} {C_BadLetters C_BadWords C_NoPartial C_BadPlace C_TooMany fL fW fN fB fT C_SkipsError gm c Pt : Addr} {fdm : FuncData} {T2 : List (Addr × Str)}
theorem ok_law {f : Addr} {fd : FuncData} (F : GT.FunC K "law" "law" s_law f fd c) (T : Tx mg) (g_repr : mg "repr" = none) (Fm : Fun K "_law_met" "_law_met" s_lmet gm fdm) (g_lmet : mg "_law_met" = some (.ref gm)) (b_lmet : Binds K fdm ["_law_call"] [])
    (E1 : ErrC K C_BadLetters fL C_SkipsError) (E2 : ErrC K C_BadWords fW C_SkipsError) (E3 : ErrC K C_NoPartial fN C_SkipsError) (E4 : ErrC K C_BadPlace fB C_SkipsError) (E5 : ErrC K C_TooMany fT C_SkipsError)
    (GS : Gs mg C_BadLetters C_BadWords C_NoPartial C_BadPlace C_TooMany C_SkipsError) (NF : NoF K C_BadLetters C_BadWords C_NoPartial C_BadPlace C_TooMany) (EX : Exm K C_BadLetters C_BadWords C_NoPartial C_BadPlace C_TooMany) (TB : LamX.TabB base mg c Pt)
    (hmT : (Pt, lamL) ∈ T2) (uT : ∀ q ∈ T2, q.1 = Pt → q.2 = lamL)
    (c_lpen : Kn P w K mg base "_law_pen_of" ["_law_script"] 1 (spPen K)) (c_ldraw : Kn P w K mg base "_law_draw" ["_law_pen", "_law_many"] 1 spDraw) (c_pickL : Kn P w K mg base "_law_pick" ["_law_pen", "_law_items"] 2 spPickL) (c_lshuffled : Kn P w K mg base "_law_shuffled" ["_law_pen", "_law_items"] 2 spShuf)
    (c_lsome_word : Kn P w K mg base "_law_some_word" ["_law_pen", "_law_letters", "_law_width"] 3 spSomeWord) (c_lsome_words : Kn P w K mg base "_law_some_words" ["_law_pen", "_law_letters", "_law_width", "_law_most"] 4 spSomeWords)
    (c_lmove : Kn P w K mg base "_law_move" ["_law_words", "_law_partial", "_law_place", "_law_letter"] 3 spLMove) (c_lpartials : Kn P w K mg base "_law_partials" ["_law_letters", "_law_words"] 4 spLPartials)
    (c_moves : Kn' P w K mg base (L2.CX P w) "moves" ["letters", "words", "partial", "place"] 7 (spMoves K C_BadPlace C_NoPartial)) (c_partials : Kn' P w K mg base (L2.CX P w) "partials" ["letters", "words"] 7 (spPartials K C_BadLetters C_BadWords C_TooMany))
    (c_lare_refused : KnG P w K mg base "_law_are_refused" ["_law_pen", "_law_letters", "_law_words", "_law_known"] 11 (spRefused T2)) :
    GD.Gd P w K mg base 14 f fd ["_law_script"] (spLaw K T2) := by
  have k_lmet := Fm.kp
  obtain ⟨oc, od, kV, doc, pm, an, cdm, ct, osl, rfl, l_lmet, h_lmet⟩ := Fm.ex
  have mT : ∀ {q : Addr × Str}, q = (Pt, lamL) → q ∈ T2 := fun e => e ▸ hmT
  refine GT.okGC F sc_law (fun vs H Q E h => ?_) (fun A outer s H vs Q E hr hg h => ?_)
  · obtain ⟨a, ns, rfl, _⟩ := h
    rfl
  · obtain ⟨a, ns, rfl, hPt, hS, hl, q⟩ := h
    refine ⟨_, (pss_cons (ps_set (i := 1) sc_law.nd rfl (Or.inl rfl) (pe_call c_lpen.ok (hr.mono (by decide)) (by rfl) c_lpen.g c_lpen.kp c_lpen.b .nil pass0 (pa_cons (pv 0) pa_nil)))
      (pss_cons (ps_for PassesOwn.never rfl (pi_range1 (by rfl) T.range (pa_cons pe_int pa_nil)) (pg_name (i := 2) sc_law.nd rfl (Or.inl rfl)) (pss_cons (ps_asg (pe_tup (pa_cons (pe_call c_pickL.ok (hr.mono (by decide)) (by rfl) c_pickL.g c_pickL.kp c_pickL.b .nil pass0 (pa_cons (pv 1) (pa_cons (pe_lst (pa_cons pe_str (pa_cons pe_str (pa_cons pe_str (pa_cons pe_str pa_nil))))) pa_nil))) (pa_cons (pe_op op_add pe_int (pe_call c_ldraw.ok (hr.mono (by decide)) (by rfl) c_ldraw.g c_ldraw.kp c_ldraw.b .nil pass0 (pa_cons (pv 1) (pa_cons pe_int pa_nil)))) pa_nil))) (pg_tup (by rfl) (pgs_cons (pg_name (i := 3) sc_law.nd rfl (Or.inr rfl)) (pgs_cons (pg_name (i := 4) sc_law.nd rfl (Or.inl rfl)) pgs_nil))))
      (pss_cons (ps_set (i := 5) sc_law.nd rfl (Or.inr rfl) (pe_call c_lsome_words.ok (hr.mono (by decide)) (by rfl) c_lsome_words.g c_lsome_words.kp c_lsome_words.b .nil pass0 (pa_cons (pv 1) (pa_cons (pv 3) (pa_cons (pv 4) (pa_cons pe_int pa_nil))))))
      (pss_cons (ps_set (i := 6) sc_law.nd rfl (Or.inl rfl) (pe_call c_lpartials.ok (hr.mono (by decide)) (by rfl) c_lpartials.g c_lpartials.kp c_lpartials.b .nil pass0 (pa_cons (pv 3) (pa_cons (pv 5) pa_nil))))
      (pss_one (ps_if (pt_cmpR op_gt (pe_callB call_len_seq (by rfl) T.len PySem.boot_len (pa_cons (pv 6) pa_nil)) pe_int (nomark _)) (pss_one (ps_if (pt_cmpR (EQ.op_neP hr.units) (LamX.pe_lamcall (k := 7) (by rfl) g_lmet k_lmet l_lmet h_lmet b_lmet sc_lmet rfl (Or.inl rfl) (met_gives hg (hr.mono (by decide)) g_repr T E1 E2 E3 E4 E5 GS NF EX) TB rfl (mT rfl) uT (hr.mono (by decide)) (LamX.lamS_by (sc := defScope s_law) (by decide +kernel)) rfl (fun _ _ _ _ _ => rfl) (fun A outer s H E f c hr => (pe_callS c_partials.ok (hr.mono (by decide)) (by rfl) c_partials.g c_partials.kp c_partials.b (fun σ => passAt (takes_of rfl rfl rfl rfl) σ) (pa_cons (pv 3) (pa_cons (pv 5) pa_nil))))) (pe_tup (pa_cons pe_str (pa_cons (pe_callB call_len_seq (by rfl) T.len PySem.boot_len (pa_cons (pv 6) pa_nil)) (pa_cons pe_int pa_nil)))) (nomark _)) (pss_one (ps_ret pe_bl)) pss_nil)) (pss_cons (ps_if (PW.pt (pw_or (pt_cmpR (EQ.op_neP hr.units) (pe_call c_partials.ok (hr.mono (by decide)) (by rfl) c_partials.g c_partials.kp c_partials.b .nil passL (pa_cons (pv 3) (pa_cons (pv 5) pa_nil))) (pe_callTy call_tuple_of (by rfl) T.tuple PyProof.Rows.boot_tuple (pa_cons (pv 6) pa_nil)) (nomark _)) (pw_or1 (pt_cmpR (EQ.op_neP hr.units) (pe_call c_partials.ok (hr.mono (by decide)) (by rfl) c_partials.g c_partials.kp c_partials.b .nil passL (pa_cons (pv 3) (pa_cons (pe_callTy SQ.call_tuple_fr (by rfl) T.tuple PyProof.Rows.boot_tuple (pa_cons (pv 5) pa_nil)) pa_nil))) (pe_callTy call_tuple_of (by rfl) T.tuple PyProof.Rows.boot_tuple (pa_cons (pv 6) pa_nil)) (nomark _))))) (pss_one (ps_ret pe_bl)) pss_nil)
      (pss_cons (ps_for PassesOwn.never rfl (pi_list (pe_slice sl_list (pe_call c_lshuffled.ok (hr.mono (by decide)) (by rfl) c_lshuffled.g c_lshuffled.kp c_lshuffled.b .nil pass0 (pa_cons (pv 1) (pa_cons (pv 6) pa_nil))) po_none (po_some pe_int))) (pg_name (i := 7) sc_law.nd rfl (Or.inr rfl)) (pss_one (ps_for PassesOwn.never rfl (pi_list (pe_lc (own := [("_law_k", 9)]) (g := gName 9) rfl sc_law.nd (pi_range1 (by rfl) T.range (pa_cons (pv 4) pa_nil)) (blkOk_by (N := N_law) (sc := defScope s_law) (by decide +kernel)) (fun _ _ _ _ _ => (pg_name (i := 9) sc_law.nd rfl (Or.inl rfl))) (fun _ _ _ _ _ => (pts_one (pt_cmpR op_eq (pe_ix ix_str (pv 7) (pv 9) (fun _ _ => rfl)) pe_str (nomark _)))) (fun _ _ _ _ _ => (pv 9)))) (pg_name (i := 8) sc_law.nd rfl (Or.inr rfl)) (pss_cons (ps_set (i := 10) sc_law.nd rfl (Or.inl rfl) (pe_callTy call_tuple_of (by rfl) T.tuple PyProof.Rows.boot_tuple (pa_cons (pe_lc (own := [("_law_letter", 11)]) (g := gName 11) (tt := tYes) rfl sc_law.nd (pi_str (pv 3)) (blkOk_by (N := N_law) (sc := defScope s_law) (by decide +kernel)) (fun _ _ _ _ _ => (pg_name (i := 11) sc_law.nd rfl (Or.inl rfl))) (fun _ _ _ _ _ => pts_nil) (fun _ _ _ _ _ => (pe_call c_lmove.ok (hr.mono (by decide)) (by rfl) c_lmove.g c_lmove.kp c_lmove.b .nil pass0 (pa_cons (pv 5) (pa_cons (pv 7) (pa_cons (pv 8) (pa_cons (pv 11) pa_nil))))))) pa_nil)))
      (pss_one (ps_if (pt_cmpR (EQ.op_neP hr.units) (pe_call c_moves.ok (hr.mono (by decide)) (by rfl) c_moves.g c_moves.kp c_moves.b .nil passL (pa_cons (pv 3) (pa_cons (pv 5) (pa_cons (pv 7) (pa_cons (pv 8) pa_nil))))) (pv 10) (nomark _)) (pss_one (ps_ret pe_bl)) pss_nil))))))
      (pss_one (ps_if (pt_not (pt_val (GD.pe_callG c_lare_refused.ok c_lare_refused.len hg (hr.mono (by decide)) (by rfl) c_lare_refused.g c_lare_refused.kp c_lare_refused.b (pa_cons (pv 1) (pa_cons (pv 3) (pa_cons (pv 5) (pa_cons (pv 6) pa_nil))))))) (pss_one (ps_ret pe_bl)) pss_nil))))))))))
      (pss_cons (ps_set (i := 12) sc_law.nd rfl (Or.inr rfl) (pe_call c_lsome_word.ok (hr.mono (by decide)) (by rfl) c_lsome_word.g c_lsome_word.kp c_lsome_word.b .nil pass0 (pa_cons (pv 1) (pa_cons pe_str (pa_cons (pe_call c_pickL.ok (hr.mono (by decide)) (by rfl) c_pickL.g c_pickL.kp c_pickL.b .nil pass0 (pa_cons (pv 1) (pa_cons (pe_lst (pa_cons pe_int (pa_cons pe_int pa_nil))) pa_nil))) pa_nil)))))
      (pss_cons (ps_set (i := 13) sc_law.nd rfl (Or.inl rfl) (pe_callB call_len_seq (by rfl) T.len PySem.boot_len (pa_cons (pe_call c_lpartials.ok (hr.mono (by decide)) (by rfl) c_lpartials.g c_lpartials.kp c_lpartials.b .nil pass0 (pa_cons pe_str (pa_cons (pe_lst (pa_cons (pv 12) pa_nil)) pa_nil))) pa_nil)))
      (pss_cons (ps_set (i := 14) sc_law.nd rfl (Or.inl rfl) (LamX.pe_lamcall (k := 7) (by rfl) g_lmet k_lmet l_lmet h_lmet b_lmet sc_lmet rfl (Or.inl rfl) (met_gives hg (hr.mono (by decide)) g_repr T E1 E2 E3 E4 E5 GS NF EX) TB rfl (mT rfl) uT (hr.mono (by decide)) (LamX.lamS_by (sc := defScope s_law) (by decide +kernel)) rfl (fun _ _ _ _ _ => rfl) (fun A outer s H E f c hr => (pe_callS c_partials.ok (hr.mono (by decide)) (by rfl) c_partials.g c_partials.kp c_partials.b (fun σ => passAt (takes_of rfl rfl rfl rfl) σ) (pa_cons pe_str (pa_cons (pe_lst (pa_cons (pv 12) pa_nil)) pa_nil))))))
      (pss_one (ps_ret (pe_cmpR (EQ.op_eqP hr.units) (pv 14) (pe_ifExp (pt_cmpR op_le (pv 13) pe_int (nomark _)) (pe_tup pa_nil) (pe_tup (pa_cons pe_str (pa_cons (pv 13) (pa_cons pe_int pa_nil))))) (nomark _))))))))), ?_⟩
    refine ⟨_, rfl, a, ns, rfl, hS, hl, fun p H0 H1 eH P0 => ?_⟩
    have S0 : Sta T2 p (noT H0) H1 0 := by
      have hT1 : ∀ q ∈ T2, H1 q.1 = some (.tbl #[]) := fun q hq => P0.1 _ _ (eH _ _ (hPt q hq))
      obtain ⟨e0, h0, hc, hl', op, lf, ho, hd⟩ := P0
      exact ⟨⟨(noT_ex H0).trans e0, noT_none h0, noT_of hc (fun ps z => by cases z), hl', op, lf, ho, hd⟩, noT_nt H0, fun q hq => TabS.nil (hT1 q hq)⟩
    clear P0
    dsimp only [gName]
    refine' st_eq (σ' := [some (.ref a), some (.ref p.d), none, none, none, none, none, none, none, none, none, none, none, none, none]) rfl ?_
    refine ⟨2, rfl, by decide, by decide, ?_⟩
    refine for_range (lo := 0) (n := 2) (fun i σ H' => ∃ (B : Hp) (y2 y3 y4 y5 y6 y7 y8 y9 y10 y11 y12 y13 y14 : Option V), σ = [some (.ref a), some (.ref p.d), y2, y3, y4, y5, y6, y7, y8, y9, y10, y11, y12, y13, y14] ∧ Sta T2 p B H' (300 * i))
      ⟨_, none, none, none, none, none, none, none, none, none, none, none, none, none, rfl, S0⟩ (fun i σ H2 hi hw => ?_) (fun σ H2 hw => ?_)
    · obtain ⟨B, y2, y3, y4, y5, y6, y7, y8, y9, y10, y11, y12, y13, y14, rfl, S1⟩ := hw
      dsimp only [gName]
      refine ⟨_, rfl, by show 4 ≤ sizeLine; decide, fun l hl => ?_⟩
      have S2 := S1.ex (Ex.new (o := .lst [V.str "ab", .str "ba", .str "abc", .str "zyx"]) hl)
      refine ⟨p, _, l, _, _, rfl, S2.plus, by omega, upd_same, by show 0 < 4; decide, by show 4 < 1000; decide, fun H3 v P3 hv => ?_⟩
      have S3 := S2.back P3
      obtain ⟨L, rfl, hLG, h46⟩ := lets4 hv
      refine ⟨_, rfl, p, _, _, 4, rfl, S3.plus, by omega, by decide, by decide, fun H4 r4 P4 r40 r41 => ⟨_, _, rfl, rfl, by show 2 ≤ sizeLine; decide, fun t ht => ?_⟩⟩
      have S4 := (S3.back P4).ex (Ex.new (o := .tup [.str (tx L), .int (1 + r4)]) ht)
      obtain ⟨m, hm⟩ : ∃ m : Nat, 1 + r4 = (m : Int) := ⟨(1 + r4).toNat, (Int.toNat_of_nonneg (by omega)).symm⟩
      refine ⟨t, _, rfl, .inl (.inl upd_same), rfl, _, _, rfl, _, _, rfl, rfl, ?_⟩
      dsimp only [gName]
      refine' st_eq (σ' := [some (.ref a), some (.ref p.d), some (.int (0 + (i : Int))), some (.str (tx L)), some (.int (m : Nat)), y5, y6, y7, y8, y9, y10, y11, y12, y13, y14]) (by rw [← hm]; rfl) ?_
      have m1 : 1 ≤ m := by omega
      have m4 : m ≤ 4 := by omega
      have l2 := hLG.lo
      have l4 := hLG.hi
      clear hm ht
      generalize (L2.upd H4 t (.tup [.str (tx L), .int (1 + r4)])) = H5 at S4 ⊢
      clear S3 P3 P4 S2 hv r40 r41
      refine ⟨_, rfl, _, rfl, _, rfl, p, _, _, m, 3, L, rfl, S4.plus, by omega, by omega, by omega, by omega, by decide, by decide, fun Hb H6 wa ws eb P6 wa0 hwa w1 w3 w4 wnd => ?_⟩
      obtain ⟨S6, e6⟩ := S4.grow P6 eb
      have hwaB := noT_of hwa (fun ps z => by cases z)
      generalize noT Hb = B6 at S6 e6 hwaB
      clear P6 eb hwa wa0 S4
      have W : Wds L m ws := ⟨w1, w3, w4, wnd, m1, by omega, h46⟩
      obtain ⟨nx, r, hE, rnd, rpt, r63⟩ := walk_all W (.inr m4)
      have wk : Wk L m ws r := ⟨hLG, W, ⟨nx, hE⟩, r63, rpt⟩
      have wa6 := S6.pen.1 _ _ hwaB
      refine ⟨_, rfl, _, rfl, wa, L, m, ws, nx, r, rfl, wa6, W, l4, hE, r63, fun H7 ka us e7 ka0 hka srt => ?_⟩
      have S7 := S6.ex e7
      have ul := srt.1.length_eq
      obtain ⟨B7, S8, e8, kB⟩ := S7.hold
      have hkaB := kB _ _ hka (S7.pen.lst_ne hka) (fun _ z => by cases z)
      have hwaC := e8 _ _ hwaB
      have hwaB7 := hwaC
      have eBB := e6.trans e8
      dsimp only [gName]
      refine' st_eq (σ' := [some (.ref a), some (.ref p.d), some (.int (0 + (i : Int))), some (.str (tx L)), some (.int (m : Nat)), some (.ref wa), some (.ref ka), y7, y8, y9, y10, y11, y12, y13, y14]) rfl ?_
      have elen : (wv us).length = r.length := by rw [← ul]; unfold wv; rw [List.length_map]
      refine ⟨_, rfl, ka, _, rfl, .inl (sq_of hka), _, _, rfl, rfl, _, rfl, ite2 (fun hb => ?_) (fun hb => ?_)⟩
      · have hb2 : (31 : Int) < ((wv us).length : Int) := of_decide_eq_true hb
        rw [elen] at hb2
        refine ⟨S8.tabs, fun H9 eN9 T9 => ?_⟩
        have S9 := S8.exN eN9 T9
        refine ⟨_, rfl, _, rfl, _, wa, false, _, rfl, S9.pen.1 _ _ hwaC, .inl ⟨L, m, ws, r, rfl, rfl, wk, fun H10 e10 => ⟨fun _ => met_many fun rr H11 e11 hr11 => ?_, fun z => absurd z (by omega)⟩⟩⟩
        have S11 := (S9.ex e10).ex e11
        refine ⟨_, rfl, ka, _, rfl, .inl (sq_of (S11.pen.1 _ _ hkaB)), by show 3 ≤ sizeLine; decide, fun r2 hr2 => ?_⟩
        rw [elen]
        have e12 := Ex.new (o := .tup [.str "partial words", .int (r.length : Nat), .int 31]) hr2
        refine ⟨.tuple [.str "partial words", .int (r.length : Nat), .int 31], .tuple [.str "partial words", .int (r.length : Nat), .int 31], .tup (st_of (e12 _ _ hr11)) (.cons (.str _) (.cons (.int _) (.cons (.int _) .nil))), .tup (st_of upd_same) (.cons (.str _) (.cons (.int _) (.cons (.int _) .nil))), rfl, rfl, by simp [PyData.depth, PyData.depthAll], ?_⟩
        rw [SeqAt.eqv_refl_plain _ rfl]
        exact ⟨_, rfl, ite2 (fun hb => absurd hb (by simp)) (fun _ => ⟨B, _, _, _, _, _, _, _, _, _, _, _, _, _, rfl, (S1.low (S11.ex e12) eBB).le (by omega)⟩)⟩
      · have hb2 : ¬ (31 : Int) < ((wv us).length : Int) := fun z => hb (decide_eq_true z)
        rw [elen] at hb2
        have r31 : r.length ≤ 31 := by omega
        have D0 := plain_wv us
        have dd0 : (PyData.tuple (us.map fun u => .str (tx u))).depth ≤ 60 := by
          show PyData.depthAll _ + 1 ≤ 60
          rw [D0.2]
          decide
        refine ⟨_, rfl, _, rfl, _, wa, false, _, rfl, S8.pen.1 _ _ hwaC, .inl ⟨L, m, ws, r, rfl, rfl, wk, fun H9 e9 => ⟨fun z => absurd z (by omega), fun _ b us2 hb3 hs2 => ?_⟩⟩⟩
        obtain rfl := hs2.uniq srt
        have S9 := S8.ex e9
        refine ⟨_, rfl, ka, _, rfl, .inl ⟨sq_of (S9.pen.1 _ _ hkaB), fun t ht => ?_⟩⟩
        have e10 := Ex.new (o := .tup (wv us2)) ht
        refine ⟨.tuple (us2.map fun u => .str (tx u)), .tuple (us2.map fun u => .str (tx u)), .tup (st_of (e10 _ _ hb3)) (dp_wv us2), .tup (st_of upd_same) (dp_wv us2), D0.1, D0.1, dd0, ?_⟩
        rw [SeqAt.eqv_refl_plain (.tuple (us2.map fun u => .str (tx u))) D0.1]
        refine ⟨_, rfl, ite2 (fun hb => absurd hb (by simp)) (fun _ => ?_)⟩
        have S10 := S9.ex e10
        refine ⟨_, rfl, _, rfl, wa, _, rfl, sq_of (S10.pen.1 _ _ hwaC), fun l ob hl hc hd => ?_⟩
        have S11 := S10.ex (Ex.new (o := .frz ob (.tup (wv ws))) hl)
        refine ⟨_, l, true, _, rfl, ⟨ob, upd_same, hc, hd⟩, .inl ⟨L, m, ws, r, rfl, rfl, wk, fun H12 e12 => ⟨fun z => absurd z (by omega), fun _ b2 us3 hb4 hs3 => ?_⟩⟩⟩
        obtain rfl := hs3.uniq srt
        have S12 := S11.ex e12
        refine ⟨_, rfl, ka, _, rfl, .inl ⟨sq_of (S12.pen.1 _ _ hkaB), fun t2 ht2 => ?_⟩⟩
        have e13 := Ex.new (o := .tup (wv us3)) ht2
        refine ⟨.tuple (us3.map fun u => .str (tx u)), .tuple (us3.map fun u => .str (tx u)), .tup (st_of (e13 _ _ hb4)) (dp_wv us3), .tup (st_of upd_same) (dp_wv us3), D0.1, D0.1, dd0, ?_⟩
        rw [SeqAt.eqv_refl_plain (.tuple (us3.map fun u => .str (tx u))) D0.1]
        refine ⟨_, rfl, ite2 (fun hb => absurd hb (by simp)) (fun _ => ?_)⟩
        have S13 := S12.ex e13
        refine ⟨_, rfl, _, rfl, p, _, _, ka, us3, rfl, S13.plus, by omega, S13.pen.1 _ _ hkaB, by omega, fun Hs H14 sa us4 es P14 hsa0 hsa sperm => ?_⟩
        obtain ⟨S14, e14⟩ := S13.grow P14 es
        obtain ⟨B14, S15, e15, kB15⟩ := S14.hold
        refine ⟨_, rfl, sa, _, rfl, sq_of (P14.1 _ _ hsa), fun q hq => ⟨q, rfl, ⟨_, sq_of upd_same⟩, ?_⟩⟩
        generalize hcv : cutV (us4.map tv) none (some 5) = cv
        have hcx : ∀ x ∈ cv, ∃ pp ∈ us4, x = tv pp := fun x hx => by
          rw [← hcv] at hx
          unfold cutV at hx
          obtain ⟨pp, h1, h2⟩ := List.mem_map.mp (List.mem_of_mem_drop (List.mem_of_mem_take hx))
          exact ⟨pp, h1, h2.symm⟩
        obtain ⟨B16, S16, e16, kB16⟩ := (S15.ex (Ex.new (o := .lst cv) hq)).hold
        have hq16 := kB16 _ _ upd_same ((S15.ex (Ex.new (o := .lst cv) hq)).pen.lst_ne upd_same) (fun _ z => by cases z)
        have e17 : Ex B7 B16 := (e14.trans e15).trans e16
        have hwaD := e17 _ _ hwaB7
        have hkaD := e17 _ _ hkaB
        have wz : ∀ z ∈ ws, z.length < 100 := fun z hz => by
          rw [(W.of z hz).len]
          omega
        refine for_list (xs := cv) (fun j σ H' => ∃ y7 y8 y9 y10 y11 : Option V, σ = [some (.ref a), some (.ref p.d), some (.int (0 + (i : Int))), some (.str (tx L)), some (.int (m : Nat)), some (.ref wa), some (.ref ka), y7, y8, y9, y10, y11, y12, y13, y14] ∧ Sta T2 p B16 H' (300 * i + 1 + 1 + 1 + m * 3 + us3.length))
          ⟨y7, y8, y9, y10, y11, rfl, S16⟩ (fun j σ H' _ pp => sq_of (pp.choose_spec.choose_spec.choose_spec.choose_spec.choose_spec.2.pen.1 _ _ hq16)) (fun j x σ H17 hj hw => ?_) (fun σ H17 hw => ?_)
        · obtain ⟨y7, y8, y9, y10, y11, rfl, S17⟩ := hw
          obtain ⟨p0, hp4, rfl⟩ := hcx x (List.mem_of_getElem? hj)
          have pr : p0 ∈ r := srt.1.mem_iff.mp (sperm.mem_iff.mp hp4)
          have pl := (wk.pt p0 pr).len
          dsimp only [gName]
          refine' st_eq (σ' := [some (.ref a), some (.ref p.d), some (.int (0 + (i : Int))), some (.str (tx L)), some (.int (m : Nat)), some (.ref wa), some (.ref ka), some (.str (tx p0)), y8, y9, y10, y11, y12, y13, y14]) rfl ?_
          refine ⟨_, rfl, _, rfl, by omega, by omega, fun D hD => ?_⟩
          rw [Int.toNat_natCast]
          refine lc_range (lo := 0) (n := m) (fun i H' => Ex H17 H' ∧ H' D = some (.lst (((List.range i).filter fun k => p0.getD k 0 == 46).map fun k => V.int (k : Nat)))) ⟨Ex.new hD, upd_same⟩ (fun i H1 hi hw => ?_) (fun H18 hw => ?_)
          · obtain ⟨e6, hL⟩ := hw
            refine ⟨rfl, _, rfl, _, rfl, _, _, p0.getD i 0, rfl, rfl, tx_le (by omega), by rw [show (0 : Int) + (i : Int) = (i : Int) by omega]; exact at_of_lt (l := p0) (by omega), rfl, _, rfl, ?_⟩
            have edec : decide (V.str (sg (p0.getD i 0)) = V.str (sg 46)) = (p0.getD i 0 == 46) := by
              rw [Bool.eq_iff_iff, decide_eq_true_eq, beq_iff_eq]
              exact sg_inj
            show (fun b H3 => if b = true then _ else _) (decide (V.str (sg (p0.getD i 0)) = V.str (sg 46))) H1
            rw [edec]
            have ll : (((List.range i).filter fun k => p0.getD k 0 == 46).map fun k => V.int (k : Nat)).length ≤ i := by
              rw [List.length_map]
              exact Nat.le_trans (List.length_filter_le _ _) (by rw [List.length_range]; exact Nat.le_refl _)
            cases hb : (p0.getD i 0 == 46) with
            | true =>
              refine (if_pos rfl).mpr ⟨_, rfl, _, hL, sz_lt (by omega), e6.mut hD, ?_⟩
              rw [upd_same, fil_succ, hb, if_pos rfl, List.map_append, show (0 : Int) + (i : Int) = (i : Int) by omega]
              rfl
            | false =>
              refine (if_neg (by decide)).mpr ⟨e6, ?_⟩
              rw [hL, fil_succ, hb, if_neg (by decide), List.append_nil]
          · obtain ⟨e18, hL⟩ := hw
            have S18 := S17.ex e18
            have edots : ((List.range m).filter fun k => p0.getD k 0 == 46) = dots p0 := by
              unfold dots
              rw [pl]
            rw [edots] at hL
            obtain ⟨B19, S19, e19, kB19⟩ := S18.hold
            have hL19 := kB19 _ _ hL (S18.pen.lst_ne hL) (fun _ z => by cases z)
            refine ⟨D, rfl, ⟨_, sq_of hL⟩, ?_⟩
            refine for_list (xs := (dots p0).map fun k => V.int (k : Nat)) (fun j σ H' => ∃ y8 y9 y10 y11 : Option V, σ = [some (.ref a), some (.ref p.d), some (.int (0 + (i : Int))), some (.str (tx L)), some (.int (m : Nat)), some (.ref wa), some (.ref ka), some (.str (tx p0)), y8, y9, y10, y11, y12, y13, y14] ∧ Sta T2 p B19 H' (300 * i + 1 + 1 + 1 + m * 3 + us3.length))
              ⟨y8, y9, y10, y11, rfl, S19⟩ (fun j σ H' _ pp => sq_of (pp.choose_spec.choose_spec.choose_spec.choose_spec.2.pen.1 _ _ hL19)) (fun j x σ H20 hj hw => ?_) (fun σ H20 hw => ?_)
            · obtain ⟨y8, y9, y10, y11, rfl, S20⟩ := hw
              rw [List.getElem?_map] at hj
              obtain ⟨k, hk, rfl⟩ := Option.map_eq_some_iff.mp hj
              have kd := List.mem_of_getElem? hk
              have kim := (dots_mem kd).1
              have hwaE := e19 _ _ hwaD
              dsimp only [gName]
              refine' st_eq (σ' := [some (.ref a), some (.ref p.d), some (.int (0 + (i : Int))), some (.str (tx L)), some (.int (m : Nat)), some (.ref wa), some (.ref ka), some (.str (tx p0)), some (.int (k : Nat)), y9, y10, y11, y12, y13, y14]) rfl ?_
              refine ⟨_, rfl, _, rfl, fun D2 hD2 => ?_⟩
              have l24 := hLG.hi
              refine lc_str (x := tx L) (fun i2 H' => Ex H20 H' ∧ ∃ us5, H' D2 = some (.lst us5) ∧ MvL H' us5 ((L.take i2).map fun c => mvF ws p0 k c)) ⟨Ex.new hD2, _, upd_same, .nil⟩ (fun i2 c H' hic hw => ?_) (fun H21 hw => ?_)
              · obtain ⟨e10, us5, hL2, hM2⟩ := hw
                have hc := tx_at hic
                have hi2 := (List.getElem?_eq_some_iff.mp hc).1
                have ul5 : us5.length ≤ i2 := by
                  rw [hM2.len, List.length_map, List.length_take]
                  omega
                refine ⟨rfl, _, rfl, _, rfl, _, rfl, _, rfl, wa, ws, p0, k, c, rfl, e10 _ _ (S20.pen.1 _ _ hwaE), W.lo, Nat.le_trans W.hi (by decide), wz, by omega, by omega, fun H8 v e11 hv => ?_⟩
                have hL3 := e11 _ _ hL2
                refine ⟨_, hL3, sz_lt (by omega), (e10.trans e11).mut hD2, _, upd_same, ?_⟩
                rw [List.take_add_one, hc, List.map_append]
                refine (MvL.snoc hv (hM2.to fun b xs h => e11 _ _ h)).to fun b xs h => ?_
                rw [upd_ne]
                · exact h
                · intro z
                  rw [z, hL3] at h
                  cases h
              · obtain ⟨e10, us5, hL2, hM2⟩ := hw
                rw [tx_size, List.take_length] at hM2
                have S21 := S20.ex e10
                refine ⟨D2, _, rfl, .inl ⟨sq_of hL2, fun l hl => ?_⟩⟩
                have e22 := Ex.new (o := .tup us5) hl
                have S22 := S21.ex e22
                have hM3 : MvT (upd H21 l (.tup us5)) (.ref l) (L.map fun c => mvF ws p0 k c) := ⟨l, us5, rfl, upd_same, hM2.to fun b xs h => e22 _ _ h⟩
                generalize (upd H21 l (.tup us5)) = H22 at S22 hM3 ⊢
                dsimp only [gName]
                refine' st_eq (σ' := [some (.ref a), some (.ref p.d), some (.int (0 + (i : Int))), some (.str (tx L)), some (.int (m : Nat)), some (.ref wa), some (.ref ka), some (.str (tx p0)), some (.int (k : Nat)), y9, some (.ref l), y11, y12, y13, y14]) rfl ?_
                refine ⟨_, rfl, _, rfl, _, rfl, _, rfl, L, wa, false, m, ws, r, _, _, rfl, S22.pen.1 _ _ hwaE, wk, r31, .inl ⟨p0, k, rfl, rfl, pr, kd, fun H23 v e23 hv => ?_⟩⟩
                have S23 := S22.ex e23
                obtain ⟨d1, d2⟩ := plain_mv (L.map fun c => mvF ws p0 k c)
                have hM4 : MvT H23 (.ref l) (L.map fun c => mvF ws p0 k c) := by
                  obtain ⟨t, us, h1, h2, h3⟩ := hM3
                  exact ⟨t, us, h1, e23 _ _ h2, h3.to fun b xs h => e23 _ _ h⟩
                refine ⟨_, rfl, PyData.tuple ((L.map fun c => mvF ws p0 k c).map mvD), PyData.tuple ((L.map fun c => mvF ws p0 k c).map mvD), dp_mvt hv, dp_mvt hM4, d1, d1, by show PyData.depthAll _ + 1 ≤ 60; omega, ?_⟩
                rw [SeqAt.eqv_refl_plain (.tuple ((L.map fun c => mvF ws p0 k c).map mvD)) d1]
                exact ⟨_, rfl, ite2 (fun hb => absurd hb (by simp)) (fun _ => ⟨_, _, _, _, rfl, S23⟩)⟩
            · obtain ⟨y8, y9, y10, y11, rfl, S20⟩ := hw
              exact ⟨_, y8, y9, y10, y11, rfl, S17.low S20 e19⟩
        · obtain ⟨y7, y8, y9, y10, y11, rfl, S17⟩ := hw
          have hwaE := S17.pen.1 _ _ hwaD
          refine ⟨_, rfl, _, rfl, _, rfl, _, rfl, p, B16, _, wa, ka, L, m, ws, r, us3, rfl, S17, by omega, hwaD, hkaD, srt, wk, r31, fun H21 S21 => ?_⟩
          exact ⟨_, rfl, ite2 (fun hb => absurd hb (by simp)) (fun _ => ⟨B, _, _, _, _, _, _, _, _, _, _, _, _, _, rfl, (S1.low S21 (eBB.trans e17)).le (by omega)⟩)⟩
    · obtain ⟨B, y2, y3, y4, y5, y6, y7, y8, y9, y10, y11, y12, y13, y14, rfl, S1⟩ := hw
      have eab : (Str.ofString "ab") = tx [97, 98] := by decide +kernel
      rw [eab]
      refine ⟨_, rfl, _, rfl, by show 2 ≤ sizeLine; decide, fun l hl => ?_⟩
      have S2 := S1.ex (Ex.new (o := .lst [V.int 5, .int 6]) hl)
      refine ⟨p, _, l, _, _, rfl, S2.plus, by omega, upd_same, by show 0 < 2; decide, by show 2 < 1000; decide, fun H3 v P3 hv => ?_⟩
      have S3 := S2.back P3
      obtain ⟨m, rfl, hm⟩ : ∃ m : Nat, v = .int (m : Nat) ∧ (m = 5 ∨ m = 6) := by
        simp only [List.mem_cons, List.not_mem_nil, or_false] at hv
        rcases hv with rfl | rfl
        · exact ⟨5, rfl, .inl rfl⟩
        · exact ⟨6, rfl, .inr rfl⟩
      refine ⟨p, _, _, m, [97, 98], rfl, S3.plus, by omega, by decide, by decide, by omega, fun H4 u P4 hu => ?_⟩
      have S4 := S3.back P4
      have hLG : LG [97, 98] := by constructor <;> decide
      have W : Wds [97, 98] m [u] := ⟨Nat.le_refl 1, (by decide : 1 ≤ 3), fun z hz => by rw [List.mem_singleton.mp hz]; exact hu, by simp, by omega, by omega, by decide⟩
      obtain ⟨nx, r, hE, rnd, rpt, r63⟩ := walk_all W (.inl rfl)
      have wk : Wk [97, 98] m [u] r := ⟨hLG, W, ⟨nx, hE⟩, r63, rpt⟩
      dsimp only [gName]
      refine' st_eq (σ' := [some (.ref a), some (.ref p.d), y2, y3, y4, y5, y6, y7, y8, y9, y10, y11, some (.str (tx u)), y13, y14]) rfl ?_
      refine ⟨_, rfl, by show 1 ≤ sizeLine; decide, fun l2 hl2 => ?_⟩
      have S5 := S4.ex (Ex.new (o := .lst [V.str (tx u)]) hl2)
      refine ⟨l2, [97, 98], m, [u], nx, r, rfl, upd_same, W, by decide, hE, r63, fun H6 ka us e6 ka0 hka srt => ?_⟩
      have S6 := S5.ex e6
      have ul := srt.1.length_eq
      have elen : (wv us).length = r.length := by rw [← ul]; unfold wv; rw [List.length_map]
      refine ⟨ka, _, rfl, .inl (sq_of hka), ?_⟩
      rw [elen]
      dsimp only [gName]
      refine' st_eq (σ' := [some (.ref a), some (.ref p.d), y2, y3, y4, y5, y6, y7, y8, y9, y10, y11, some (.str (tx u)), some (.int (r.length : Nat)), y14]) rfl ?_
      refine ⟨S6.tabs, fun H7 eN7 T7 => ?_⟩
      have S7 := S6.exN eN7 T7
      refine ⟨_, rfl, by show 1 ≤ sizeLine; decide, fun l3 hl3 => ?_⟩
      have S8 := S7.ex (Ex.new (o := .lst [V.str (tx u)]) hl3)
      refine ⟨_, l3, false, _, rfl, upd_same, .inl ⟨[97, 98], m, [u], r, rfl, rfl, wk, fun H9 e9 => ⟨fun r32 => met_many fun rr H10 e10 hr10 => ?_, fun r31 b us2 hb3 hs2 => ⟨by show 0 ≤ sizeLine; decide, fun rr hrr => ?_⟩⟩⟩⟩
      · dsimp only [gName]
        refine' st_eq (σ' := [some (.ref a), some (.ref p.d), y2, y3, y4, y5, y6, y7, y8, y9, y10, y11, some (.str (tx u)), some (.int (r.length : Nat)), some (.ref rr)]) rfl ?_
        refine ⟨_, rfl, _, rfl, _, _, rfl, rfl, _, rfl, ite2 (fun hb => ?_) (fun hb => ?_)⟩
        · have := of_decide_eq_true hb
          omega
        · refine ⟨_, rfl, by show 3 ≤ sizeLine; decide, fun r2 hr2 => ?_⟩
          have e12 := Ex.new (o := .tup [.str "partial words", .int (r.length : Nat), .int 31]) hr2
          refine ⟨.tuple [.str "partial words", .int (r.length : Nat), .int 31], .tuple [.str "partial words", .int (r.length : Nat), .int 31], .tup (st_of (e12 _ _ hr10)) (.cons (.str _) (.cons (.int _) (.cons (.int _) .nil))), .tup (st_of upd_same) (.cons (.str _) (.cons (.int _) (.cons (.int _) .nil))), rfl, rfl, by simp [PyData.depth, PyData.depthAll], ?_⟩
          rw [SeqAt.eqv_refl_plain _ rfl]
          exact q _
      · dsimp only [gName]
        refine' st_eq (σ' := [some (.ref a), some (.ref p.d), y2, y3, y4, y5, y6, y7, y8, y9, y10, y11, some (.str (tx u)), some (.int (r.length : Nat)), some (.ref rr)]) rfl ?_
        refine ⟨_, rfl, _, rfl, _, _, rfl, rfl, _, rfl, ite2 (fun hb => ?_) (fun hb => ?_)⟩
        · refine ⟨by show 0 ≤ sizeLine; decide, fun r2 hr2 => ?_⟩
          have e12 := Ex.new (o := .tup []) hr2
          refine ⟨.tuple [], .tuple [], .tup (st_of (e12 _ _ upd_same)) .nil, .tup (st_of upd_same) .nil, rfl, rfl, by decide, ?_⟩
          rw [SeqAt.eqv_refl_plain _ rfl]
          exact q _
        · exact absurd (decide_eq_true (show (r.length : Int) ≤ 31 by omega)) hb
end
end Law

/-! a law under whose calls defs are made: several code objects with a table each -/
namespace GT
open PySem PySem.Spec PyProof.Rows L2 GD
/-- the script, where it is tracked, and the tables -/
def mny (ts : List Addr) (s : Hp) : Hp := fun b => if b ∈ ts then some (.tbl #[]) else s b
theorem mny_in {ts : List Addr} {s : Hp} {b : Addr} (h : b ∈ ts) : mny ts s b = some (.tbl #[]) := if_pos h
theorem mny_out {ts : List Addr} {s : Hp} {b : Addr} (h : b ∉ ts) : mny ts s b = s b := if_neg h
theorem callGTs {P : Program} {w : World} {K : PySem.W.Frag} {mg mb : Str → Option Value} {k : Nat} {fa a : Addr} {cs : List (Addr × Addr)} {fd : FuncData} {x : Str} {sp : Sp} {s : Shared} {vs : List Value} {ns : List Int}
    (kin : K.In s.heap) (hns : s.heap.Ns mainGlobals mg) (hb : s.heap.Ns builtinsNs mb) (hbb : ∀ x : Str, x ≠ "__name__" → mb x = bootBuiltins x) (nolim : s.heap.NoLimit) (gens : s.gens = #[])
    (tab : ∀ p ∈ cs, s.heap.get? p.2 = some { cls := .none, data := .fields #[] }) (tabK : ∀ p ∈ cs, K.lookup p.2 = none) (code : ∀ p ∈ cs, PySem.W.CodeHd s.heap p.1 p.2) (hbm : Bm mg s.heap)
    (ha : s.heap.get? a = some { cls := .type "list", data := .seq vs.toArray }) (hi : IntsAre vs ns) (hl : ns.length ≤ sizeLine) (room : Room k callerA)
    (F : ∀ base : Heap, K.In base → base.Ns mainGlobals mg → (∀ p ∈ cs, LamX.TabB base mg p.1 p.2) → Gd P w K mg base k fa fd [x] sp) (binds : ∀ (s : Shared) (u : Value), BindsTo s fd ⟨[u], []⟩ [(x, u)])
    (hsp : ∀ H : Hp, (∀ p ∈ cs, H p.2 = some (.tbl #[])) → SqL K H a (ns.map V.int) → sp [.ref a] H (fun v _ => v = .bl true) E0) :
    codeAny (model P w) callerA (.call (.ref fa) ⟨[.ref a], []⟩) (fun r s' => r = .ok (.ret (.bool true)) ∧ OldK s.heap s'.heap ∧ s'.os = s.os ∧ AllBare s'.gens) s := by
  have rv := vals_ints hi
  obtain ⟨ts, hts⟩ : ∃ ts, cs.map (·.2) = ts := ⟨_, rfl⟩
  have tin : ∀ {p : Addr × Addr}, p ∈ cs → p.2 ∈ ts := fun {p} hp => by
    rw [← hts]
    exact List.mem_map_of_mem hp
  have tof : ∀ {b : Addr}, b ∈ ts → ∃ p ∈ cs, p.2 = b := fun {b} hb => by
    rw [← hts] at hb
    obtain ⟨p, hp, e⟩ := List.mem_map.mp hb
    exact ⟨p, hp, e⟩
  have tobj : ∀ {b : Addr}, b ∈ ts → s.heap.get? b = some { cls := .none, data := .fields #[] } := fun {b} hb => by
    obtain ⟨p, hp, rfl⟩ := tof hb
    exact tab p hp
  have nat : a ∉ ts := fun z => by
    have := tobj z
    rw [ha] at this
    cases this
  have step : ∀ H : Hp, (∀ b u, H b = some u → b ∉ ts → b = a ∧ K.lookup a = none ∧ ∃ o xs, u = .frz o (.lst xs)) → (∀ b ∈ ts, H b = some (.tbl #[])) → HOk P w H s.heap → SqL K H a (ns.map V.int) →
      codeAny (model P w) callerA (.call (.ref fa) ⟨[.ref a], []⟩) (fun r s' => r = .ok (.ret (.bool true)) ∧ OldK s.heap s'.heap ∧ s'.os = s.os ∧ AllBare s'.gens) s := by
    intro H only hT hok hS
    have free : ∀ {b : Addr}, b ≠ a → b ∉ ts → H b = none := fun {b} n nt => by
      cases e : H b with
      | none => rfl
      | some u => exact absurd (only b u e nt).1 n
    -- what stands at none of them stays in sight
    have sees : ∀ {b : Addr} {o : Obj}, s.heap.get? b = some o → (∀ us m, o.data ≠ .seq us m) → o.data ≠ .fields #[] → (hidT s.heap H).get? b = some o := fun {b o} e n1 n2 => by
      refine hidT_get e (free (fun z => ?_) fun z => ?_)
      · rw [z, ha] at e
        cases e
        exact n1 _ _ rfl
      · rw [tobj z] at e
        cases e
        exact n2 rfl
    have stays : ∀ {b : Addr} {m : Str → Option Value}, s.heap.Ns b m → (hidT s.heap H).Ns b m := fun {b m} ⟨o, es, ep, e, d, r⟩ => by
      refine ⟨o, es, ep, sees e (fun us m z => ?_) (fun z => ?_), d, r⟩
      · rw [show o.data = _ from d] at z
        cases z
      · rw [show o.data = _ from d] at z
        cases z
    have kinB : K.In (hidT s.heap H) := fun b o e => hidT_get (kin b o e) (by
      cases q : H b with
      | none => rfl
      | some u =>
        by_cases nt : b ∈ ts
        · obtain ⟨p, hp, rfl⟩ := tof nt
          rw [tabK p hp] at e
          cases e
        · obtain ⟨h1, h2, _⟩ := only b u q nt
          rw [h1, h2] at e
          cases e)
    have TB : ∀ p ∈ cs, LamX.TabB (hidT s.heap H) mg p.1 p.2 := fun p hp => by
      have tp := tab p hp
      refine ⟨?_, ?_, fun z => ?_⟩
      · obtain ⟨o, us, y1, y2, y3, y4, y5, y6, y7, at_, cl, dat, v11, rest⟩ := code p hp
        refine ⟨o, us, y1, y2, y3, y4, y5, y6, y7, sees at_ (fun _ _ z => ?_) (fun z => ?_), cl, dat, v11, rest⟩
        · rw [dat] at z
          cases z
        · rw [dat] at z
          cases z
          cases v11
      · obtain ⟨bm, ob, m1, m2, m3, m4, m5, m6⟩ := hbm
        have np : ∀ us : Array Value, ob.data ≠ .fields us := fun us z => by
          rw [m6] at z
          cases z
        refine ⟨bm, ob, m1, m2, fun z => ?_, fun z => ?_, sees m3 (fun _ _ z => ?_) (np _), m4, m5, m6⟩
        · obtain ⟨o, es, ep, e, d, _⟩ := hns
          rw [← z, m3] at e
          cases e
          rw [m6] at d
          cases d
        · rw [z, tp] at m3
          cases m3
          exact np _ rfl
        · rw [m6] at z
          cases z
      · obtain ⟨o, es, ep, e, d, _⟩ := hns
        rw [z, tp] at e
        cases e
        cases d
    have e0 : Env0 P w K mg (hidT s.heap H) callerA [] s H :=
      ⟨rfl, ⟨kinB, stays hns, ⟨mb, stays hb, hbb⟩, let ⟨mc, h1, h2⟩ := nolim; ⟨mc, stays h1, h2⟩⟩, fun b o e => of_hidT e, Nat.le_of_eq (hidT_size _ _), trivial, fun b hb => (nomatch (show b ∈ ([] : List Addr) from hb)), hok, .of_eq gens⟩
    refine codeAny_mono ((F _ kinB (stays hns) TB).run callerA [] s H ⟨[.ref a], []⟩ [.ref a] [.ref a] _ E0 room rfl e0 (binds s (.ref a)) (.cons rfl .nil) (hsp H (fun p hp => hT _ (tin hp)) hS)) fun r s' h => ?_
    cases r with
    | error e => exact h.elim
    | ok fl =>
      cases fl with
      | ret u =>
        obtain ⟨v, H', os, bare, un, hok', r', q⟩ := h
        obtain rfl : v = .bl true := q
        obtain rfl : u = Value.bool true := r'
        have grown : ∀ b ∈ ts, ∃ more : Array Value, s'.heap.get? b = some { cls := .none, data := .fields more } := fun b hb => by
          obtain ⟨more, hm⟩ := un.tbls b #[] (hT b hb)
          exact ⟨_, hok' b _ hm⟩
        refine ⟨rfl, ⟨fun b o e => ?_, fun b o e => ?_⟩, os, bare⟩
        · by_cases nt : b ∈ ts
          · obtain ⟨p, hp, rfl⟩ := tof nt
            obtain ⟨more, hm⟩ := grown _ nt
            rw [tab p hp] at e
            cases e
            exact .inr (.inl ⟨((code p hp).tab (tab p hp)).isCodeTable, rfl, #[], more, rfl, by rw [Array.empty_append]; exact hm⟩)
          · refine .inl ?_
            cases q : H b with
            | none => exact un.keep b o e q (by intro z; exact (nomatch (show b ∈ ([] : List Addr) from z))) (by simp)
            | some u =>
              obtain ⟨_, _, ob, xs, rfl⟩ := only b u q nt
              obtain ⟨e1, _⟩ := hok b _ q
              obtain ⟨e2, _⟩ := hok' b _ (un.frzs b ob _ q)
              rw [e] at e1
              cases e1
              exact e2
        · by_cases nt : b ∈ ts
          · obtain ⟨more, hm⟩ := grown b nt
            exact ⟨_, hm⟩
          · cases q : H b with
            | none => exact ⟨o, un.keep b o e q (by intro z; exact (nomatch (show b ∈ ([] : List Addr) from z))) (by simp)⟩
            | some u =>
              obtain ⟨_, _, ob, xs, rfl⟩ := only b u q nt
              obtain ⟨e2, _⟩ := hok' b _ (un.frzs b ob _ q)
              exact ⟨_, e2⟩
      | next => exact h.elim
      | brk => exact h.elim
      | cont => exact h.elim
  cases hk : K.lookup a with
  | some o =>
    have e := kin a o hk
    rw [ha] at e
    cases e
    refine step (mny ts fun _ => none) (fun b u z nt => by rw [mny_out nt] at z; cases z) (fun b hb => mny_in hb) (fun b u z => ?_) (.inr ⟨_, vs.toArray, _, hk, rfl, rfl, rfl, ?_, by simpa using rv⟩)
    · by_cases nt : b ∈ ts
      · rw [mny_in nt] at z
        cases z
        exact tobj nt
      · rw [mny_out nt] at z
        cases z
    · rw [List.size_toArray, hi.length]
      exact hl
  | none =>
    refine step (mny ts (one a vs ns)) (fun b u z nt => ?_) (fun b hb => mny_in hb) (fun b u z => ?_) (.inl (.inr ⟨_, (mny_out nat).trans (if_pos rfl)⟩))
    · rw [mny_out nt] at z
      unfold one at z
      by_cases q : b = a
      · rw [if_pos q] at z
        cases z
        exact ⟨q, hk, _, _, rfl⟩
      · rw [if_neg q] at z
        cases z
    · by_cases nt : b ∈ ts
      · rw [mny_in nt] at z
        cases z
        exact tobj nt
      rw [mny_out nt] at z
      unfold one at z
      by_cases q : b = a
      · rw [if_pos q] at z
        cases z
        subst q
        exact ⟨ha, by rw [List.length_map]; exact hl, vs, _, rv, ha⟩
      · rw [if_neg q] at z
        cases z
theorem walkGTs {l : PySem.W.OpenLaw} {n k : Nat} {q : Program} {loose : List Str} {XP : (Str → Option Value) → Heap → Prop} {YP : World → Heap → Prop} {d : DefRec} {K : Params → PySem.W.Frag} {x : Str}
    (hn : l.most = some n) (hn2 : n ≤ sizeLine) (hdf : d.params.defaults = []) (hr : Room k callerA) (hY : ∀ (w : World) (h : Heap), YP w h → (K w.params).In h)
    (F : ∀ (w : World) (mg : Str → Option Value) (fa : Addr) (h : Heap), YP w h → (K w.params).In h → h.Ns mainGlobals mg → mg d.name = some (.ref fa) →
      ∃ (fd : FuncData) (cs : List (Addr × Addr)) (sp : Sp), (∀ p ∈ cs, h.get? p.2 = some { cls := .none, data := .fields #[] }) ∧ (∀ p ∈ cs, (K w.params).lookup p.2 = none) ∧ (∀ p ∈ cs, PySem.W.CodeHd h p.1 p.2) ∧ (∀ (s : Shared) (u : Value), BindsTo s fd ⟨[u], []⟩ [(x, u)]) ∧
        (∀ (H : Hp) (a : Addr) (ns : List Int), ns.length ≤ n → (∀ p ∈ cs, H p.2 = some (.tbl #[])) → SqL (K w.params) H a (ns.map V.int) → sp [.ref a] H (fun v _ => v = .bl true) E0) ∧
        ∀ base : Heap, (K w.params).In base → base.Ns mainGlobals mg → (∀ p ∈ cs, LamX.TabB base mg p.1 p.2) → Gd l.prog w (K w.params) mg base k fa fd [x] sp) :
    PySem.W.WalkO q loose XP YP l.row.toRowW d [] (fun f vs => PySem.call f vs) := by
  refine Att.attach_call hn hdf fun w s₀ s₁ mg mb fa o pm cd doc a vs ns G Y ho hd hcd hmg hobj hints hlen hg => ?_
  have kin := hY w _ Y
  obtain ⟨fd, cs, sp, tab, tabK, code, hb, hsp, hF⟩ := F w mg fa _ Y kin G.T.g hmg
  exact callGTs kin G.T.g G.T.b G.T.builtins G.T.nolimit hg tab tabK code G.T.bmain hobj hints (Nat.le_trans hlen hn2) hr hF hb fun H hT hS => hsp H a ns hlen hT hS
end GT

namespace Law
open PySem PySem.Spec PyProof.Rows L2 Evl TR EK LamX GX Fg
theorem kit_mk {K : PySem.W.Frag} {t : Value} {c : Addr} {b : Bool} (n : (t == .ref c) = false ∨ b = true) (h1 : PySem.W.isClsIn K c = true) (h2 : PySem.W.typeIn K (.ref c) = some (.type "type")) (h3 : PySem.W.subIn K t (.ref c) = some b) : PySem.W.kitOne K t (.ref c) = some b := by
  have e : PySem.W.kitCls K t (.ref c) = some b := by
    unfold PySem.W.kitCls
    show (if ((PySem.W.clsIn K c).isSome && PySem.W.typeIn K (.ref c) == some (.type "type")) = true then PySem.W.subIn K t (.ref c) else none) = some b
    rw [if_pos (by rw [Bool.and_eq_true]; exact ⟨h1, by rw [h2]; simp⟩)]
    exact h3
  unfold PySem.W.kitOne
  by_cases q : (t == .ref c) = true
  · rw [if_pos q]
    rcases n with n | n
    · rw [n] at q
      cases q
    · rw [n]
  · rw [if_neg q]
    exact e
theorem exm_mk {K : PySem.W.Frag} {t : Value} {c : Addr} {b : Bool} (h0 : PySem.W.subIn K (.ref c) (.type "BaseException") = some true) (h1 : PySem.W.isClsIn K c = true) (h2 : PySem.W.typeIn K (.ref c) = some (.type "type")) (h3 : PySem.W.subIn K t (.ref c) = some b) : PySem.W.exmOne K t (.ref c) = some b := by
  unfold PySem.W.exmOne
  rw [if_pos (by rw [h0]; simp)]
  unfold PySem.W.kitCls
  show (if ((PySem.W.clsIn K c).isSome && PySem.W.typeIn K (.ref c) == some (.type "type")) = true then PySem.W.subIn K t (.ref c) else none) = some b
  rw [if_pos (by rw [Bool.and_eq_true]; exact ⟨h1, by rw [h2]; simp⟩)]
  exact h3
theorem all_mk {l : PySem.W.OpenLaw} {w : World} {K : PySem.W.Frag} {h : Heap} {mg : Str → Option Value} {fa C0 f1 f2 f3 f4 f5 f6 f7 f8 f9 f10 f11 f12 f13 f14 f15 f16 f17 f18 f19 f20 f21 f22 f23 f24 f25 f26 f27 f28 fF fL fW fN fB fT fX fQ CF CL CW CN CB CT : Addr} (X : K.In h) (G : h.Ns mainGlobals mg) (hfa : mg "law" = some (.ref fa))
    {od1 an1 od2 an2 od3 an3 od4 an4 od5 an5 od6 an6 od7 an7 od8 an8 od9 an9 od10 an10 od11 an11 od12 an12 od13 an13 od14 an14 od15 an15 od16 an16 od17 an17 od18 an18 od19 an19 od20 an20 od21 an21 od22 an22 od23 an23 od24 an24 od25 an25 od26 an26 od27 an27 od28 an28 odF anF odL anL odW anW odN anN odB anB odT anT odX anX odQ anQ : Option Addr} {sl1 sl2 sl3 sl4 sl5 sl6 sl7 sl8 sl9 sl10 sl11 sl12 sl13 sl14 sl15 sl16 sl17 sl18 sl19 sl20 sl21 sl22 sl23 sl24 sl25 sl26 sl27 sl28 slF slL slW slN slB slT slX slQ : Array (Option Value)} {oc1 kV1 dc1 pm1  ct1 oc2 kV2 dc2 pm2 cd2 ct2 oc3 kV3 dc3 pm3 cd3 ct3 oc4 kV4 dc4 pm4 cd4 ct4 oc5 kV5 dc5 pm5 cd5 ct5 oc6 kV6 dc6 pm6 cd6 ct6 oc7 kV7 dc7 pm7 cd7 ct7 oc8 kV8 dc8 pm8 cd8 ct8 oc9 kV9 dc9 pm9 cd9 ct9 oc10 kV10 dc10 pm10 cd10 ct10 oc11 kV11 dc11 pm11 cd11 ct11 oc12 kV12 dc12 pm12 cd12 ct12 oc13 kV13 dc13 pm13 cd13 ct13 oc14 kV14 dc14 pm14 cd14 ct14 oc15 kV15 dc15 pm15 cd15 ct15 oc16 kV16 dc16 pm16 cd16 ct16 oc17 kV17 dc17 pm17 cd17 ct17 oc18 kV18 dc18 pm18 cd18 ct18 oc19 kV19 dc19 pm19 cd19 ct19 oc20 kV20 dc20 pm20 cd20 ct20 oc21 kV21 dc21 pm21 cd21 ct21 oc22 kV22 dc22 pm22 cd22 ct22 oc23 kV23 dc23 pm23 cd23 ct23 oc24 kV24 dc24 pm24 cd24 ct24 oc25 kV25 dc25 pm25 cd25 ct25 oc26 kV26 dc26 pm26 cd26 ct26 oc27 kV27 dc27 pm27  ct27 oc28 kV28 dc28 pm28 cd28 ct28 ocF kVF dcF pmF cdF ctF ocL kVL dcL pmL cdL ctL ocW kVW dcW pmW cdW ctW ocN kVN dcN pmN cdN ctN ocB kVB dcB pmB cdB ctB ocT kVT dcT pmT cdT ctT ocX kVX dcX pmX cdX ctX ocQ kVQ dcQ pmQ cdQ ctQ : Value} {t0 : Tok}
    {nmL} {qL} {NL} {bsL} {bmL} {snL} {suL} {abL} {colL} {ddL} {k0L} {k1L} {k2L} {k3L} {k5L} {nmW} {qW} {NW} {bsW} {bmW} {snW} {suW} {abW} {colW} {ddW} {k0W} {k1W} {k2W} {k3W} {k5W} {nmN} {qN} {NN} {bsN} {bmN} {snN} {suN} {abN} {colN} {ddN} {k0N} {k1N} {k2N} {k3N} {k5N} {nmB} {qB} {NB} {bsB} {bmB} {snB} {suB} {abB} {colB} {ddB} {k0B} {k1B} {k2B} {k3B} {k5B} {nmT} {qT} {NT} {bsT} {bmT} {snT} {suT} {abT} {colT} {ddT} {k0T} {k1T} {k2T} {k3T} {k5T}
    {ca1 ta1 : Addr} {occ1 : Value} {odc1 : Option Addr} {vsc1 : Array Value} {slc1 : Array (Option Value)}
    {ca27 ta27 : Addr} {occ27 : Value} {odc27 : Option Addr} {vsc27 : Array Value} {slc27 : Array (Option Value)}
    (a1 : PySem.W.nsIn K mainGlobals "law" = some (some (.ref f1)))
    (l1 : K.lookup f1 = some ⟨oc1, od1, .func (PySem.W.fnOf "law" "law" (defArgs s_law) (defBody s_law) (defScope s_law) .none kV1 dc1 pm1 an1 (.ref ca1) ct1), sl1⟩)
    (c1 : PySem.W.codeIn K ((.ref ca1)) "law" = true)
    (k1 : PySem.W.keepIn K (.ref f1) = true)
    (tb1 : K.lookup ca1 = some ⟨occ1, odc1, .fields vsc1, slc1⟩)
    (tv1 : vsc1[11]? = some (.ref ta1))
    (hcd1 : PySem.W.codeHdIn K ca1 ta1 = true)
    (tk1 : K.lookup ta1 = none)
    (ht1 : h.get? ta1 = some { cls := .none, data := .fields #[] })
    (a2 : PySem.W.nsIn K mainGlobals "_law_pen_of" = some (some (.ref f2)))
    (l2 : K.lookup f2 = some ⟨oc2, od2, .func (PySem.W.fnOf "_law_pen_of" "_law_pen_of" (defArgs s_lpen) (defBody s_lpen) (defScope s_lpen) .none kV2 dc2 pm2 an2 cd2 ct2), sl2⟩)
    (c2 : PySem.W.codeIn K cd2 "_law_pen_of" = true)
    (k2 : PySem.W.keepIn K (.ref f2) = true)
    (a3 : PySem.W.nsIn K mainGlobals "_law_draw" = some (some (.ref f3)))
    (l3 : K.lookup f3 = some ⟨oc3, od3, .func (PySem.W.fnOf "_law_draw" "_law_draw" (defArgs s_ldraw) (defBody s_ldraw) (defScope s_ldraw) .none kV3 dc3 pm3 an3 cd3 ct3), sl3⟩)
    (c3 : PySem.W.codeIn K cd3 "_law_draw" = true)
    (k3 : PySem.W.keepIn K (.ref f3) = true)
    (a4 : PySem.W.nsIn K mainGlobals "_law_pick" = some (some (.ref f4)))
    (l4 : K.lookup f4 = some ⟨oc4, od4, .func (PySem.W.fnOf "_law_pick" "_law_pick" (defArgs s_lpick) (defBody s_lpick) (defScope s_lpick) .none kV4 dc4 pm4 an4 cd4 ct4), sl4⟩)
    (c4 : PySem.W.codeIn K cd4 "_law_pick" = true)
    (k4 : PySem.W.keepIn K (.ref f4) = true)
    (a5 : PySem.W.nsIn K mainGlobals "_law_shuffled" = some (some (.ref f5)))
    (l5 : K.lookup f5 = some ⟨oc5, od5, .func (PySem.W.fnOf "_law_shuffled" "_law_shuffled" (defArgs s_lshuffled) (defBody s_lshuffled) (defScope s_lshuffled) .none kV5 dc5 pm5 an5 cd5 ct5), sl5⟩)
    (c5 : PySem.W.codeIn K cd5 "_law_shuffled" = true)
    (k5 : PySem.W.keepIn K (.ref f5) = true)
    (a6 : PySem.W.nsIn K mainGlobals "is_list" = some (some (.ref f6)))
    (l6 : K.lookup f6 = some ⟨oc6, od6, .func (PySem.W.fnOf "is_list" "is_list" (defArgs s_is_list) (defBody s_is_list) (defScope s_is_list) .none kV6 dc6 pm6 an6 cd6 ct6), sl6⟩)
    (c6 : PySem.W.codeIn K cd6 "is_list" = true)
    (k6 : PySem.W.keepIn K (.ref f6) = true)
    (a7 : PySem.W.nsIn K mainGlobals "is_integer" = some (some (.ref f7)))
    (l7 : K.lookup f7 = some ⟨oc7, od7, .func (PySem.W.fnOf "is_integer" "is_integer" (defArgs s_is_integer) (defBody s_is_integer) (defScope s_is_integer) .none kV7 dc7 pm7 an7 cd7 ct7), sl7⟩)
    (c7 : PySem.W.codeIn K cd7 "is_integer" = true)
    (k7 : PySem.W.keepIn K (.ref f7) = true)
    (a8 : PySem.W.nsIn K mainGlobals "is_whole" = some (some (.ref f8)))
    (l8 : K.lookup f8 = some ⟨oc8, od8, .func (PySem.W.fnOf "is_whole" "is_whole" (defArgs s_is_whole) (defBody s_is_whole) (defScope s_is_whole) .none kV8 dc8 pm8 an8 cd8 ct8), sl8⟩)
    (c8 : PySem.W.codeIn K cd8 "is_whole" = true)
    (k8 : PySem.W.keepIn K (.ref f8) = true)
    (a9 : PySem.W.nsIn K mainGlobals "are_letters" = some (some (.ref f9)))
    (l9 : K.lookup f9 = some ⟨oc9, od9, .func (PySem.W.fnOf "are_letters" "are_letters" (defArgs s_are_letters) (defBody s_are_letters) (defScope s_are_letters) .none kV9 dc9 pm9 an9 cd9 ct9), sl9⟩)
    (c9 : PySem.W.codeIn K cd9 "are_letters" = true)
    (k9 : PySem.W.keepIn K (.ref f9) = true)
    (a10 : PySem.W.nsIn K mainGlobals "wrong_sign" = some (some (.ref f10)))
    (l10 : K.lookup f10 = some ⟨oc10, od10, .func (PySem.W.fnOf "wrong_sign" "wrong_sign" (defArgs s_wrong_sign) (defBody s_wrong_sign) (defScope s_wrong_sign) .none kV10 dc10 pm10 an10 cd10 ct10), sl10⟩)
    (c10 : PySem.W.codeIn K cd10 "wrong_sign" = true)
    (k10 : PySem.W.keepIn K (.ref f10) = true)
    (a11 : PySem.W.nsIn K mainGlobals "_is_word" = some (some (.ref f11)))
    (l11 : K.lookup f11 = some ⟨oc11, od11, .func (PySem.W.fnOf "_is_word" "_is_word" (defArgs s_is_word) (defBody s_is_word) (defScope s_is_word) .none kV11 dc11 pm11 an11 cd11 ct11), sl11⟩)
    (c11 : PySem.W.codeIn K cd11 "_is_word" = true)
    (k11 : PySem.W.keepIn K (.ref f11) = true)
    (a12 : PySem.W.nsIn K mainGlobals "wrong_word" = some (some (.ref f12)))
    (l12 : K.lookup f12 = some ⟨oc12, od12, .func (PySem.W.fnOf "wrong_word" "wrong_word" (defArgs s_wrong_word) (defBody s_wrong_word) (defScope s_wrong_word) .none kV12 dc12 pm12 an12 cd12 ct12), sl12⟩)
    (c12 : PySem.W.codeIn K cd12 "wrong_word" = true)
    (k12 : PySem.W.keepIn K (.ref f12) = true)
    (a13 : PySem.W.nsIn K mainGlobals "_kept" = some (some (.ref f13)))
    (l13 : K.lookup f13 = some ⟨oc13, od13, .func (PySem.W.fnOf "_kept" "_kept" (defArgs s_kept) (defBody s_kept) (defScope s_kept) .none kV13 dc13 pm13 an13 cd13 ct13), sl13⟩)
    (c13 : PySem.W.codeIn K cd13 "_kept" = true)
    (k13 : PySem.W.keepIn K (.ref f13) = true)
    (a14 : PySem.W.nsIn K mainGlobals "fits" = some (some (.ref f14)))
    (l14 : K.lookup f14 = some ⟨oc14, od14, .func (PySem.W.fnOf "fits" "fits" (defArgs s_fits) (defBody s_fits) (defScope s_fits) .none kV14 dc14 pm14 an14 cd14 ct14), sl14⟩)
    (c14 : PySem.W.codeIn K cd14 "fits" = true)
    (k14 : PySem.W.keepIn K (.ref f14) = true)
    (a15 : PySem.W.nsIn K mainGlobals "slid" = some (some (.ref f15)))
    (l15 : K.lookup f15 = some ⟨oc15, od15, .func (PySem.W.fnOf "slid" "slid" (defArgs s_slid) (defBody s_slid) (defScope s_slid) .none kV15 dc15 pm15 an15 cd15 ct15), sl15⟩)
    (c15 : PySem.W.codeIn K cd15 "slid" = true)
    (k15 : PySem.W.keepIn K (.ref f15) = true)
    (a16 : PySem.W.nsIn K mainGlobals "_law_fits" = some (some (.ref f16)))
    (l16 : K.lookup f16 = some ⟨oc16, od16, .func (PySem.W.fnOf "_law_fits" "_law_fits" (defArgs s_lfits) (defBody s_lfits) (defScope s_lfits) .none kV16 dc16 pm16 an16 cd16 ct16), sl16⟩)
    (c16 : PySem.W.codeIn K cd16 "_law_fits" = true)
    (k16 : PySem.W.keepIn K (.ref f16) = true)
    (a17 : PySem.W.nsIn K mainGlobals "_law_least" = some (some (.ref f17)))
    (l17 : K.lookup f17 = some ⟨oc17, od17, .func (PySem.W.fnOf "_law_least" "_law_least" (defArgs s_lleast) (defBody s_lleast) (defScope s_lleast) .none kV17 dc17 pm17 an17 cd17 ct17), sl17⟩)
    (c17 : PySem.W.codeIn K cd17 "_law_least" = true)
    (k17 : PySem.W.keepIn K (.ref f17) = true)
    (a18 : PySem.W.nsIn K mainGlobals "_law_move" = some (some (.ref f18)))
    (l18 : K.lookup f18 = some ⟨oc18, od18, .func (PySem.W.fnOf "_law_move" "_law_move" (defArgs s_lmove) (defBody s_lmove) (defScope s_lmove) .none kV18 dc18 pm18 an18 cd18 ct18), sl18⟩)
    (c18 : PySem.W.codeIn K cd18 "_law_move" = true)
    (k18 : PySem.W.keepIn K (.ref f18) = true)
    (a19 : PySem.W.nsIn K mainGlobals "_law_partials" = some (some (.ref f19)))
    (l19 : K.lookup f19 = some ⟨oc19, od19, .func (PySem.W.fnOf "_law_partials" "_law_partials" (defArgs s_lpartials) (defBody s_lpartials) (defScope s_lpartials) .none kV19 dc19 pm19 an19 cd19 ct19), sl19⟩)
    (c19 : PySem.W.codeIn K cd19 "_law_partials" = true)
    (k19 : PySem.W.keepIn K (.ref f19) = true)
    (a20 : PySem.W.nsIn K mainGlobals "_law_some_word" = some (some (.ref f20)))
    (l20 : K.lookup f20 = some ⟨oc20, od20, .func (PySem.W.fnOf "_law_some_word" "_law_some_word" (defArgs s_lsome_word) (defBody s_lsome_word) (defScope s_lsome_word) .none kV20 dc20 pm20 an20 cd20 ct20), sl20⟩)
    (c20 : PySem.W.codeIn K cd20 "_law_some_word" = true)
    (k20 : PySem.W.keepIn K (.ref f20) = true)
    (a21 : PySem.W.nsIn K mainGlobals "_law_some_words" = some (some (.ref f21)))
    (l21 : K.lookup f21 = some ⟨oc21, od21, .func (PySem.W.fnOf "_law_some_words" "_law_some_words" (defArgs s_lsome_words) (defBody s_lsome_words) (defScope s_lsome_words) .none kV21 dc21 pm21 an21 cd21 ct21), sl21⟩)
    (c21 : PySem.W.codeIn K cd21 "_law_some_words" = true)
    (k21 : PySem.W.keepIn K (.ref f21) = true)
    (a22 : PySem.W.nsIn K mainGlobals "check_words" = some (some (.ref f22)))
    (l22 : K.lookup f22 = some ⟨oc22, od22, .func (PySem.W.fnOf "check_words" "check_words" (defArgs s_check_words) (defBody s_check_words) (defScope s_check_words) .none kV22 dc22 pm22 an22 cd22 ct22), sl22⟩)
    (c22 : PySem.W.codeIn K cd22 "check_words" = true)
    (k22 : PySem.W.keepIn K (.ref f22) = true)
    (a23 : PySem.W.nsIn K mainGlobals "_moves" = some (some (.ref f23)))
    (l23 : K.lookup f23 = some ⟨oc23, od23, .func (PySem.W.fnOf "_moves" "_moves" (defArgs s_mvs) (defBody s_mvs) (defScope s_mvs) .none kV23 dc23 pm23 an23 cd23 ct23), sl23⟩)
    (c23 : PySem.W.codeIn K cd23 "_moves" = true)
    (k23 : PySem.W.keepIn K (.ref f23) = true)
    (a24 : PySem.W.nsIn K mainGlobals "_table" = some (some (.ref f24)))
    (l24 : K.lookup f24 = some ⟨oc24, od24, .func (PySem.W.fnOf "_table" "_table" (defArgs s_table) (defBody s_table) (defScope s_table) .none kV24 dc24 pm24 an24 cd24 ct24), sl24⟩)
    (c24 : PySem.W.codeIn K cd24 "_table" = true)
    (k24 : PySem.W.keepIn K (.ref f24) = true)
    (a25 : PySem.W.nsIn K mainGlobals "partials" = some (some (.ref f25)))
    (l25 : K.lookup f25 = some ⟨oc25, od25, .func (PySem.W.fnOf "partials" "partials" (defArgs s_partials) (defBody s_partials) (defScope s_partials) .none kV25 dc25 pm25 an25 cd25 ct25), sl25⟩)
    (c25 : PySem.W.codeIn K cd25 "partials" = true)
    (k25 : PySem.W.keepIn K (.ref f25) = true)
    (a26 : PySem.W.nsIn K mainGlobals "moves" = some (some (.ref f26)))
    (l26 : K.lookup f26 = some ⟨oc26, od26, .func (PySem.W.fnOf "moves" "moves" (defArgs s_moves) (defBody s_moves) (defScope s_moves) .none kV26 dc26 pm26 an26 cd26 ct26), sl26⟩)
    (c26 : PySem.W.codeIn K cd26 "moves" = true)
    (k26 : PySem.W.keepIn K (.ref f26) = true)
    (a27 : PySem.W.nsIn K mainGlobals "_law_are_refused" = some (some (.ref f27)))
    (l27 : K.lookup f27 = some ⟨oc27, od27, .func (PySem.W.fnOf "_law_are_refused" "_law_are_refused" (defArgs s_lare_refused) (defBody s_lare_refused) (defScope s_lare_refused) .none kV27 dc27 pm27 an27 (.ref ca27) ct27), sl27⟩)
    (c27 : PySem.W.codeIn K ((.ref ca27)) "_law_are_refused" = true)
    (k27 : PySem.W.keepIn K (.ref f27) = true)
    (tb27 : K.lookup ca27 = some ⟨occ27, odc27, .fields vsc27, slc27⟩)
    (tv27 : vsc27[11]? = some (.ref ta27))
    (hcd27 : PySem.W.codeHdIn K ca27 ta27 = true)
    (tk27 : K.lookup ta27 = none)
    (ht27 : h.get? ta27 = some { cls := .none, data := .fields #[] })
    (a28 : PySem.W.nsIn K mainGlobals "_law_met" = some (some (.ref f28)))
    (l28 : K.lookup f28 = some ⟨oc28, od28, .func (PySem.W.fnOf "_law_met" "_law_met" (defArgs s_lmet) (defBody s_lmet) (defScope s_lmet) .none kV28 dc28 pm28 an28 cd28 ct28), sl28⟩)
    (c28 : PySem.W.codeIn K cd28 "_law_met" = true)
    (k28 : PySem.W.keepIn K (.ref f28) = true)
    (ndT : ([ta1, ta27] : List Addr).Nodup)
    (aCF : PySem.W.nsIn K mainGlobals "Fitting" = some (some (.ref CF)))
    (aF : PySem.W.findIn K (.ref CF) "__init__" = some (some (.ref fF)))
    (lF : K.lookup fF = some ⟨ocF, odF, .func (PySem.W.fnOf "__init__" "Fitting.__init__" (defArgs s_Fitting_init) (defBody s_Fitting_init) (defScope s_Fitting_init) .none kVF dcF pmF anF cdF ctF), slF⟩)
    (cF : PySem.W.codeIn K cdF "Fitting.__init__" = true)
    (kF : PySem.W.keepIn K (.ref fF) = true)
    (nF1 : PySem.W.findIn K (.ref CF) "_words" = some none)
    (nF2 : PySem.W.findIn K (.ref CF) "_found" = some none)
    (g4F : PySem.W.findIn K (.ref CF) "__setattr__" = some (some (.builtin "object.__setattr__")))
    (m2F : PySem.W.keepIn K (.ref CF) = true)
    (aCL : PySem.W.nsIn K mainGlobals "BadLetters" = some (some (.ref CL)))
    (aL : PySem.W.findIn K (.ref CL) "__init__" = some (some (.ref fL)))
    (lL : K.lookup fL = some ⟨ocL, odL, .func (PySem.W.fnOf "__init__" "BadLetters.__init__" (defArgs s_BadLetters_init) (defBody s_BadLetters_init) (defScope s_BadLetters_init) .none kVL dcL pmL anL cdL ctL), slL⟩)
    (cL : PySem.W.codeIn K cdL "BadLetters.__init__" = true)
    (kL : PySem.W.keepIn K (.ref fL) = true)
    (nL1 : PySem.W.findIn K (.ref CL) "letters" = some none)
    (g4L : PySem.W.findIn K (.ref CL) "__setattr__" = some (some (.builtin "object.__setattr__")))
    (m2L : PySem.W.keepIn K (.ref CL) = true)
    (aCW : PySem.W.nsIn K mainGlobals "BadWords" = some (some (.ref CW)))
    (aW : PySem.W.findIn K (.ref CW) "__init__" = some (some (.ref fW)))
    (lW : K.lookup fW = some ⟨ocW, odW, .func (PySem.W.fnOf "__init__" "BadWords.__init__" (defArgs s_BadWords_init) (defBody s_BadWords_init) (defScope s_BadWords_init) .none kVW dcW pmW anW cdW ctW), slW⟩)
    (cW : PySem.W.codeIn K cdW "BadWords.__init__" = true)
    (kW : PySem.W.keepIn K (.ref fW) = true)
    (nW1 : PySem.W.findIn K (.ref CW) "place" = some none)
    (g4W : PySem.W.findIn K (.ref CW) "__setattr__" = some (some (.builtin "object.__setattr__")))
    (m2W : PySem.W.keepIn K (.ref CW) = true)
    (aCN : PySem.W.nsIn K mainGlobals "NoPartial" = some (some (.ref CN)))
    (aN : PySem.W.findIn K (.ref CN) "__init__" = some (some (.ref fN)))
    (lN : K.lookup fN = some ⟨ocN, odN, .func (PySem.W.fnOf "__init__" "NoPartial.__init__" (defArgs s_NoPartial_init) (defBody s_NoPartial_init) (defScope s_NoPartial_init) .none kVN dcN pmN anN cdN ctN), slN⟩)
    (cN : PySem.W.codeIn K cdN "NoPartial.__init__" = true)
    (kN : PySem.W.keepIn K (.ref fN) = true)
    (nN1 : PySem.W.findIn K (.ref CN) "partial" = some none)
    (g4N : PySem.W.findIn K (.ref CN) "__setattr__" = some (some (.builtin "object.__setattr__")))
    (m2N : PySem.W.keepIn K (.ref CN) = true)
    (aCB : PySem.W.nsIn K mainGlobals "BadPlace" = some (some (.ref CB)))
    (aB : PySem.W.findIn K (.ref CB) "__init__" = some (some (.ref fB)))
    (lB : K.lookup fB = some ⟨ocB, odB, .func (PySem.W.fnOf "__init__" "BadPlace.__init__" (defArgs s_BadPlace_init) (defBody s_BadPlace_init) (defScope s_BadPlace_init) .none kVB dcB pmB anB cdB ctB), slB⟩)
    (cB : PySem.W.codeIn K cdB "BadPlace.__init__" = true)
    (kB : PySem.W.keepIn K (.ref fB) = true)
    (nB1 : PySem.W.findIn K (.ref CB) "number" = some none)
    (g4B : PySem.W.findIn K (.ref CB) "__setattr__" = some (some (.builtin "object.__setattr__")))
    (m2B : PySem.W.keepIn K (.ref CB) = true)
    (aCT : PySem.W.nsIn K mainGlobals "TooMany" = some (some (.ref CT)))
    (aT : PySem.W.findIn K (.ref CT) "__init__" = some (some (.ref fT)))
    (lT : K.lookup fT = some ⟨ocT, odT, .func (PySem.W.fnOf "__init__" "TooMany.__init__" (defArgs s_TooMany_init) (defBody s_TooMany_init) (defScope s_TooMany_init) .none kVT dcT pmT anT cdT ctT), slT⟩)
    (cT : PySem.W.codeIn K cdT "TooMany.__init__" = true)
    (kT : PySem.W.keepIn K (.ref fT) = true)
    (nT1 : PySem.W.findIn K (.ref CT) "what" = some none)
    (nT2 : PySem.W.findIn K (.ref CT) "many" = some none)
    (nT3 : PySem.W.findIn K (.ref CT) "most" = some none)
    (g4T : PySem.W.findIn K (.ref CT) "__setattr__" = some (some (.builtin "object.__setattr__")))
    (m2T : PySem.W.keepIn K (.ref CT) = true)
    (aX : PySem.W.findIn K (.ref CF) "can" = some (some (.ref fX)))
    (lX : K.lookup fX = some ⟨ocX, odX, .func (PySem.W.fnOf "can" "Fitting.can" (defArgs s_Fitting_can) (defBody s_Fitting_can) (defScope s_Fitting_can) .none kVX dcX pmX anX cdX ctX), slX⟩)
    (cX : PySem.W.codeIn K cdX "Fitting.can" = true)
    (kX : PySem.W.keepIn K (.ref fX) = true)
    (nfX : PySem.W.isFn K (.ref fX) = true)
    (aQ : PySem.W.findIn K (.ref CF) "least" = some (some (.ref fQ)))
    (lQ : K.lookup fQ = some ⟨ocQ, odQ, .func (PySem.W.fnOf "least" "Fitting.least" (defArgs s_Fitting_least) (defBody s_Fitting_least) (defScope s_Fitting_least) .none kVQ dcQ pmQ anQ cdQ ctQ), slQ⟩)
    (cQ : PySem.W.codeIn K cdQ "Fitting.least" = true)
    (kQ : PySem.W.keepIn K (.ref fQ) = true)
    (nfQ : PySem.W.isFn K (.ref fQ) = true)
    (iF : PySem.W.isFn K (.ref fF) = true)
    (m1F : PySem.W.makesIn K CF = true)
    (g1F : PySem.W.plainGet K CF Str.empty = true)
    (g2F : PySem.W.hasDictIn K CF = true)
    (g3F : PySem.W.plainOver K CF = true)
    (aC0 : PySem.W.nsIn K mainGlobals "SkipsError" = some (some (.ref C0)))
    (r1 : PySem.W.readsIn K C0 (.type "type") = true)
    (r2 : PySem.W.specialIn K (.ref C0) "__getattribute__" = some (some (.builtin "type.__getattribute__")))
    (r3 : PySem.W.findCls K (.ref C0) (.type "type") "__init__" = some (.val (.builtin "ValueError.__init__")))
    (s1 : PySem.W.isClsIn K C0 = true)
    (s2 : PySem.W.typeIn K (.ref C0) = some (.type "type"))
    (s3 : PySem.W.specialIn K (.builtin "object.__class__") "__get__" = some (some (.builtin "getset_descriptor.__get__")))
    (s4 : PySem.W.takesIn K (.builtin "object.__class__") = some true)
    (o1L : K.lookup CL = some (excClassObj nmL qL CL NL bsL bmL true snL suL abL colL ddL k0L k1L k2L k3L k5L "ValueError.__new__"))
    (o2L : PySem.HandSPX.refsVE bmL = true)
    (o3L : PySem.W.subIn K (.ref CL) (.type "BaseException") = some true)
    (o4L : PySem.W.typeIn K (.ref CL) = some (.type "type"))
    (tL : PySem.W.typeIn K (.ref fL) = some (.type "function"))
    (x1L : PySem.W.findIn K (.ref CL) "__getattribute__" = some (some (.builtin "BaseException.__getattribute__")))
    (x2L : PySem.W.findIn K (.ref CL) "__getattr__" = some none)
    (x3L : PySem.W.hasDictIn K CL = true)
    (e1L : PySem.W.findIn K (.ref CL) "__class__" = some (some (.builtin "object.__class__")))
    (e2L : PySem.W.mroIn K CL (.type "object") = some true)
    (p1L : PySem.W.subIn K (.ref CL) (.ref C0) = some true)
    (p2L : PySem.W.isClsIn K CL = true)
    (o1W : K.lookup CW = some (excClassObj nmW qW CW NW bsW bmW true snW suW abW colW ddW k0W k1W k2W k3W k5W "ValueError.__new__"))
    (o2W : PySem.HandSPX.refsVE bmW = true)
    (o3W : PySem.W.subIn K (.ref CW) (.type "BaseException") = some true)
    (o4W : PySem.W.typeIn K (.ref CW) = some (.type "type"))
    (tW : PySem.W.typeIn K (.ref fW) = some (.type "function"))
    (x1W : PySem.W.findIn K (.ref CW) "__getattribute__" = some (some (.builtin "BaseException.__getattribute__")))
    (x2W : PySem.W.findIn K (.ref CW) "__getattr__" = some none)
    (x3W : PySem.W.hasDictIn K CW = true)
    (e1W : PySem.W.findIn K (.ref CW) "__class__" = some (some (.builtin "object.__class__")))
    (e2W : PySem.W.mroIn K CW (.type "object") = some true)
    (p1W : PySem.W.subIn K (.ref CW) (.ref C0) = some true)
    (p2W : PySem.W.isClsIn K CW = true)
    (o1N : K.lookup CN = some (excClassObj nmN qN CN NN bsN bmN true snN suN abN colN ddN k0N k1N k2N k3N k5N "ValueError.__new__"))
    (o2N : PySem.HandSPX.refsVE bmN = true)
    (o3N : PySem.W.subIn K (.ref CN) (.type "BaseException") = some true)
    (o4N : PySem.W.typeIn K (.ref CN) = some (.type "type"))
    (tN : PySem.W.typeIn K (.ref fN) = some (.type "function"))
    (x1N : PySem.W.findIn K (.ref CN) "__getattribute__" = some (some (.builtin "BaseException.__getattribute__")))
    (x2N : PySem.W.findIn K (.ref CN) "__getattr__" = some none)
    (x3N : PySem.W.hasDictIn K CN = true)
    (e1N : PySem.W.findIn K (.ref CN) "__class__" = some (some (.builtin "object.__class__")))
    (e2N : PySem.W.mroIn K CN (.type "object") = some true)
    (p1N : PySem.W.subIn K (.ref CN) (.ref C0) = some true)
    (p2N : PySem.W.isClsIn K CN = true)
    (o1B : K.lookup CB = some (excClassObj nmB qB CB NB bsB bmB true snB suB abB colB ddB k0B k1B k2B k3B k5B "ValueError.__new__"))
    (o2B : PySem.HandSPX.refsVE bmB = true)
    (o3B : PySem.W.subIn K (.ref CB) (.type "BaseException") = some true)
    (o4B : PySem.W.typeIn K (.ref CB) = some (.type "type"))
    (tB : PySem.W.typeIn K (.ref fB) = some (.type "function"))
    (x1B : PySem.W.findIn K (.ref CB) "__getattribute__" = some (some (.builtin "BaseException.__getattribute__")))
    (x2B : PySem.W.findIn K (.ref CB) "__getattr__" = some none)
    (x3B : PySem.W.hasDictIn K CB = true)
    (e1B : PySem.W.findIn K (.ref CB) "__class__" = some (some (.builtin "object.__class__")))
    (e2B : PySem.W.mroIn K CB (.type "object") = some true)
    (p1B : PySem.W.subIn K (.ref CB) (.ref C0) = some true)
    (p2B : PySem.W.isClsIn K CB = true)
    (o1T : K.lookup CT = some (excClassObj nmT qT CT NT bsT bmT true snT suT abT colT ddT k0T k1T k2T k3T k5T "ValueError.__new__"))
    (o2T : PySem.HandSPX.refsVE bmT = true)
    (o3T : PySem.W.subIn K (.ref CT) (.type "BaseException") = some true)
    (o4T : PySem.W.typeIn K (.ref CT) = some (.type "type"))
    (tT : PySem.W.typeIn K (.ref fT) = some (.type "function"))
    (x1T : PySem.W.findIn K (.ref CT) "__getattribute__" = some (some (.builtin "BaseException.__getattribute__")))
    (x2T : PySem.W.findIn K (.ref CT) "__getattr__" = some none)
    (x3T : PySem.W.hasDictIn K CT = true)
    (e1T : PySem.W.findIn K (.ref CT) "__class__" = some (some (.builtin "object.__class__")))
    (e2T : PySem.W.mroIn K CT (.type "object") = some true)
    (p1T : PySem.W.subIn K (.ref CT) (.ref C0) = some true)
    (p2T : PySem.W.isClsIn K CT = true)
    (yLL : PySem.W.subIn K (.ref CL) (.ref CL) = some true)
    (yWL : PySem.W.subIn K (.ref CW) (.ref CL) = some false)
    (yWW : PySem.W.subIn K (.ref CW) (.ref CW) = some true)
    (yNL : PySem.W.subIn K (.ref CN) (.ref CL) = some false)
    (yNW : PySem.W.subIn K (.ref CN) (.ref CW) = some false)
    (yNN : PySem.W.subIn K (.ref CN) (.ref CN) = some true)
    (yBL : PySem.W.subIn K (.ref CB) (.ref CL) = some false)
    (yBW : PySem.W.subIn K (.ref CB) (.ref CW) = some false)
    (yBN : PySem.W.subIn K (.ref CB) (.ref CN) = some false)
    (yBB : PySem.W.subIn K (.ref CB) (.ref CB) = some true)
    (yTL : PySem.W.subIn K (.ref CT) (.ref CL) = some false)
    (yTW : PySem.W.subIn K (.ref CT) (.ref CW) = some false)
    (yTN : PySem.W.subIn K (.ref CT) (.ref CN) = some false)
    (yTB : PySem.W.subIn K (.ref CT) (.ref CB) = some false)
    (yTT : PySem.W.subIn K (.ref CT) (.ref CT) = some true)
    (v0 : PySem.W.nsIn K mainGlobals "MOST_PARTIALS" = some (some (.int 31 t0)))
    (z0 : PySem.W.nsIn K mainGlobals "len" = some none)
    (z1 : PySem.W.nsIn K mainGlobals "int" = some none)
    (z2 : PySem.W.nsIn K mainGlobals "bool" = some none)
    (z3 : PySem.W.nsIn K mainGlobals "abs" = some none)
    (z4 : PySem.W.nsIn K mainGlobals "min" = some none)
    (z5 : PySem.W.nsIn K mainGlobals "list" = some none)
    (z6 : PySem.W.nsIn K mainGlobals "all" = some none)
    (z7 : PySem.W.nsIn K mainGlobals "any" = some none)
    (z8 : PySem.W.nsIn K mainGlobals "range" = some none)
    (z9 : PySem.W.nsIn K mainGlobals "isinstance" = some none)
    (z10 : PySem.W.nsIn K mainGlobals "str" = some none)
    (z11 : PySem.W.nsIn K mainGlobals "set" = some none)
    (z12 : PySem.W.nsIn K mainGlobals "tuple" = some none)
    (z13 : PySem.W.nsIn K mainGlobals "dict" = some none)
    (z14 : PySem.W.nsIn K mainGlobals "enumerate" = some none)
    (z15 : PySem.W.nsIn K mainGlobals "sum" = some none)
    (z16 : PySem.W.nsIn K mainGlobals "sorted" = some none)
    (z17 : PySem.W.nsIn K mainGlobals "zip" = some none)
    (z18 : PySem.W.nsIn K mainGlobals "repr" = some none) :
    ∃ (fd : FuncData) (cs : List (Addr × Addr)) (sp : Sp), (∀ p ∈ cs, h.get? p.2 = some { cls := .none, data := .fields #[] }) ∧ (∀ p ∈ cs, K.lookup p.2 = none) ∧ (∀ p ∈ cs, PySem.W.CodeHd h p.1 p.2) ∧ (∀ (s : Shared) (v : Value), BindsTo s fd ⟨[v], []⟩ [("_law_script", v)]) ∧
      (∀ (H : Hp) (a : Addr) (ns : List Int), ns.length ≤ 63 → (∀ p ∈ cs, H p.2 = some (.tbl #[])) → SqL K H a (ns.map V.int) → sp [.ref a] H (fun v _ => v = .bl true) E0) ∧
      ∀ base : Heap, K.In base → base.Ns mainGlobals mg → (∀ p ∈ cs, LamX.TabB base mg p.1 p.2) → GD.Gd l.prog w K mg base 14 fa fd ["_law_script"] sp := by
  have e := hfa.symm.trans (PySem.W.mg_of X G a1)
  cases e
  have F1 := fun_mk (st := s_law) l1 c1 k1
  have F2 := fun_mk (st := s_lpen) l2 c2 k2
  have b2 := F2.binds (ps := ["_law_script"]) fun _ _ _ _ _ _ us hl => match us, hl with | [_], _ => rfl
  have F3 := fun_mk (st := s_ldraw) l3 c3 k3
  have b3 := F3.binds (ps := ["_law_pen", "_law_many"]) fun _ _ _ _ _ _ us hl => match us, hl with | [_, _], _ => rfl
  have F4 := fun_mk (st := s_lpick) l4 c4 k4
  have b4 := F4.binds (ps := ["_law_pen", "_law_items"]) fun _ _ _ _ _ _ us hl => match us, hl with | [_, _], _ => rfl
  have F5 := fun_mk (st := s_lshuffled) l5 c5 k5
  have b5 := F5.binds (ps := ["_law_pen", "_law_items"]) fun _ _ _ _ _ _ us hl => match us, hl with | [_, _], _ => rfl
  have F6 := fun_mk (st := s_is_list) l6 c6 k6
  have b6 := F6.binds (ps := ["value"]) fun _ _ _ _ _ _ us hl => match us, hl with | [_], _ => rfl
  have F7 := fun_mk (st := s_is_integer) l7 c7 k7
  have b7 := F7.binds (ps := ["value"]) fun _ _ _ _ _ _ us hl => match us, hl with | [_], _ => rfl
  have F8 := fun_mk (st := s_is_whole) l8 c8 k8
  have b8 := F8.binds (ps := ["value", "low", "high"]) fun _ _ _ _ _ _ us hl => match us, hl with | [_, _, _], _ => rfl
  have F9 := fun_mk (st := s_are_letters) l9 c9 k9
  have b9 := F9.binds (ps := ["value"]) fun _ _ _ _ _ _ us hl => match us, hl with | [_], _ => rfl
  have F10 := fun_mk (st := s_wrong_sign) l10 c10 k10
  have b10 := F10.binds (ps := ["letters", "text"]) fun _ _ _ _ _ _ us hl => match us, hl with | [_, _], _ => rfl
  have F11 := fun_mk (st := s_is_word) l11 c11 k11
  have b11 := F11.binds (ps := ["letters", "value"]) fun _ _ _ _ _ _ us hl => match us, hl with | [_, _], _ => rfl
  have F12 := fun_mk (st := s_wrong_word) l12 c12 k12
  have b12 := F12.binds (ps := ["letters", "words"]) fun _ _ _ _ _ _ us hl => match us, hl with | [_, _], _ => rfl
  have F13 := fun_mk (st := s_kept) l13 c13 k13
  have b13 := F13.binds (ps := ["value"]) fun _ _ _ _ _ _ us hl => match us, hl with | [_], _ => rfl
  have F14 := fun_mk (st := s_fits) l14 c14 k14
  have b14 := F14.binds (ps := ["known", "word", "offset"]) fun _ _ _ _ _ _ us hl => match us, hl with | [_, _, _], _ => rfl
  have F15 := fun_mk (st := s_slid) l15 c15 k15
  have b15 := F15.binds (ps := ["known", "by"]) fun _ _ _ _ _ _ us hl => match us, hl with | [_, _], _ => rfl
  have F16 := fun_mk (st := s_lfits) l16 c16 k16
  have b16 := F16.binds (ps := ["_law_known", "_law_word", "_law_by"]) fun _ _ _ _ _ _ us hl => match us, hl with | [_, _, _], _ => rfl
  have F17 := fun_mk (st := s_lleast) l17 c17 k17
  have b17 := F17.binds (ps := ["_law_words", "_law_known"]) fun _ _ _ _ _ _ us hl => match us, hl with | [_, _], _ => rfl
  have F18 := fun_mk (st := s_lmove) l18 c18 k18
  have b18 := F18.binds (ps := ["_law_words", "_law_partial", "_law_place", "_law_letter"]) fun _ _ _ _ _ _ us hl => match us, hl with | [_, _, _, _], _ => rfl
  have F19 := fun_mk (st := s_lpartials) l19 c19 k19
  have b19 := F19.binds (ps := ["_law_letters", "_law_words"]) fun _ _ _ _ _ _ us hl => match us, hl with | [_, _], _ => rfl
  have F20 := fun_mk (st := s_lsome_word) l20 c20 k20
  have b20 := F20.binds (ps := ["_law_pen", "_law_letters", "_law_width"]) fun _ _ _ _ _ _ us hl => match us, hl with | [_, _, _], _ => rfl
  have F21 := fun_mk (st := s_lsome_words) l21 c21 k21
  have b21 := F21.binds (ps := ["_law_pen", "_law_letters", "_law_width", "_law_most"]) fun _ _ _ _ _ _ us hl => match us, hl with | [_, _, _, _], _ => rfl
  have F22 := fun_mk (st := s_check_words) l22 c22 k22
  have b22 := F22.binds (ps := ["letters", "words"]) fun _ _ _ _ _ _ us hl => match us, hl with | [_, _], _ => rfl
  have F23 := fun_mk (st := s_mvs) l23 c23 k23
  have b23 := F23.binds (ps := ["letters", "words", "fitting", "partial", "place"]) fun _ _ _ _ _ _ us hl => match us, hl with | [_, _, _, _, _], _ => rfl
  have F24 := fun_mk (st := s_table) l24 c24 k24
  have b24 := F24.binds (ps := ["letters", "words"]) fun _ _ _ _ _ _ us hl => match us, hl with | [_, _], _ => rfl
  have F25 := fun_mk (st := s_partials) l25 c25 k25
  have b25 := F25.binds (ps := ["letters", "words"]) fun _ _ _ _ _ _ us hl => match us, hl with | [_, _], _ => rfl
  have F26 := fun_mk (st := s_moves) l26 c26 k26
  have b26 := F26.binds (ps := ["letters", "words", "partial", "place"]) fun _ _ _ _ _ _ us hl => match us, hl with | [_, _, _, _], _ => rfl
  have F27 := fun_mk (st := s_lare_refused) l27 c27 k27
  have b27 := F27.binds (ps := ["_law_pen", "_law_letters", "_law_words", "_law_known"]) fun _ _ _ _ _ _ us hl => match us, hl with | [_, _, _, _], _ => rfl
  have F28 := fun_mk (st := s_lmet) l28 c28 k28
  have b28 := F28.binds (ps := ["_law_call"]) fun _ _ _ _ _ _ us hl => match us, hl with | [_], _ => rfl
  have FF := fun_mk (x := "__init__") (qual := "Fitting.__init__") (st := s_Fitting_init) lF cF kF
  have bF := FF.binds (ps := ["self", "words"]) fun _ _ _ _ _ _ us hl => match us, hl with | [_, _], _ => rfl
  have mF := PySem.W.mg_of X G aCF
  have FL := fun_mk (x := "__init__") (qual := "BadLetters.__init__") (st := s_BadLetters_init) lL cL kL
  have bL := FL.binds (ps := ["self", "letters"]) fun _ _ _ _ _ _ us hl => match us, hl with | [_, _], _ => rfl
  have mL := PySem.W.mg_of X G aCL
  have FW := fun_mk (x := "__init__") (qual := "BadWords.__init__") (st := s_BadWords_init) lW cW kW
  have bW := FW.binds (ps := ["self", "place"]) fun _ _ _ _ _ _ us hl => match us, hl with | [_, _], _ => rfl
  have mW := PySem.W.mg_of X G aCW
  have FN := fun_mk (x := "__init__") (qual := "NoPartial.__init__") (st := s_NoPartial_init) lN cN kN
  have bN := FN.binds (ps := ["self", "partial"]) fun _ _ _ _ _ _ us hl => match us, hl with | [_, _], _ => rfl
  have mN := PySem.W.mg_of X G aCN
  have FB := fun_mk (x := "__init__") (qual := "BadPlace.__init__") (st := s_BadPlace_init) lB cB kB
  have bB := FB.binds (ps := ["self", "number"]) fun _ _ _ _ _ _ us hl => match us, hl with | [_, _], _ => rfl
  have mB := PySem.W.mg_of X G aCB
  have FT := fun_mk (x := "__init__") (qual := "TooMany.__init__") (st := s_TooMany_init) lT cT kT
  have bT := FT.binds (ps := ["self", "what", "many", "most"]) fun _ _ _ _ _ _ us hl => match us, hl with | [_, _, _, _], _ => rfl
  have mT := PySem.W.mg_of X G aCT
  have FX := fun_mk (x := "can") (qual := "Fitting.can") (st := s_Fitting_can) lX cX kX
  have bX := FX.binds (ps := ["self", "known", "offset"]) fun _ _ _ _ _ _ us hl => match us, hl with | [_, _, _], _ => rfl
  have FQ := fun_mk (x := "least") (qual := "Fitting.least") (st := s_Fitting_least) lQ cQ kQ
  have bQ := FQ.binds (ps := ["self", "known", "low"]) fun _ _ _ _ _ _ us hl => match us, hl with | [_, _, _], _ => rfl
  have T : Tx mg := { len := PySem.W.mg_none_of X G z0, int := PySem.W.mg_none_of X G z1, bool := PySem.W.mg_none_of X G z2, abs := PySem.W.mg_none_of X G z3, min := PySem.W.mg_none_of X G z4, list := PySem.W.mg_none_of X G z5, all := PySem.W.mg_none_of X G z6, any := PySem.W.mg_none_of X G z7, range := PySem.W.mg_none_of X G z8, isinstance := PySem.W.mg_none_of X G z9, str := PySem.W.mg_none_of X G z10, set := PySem.W.mg_none_of X G z11, tuple := PySem.W.mg_none_of X G z12, dict := PySem.W.mg_none_of X G z13, enumerate := PySem.W.mg_none_of X G z14, sum := PySem.W.mg_none_of X G z15, sorted := PySem.W.mg_none_of X G z16, zip := PySem.W.mg_none_of X G z17, k_MOST_PARTIALS := _, m_MOST_PARTIALS := PySem.W.mg_of X G v0 }
  have B0 : BaseC K mg C0 := ⟨PySem.W.mg_of X G aC0, ⟨r1, r2⟩, r3⟩
  have EL : ErrC K CL fL C0 := ⟨⟨⟨_, _, _, _, _, _, _, _, _, _, _, _, _, _, _, o1L, o2L⟩, g4L, o3L, o4L, m2L⟩, aL, tL, ⟨x1L, x2L, o3L, x3L⟩, ⟨x1L, x2L, o3L, x3L, e1L, s3, s4, e2L⟩, kit_mk (.inr rfl) s1 s2 p1L⟩
  have EW : ErrC K CW fW C0 := ⟨⟨⟨_, _, _, _, _, _, _, _, _, _, _, _, _, _, _, o1W, o2W⟩, g4W, o3W, o4W, m2W⟩, aW, tW, ⟨x1W, x2W, o3W, x3W⟩, ⟨x1W, x2W, o3W, x3W, e1W, s3, s4, e2W⟩, kit_mk (.inr rfl) s1 s2 p1W⟩
  have EN : ErrC K CN fN C0 := ⟨⟨⟨_, _, _, _, _, _, _, _, _, _, _, _, _, _, _, o1N, o2N⟩, g4N, o3N, o4N, m2N⟩, aN, tN, ⟨x1N, x2N, o3N, x3N⟩, ⟨x1N, x2N, o3N, x3N, e1N, s3, s4, e2N⟩, kit_mk (.inr rfl) s1 s2 p1N⟩
  have EB : ErrC K CB fB C0 := ⟨⟨⟨_, _, _, _, _, _, _, _, _, _, _, _, _, _, _, o1B, o2B⟩, g4B, o3B, o4B, m2B⟩, aB, tB, ⟨x1B, x2B, o3B, x3B⟩, ⟨x1B, x2B, o3B, x3B, e1B, s3, s4, e2B⟩, kit_mk (.inr rfl) s1 s2 p1B⟩
  have ET : ErrC K CT fT C0 := ⟨⟨⟨_, _, _, _, _, _, _, _, _, _, _, _, _, _, _, o1T, o2T⟩, g4T, o3T, o4T, m2T⟩, aT, tT, ⟨x1T, x2T, o3T, x3T⟩, ⟨x1T, x2T, o3T, x3T, e1T, s3, s4, e2T⟩, kit_mk (.inr rfl) s1 s2 p1T⟩
  have MKF : Mk K CF fF := ⟨m1F, aF, iF, m2F⟩
  have SF : FC K CF := ⟨⟨g1F, g2F, g3F, g4F⟩, nF1, nF2⟩
  have GS : Gs mg CL CW CN CB CT C0 := ⟨mL, mW, mN, mB, mT, PySem.W.mg_of X G aC0⟩
  have NF : NoF K CL CW CN CB CT := ⟨nL1, nW1, nN1, nB1, nT1, nT2, nT3⟩
  have EXM : Exm K CL CW CN CB CT := ⟨exm_mk o3L p2L o4L yLL, exm_mk o3L p2L o4L yWL, exm_mk o3W p2W o4W yWW, exm_mk o3L p2L o4L yNL, exm_mk o3W p2W o4W yNW, exm_mk o3N p2N o4N yNN, exm_mk o3L p2L o4L yBL, exm_mk o3W p2W o4W yBW, exm_mk o3N p2N o4N yBN, exm_mk o3B p2B o4B yBB, exm_mk o3L p2L o4L yTL, exm_mk o3W p2W o4W yTW, exm_mk o3N p2N o4N yTN, exm_mk o3B p2B o4B yTB, exm_mk o3T p2T o4T yTT⟩
  have MeX : Meth K CF "can" fX := ⟨aX, nfX, kX⟩
  have MeQ : Meth K CF "least" fQ := ⟨aQ, nfQ, kQ⟩
  have ndt : ta1 ≠ ta27 := by simpa using ndT
  have uL : ∀ q ∈ ([(ta1, lamL), (ta27, lamR)] : List (Addr × Str)), q.1 = ta1 → q.2 = lamL := by
    intro q hq h
    simp only [List.mem_cons, List.not_mem_nil, or_false] at hq
    rcases hq with rfl | rfl
    · rfl
    · exact absurd h.symm ndt
  have uR : ∀ q ∈ ([(ta1, lamL), (ta27, lamR)] : List (Addr × Str)), q.1 = ta27 → q.2 = lamR := by
    intro q hq h
    simp only [List.mem_cons, List.not_mem_nil, or_false] at hq
    rcases hq with rfl | rfl
    · exact absurd h ndt
    · rfl
  have FC1 : GT.FunC K "law" "law" s_law _ _ ca1 := ⟨_, _, _, _, _, _, _, _, rfl, l1, c1⟩
  have FC27 : GT.FunC K "_law_are_refused" "_law_are_refused" s_lare_refused _ _ ca27 := ⟨_, _, _, _, _, _, _, _, rfl, l27, c27⟩
  refine ⟨PySem.W.fnOf "law" "law" (defArgs s_law) (defBody s_law) (defScope s_law) .none kV1 dc1 pm1 an1 (.ref ca1) ct1, [(ca1, ta1), (ca27, ta27)], (spLaw K [(ta1, lamL), (ta27, lamR)]), ?_, ?_, ?_, fun s v => .of_eq rfl, fun H a ns hn hT hS => ⟨a, ns, rfl, ?_, hS, hn, fun _ => rfl⟩, fun base _ _ TB => ?_⟩
  · intro p hp
    simp only [List.mem_cons, List.not_mem_nil, or_false] at hp
    rcases hp with rfl | rfl
    · exact ht1
    · exact ht27
  · intro p hp
    simp only [List.mem_cons, List.not_mem_nil, or_false] at hp
    rcases hp with rfl | rfl
    · exact tk1
    · exact tk27
  · intro p hp
    simp only [List.mem_cons, List.not_mem_nil, or_false] at hp
    rcases hp with rfl | rfl
    · exact PySem.W.codeHd_of_K X hcd1
    · exact PySem.W.codeHd_of_K X hcd27
  · intro q hq
    simp only [List.mem_cons, List.not_mem_nil, or_false] at hq
    rcases hq with rfl | rfl
    · exact hT (ca1, ta1) (by simp)
    · exact hT (ca27, ta27) (by simp)
  have TB1 := TB (ca1, ta1) (by simp)
  have TB27 := TB (ca27, ta27) (by simp)
  have c_lpen : Kn l.prog w K mg base "_law_pen_of" ["_law_script"] 1 (spPen K) := ⟨f2, _, ok_pen F2 T , PySem.W.mg_of X G a2, F2.kp, b2⟩
  have c_ldraw : Kn l.prog w K mg base "_law_draw" ["_law_pen", "_law_many"] 1 spDraw := ⟨f3, _, ok_draw F3 T , PySem.W.mg_of X G a3, F3.kp, b3⟩
  have c_pickS : Kn l.prog w K mg base "_law_pick" ["_law_pen", "_law_items"] 2 spPickS := ⟨f4, _, ok_pickS F4 T c_ldraw, PySem.W.mg_of X G a4, F4.kp, b4⟩
  have c_pickL : Kn l.prog w K mg base "_law_pick" ["_law_pen", "_law_items"] 2 spPickL := ⟨f4, _, ok_pickL F4 T c_ldraw, PySem.W.mg_of X G a4, F4.kp, b4⟩
  have c_lshuf : Kn l.prog w K mg base "_law_shuffled" ["_law_pen", "_law_items"] 2 spShuf := ⟨f5, _, ok_shuf F5 T c_ldraw, PySem.W.mg_of X G a5, F5.kp, b5⟩
  have c_isW : Kn l.prog w K mg base "is_list" ["value"] 1 spIsW := ⟨f6, _, ok_isW F6 T , PySem.W.mg_of X G a6, F6.kp, b6⟩
  have c_isIG : Kn l.prog w K mg base "is_integer" ["value"] 1 spIsIG := ⟨f7, _, ok_isIG F7 T , PySem.W.mg_of X G a7, F7.kp, b7⟩
  have c_whG : Kn l.prog w K mg base "is_whole" ["value", "low", "high"] 2 spWhG := ⟨f8, _, ok_whG F8 T c_isIG, PySem.W.mg_of X G a8, F8.kp, b8⟩
  have c_areG : Kn l.prog w K mg base "are_letters" ["value"] 1 (spAreG K) := ⟨f9, _, ok_areG F9 T , PySem.W.mg_of X G a9, F9.kp, b9⟩
  have c_wrong_sign : Kn l.prog w K mg base "wrong_sign" ["letters", "text"] 1 (spWS K) := ⟨f10, _, ok_ws F10 T , PySem.W.mg_of X G a10, F10.kp, b10⟩
  have c_is_word : Kn l.prog w K mg base "_is_word" ["letters", "value"] 2 (spWdG K) := ⟨f11, _, ok_wdG F11 T c_wrong_sign, PySem.W.mg_of X G a11, F11.kp, b11⟩
  have c_wwG : Kn l.prog w K mg base "wrong_word" ["letters", "words"] 3 (spWWG K) := ⟨f12, _, ok_wwG F12 T c_isW c_is_word, PySem.W.mg_of X G a12, F12.kp, b12⟩
  have c_kept0 : Kn l.prog w K mg base "_kept" ["value"] 1 spKf := ⟨f13, _, ok_kf F13 T , PySem.W.mg_of X G a13, F13.kp, b13⟩
  have c_kept : Kn l.prog w K mg base "_kept" ["value"] 2 spKept := ⟨f13, _, ok_kept F13 T c_kept0, PySem.W.mg_of X G a13, F13.kp, b13⟩
  have c_fits : Kn l.prog w K mg base "fits" ["known", "word", "offset"] 1 spFits := ⟨f14, _, ok_fits F14 T , PySem.W.mg_of X G a14, F14.kp, b14⟩
  have c_slid : Kn l.prog w K mg base "slid" ["known", "by"] 1 spSlid := ⟨f15, _, ok_slid F15 T , PySem.W.mg_of X G a15, F15.kp, b15⟩
  have c_lfits : Kn l.prog w K mg base "_law_fits" ["_law_known", "_law_word", "_law_by"] 1 spFits := ⟨f16, _, ok_lfits F16 T , PySem.W.mg_of X G a16, F16.kp, b16⟩
  have c_lleast : Kn l.prog w K mg base "_law_least" ["_law_words", "_law_known"] 2 spLLeast := ⟨f17, _, ok_lleast F17 T c_lfits, PySem.W.mg_of X G a17, F17.kp, b17⟩
  have c_lmove : Kn l.prog w K mg base "_law_move" ["_law_words", "_law_partial", "_law_place", "_law_letter"] 3 spLMove := ⟨f18, _, ok_lmove F18 T c_lfits c_lleast, PySem.W.mg_of X G a18, F18.kp, b18⟩
  have c_lpartials : Kn l.prog w K mg base "_law_partials" ["_law_letters", "_law_words"] 4 spLPartials := ⟨f19, _, ok_lpartials F19 T c_lmove, PySem.W.mg_of X G a19, F19.kp, b19⟩
  have c_lsw : Kn l.prog w K mg base "_law_some_word" ["_law_pen", "_law_letters", "_law_width"] 3 spSomeWord := ⟨f20, _, ok_someword F20 T c_pickS, PySem.W.mg_of X G a20, F20.kp, b20⟩
  have c_lsws : Kn l.prog w K mg base "_law_some_words" ["_law_pen", "_law_letters", "_law_width", "_law_most"] 4 spSomeWords := ⟨f21, _, ok_somewords F21 T c_ldraw c_lsw, PySem.W.mg_of X G a21, F21.kp, b21⟩
  have IL := ok_BadLetters (P := l.prog) (w := w) (base := base) FL T B0 EL.o nL1 c_kept
  have IW := ok_BadWords (P := l.prog) (w := w) (base := base) FW T B0 EW.o nW1 c_kept
  have IO := ok_NoPartial (P := l.prog) (w := w) (base := base) FN T B0 EN.o nN1 c_kept
  have IB := ok_BadPlace (P := l.prog) (w := w) (base := base) FB T B0 EB.o nB1 c_kept
  have IT := ok_TooMany (P := l.prog) (w := w) (base := base) FT T B0 ET.o nT1 nT2 nT3 c_kept
  have c_check : Kn' l.prog w K mg base (L2.CX l.prog w) "check_words" ["letters", "words"] 5 (spCheckG K CL CW) := ⟨f22, _, ok_checkG F22 T EL EW mL mW IL bL IW bW c_areG c_wwG, PySem.W.mg_of X G a22, F22.kp, b22⟩
  have IJ := ok_initF (P := l.prog) (w := w) (base := base) FF T SF
  have KX := ok_can (P := l.prog) (w := w) (base := base) FX T SF c_fits
  have KQ := ok_least (P := l.prog) (w := w) (base := base) FQ T SF MeX KX bX
  have c_mvs : Kn l.prog w K mg base "_moves" ["letters", "words", "fitting", "partial", "place"] 4 (spMvs CF) := ⟨f23, _, ok_mvs F23 T SF MeX KX bX MeQ KQ bQ c_slid, PySem.W.mg_of X G a23, F23.kp, b23⟩
  have c_table : Kn' l.prog w K mg base (L2.CX l.prog w) "_table" ["letters", "words"] 6 (spTable K CL CW CT) := ⟨f24, _, ok_table F24 T SF MKF mF IJ bF ET mT IT bT c_check c_mvs, PySem.W.mg_of X G a24, F24.kp, b24⟩
  have c_partials : Kn' l.prog w K mg base (L2.CX l.prog w) "partials" ["letters", "words"] 7 (spPartials K CL CW CT) := ⟨f25, _, ok_partials F25 T c_table, PySem.W.mg_of X G a25, F25.kp, b25⟩
  have c_moves : Kn' l.prog w K mg base (L2.CX l.prog w) "moves" ["letters", "words", "partial", "place"] 7 (spMoves K CB CN) := ⟨f26, _, ok_moves F26 T EB EN mB mN IB bB IO bN c_whG c_table, PySem.W.mg_of X G a26, F26.kp, b26⟩
  have c_ref : KnG l.prog w K mg base "_law_are_refused" ["_law_pen", "_law_letters", "_law_words", "_law_known"] 11 (spRefused [(ta1, lamL), (ta27, lamR)]) := ⟨f27, _, ok_refused FC27 T (PySem.W.mg_none_of X G z18) F28 (PySem.W.mg_of X G a28) b28 EL EW EN EB ET GS NF EXM TB27 (by simp) uR c_pickL c_moves c_partials, (fun vs H Q E h => by obtain ⟨p, B, n, wa, ka, L, m, ws, r, us, rfl, _⟩ := h; rfl), PySem.W.mg_of X G a27, F27.kp, b27⟩
  exact ok_law FC1 T (PySem.W.mg_none_of X G z18) F28 (PySem.W.mg_of X G a28) b28 EL EW EN EB ET GS NF EXM TB1 (by simp) uL c_lpen c_ldraw c_pickL c_lshuf c_lsw c_lsws c_lmove c_lpartials c_moves c_partials c_ref
end Law
open PySem PySem.W PyProof.Rows
set_option maxHeartbeats 0 in
theorem PySem.Challenge.cw_wordskips_k48_partials_and_moves_holds : PySem.Challenge.rw_wordskips_k48_partials_and_moves.Holds := by
  w_on; o_law; k_head; (case hw => w_witness2)
  k_fill
  refine GT.walkGTs (l := PySem.Challenge.rw_wordskips_k48_partials_and_moves) (n := 63) (k := 14) (x := "_law_script") rfl (by decide) rfl ⟨rfl, by decide, by decide⟩ (fun w h Y => PySem.W.km_in_of Y) ?F
  case F =>
    intro w mg fa h Y KX G hmg
    have tabs := PySem.W.km_tabs_of Y
    refine' Law.all_mk KX G hmg (a1 := ?a1) (l1 := ?l1) (c1 := ?c1) (k1 := ?k1) (tb1 := ?tb1) (tv1 := ?tv1) (hcd1 := ?hcd1) (tk1 := ?tk1) (ht1 := ?ht1) (a2 := ?a2) (l2 := ?l2) (c2 := ?c2) (k2 := ?k2) (a3 := ?a3) (l3 := ?l3) (c3 := ?c3) (k3 := ?k3) (a4 := ?a4) (l4 := ?l4) (c4 := ?c4) (k4 := ?k4) (a5 := ?a5) (l5 := ?l5) (c5 := ?c5) (k5 := ?k5) (a6 := ?a6) (l6 := ?l6) (c6 := ?c6) (k6 := ?k6) (a7 := ?a7) (l7 := ?l7) (c7 := ?c7) (k7 := ?k7) (a8 := ?a8) (l8 := ?l8) (c8 := ?c8) (k8 := ?k8) (a9 := ?a9) (l9 := ?l9) (c9 := ?c9) (k9 := ?k9) (a10 := ?a10) (l10 := ?l10) (c10 := ?c10) (k10 := ?k10) (a11 := ?a11) (l11 := ?l11) (c11 := ?c11) (k11 := ?k11) (a12 := ?a12) (l12 := ?l12) (c12 := ?c12) (k12 := ?k12) (a13 := ?a13) (l13 := ?l13) (c13 := ?c13) (k13 := ?k13) (a14 := ?a14) (l14 := ?l14) (c14 := ?c14) (k14 := ?k14) (a15 := ?a15) (l15 := ?l15) (c15 := ?c15) (k15 := ?k15) (a16 := ?a16) (l16 := ?l16) (c16 := ?c16) (k16 := ?k16) (a17 := ?a17) (l17 := ?l17) (c17 := ?c17) (k17 := ?k17) (a18 := ?a18) (l18 := ?l18) (c18 := ?c18) (k18 := ?k18) (a19 := ?a19) (l19 := ?l19) (c19 := ?c19) (k19 := ?k19) (a20 := ?a20) (l20 := ?l20) (c20 := ?c20) (k20 := ?k20) (a21 := ?a21) (l21 := ?l21) (c21 := ?c21) (k21 := ?k21) (a22 := ?a22) (l22 := ?l22) (c22 := ?c22) (k22 := ?k22) (a23 := ?a23) (l23 := ?l23) (c23 := ?c23) (k23 := ?k23) (a24 := ?a24) (l24 := ?l24) (c24 := ?c24) (k24 := ?k24) (a25 := ?a25) (l25 := ?l25) (c25 := ?c25) (k25 := ?k25) (a26 := ?a26) (l26 := ?l26) (c26 := ?c26) (k26 := ?k26) (a27 := ?a27) (l27 := ?l27) (c27 := ?c27) (k27 := ?k27) (tb27 := ?tb27) (tv27 := ?tv27) (hcd27 := ?hcd27) (tk27 := ?tk27) (ht27 := ?ht27) (a28 := ?a28) (l28 := ?l28) (c28 := ?c28) (k28 := ?k28) (ndT := ?ndT) (aCF := ?aCF) (aF := ?aF) (lF := ?lF) (cF := ?cF) (kF := ?kF) (nF1 := ?nF1) (nF2 := ?nF2) (g4F := ?g4F) (m2F := ?m2F) (aCL := ?aCL) (aL := ?aL) (lL := ?lL) (cL := ?cL) (kL := ?kL) (nL1 := ?nL1) (g4L := ?g4L) (m2L := ?m2L) (aCW := ?aCW) (aW := ?aW) (lW := ?lW) (cW := ?cW) (kW := ?kW) (nW1 := ?nW1) (g4W := ?g4W) (m2W := ?m2W) (aCN := ?aCN) (aN := ?aN) (lN := ?lN) (cN := ?cN) (kN := ?kN) (nN1 := ?nN1) (g4N := ?g4N) (m2N := ?m2N) (aCB := ?aCB) (aB := ?aB) (lB := ?lB) (cB := ?cB) (kB := ?kB) (nB1 := ?nB1) (g4B := ?g4B) (m2B := ?m2B) (aCT := ?aCT) (aT := ?aT) (lT := ?lT) (cT := ?cT) (kT := ?kT) (nT1 := ?nT1) (nT2 := ?nT2) (nT3 := ?nT3) (g4T := ?g4T) (m2T := ?m2T) (aX := ?aX) (lX := ?lX) (cX := ?cX) (kX := ?kX) (nfX := ?nfX) (aQ := ?aQ) (lQ := ?lQ) (cQ := ?cQ) (kQ := ?kQ) (nfQ := ?nfQ) (iF := ?iF) (m1F := ?m1F) (g1F := ?g1F) (g2F := ?g2F) (g3F := ?g3F) (aC0 := ?aC0) (r1 := ?r1) (r2 := ?r2) (r3 := ?r3) (s1 := ?s1) (s2 := ?s2) (s3 := ?s3) (s4 := ?s4) (o1L := ?o1L) (o2L := ?o2L) (o3L := ?o3L) (o4L := ?o4L) (tL := ?tL) (x1L := ?x1L) (x2L := ?x2L) (x3L := ?x3L) (e1L := ?e1L) (e2L := ?e2L) (p1L := ?p1L) (p2L := ?p2L) (o1W := ?o1W) (o2W := ?o2W) (o3W := ?o3W) (o4W := ?o4W) (tW := ?tW) (x1W := ?x1W) (x2W := ?x2W) (x3W := ?x3W) (e1W := ?e1W) (e2W := ?e2W) (p1W := ?p1W) (p2W := ?p2W) (o1N := ?o1N) (o2N := ?o2N) (o3N := ?o3N) (o4N := ?o4N) (tN := ?tN) (x1N := ?x1N) (x2N := ?x2N) (x3N := ?x3N) (e1N := ?e1N) (e2N := ?e2N) (p1N := ?p1N) (p2N := ?p2N) (o1B := ?o1B) (o2B := ?o2B) (o3B := ?o3B) (o4B := ?o4B) (tB := ?tB) (x1B := ?x1B) (x2B := ?x2B) (x3B := ?x3B) (e1B := ?e1B) (e2B := ?e2B) (p1B := ?p1B) (p2B := ?p2B) (o1T := ?o1T) (o2T := ?o2T) (o3T := ?o3T) (o4T := ?o4T) (tT := ?tT) (x1T := ?x1T) (x2T := ?x2T) (x3T := ?x3T) (e1T := ?e1T) (e2T := ?e2T) (p1T := ?p1T) (p2T := ?p2T) (yLL := ?yLL) (yWL := ?yWL) (yWW := ?yWW) (yNL := ?yNL) (yNW := ?yNW) (yNN := ?yNN) (yBL := ?yBL) (yBW := ?yBW) (yBN := ?yBN) (yBB := ?yBB) (yTL := ?yTL) (yTW := ?yTW) (yTN := ?yTN) (yTB := ?yTB) (yTT := ?yTT) (v0 := ?v0) (z0 := ?z0) (z1 := ?z1) (z2 := ?z2) (z3 := ?z3) (z4 := ?z4) (z5 := ?z5) (z6 := ?z6) (z7 := ?z7) (z8 := ?z8) (z9 := ?z9) (z10 := ?z10) (z11 := ?z11) (z12 := ?z12) (z13 := ?z13) (z14 := ?z14) (z15 := ?z15) (z16 := ?z16) (z17 := ?z17) (z18 := ?z18)
    (case a1 => k_is); (case l1 => k_is); (case c1 => k_is); (case k1 => k_is); (case tb1 => k_is); (case tv1 => rfl); (case hcd1 => kernel_rfl); (case tk1 => kernel_rfl); (case ht1 => exact tabs _ (by k_mem)); (case a2 => k_is); (case l2 => k_is); (case c2 => k_is); (case k2 => k_is); (case a3 => k_is); (case l3 => k_is); (case c3 => k_is); (case k3 => k_is); (case a4 => k_is); (case l4 => k_is); (case c4 => k_is); (case k4 => k_is); (case a5 => k_is); (case l5 => k_is); (case c5 => k_is); (case k5 => k_is); (case a6 => k_is); (case l6 => k_is); (case c6 => k_is); (case k6 => k_is); (case a7 => k_is); (case l7 => k_is); (case c7 => k_is); (case k7 => k_is); (case a8 => k_is); (case l8 => k_is); (case c8 => k_is); (case k8 => k_is); (case a9 => k_is); (case l9 => k_is); (case c9 => k_is); (case k9 => k_is); (case a10 => k_is); (case l10 => k_is); (case c10 => k_is); (case k10 => k_is); (case a11 => k_is); (case l11 => k_is); (case c11 => k_is); (case k11 => k_is); (case a12 => k_is); (case l12 => k_is); (case c12 => k_is); (case k12 => k_is); (case a13 => k_is); (case l13 => k_is); (case c13 => k_is); (case k13 => k_is); (case a14 => k_is); (case l14 => k_is); (case c14 => k_is); (case k14 => k_is); (case a15 => k_is); (case l15 => k_is); (case c15 => k_is); (case k15 => k_is); (case a16 => k_is); (case l16 => k_is); (case c16 => k_is); (case k16 => k_is); (case a17 => k_is); (case l17 => k_is); (case c17 => k_is); (case k17 => k_is); (case a18 => k_is); (case l18 => k_is); (case c18 => k_is); (case k18 => k_is); (case a19 => k_is); (case l19 => k_is); (case c19 => k_is); (case k19 => k_is); (case a20 => k_is); (case l20 => k_is); (case c20 => k_is); (case k20 => k_is); (case a21 => k_is); (case l21 => k_is); (case c21 => k_is); (case k21 => k_is); (case a22 => k_is); (case l22 => k_is); (case c22 => k_is); (case k22 => k_is); (case a23 => k_is); (case l23 => k_is); (case c23 => k_is); (case k23 => k_is); (case a24 => k_is); (case l24 => k_is); (case c24 => k_is); (case k24 => k_is); (case a25 => k_is); (case l25 => k_is); (case c25 => k_is); (case k25 => k_is); (case a26 => k_is); (case l26 => k_is); (case c26 => k_is); (case k26 => k_is); (case a27 => k_is); (case l27 => k_is); (case c27 => k_is); (case k27 => k_is); (case tb27 => k_is); (case tv27 => rfl); (case hcd27 => kernel_rfl); (case tk27 => kernel_rfl); (case ht27 => exact tabs _ (by k_mem)); (case a28 => k_is); (case l28 => k_is); (case c28 => k_is); (case k28 => k_is); (case ndT => decide); (case aCF => k_is); (case aF => k_is); (case lF => k_is); (case cF => k_is); (case kF => k_is); (case nF1 => k_is); (case nF2 => k_is); (case g4F => k_is); (case m2F => k_is); (case aCL => k_is); (case aL => k_is); (case lL => k_is); (case cL => k_is); (case kL => k_is); (case nL1 => k_is); (case g4L => k_is); (case m2L => k_is); (case aCW => k_is); (case aW => k_is); (case lW => k_is); (case cW => k_is); (case kW => k_is); (case nW1 => k_is); (case g4W => k_is); (case m2W => k_is); (case aCN => k_is); (case aN => k_is); (case lN => k_is); (case cN => k_is); (case kN => k_is); (case nN1 => k_is); (case g4N => k_is); (case m2N => k_is); (case aCB => k_is); (case aB => k_is); (case lB => k_is); (case cB => k_is); (case kB => k_is); (case nB1 => k_is); (case g4B => k_is); (case m2B => k_is); (case aCT => k_is); (case aT => k_is); (case lT => k_is); (case cT => k_is); (case kT => k_is); (case nT1 => k_is); (case nT2 => k_is); (case nT3 => k_is); (case g4T => k_is); (case m2T => k_is); (case aX => k_is); (case lX => k_is); (case cX => k_is); (case kX => k_is); (case nfX => k_is); (case aQ => k_is); (case lQ => k_is); (case cQ => k_is); (case kQ => k_is); (case nfQ => k_is); (case iF => k_is); (case m1F => k_is); (case g1F => k_is); (case g2F => k_is); (case g3F => k_is); (case aC0 => k_is); (case r1 => k_is); (case r2 => k_is); (case r3 => k_is); (case s1 => k_is); (case s2 => k_is); (case s3 => k_is); (case s4 => k_is); (case o1L => k_is); (case o2L => rfl); (case o3L => k_is); (case o4L => k_is); (case tL => k_is); (case x1L => k_is); (case x2L => k_is); (case x3L => k_is); (case e1L => k_is); (case e2L => k_is); (case p1L => k_is); (case p2L => k_is); (case o1W => k_is); (case o2W => rfl); (case o3W => k_is); (case o4W => k_is); (case tW => k_is); (case x1W => k_is); (case x2W => k_is); (case x3W => k_is); (case e1W => k_is); (case e2W => k_is); (case p1W => k_is); (case p2W => k_is); (case o1N => k_is); (case o2N => rfl); (case o3N => k_is); (case o4N => k_is); (case tN => k_is); (case x1N => k_is); (case x2N => k_is); (case x3N => k_is); (case e1N => k_is); (case e2N => k_is); (case p1N => k_is); (case p2N => k_is); (case o1B => k_is); (case o2B => rfl); (case o3B => k_is); (case o4B => k_is); (case tB => k_is); (case x1B => k_is); (case x2B => k_is); (case x3B => k_is); (case e1B => k_is); (case e2B => k_is); (case p1B => k_is); (case p2B => k_is); (case o1T => k_is); (case o2T => rfl); (case o3T => k_is); (case o4T => k_is); (case tT => k_is); (case x1T => k_is); (case x2T => k_is); (case x3T => k_is); (case e1T => k_is); (case e2T => k_is); (case p1T => k_is); (case p2T => k_is); (case yLL => k_is); (case yWL => k_is); (case yWW => k_is); (case yNL => k_is); (case yNW => k_is); (case yNN => k_is); (case yBL => k_is); (case yBW => k_is); (case yBN => k_is); (case yBB => k_is); (case yTL => k_is); (case yTW => k_is); (case yTN => k_is); (case yTB => k_is); (case yTT => k_is); (case v0 => k_is); (case z0 => k_is); (case z1 => k_is); (case z2 => k_is); (case z3 => k_is); (case z4 => k_is); (case z5 => k_is); (case z6 => k_is); (case z7 => k_is); (case z8 => k_is); (case z9 => k_is); (case z10 => k_is); (case z11 => k_is); (case z12 => k_is); (case z13 => k_is); (case z14 => k_is); (case z15 => k_is); (case z16 => k_is); (case z17 => k_is); (case z18 => k_is)


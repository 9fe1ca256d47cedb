import PyProof.Rows.All
import Wide.All
import OpenK.AllK
import Wide.FinOn
import HandS.ForMost
import HandS.Evl
import KE.GoesZip
import PyProof.EnumMake
import HandS.Strs
import KE.GoesMore
import HandS.IsInst
import HandS.NoneIn
import HandS.Walk
import HandS.Conv
import HandS.TupAny
import HandS.Exc
import HandS.ExcInit
import HandS.ExcField
import HandS.ExcIs
import HandS.TryOnly
import HandS.TryMany
import HandS.WordsExc
import HandS.ClsMeth
import HandS.Replace
import PyProof.Rows.StrLawsPart
import PyProof.ReprReads
import HandS.FStrTup
import HandS.Codes
import HandS.Text
import HandS.Zip0
import HandS.FStr
import HandS.StrMore
import HandS.More
import HandS.OwnEq
import HandS.WordsDict
import HandS.DictComp
import HandS.Zip
import HandS.Deep
import PyProof.EqAt
import PyProof.NeKinds
import HandS.Base
import HandS.Call
import HandS.List
import HandS.Style
import PySem.Challenge.RW_wordskips_k06_whole_least_searchers
set_option Elab.async false
set_option linter.all false
set_option maxRecDepth 100000
set_option maxHeartbeats 4000000
namespace ZS
open PySem PySem.Spec PyProof.Rows L2

/-- two texts side by side: a new pair of signs at each turn -/
def ItzS (x y : Str) : It :=
  ⟨fun i _ => i < x.cps.size ∧ i < y.cps.size,
   fun i H v H' => ∃ T c d, v = .ref T ∧ H T = none ∧ H' = upd H T (.tup [.str ⟨#[c]⟩, .str ⟨#[d]⟩]) ∧ x.cps[i]? = some c ∧ y.cps[i]? = some d,
   fun i _ => i = min x.cps.size y.cps.size⟩
theorem drawsS {prog : Program} {w : World} {A : Around} (hh : A.handled = none) (it : Addr) (x : Str) (t : Tok) :
    Draws prog w A it [it] x.cps.size (fun i v => ∃ c u, x.cps[i]? = some c ∧ v = .str ⟨#[c]⟩ u) (fun i h => h.IsStrIter it (strIterType x) x t i) := by
  unfold strIterType
  cases x.cps.all (· < 128)
  · exact Draws.strWide hh it x t
  · exact Draws.strAscii hh it x t
def StZ (x y : Str) (t u : Tok) (z TI TO i1 i2 : Addr) (i : Nat) (h : Heap) : Prop :=
  IsZip h z TI TO .none ∧ IsTupOf2 h TI (.ref i1) (.ref i2) ∧ (∃ a1 a2, IsTupOf2 h TO a1 a2) ∧ h.IsStrIter i1 (strIterType x) x t i ∧ h.IsStrIter i2 (strIterType y) y u i
theorem walkS {prog : Program} {w : World} {A : Around} (hh : A.handled = none) {z TI TO i1 i2 : Addr} (S : ZipSep2 z TI TO i1 i2 [i1] [i2]) (x y : Str) (t u : Tok) :
    WalksT prog w A z (z :: TI :: TO :: ([i1] ++ [i2])) [z, TO, i1, i2] (min x.cps.size y.cps.size)
      (fun i vals => ∃ v1 v2, (∃ c u, x.cps[i]? = some c ∧ v1 = .str ⟨#[c]⟩ u) ∧ (∃ c u, y.cps[i]? = some c ∧ v2 = .str ⟨#[c]⟩ u) ∧ vals = #[v1, v2])
      (StZ x y t u z TI TO i1 i2)
      (fun i T h => IsZip h z TI TO (rawInt T) ∧ IsTupOf2 h TI (.ref i1) (.ref i2) ∧ (∃ a1 a2, IsTupOf2 h TO a1 a2) ∧ h.IsStrIter i1 (strIterType x) x t (i + 1) ∧ h.IsStrIter i2 (strIterType y) y u (i + 1) ∧ T ≠ z ∧ T ≠ TO ∧ T ≠ i1 ∧ T ≠ i2) :=
  WalksT.zipD2 S (drawsS (A := A.in1) hh i1 x t) (drawsS (A := A.in1) hh i2 y u)
theorem fp5 {z TI TO i1 i2 c : Addr} (h : c ∈ [z, TI, TO, i1, i2]) : c = z ∨ c = TI ∨ c = TO ∨ c = i1 ∨ c = i2 := by simpa using h
theorem turn_zipS {P : Program} {w : World} {K : PySem.W.Frag} {elts : List Expr} {kk : Nat} {tpos : Pos} {z TI TO i1 i2 : Addr} (S : ZipSep2 z TI TO i1 i2 [i1] [i2]) (x y : Str) (t u : Tok) :
    Turn P w K (.Tuple elts kk tpos) (ItzS x y) [z, TI, TO, i1, i2] z (StZ x y t u z TI TO i1 i2) where
  mem := List.mem_cons_self
  obj := fun i h st c hc => by
    obtain ⟨q1, q2, ⟨a1, a2, q3⟩, ⟨o1, e1, _, d1⟩, ⟨o2, e2, _, d2⟩⟩ := st
    rcases fp5 hc with q | q | q | q | q
    all_goals subst q
    · exact ⟨_, q1, fun v q => nomatch q⟩
    · exact ⟨_, q2, fun v q => nomatch q⟩
    · exact ⟨_, q3, fun v q => nomatch q⟩
    · exact ⟨o1, e1, fun v q => by rw [d1] at q; cases q⟩
    · exact ⟨o2, e2, fun v q => by rw [d2] at q; cases q⟩
  keep := fun i h h' st k => by
    obtain ⟨q1, q2, ⟨a1, a2, q3⟩, ⟨o1, e1, r1⟩, ⟨o2, e2, r2⟩⟩ := st
    exact ⟨k z (by simp) _ q1, k TI (by simp) _ q2, ⟨a1, a2, k TO (by simp) _ q3⟩, ⟨o1, k i1 (by simp) _ e1, r1⟩, ⟨o2, k i2 (by simp) _ e2, r2⟩⟩
  item := by
    intro X hP hw hK hc i pins s σ H E I hf st hg
    subst hP hw hK
    have W := walkS (prog := X.prog) (w := X.w) (A := X.A) (I.ok.hd hc) S x y t u
    have hlt : i < min x.cps.size y.cps.size := by
      have h1 := hg.1
      have h2 := hg.2
      omega
    refine W.item i s _ _ hlt st fun T vals h' tk hv hT hIs hm hk => ?_
    refine ⟨.ref T, rfl, ?_⟩
    refine W.go elts kk tpos i T { s with heap := h', toks := tk } _ _ hm fun h2 st2 hk2 => ?_
    obtain ⟨v1, v2, ⟨c, u1, hc1, rfl⟩, ⟨d, u2, hd1, rfl⟩, rfl⟩ := hv
    have ap : T ∉ [z, TO, i1, i2] := W.apart i T h' hm
    have up : ∀ b o, b ∉ [z, TO, i1, i2] → s.heap.get? b = some o → h2.get? b = some o := fun b o hb e => hk2 b o hb (hk b o hb e)
    have hT2 : h2.IsTuple T #[.str ⟨#[c]⟩ u1, .str ⟨#[d]⟩ u2] := hIs.at fun o e => hk2 T o ap e
    obtain ⟨oT, eT, cT, nT, dT⟩ := hT2
    have new : ObjOk X.prog X.w (upd H T (.tup [.str ⟨#[c]⟩, .str ⟨#[d]⟩])) h2 T (.tup [.str ⟨#[c]⟩, .str ⟨#[d]⟩]) :=
      ⟨by show 2 ≤ sizeLine; decide, [.str ⟨#[c]⟩ u1, .str ⟨#[d]⟩ u2], .cons ⟨u1, rfl⟩ (.cons ⟨u2, rfl⟩ .nil), ⟨oT, eT, cT, nT, dT⟩⟩
    have sub : ∀ b, b ∉ [z, TI, TO, i1, i2] → b ∉ [z, TO, i1, i2] := fun b hb hb2 => hb (by
      have q : b = z ∨ b = TO ∨ b = i1 ∨ b = i2 := by simpa using hb2
      rcases q with q | q | q | q <;> simp [q])
    have I1 := I.turnedNew (t' := tk) (ch := [z, TI, TO, i1, i2]) (fun b o hb e => up b o (sub b hb) e) hf hT new
    refine ⟨.ref T, _, I1, rfl, ⟨T, c, d, rfl, I.hok.fresh hT, rfl, hc1, hd1⟩, st2, fun b hb => ?_⟩
    have hlb : b < s.heap.objs.size := by
      obtain ⟨q1, q2, ⟨a1, a2, q3⟩, ⟨o1, e1, r1⟩, ⟨o2, e2, r2⟩⟩ := st
      rcases fp5 hb with q | q | q | q | q
      · rw [q]; exact Heap.lt_size q1
      · rw [q]; exact Heap.lt_size q2
      · rw [q]; exact Heap.lt_size q3
      · rw [q]; exact Heap.lt_size e1
      · rw [q]; exact Heap.lt_size e2
    rw [upd_ne (show b ≠ T from fun e => absurd hT (by rw [← e]; exact Nat.not_le.mpr hlb))]
    exact (hf b hb).1
  done := by
    intro X hP hw hK hc i pins s σ H E I hf st hg
    subst hP hw hK
    have W := walkS (prog := X.prog) (w := X.w) (A := X.A) (I.ok.hd hc) S x y t u
    have hg : i = min x.cps.size y.cps.size := hg
    subst hg
    refine W.done s _ _ st fun h' tk hk => ⟨rfl, ?_⟩
    refine I.turnedL (t' := tk) (ch := [z, TI, TO, i1, i2]) (fun b o hb e => hk b o (fun hb2 => hb ?_) e) hf
    have q : b = z ∨ b = TO ∨ b = i1 ∨ b = i2 := by simpa using hb2
    rcases q with q | q | q | q <;> simp [q]
  self := fun A i s Q E st h => wpAny_pyIter_zip st.1 h

abbrev g1 (h : Heap) (x : Str) (t : Tok) : Heap := h.push { cls := .type (strIterType x), data := .fields #[.str x t, .int 0 0] }
abbrev g3 (h : Heap) (x y : Str) (t u : Tok) : Heap := (g1 (g1 h x t) y u).push { cls := .type "tuple", data := .seq #[.ref h.objs.size, .ref (g1 h x t).objs.size] }
abbrev g4 (h : Heap) (x y : Str) (t u : Tok) : Heap := (g3 h x y t u).push { cls := .type "tuple", data := .seq #[.none, .none] }
abbrev g5 (h : Heap) (x y : Str) (t u : Tok) : Heap := (g4 h x y t u).push { cls := .type "zip", data := .fields #[.none, .bool false, .bool false, .ref (g1 (g1 h x t) y u).objs.size, .ref (g3 h x y t u).objs.size] }
theorem meets_zipS (x y : Str) (t u : Tok) :
    Meets (Builtin.«zip.__new__» ⟨[.type "zip", .str x t, .str y u], []⟩) (fun _ R s => R (.ok (.ret (.ref (g4 s.heap x y t u).objs.size))) { s with heap := g5 s.heap x y t u }) :=
  .of_wp fun prog w A R s h => by
    obtain ⟨hp, gg, d, tk, os⟩ := s
    have hsub := sub_zip
    wp_walk using wpAny_pyIter_strU
    exact ⟨_, rfl, h⟩
theorem call_zipS {prog : Program} {w : World} {A : Around} {E : Value → Shared → Prop} {s : Shared} {x y : Str} {t u : Tok} {Q : Value → Shared → Prop}
    (h : ∀ h', StZ x y t u (s.heap.objs.size + 4) (s.heap.objs.size + 2) (s.heap.objs.size + 3) s.heap.objs.size (s.heap.objs.size + 1) 0 h' → (∀ c o, s.heap.get? c = some o → h'.get? c = some o) → Q (.ref (s.heap.objs.size + 4)) { s with heap := h' }) :
    wpAny (model prog w) A (call (.type "zip") [.str x t, .str y u]) Q E s := by
  refine callType_new F.called_zip (by decide) (F.typeCall_zip_2 _ _) (F.newCall_zip_2 _ _) (fun obj => F.args_object_init_3 obj _ _) F.entry_zip_new (meets_zipS x y t u) ?_
  have n1 : (g1 s.heap x t).objs.size = s.heap.objs.size + 1 := Heap.size_push ..
  have n2 : (g1 (g1 s.heap x t) y u).objs.size = s.heap.objs.size + 2 := by rw [Heap.size_push, n1]
  have n3 : (g3 s.heap x y t u).objs.size = s.heap.objs.size + 3 := by rw [Heap.size_push, n2]
  have n4 : (g4 s.heap x y t u).objs.size = s.heap.objs.size + 4 := by rw [Heap.size_push, n3]
  have k5 : (g5 s.heap x y t u).get? (g4 s.heap x y t u).objs.size = some _ := Heap.get?_push_size _ rfl
  have k4 : (g5 s.heap x y t u).get? (g3 s.heap x y t u).objs.size = some _ := Heap.get?_push_of_some _ (Heap.get?_push_size _ rfl)
  have k3 : (g5 s.heap x y t u).get? (g1 (g1 s.heap x t) y u).objs.size = some _ := Heap.get?_push_of_some _ (Heap.get?_push_of_some _ (Heap.get?_push_size _ rfl))
  have k2 : (g5 s.heap x y t u).get? (g1 s.heap x t).objs.size = some _ := Heap.get?_push_of_some _ (Heap.get?_push_of_some _ (Heap.get?_push_of_some _ (Heap.get?_push_size _ rfl)))
  have k1 : (g5 s.heap x y t u).get? s.heap.objs.size = some _ := Heap.get?_push_of_some _ (Heap.get?_push_of_some _ (Heap.get?_push_of_some _ (Heap.get?_push_of_some _ (Heap.get?_push_size _ rfl))))
  show _ ∧ _
  rw [n2, n3, n4] at k5
  rw [n1, n2] at k3
  rw [n3] at k4
  rw [n1] at k2
  rw [n4]
  exact ⟨⟨_, k5, rfl⟩, h _ ⟨k5, k3, ⟨_, _, k4⟩, ⟨_, k1, rfl, rfl⟩, ⟨_, k2, rfl, rfl⟩⟩ fun c o e =>
    Heap.get?_push_of_some _ (Heap.get?_push_of_some _ (Heap.get?_push_of_some _ (Heap.get?_push_of_some _ (Heap.get?_push_of_some _ e))))⟩
theorem sepS (n : Nat) : ZipSep2 (n + 4) (n + 2) (n + 3) n (n + 1) [n] [n + 1] := by
  constructor <;> first | omega | (simp <;> omega) | simp
def iZipS (ta : TA) : TI := fun σ H R => ta σ H fun vs H1 => ∃ x y, vs = [.str x, .str y] ∧ R (ItzS x y) H1
theorem pi_zipS {X : Cx} {e e2 : Expr} {ta : TA} {p pos tpos : Pos} {elts : List Expr} {kk : Nat} (hg : Gl X "zip") (hm : X.mg "zip" = none) (ha : PA X [e, e2] ta)
    (hs : starEach [e, e2] X.env = (false, eval e X.env) :: starEach [e2] X.env := by rfl) (hpl : (backTo pos (starEach [e2] X.env)).any (·.1) = false := by rfl) :
    PI X (.Tuple elts kk tpos) (.Call (.Name "zip" p) [e, e2] [] pos) (iZipS ta) := by
  refine ⟨fun pins s σ H R I h => ?_⟩
  refine Call_ (ld_blt I hg hm boot_zip (callWith_type1 (thn (ha.run pos pins s σ H _ I h) fun us s1 ⟨vs, H1, I1, r1, q1⟩ => ?_) hs hpl))
  obtain ⟨x, y, ex, q⟩ := q1
  subst ex
  cases r1 with
  | cons r rr =>
    cases rr with
    | cons r' rr =>
      cases rr
      obtain ⟨t, rfl⟩ := r
      obtain ⟨u, rfl⟩ := r'
      refine call_zipS fun h' st hk => wpAny_pyIter_zip st.1 ?_
      have I2 : Inv X pins σ H1 { s1 with heap := h' } := I1.kept (t' := s1.toks) hk
      refine ⟨s1.heap.objs.size + 4, _, _, _, H1, rfl, I2, turn_zipS (sepS _) x y t u, st, fun c hcm => ?_, q⟩
      have hle : s1.heap.objs.size ≤ c := by
        rcases fp5 hcm with z | z | z | z | z <;> rw [z] <;> first | exact Nat.le_add_right _ _ | exact Nat.le_refl _
      exact I1.fpOk hle (I1.hok.fresh hle)
/-- a comprehension over it -/
theorem lc_zipS {x y : Str} {g : TG} {tt : TT} {te : TE} {vs : List Nat} {σ : L2.St} {H1 : Hp} {D : Addr} {Qd : Hp → Prop} (Pv : Nat → Hp → Prop) (h0 : Pv 0 (upd H1 D (.lst [])))
    (hs : ∀ i c d T H, x.cps[i]? = some c → y.cps[i]? = some d → Pv i H → H T = none → g (.ref T) (wipe σ vs) (upd H T (.tup [.str ⟨#[c]⟩, .str ⟨#[d]⟩])) fun σ2 H2 => wipe σ2 vs = wipe σ vs ∧ tt σ2 H2 fun b H3 =>
      if b = true then te σ2 H3 fun z H4 => ∃ acc, H4 D = some (.lst acc) ∧ acc.length < sizeLine ∧ Pv (i + 1) (upd H4 D (.lst (acc ++ [z]))) else Pv (i + 1) H3) (hd : ∀ H, Pv (min x.cps.size y.cps.size) H → Qd H) :
    ∃ W : Nat → Nat → Hp → Prop, (∃ m, W 0 m (upd H1 D (.lst []))) ∧ ∀ i m H, W i m H →
      ((ItzS x y).stop i H ∧ Qd H) ∨ ((ItzS x y).go i H ∧ ∃ Nx : Hp → Prop, (∀ H', Nx H' → ∃ m', m' < m ∧ W (i + 1) m' H') ∧ ∀ v H', (ItzS x y).yld i H v H' → g v (wipe σ vs) H' fun σ2 H2 => wipe σ2 vs = wipe σ vs ∧ tt σ2 H2 fun b H3 =>
        if b = true then te σ2 H3 fun z H4 => ∃ acc, H4 D = some (.lst acc) ∧ acc.length < sizeLine ∧ Nx (upd H4 D (.lst (acc ++ [z]))) else Nx H3) := by
  refine ⟨fun i m H => i + m = min x.cps.size y.cps.size ∧ Pv i H, ⟨_, Nat.zero_add _, h0⟩, ?_⟩
  rintro i m H ⟨e, p⟩
  by_cases hm : m = 0
  · have e2 : i = min x.cps.size y.cps.size := by omega
    refine .inl ⟨e2, hd H ?_⟩
    rw [← e2]
    exact p
  · refine .inr ⟨⟨by omega, by omega⟩, Pv (i + 1), fun H' p' => ⟨m - 1, by omega, by omega, p'⟩, ?_⟩
    rintro v H' ⟨T, c, d, rfl, hT, rfl, hc, hd'⟩
    exact hs i c d T H hc hd' p hT
theorem op_mulS {X : Cx} : OpR X (binaryOp .Mult) (fun x y H Q => ∃ z n, x = .str z ∧ y = .int n ∧ MulOk z n ∧ Q (.str (Txt.mul z n)) H) := by
  intro pins s σ H x y v u Q I rx ry h
  obtain ⟨z, n, rfl, rfl, hz, q⟩ := h
  obtain ⟨t, rfl⟩ := rx
  obtain ⟨t', rfl⟩ := ry
  exact SB.mul hz (fun t' tk => ⟨.str (Txt.mul z n), H, I.tok _, ⟨_, rfl⟩, q⟩)
end ZS

namespace ST
open PySem PySem.Spec PyProof.Rows L2
/-- how many different ones the first i of a list are -/
def dct (xs : List Str) : Nat → Nat
  | 0 => 0
  | i + 1 => if (xs.take i).any (· == xs.getD i Str.empty) = true then dct xs i else dct xs i + 1
theorem dct_le (xs : List Str) : ∀ i, dct xs i ≤ i
  | 0 => Nat.le_refl _
  | i + 1 => by
    have := dct_le xs i
    unfold dct
    split <;> omega
theorem any_next {xs : List Str} {i : Nat} (hi : i < xs.length) (k : Str) : (xs.take (i + 1)).any (· == k) = ((xs.take i).any (· == k) || decide (k = xs.getD i Str.empty)) := by
  rw [List.take_add_one, List.any_append, List.getElem?_eq_getElem hi, List.getD_eq_getElem?_getD, List.getElem?_eq_getElem hi]
  refine congrArg (fun b => (xs.take i).any (· == k) || b) ?_
  show (xs[i] == k || false) = decide (k = xs[i])
  rw [Bool.or_false]
  by_cases e : k = xs[i]
  · rw [decide_eq_true e, ← e]
    simp
  · rw [decide_eq_false e]
    simpa using fun q : xs[i] = k => e q.symm
section
variable {prog : Program} {w : World} {A : Around} {R : Result → Shared → Prop} {It : Addr} {fp wr : List Addr} {Gn : Array GenState → Array GenState → Prop} {n : Nat} {P : Nat → Value → Prop} {St : Nat → Shared → Prop}
theorem fill (W : WalksS prog w A.in1 It fp wr Gn n P St) (a : Addr) (haf : a ∉ fp) (xs : List Str) (hx : xs.length = n) (hn : n + 1 < scanBound) (hv : ∀ i v, P i v → ∃ t, v = .str (xs.getD i Str.empty) t) :
    ∀ (k i : Nat) (s : Shared), n - i = k → i ≤ n → St i s → s.heap.SetOf (PySem.strKind prog w) a (fun z => (xs.take i).any (· == z)) (dct xs i) →
      (∀ s', Moved (a :: wr) Gn s s' → s'.heap.SetOf (PySem.strKind prog w) a (fun z => (xs.take n).any (· == z)) (dct xs n) → R (.ok (.ret .none)) s') →
      codeAny (model prog w) A (.builtin "set.update.loop" ⟨[.ref a, .ref It], []⟩) R s := by
  have haw : a ∉ wr := fun q => haf (W.sub _ q)
  have up : ∀ b ∈ wr, b ∈ a :: wr := fun b q => List.mem_cons_of_mem _ q
  intro k
  induction k with
  | zero =>
    intro i s hk hi hst hset hR
    obtain rfl : i = n := by omega
    refine codeAny_builtin F.entry_set_update_loop ?_
    rw [Around.under_plainId F.plain_set_update_loop _]
    refine wpAny_bind (W.done s _ _ hst fun s' mv => wpAny_pure (hR s' (mv.mono up) ?_))
    obtain ⟨o, es, ep, tb, ho, rest⟩ := hset
    exact ⟨o, es, ep, tb, mv.heap a _ haw ho, rest⟩
  | succ k ih =>
    intro i s hk hi hst hset hR
    have hlt : i < n := by omega
    refine codeAny_builtin F.entry_set_update_loop ?_
    rw [Around.under_plainId F.plain_set_update_loop _]
    refine wpAny_bind (W.item i s _ _ hlt hst fun v s1 hp st1 mv => ?_)
    obtain ⟨t, rfl⟩ := hv i v hp
    have set1 : s1.heap.SetOf (PySem.strKind prog w) a (fun z => (xs.take i).any (· == z)) (dct xs i) := by
      obtain ⟨o, es, ep, tb, ho, rest⟩ := hset
      exact ⟨o, es, ep, tb, mv.heap a _ haw ho, rest⟩
    refine wpAny_bind (wpAny_holding ?_)
    unfold setAdd
    refine wpAny_holding (wpAny_bind ((PySem.strKind prog w).pyHash (k := xs.getD i Str.empty) (strKind_is _ _ _ _) ?_))
    have room : dct xs i + 1 < scanBound := by
      have := dct_le xs i
      omega
    refine wpAny_setAddHashed_of (knd := PySem.strKind prog w) (s := { s1 with toks := s1.toks + 1 }) (strKind_is _ _ _ _) rfl set1 room fun h2 sb set2 => ?_
    have set3 : h2.SetOf (PySem.strKind prog w) a (fun z => (xs.take (i + 1)).any (· == z)) (dct xs (i + 1)) :=
      SetOf_congr set2 (fun z => (any_next (by omega) z).symm) (by
        show dct xs (i + 1) = _
        unfold dct
        rfl)
    refine wpAny_pure ⟨plainId_quiet F.plain_set_update_loop _, ih (i + 1) _ (by omega) hlt (W.frame _ s1 _ _ st1 (Nat.le_succ _) fun b hb o e => ?_) set3 fun s2 mv2 hS2 => ?_⟩
    · rw [sb.2 b (fun q : b = a => haf (by rw [← q]; exact hb))]
      exact e
    · refine hR s2 (Moved.trans W.gtrans ((mv.mono up).then_heap (Nat.le_succ _) fun b o hb e => ?_) mv2) hS2
      rw [sb.2 b (fun q : b = a => hb (by rw [q]; exact List.mem_cons_self))]
      exact e
end
theorem walkStr {prog : Program} {w : World} {A : Around} (hh : A.handled = none) (it : Addr) (x : Str) (t : Tok) :
    Walks prog w A it [it] [it] x.cps.size (SignAt x) (fun i h => h.IsStrIter it (strIterType x) x t i) := by
  unfold strIterType
  cases x.cps.all (· < 128)
  · exact Walks.strWide hh it x t
  · exact Walks.strAscii hh it x t
def signsOf (x : Str) : List Str := x.cps.toList.map fun c => ⟨#[c]⟩
theorem signsOf_len (x : Str) : (signsOf x).length = x.cps.size := by simp [signsOf]
section
variable {prog : Program} {w : World} {A : Around} {E : Value → Shared → Prop} {s : Shared}
theorem call_set_text {x : Str} {t : Tok} {Q : Value → Shared → Prop} (hh : A.handled = none) (hn : x.cps.size + 1 < scanBound)
    (h : ∀ (h' : Heap) (tk : Nat), h'.SetOf (PySem.strKind prog w) s.heap.objs.size (fun z => ((signsOf x).take x.cps.size).any (· == z)) (dct (signsOf x) x.cps.size) →
      (∀ b o, b < s.heap.objs.size → s.heap.get? b = some o → h'.get? b = some o) → Q (.ref s.heap.objs.size) { s with heap := h', toks := tk }) :
    wpAny (model prog w) A (call (.type "set") [.str x t]) Q E s := by
  obtain ⟨c, tl, hmro⟩ := PySem.F.called_set.mro
  have hmade := PySem.F.called_set.made
  have hsub := PySem.F.called_set.sub
  refine wpAny_call (codeAny_of_tree ?_)
  show wpAny _ _ (callAny (.type "set") _) _ _ _
  refine wpAny_pure ⟨Code.quiet_builtin _ (by decide +kernel), codeAny_builtin PySem.F.entry_type_call ?_⟩
  rw [Around.under_plain (weight_type_call_type "set" [.str x t] []) rfl]
  have x1 := PySem.F.called_set.notType
  have x2 := PySem.F.called_set.canCreate
  have x3 := PySem.F.typeCall_set_1 (.str x t)
  repeat (any_goals (first | assumption | wp_step))
  refine codeAny_mono (code_set_new_1 (.str x t) (E := E) (Q₁ := fun obj s₁ => ∃ led : Bool, obj = .ref s.heap.objs.size ∧ s₁ = { s with heap := s.heap.push { cls := .type "set", dict := none, data := .set #[] 0 (.fresh 0 0 led) } }) fun led => ⟨led, rfl, rfl⟩) fun r s₁ hr => ?_
  cases r with
  | error e => exact hr
  | ok fl =>
    cases fl with
    | ret obj =>
      obtain ⟨led, rfl, rfl⟩ := hr
      obtain ⟨hp, hhp⟩ : ∃ hp, s.heap.push { cls := .type "set", dict := none, data := .set #[] 0 (.fresh 0 0 led) } = hp := ⟨_, rfl⟩
      have y1 : hp.get? s.heap.objs.size = some { cls := .type "set", dict := none, data := .set #[] 0 (.fresh 0 0 led) } := by
        rw [← hhp]
        exact Heap.get?_push_size _ rfl
      have y2 : hp.objs.size = s.heap.objs.size + 1 := by
        rw [← hhp]
        exact Heap.size_push ..
      have y3 : ∀ b o, s.heap.get? b = some o → hp.get? b = some o := fun b o e => by
        rw [← hhp]
        exact Heap.get?_push_of_some _ e
      rw [hhp]
      have hT : Shared.TypeIs { s with heap := hp } (.ref s.heap.objs.size) "set" := ⟨_, y1, rfl⟩
      have y4 := PySem.F.called_set.init.lookup
      have y5 := PySem.F.called_set.init.bind (.ref s.heap.objs.size)
      repeat (any_goals (first | assumption | wp_step))
      refine codeAny_mono (codeAny_call_builtin (R := wants (fun r s₂ => r = .none ∧ ∃ h' tk, s₂ = { s with heap := h', toks := tk } ∧
          h'.SetOf (PySem.strKind prog w) s.heap.objs.size (fun z => ((signsOf x).take x.cps.size).any (· == z)) (dct (signsOf x) x.cps.size) ∧
          (∀ b o, b < s.heap.objs.size → s.heap.get? b = some o → h'.get? b = some o)) E) PySem.F.called_set.init.plain PySem.F.entry_set_init (check_set_init_1 hT ?_)) fun r₂ s₂ hr₂ => ?_
      · have sb1 := PySem.F.sub_str_set
        have sb2 := PySem.F.sub_str_frozenset
        have sb3 : (Value.type "str" == Value.type "dict") = false := by decide
        unfold Builtin.«set.__init__» noKeywords Builtin.Frozenset.updateFrom
        generalize hPI : pyIter = PI
        wp_walk
        subst hPI
        refine wpAny_pyIter_strU ?_
        refine wpAny_bind (wpAny_runValue ?_)
        have hh3 : A.in1.in1.in1.handled = none := by simp [hh]
        have z1 : s.heap.objs.size ∉ [hp.objs.size] := by
          rw [y2]
          simp
        refine fill ((walkStr hh3 _ x t).toS) s.heap.objs.size z1 (signsOf x) (signsOf_len x) hn ?_ (x.cps.size - 0) 0 _ (by omega) (Nat.zero_le _)
          ⟨_, Heap.get?_push_size _ rfl, rfl, rfl⟩ ?_ ?_
        · rintro i v ⟨c, u, hc, rfl⟩
          refine ⟨u, ?_⟩
          unfold signsOf
          rw [List.getD_eq_getElem?_getD, List.getElem?_map, Array.getElem?_toList, hc]
          rfl
        · have z2 : (hp.push { cls := .type (strIterType x), data := .fields #[.str x t, .int 0 0] }).get? s.heap.objs.size = some { cls := .type "set", dict := none, data := .set #[] 0 (.fresh 0 0 led) } := Heap.get?_push_of_some _ y1
          exact SetOf_congr ((setObjOf_fresh (knd := PySem.strKind prog w) led).setOf z2 (by unfold scanBound; omega)) (fun _ => rfl) rfl
        · intro s' mv hS'
          obtain ⟨h', g', d', tk', os'⟩ := s'
          obtain rfl : g' = s.gens := mv.gens
          obtain rfl : d' = s.drawn := mv.drawn
          obtain rfl : os' = s.os := mv.os
          refine wpAny_pure ?_
          show wpAny _ _ (ret Value.none) _ _ _
          refine wpAny_pure ⟨rfl, h', tk', rfl, hS', fun b o hb e => ?_⟩
          refine mv.heap b o ?_ (Heap.get?_push_of_some _ (y3 b o e))
          rw [y2]
          simp only [List.mem_cons, List.not_mem_nil, or_false, not_or]
          exact ⟨Nat.ne_of_lt hb, Nat.ne_of_lt (Nat.lt_succ_of_lt hb)⟩
      · cases r₂ with
        | error e => exact hr₂
        | ok fl₂ =>
          cases fl₂ with
          | ret r =>
            obtain ⟨rfl, h', tk, rfl, hS', hk'⟩ := hr₂
            repeat (any_goals (first | assumption | wp_step))
            exact h _ _ hS' hk'
          | _ => exact hr₂.elim
    | _ => exact hr.elim
end
end ST

namespace EN
open PySem PySem.Spec PyProof.Rows L2
/-! ### len(set(text)) -/
def tLenSetS (ta : TE) : TE := fun σ H Q => ta σ H fun x H1 => ∃ z : Str, x = .str z ∧ z.cps.size < 1000 ∧ Q (.int (ST.dct (ST.signsOf z) z.cps.size)) H1
theorem pe_lenSetS {X : Cx} {a : Expr} {ta : TE} {p p2 q pos : Pos} (hc : X.calm = true) (hg : Gl X "len") (hm : X.mg "len" = none) (hg2 : Gl X "set") (hm2 : X.mg "set" = none) (ha : PE X a ta)
    (na : starEach [a] X.env = (false, eval a X.env) :: starEach [] X.env := by rfl) : PE X (.Call (.Name "len" p) [.Call (.Name "set" p2) [a] [] q] [] pos) (tLenSetS ta) := by
  refine ⟨fun pins s σ H Q I h => Call_ (ld_blt I hg hm PySem.boot_len (callWith_builtin1 (args_cons (Call_ (ld_blt I hg2 hm2 boot_set ?_)) rfl) rfl rfl))⟩
  refine callWith_type1 (args_cons (thn (ha.run pins s σ H _ I h) fun v s1 ⟨x, H1, I1, r1, z, ex, hz, q1⟩ => args_nil ?_) na) na rfl
  subst ex
  obtain ⟨t, rfl⟩ := r1
  refine ST.call_set_text (I1.ok.hd hc) (by unfold scanBound; omega) fun h' tk hS hk => args_nil ?_
  obtain ⟨o, es, ep, t, ho, hex, hd, _, _, _, hf, hn⟩ := hS
  have I2 : Inv X pins σ H1 { s1 with heap := h', toks := tk } := I1.kept fun b o e => hk b o (Heap.lt_size e) e
  have hd2 := ST.dct_le (ST.signsOf z) z.cps.size
  exact call_len_set ho hex hd hf (by rw [hn]; omega) ⟨.int _, H1, I2.tok _, ⟨_, by rw [hn]⟩, q1⟩

/-! ### enumerate over a text, over a tuple -/
def ItS (x : Str) : It := ⟨fun i _ => i < x.cps.size,
  fun i H v H' => ∃ T c, v = .ref T ∧ H T = none ∧ H' = upd H T (.tup [.int (i : Nat), .str ⟨#[c]⟩]) ∧ x.cps[i]? = some c, fun i _ => i = x.cps.size⟩
def ItT (K : PySem.W.Frag) (a : Addr) : It := ⟨fun i H => ∃ (xs : List V) (x : V), SqT K H a xs ∧ xs[i]? = some x,
  fun i H v H' => ∃ T x, v = .ref T ∧ H T = none ∧ H' = upd H T (.tup [.int (i : Nat), x]) ∧ ∀ xs, SqT K H a xs → xs[i]? = some x, fun i H => ∃ xs : List V, SqT K H a xs ∧ i = xs.length⟩
theorem two {e it b : Addr} (h : b ∈ [e, it]) : b = e ∨ b = it := by simpa using h
theorem obj_of {h : Heap} {e it : Addr} {i : Int} {old : Value} (he : IsEnum h e it i old) {o : Obj} (ho : h.get? it = some o) {vs : Array Value} (hd : o.data = .fields vs) : ∀ b ∈ [e, it], ∃ o, h.get? b = some o ∧ ∀ v, o.data ≠ .cell v := fun b hb => by
  rcases two hb with z | z
  · rw [z]; exact ⟨_, he, fun v q => nomatch q⟩
  · rw [z]; exact ⟨o, ho, fun v q => by rw [hd] at q; cases q⟩
theorem turn_enumS {P : Program} {w : World} {K : PySem.W.Frag} {elts : List Expr} {kk : Nat} {tpos : Pos} (x : Str) (t : Tok) (e it : Addr) :
    Turn P w K (.Tuple elts kk tpos) (ItS x) [e, it] e (fun i h => (∃ old, IsEnum h e it ((i : Nat) : Int) old) ∧ h.IsStrIter it (strIterType x) x t i ∧ e ≠ it) where
  mem := List.mem_cons_self
  obj := fun i h st b hb => by
    obtain ⟨⟨old, he⟩, ⟨o, ho, _, hd⟩, _⟩ := st
    exact obj_of he ho hd b hb
  keep := fun i h h' st k => by
    obtain ⟨⟨old, he⟩, ⟨o, ho, r⟩, hne⟩ := st
    exact ⟨⟨old, k e (by simp) _ he⟩, ⟨o, k it (by simp) _ ho, r⟩, hne⟩
  item := by
    intro X hP hw hK hc i pins s σ H E I hf st hg
    subst hP hw hK
    obtain ⟨⟨old, he⟩, hit, hne⟩ := st
    have D := ZS.drawsS (prog := X.prog) (w := X.w) (A := X.A.in1) (I.ok.hd hc) it x t
    have l1 : e < s.heap.objs.size := Heap.lt_size he
    have l2 : it < s.heap.objs.size := by obtain ⟨_, q, _⟩ := hit; exact Heap.lt_size q
    refine wpAny_pyNext_enum_itemD D he hit hg hne (by simpa using hne) fun v h' tk hv ho hit' hT hsz hk => ?_
    obtain ⟨c, u, hcx, rfl⟩ := hv
    refine ⟨_, rfl, wpAny_letOwnedTupleGo_enum (s := { s with heap := h', toks := tk + 1 }) ho fun h2 he2 sb => ?_⟩
    have hT2 : h2.get? s.heap.objs.size = some { cls := .type "tuple", data := .seq #[.int i tk, .str ⟨#[c]⟩ u] } := (sb.2 _ (Nat.ne_of_gt l1)).trans hT
    have new : ObjOk X.prog X.w (upd H s.heap.objs.size (.tup [.int (i : Nat), .str ⟨#[c]⟩])) h2 s.heap.objs.size (.tup [.int (i : Nat), .str ⟨#[c]⟩]) :=
      ⟨by show 2 ≤ sizeLine; decide, [.int i tk, .str ⟨#[c]⟩ u], .cons ⟨_, rfl⟩ (.cons ⟨u, rfl⟩ .nil), ⟨_, hT2, rfl, _, rfl⟩⟩
    have I1 := I.turnedNew (t' := tk + 1) (ch := [e, it]) (fun b ob hb q => (sb.2 b (fun z => hb (by simp [z]))).trans (hk b ob (fun z => hb (by simp [z])) (fun z => hb (by simp [z])) q)) hf (Nat.le_refl _) new
    refine ⟨.ref s.heap.objs.size, _, I1, rfl, ⟨_, c, rfl, I.hok.fresh (Nat.le_refl _), rfl, hcx⟩, ⟨⟨.str ⟨#[c]⟩ u, ?_⟩, ?_, hne⟩, fun b hb => ?_⟩
    · rw [show ((i + 1 : Nat) : Int) = (i : Int) + 1 by omega]
      exact he2
    · obtain ⟨o, q, r⟩ := hit'
      exact ⟨o, (sb.2 it (Ne.symm hne)).trans q, r⟩
    · rw [upd_ne (show b ≠ s.heap.objs.size from fun q => by
        rcases two hb with z | z
        · rw [← q, z] at l1; exact Nat.lt_irrefl _ l1
        · rw [← q, z] at l2; exact Nat.lt_irrefl _ l2)]
      exact (hf b hb).1
  done := by
    intro X hP hw hK hc i pins s σ H E I hf st hg
    subst hP hw hK
    obtain ⟨⟨old, he⟩, hit, hne⟩ := st
    have hg : i = x.cps.size := hg
    subst hg
    have D := ZS.drawsS (prog := X.prog) (w := X.w) (A := X.A.in1) (I.ok.hd hc) it x t
    refine wpAny_pyNext_enum_endD D he hit fun h' eb => ⟨rfl, I.turnedL (t' := s.toks) (ch := [e, it]) (fun b o hb q => eb b o (fun z => hb (by simp [z])) q) hf⟩
  self := fun A i s Q E st h => by
    obtain ⟨⟨_, he⟩, _⟩ := st
    exact wpAny_pyIter_enum he h
theorem turn_enumT {P : Program} {w : World} {K : PySem.W.Frag} {elts : List Expr} {kk : Nat} {tpos : Pos} (a e it : Addr) :
    Turn P w K (.Tuple elts kk tpos) (ItT K a) [e, it] e (fun i h => (∃ old, IsEnum h e it ((i : Nat) : Int) old) ∧ h.IsTupleIter it a i ∧ e ≠ it ∧ a ≠ it ∧ a ≠ e) where
  mem := List.mem_cons_self
  obj := fun i h st b hb => by
    obtain ⟨⟨old, he⟩, ⟨o, ho, _, hd⟩, _⟩ := st
    exact obj_of he ho hd b hb
  keep := fun i h h' st k => by
    obtain ⟨⟨old, he⟩, ⟨o, ho, r⟩, hne⟩ := st
    exact ⟨⟨old, k e (by simp) _ he⟩, ⟨o, k it (by simp) _ ho, r⟩, hne⟩
  item := by
    intro X hP hw hK hc i pins s σ H E I hf st hg
    subst hP hw hK
    obtain ⟨⟨old, he⟩, hit, hne, hai, hae⟩ := st
    obtain ⟨xs, x, hq, hx⟩ := hg
    obtain ⟨its, rv, p, hz⟩ := I.tuple hq
    obtain ⟨u, hu, ru⟩ := rv.get hx
    have hlt : i < its.toArray.size := by
      have := (List.getElem?_eq_some_iff.mp hu).1
      simpa using this
    have D := Draws.tuple (prog := X.prog) (w := X.w) (A := X.A.in1) (I.ok.hd hc) it a hai its.toArray
    have l1 : e < s.heap.objs.size := Heap.lt_size he
    have l2 : it < s.heap.objs.size := by obtain ⟨_, q, _⟩ := hit; exact Heap.lt_size q
    have hef : e ∉ [it, a] := by
      intro q
      rcases two q with z | z
      · exact hne z
      · exact hae z.symm
    refine wpAny_pyNext_enum_itemD D he ⟨hit, p⟩ hlt hne hef fun v h' tk hv ho hit' hT hsz hk => ?_
    obtain rfl : v = u := by
      have q : its.toArray[i]? = some v := hv
      rw [List.getElem?_toArray, hu] at q
      exact (Option.some.inj q).symm
    refine ⟨_, rfl, wpAny_letOwnedTupleGo_enum (s := { s with heap := h', toks := tk + 1 }) ho fun h2 he2 sb => ?_⟩
    have hT2 : h2.get? s.heap.objs.size = some { cls := .type "tuple", data := .seq #[.int i tk, v] } := (sb.2 _ (Nat.ne_of_gt l1)).trans hT
    have new : ObjOk X.prog X.w (upd H s.heap.objs.size (.tup [.int (i : Nat), x])) h2 s.heap.objs.size (.tup [.int (i : Nat), x]) :=
      ⟨by show 2 ≤ sizeLine; decide, [.int i tk, v], .cons ⟨_, rfl⟩ (.cons ru .nil), ⟨_, hT2, rfl, _, rfl⟩⟩
    have I1 := I.turnedNew (t' := tk + 1) (ch := [e, it]) (fun b ob hb q => (sb.2 b (fun z => hb (by simp [z]))).trans (hk b ob (fun z => hb (by simp [z])) (fun z => hb (by simp [z])) q)) hf (Nat.le_refl _) new
    refine ⟨.ref s.heap.objs.size, _, I1, rfl, ⟨_, x, rfl, I.hok.fresh (Nat.le_refl _), rfl, fun ys hy => by rw [I.tuple_inj hy hq]; exact hx⟩, ⟨⟨v, ?_⟩, ?_, hne, hai, hae⟩, fun b hb => ?_⟩
    · rw [show ((i + 1 : Nat) : Int) = (i : Int) + 1 by omega]
      exact he2
    · obtain ⟨o, q, r⟩ := hit'.1
      exact ⟨o, (sb.2 it (Ne.symm hne)).trans q, r⟩
    · rw [upd_ne (show b ≠ s.heap.objs.size from fun q => by
        rcases two hb with z | z
        · rw [← q, z] at l1; exact Nat.lt_irrefl _ l1
        · rw [← q, z] at l2; exact Nat.lt_irrefl _ l2)]
      exact (hf b hb).1
  done := by
    intro X hP hw hK hc i pins s σ H E I hf st hg
    subst hP hw hK
    obtain ⟨⟨old, he⟩, hit, hne, hai, hae⟩ := st
    obtain ⟨xs, hq, hx⟩ := hg
    obtain ⟨its, rv, p, hz⟩ := I.tuple hq
    have D := Draws.tuple (prog := X.prog) (w := X.w) (A := X.A.in1) (I.ok.hd hc) it a hai its.toArray
    have hl := rv.length
    have hn : i = its.toArray.size := by
      rw [List.size_toArray]
      omega
    subst hn
    refine wpAny_pyNext_enum_endD D he ⟨hit, p⟩ fun h' eb => ⟨rfl, I.turnedL (t' := s.toks) (ch := [e, it]) (fun b o hb q => eb b o (fun z => hb (by simp [z])) q) hf⟩
  self := fun A i s Q E st h => by
    obtain ⟨⟨_, he⟩, _⟩ := st
    exact wpAny_pyIter_enum he h
theorem meets_enumT (a : Addr) (xs : Array Value) :
    Meets (Builtin.«enumerate.__new__» ⟨[.type "enumerate", .ref a], []⟩) (fun _ R s => s.heap.IsTuple a xs ∧
      R (.ok (.ret (.ref (s.heap.push { cls := .type "tuple_iterator", data := .fields #[.ref a, .int 0 0] }).objs.size)))
        { s with heap := (s.heap.push { cls := .type "tuple_iterator", data := .fields #[.ref a, .int 0 0] }).push { cls := .type "enumerate", data := .fields #[.none, .bool false, .ref s.heap.objs.size, rawInt 0, .none, .none] } }) :=
  .of_wp fun prog w A R s h => by
    obtain ⟨hp, g, d, tk, os⟩ := s
    obtain ⟨hl, h⟩ := h
    have hsub := sub_enumerate
    have hL : Heap.IsTuple (Shared.heap ⟨hp, g, d, tk, os⟩) a xs := hl
    wp_walk
    refine wpAny_stack_any fun st => wpAny_pure ?_
    split
    · rename_i c _ _ _ _ _
      cases (c == Value.type "enumerate")
      all_goals
        wp_walk using wpAny_pyIter_tuple hL
        exact ⟨_, rfl, h⟩
    · wp_walk using wpAny_pyIter_tuple hL
      exact ⟨_, rfl, h⟩
section
variable {X : Cx}
def iEnumS (ta : TA) : TI := fun σ H R => ta σ H fun vs H1 => ∃ x, vs = [.str x] ∧ R (ItS x) H1
theorem pi_enumS {e : Expr} {ta : TA} {p pos tpos : Pos} {elts : List Expr} {kk : Nat} (hg : Gl X "enumerate") (hm : X.mg "enumerate" = none) (ha : PA X [e] ta) (hs : starEach [e] X.env = [(false, eval e X.env)] := by rfl) :
    PI X (.Tuple elts kk tpos) (.Call (.Name "enumerate" p) [e] [] pos) (iEnumS ta) := by
  refine ⟨fun pins s σ H R I h => Call_ (ld_blt I hg hm boot_enumerate (callWith_type1 (thn (ha.run pos pins s σ H _ I h) fun us s1 ⟨vs, H1, I1, r1, q1⟩ => ?_) hs rfl))⟩
  obtain ⟨x, ex, q⟩ := q1
  subst ex
  cases r1 with
  | cons r rr =>
    cases rr
    obtain ⟨t, rfl⟩ := r
    refine call_enumerate_str fun h' he hit hsz hk => wpAny_pyIter_enum he ?_
    refine ⟨s1.heap.objs.size + 1, _, _, _, H1, rfl, I1.kept (t' := s1.toks) hk, turn_enumS x t (s1.heap.objs.size + 1) s1.heap.objs.size, ⟨⟨.none, he⟩, hit, Nat.succ_ne_self _⟩, fun b hb => ?_, q⟩
    have hle : s1.heap.objs.size ≤ b := by
      rcases two hb with z | z <;> rw [z] <;> first | exact Nat.le_add_right _ _ | exact Nat.le_refl _
    exact I1.fpOk hle (I1.hok.fresh hle)
def iEnumT (K : PySem.W.Frag) (ta : TA) : TI := fun σ H R => ta σ H fun vs H1 => ∃ a xs, vs = [.ref a] ∧ SqT K H1 a xs ∧ R (ItT K a) H1
theorem pi_enumT {e : Expr} {ta : TA} {p pos tpos : Pos} {elts : List Expr} {kk : Nat} (hg : Gl X "enumerate") (hm : X.mg "enumerate" = none) (ha : PA X [e] ta) (hs : starEach [e] X.env = [(false, eval e X.env)] := by rfl) :
    PI X (.Tuple elts kk tpos) (.Call (.Name "enumerate" p) [e] [] pos) (iEnumT X.K ta) := by
  refine ⟨fun pins s σ H R I h => Call_ (ld_blt I hg hm boot_enumerate (callWith_type1 (thn (ha.run pos pins s σ H _ I h) fun us s1 ⟨vs, H1, I1, r1, q1⟩ => ?_) hs rfl))⟩
  obtain ⟨a, xs, ex, hq, q⟩ := q1
  subst ex
  cases r1 with
  | cons r rr =>
    cases rr
    cases r
    obtain ⟨its, rv, p', hz⟩ := I1.tuple hq
    obtain ⟨oa, hoa, _⟩ := id p'
    have la : a < s1.heap.objs.size := Heap.lt_size hoa
    refine callType_new F.called_enumerate (by decide) (F.typeCall_enumerate_1 _) (F.newCall_enumerate_1 _) (fun obj => F.args_object_init_2 obj _) F.entry_enumerate_new (meets_enumT a its.toArray) ⟨p', ?_⟩
    have hz : (s1.heap.push { cls := .type "tuple_iterator", data := .fields #[.ref a, .int 0 0] }).objs.size = s1.heap.objs.size + 1 := Heap.size_push ..
    show _ ∧ _
    rw [hz]
    have g1 := Heap.get?_push_size (s1.heap.push { cls := .type "tuple_iterator", data := .fields #[.ref a, .int 0 0] }) (o := { cls := .type "enumerate", data := .fields #[.none, .bool false, .ref s1.heap.objs.size, rawInt 0, .none, .none] }) rfl
    rw [hz] at g1
    have he : IsEnum ((s1.heap.push { cls := .type "tuple_iterator", data := .fields #[.ref a, .int 0 0] }).push { cls := .type "enumerate", data := .fields #[.none, .bool false, .ref s1.heap.objs.size, rawInt 0, .none, .none] }) (s1.heap.objs.size + 1) s1.heap.objs.size 0 .none := g1
    refine ⟨⟨_, he, rfl⟩, wpAny_pyIter_enum he ?_⟩
    refine ⟨s1.heap.objs.size + 1, _, _, _, H1, rfl, I1.kept (t' := s1.toks) fun b o e => Heap.get?_push_of_some _ (Heap.get?_push_of_some _ e), turn_enumT a (s1.heap.objs.size + 1) s1.heap.objs.size,
      ⟨⟨.none, he⟩, ⟨_, Heap.get?_push_of_some _ (Heap.get?_push_size _ rfl), rfl, rfl⟩, Nat.succ_ne_self _, Nat.ne_of_lt la, Nat.ne_of_lt (Nat.lt_succ_of_lt la)⟩, fun b hb => ?_, q⟩
    have hle : s1.heap.objs.size ≤ b := by
      rcases two hb with z | z <;> rw [z] <;> first | exact Nat.le_add_right _ _ | exact Nat.le_refl _
    exact I1.fpOk hle (I1.hok.fresh hle)
end
/-! ### loops over them -/
theorem for_enumS {x : Str} {g : TG} {tb : TS} {D : Ends} {σ : L2.St} {H : Hp} (Pv : Nat → L2.St → Hp → Prop) (h0 : Pv 0 σ H)
    (hs : ∀ (i c : Nat) (T : Addr) (σ : L2.St) (H : Hp), x.cps[i]? = some c → Pv i σ H → H T = none → g (.ref T) σ (upd H T (.tup [.int (i : Nat), .str ⟨#[c]⟩])) fun σ2 H2 => tb { D with nx := Pv (i + 1), ct := Pv (i + 1), bk := D.nx } σ2 H2)
    (hd : ∀ σ H, Pv x.cps.size σ H → D.nx σ H) :
    ∃ W : Nat → Nat → L2.St → Hp → Prop, (∃ m, W 0 m σ H) ∧ ∀ i m σ H, W i m σ H →
      ((ItS x).stop i H ∧ D.nx σ H) ∨ ((ItS x).go i H ∧ ∃ N : L2.St → Hp → Prop, (∀ σ' H', N σ' H' → ∃ m', m' < m ∧ W (i + 1) m' σ' H') ∧ ∀ v H', (ItS x).yld i H v H' → g v σ H' fun σ2 H2 => tb { D with nx := N, ct := N, bk := D.nx } σ2 H2) := by
  refine ⟨fun i m σ H => i + m = x.cps.size ∧ Pv i σ H, ⟨_, Nat.zero_add _, h0⟩, ?_⟩
  rintro i m σ H ⟨e, p⟩
  by_cases hm : m = 0
  · have e2 : i = x.cps.size := by omega
    refine .inl ⟨e2, hd σ H ?_⟩
    rw [← e2]
    exact p
  · refine .inr ⟨show i < x.cps.size by omega, Pv (i + 1), fun σ' H' p' => ⟨m - 1, by omega, by omega, p'⟩, ?_⟩
    rintro v H' ⟨T, c, rfl, hT, rfl, hc⟩
    exact hs i c T σ H hc p hT
theorem for_enumT {K : PySem.W.Frag} {a : Addr} {xs : List V} {g : TG} {tb : TS} {D : Ends} {σ : L2.St} {H : Hp} (Pv : Nat → L2.St → Hp → Prop) (h0 : Pv 0 σ H) (hq : ∀ i σ H, Pv i σ H → SqT K H a xs)
    (hs : ∀ (i : Nat) (x : V) (T : Addr) (σ : L2.St) (H : Hp), xs[i]? = some x → Pv i σ H → H T = none → g (.ref T) σ (upd H T (.tup [.int (i : Nat), x])) fun σ2 H2 => tb { D with nx := Pv (i + 1), ct := Pv (i + 1), bk := D.nx } σ2 H2)
    (hd : ∀ σ H, Pv xs.length σ H → D.nx σ H) :
    ∃ W : Nat → Nat → L2.St → Hp → Prop, (∃ m, W 0 m σ H) ∧ ∀ i m σ H, W i m σ H →
      ((ItT K a).stop i H ∧ D.nx σ H) ∨ ((ItT K a).go i H ∧ ∃ N : L2.St → Hp → Prop, (∀ σ' H', N σ' H' → ∃ m', m' < m ∧ W (i + 1) m' σ' H') ∧ ∀ v H', (ItT K a).yld i H v H' → g v σ H' fun σ2 H2 => tb { D with nx := N, ct := N, bk := D.nx } σ2 H2) := by
  refine ⟨fun i m σ H => i + m = xs.length ∧ Pv i σ H, ⟨_, Nat.zero_add _, h0⟩, ?_⟩
  rintro i m σ H ⟨e, p⟩
  by_cases hm : m = 0
  · have e2 : i = xs.length := by omega
    refine .inl ⟨⟨xs, hq i σ H p, e2⟩, hd σ H ?_⟩
    rw [← e2]
    exact p
  · have hi : i < xs.length := by omega
    refine .inr ⟨⟨xs, xs[i], hq i σ H p, List.getElem?_eq_getElem hi⟩, Pv (i + 1), fun σ' H' p' => ⟨m - 1, by omega, by omega, p'⟩, ?_⟩
    rintro v H' ⟨T, x, rfl, hT, rfl, hx⟩
    exact hs i x T σ H (hx xs (hq i σ H p)) p hT
theorem for_enumL {K : PySem.W.Frag} {a : Addr} {xs : List V} {g : TG} {tb : TS} {D : Ends} {σ : L2.St} {H : Hp} (Pv : Nat → L2.St → Hp → Prop) (h0 : Pv 0 σ H) (hq : ∀ i σ H, Pv i σ H → SqL K H a xs)
    (hs : ∀ (i : Nat) (x : V) (T : Addr) (σ : L2.St) (H : Hp), xs[i]? = some x → Pv i σ H → H T = none → g (.ref T) σ (upd H T (.tup [.int (i : Nat), x])) fun σ2 H2 => tb { D with nx := Pv (i + 1), ct := Pv (i + 1), bk := D.nx } σ2 H2)
    (hd : ∀ σ H, Pv xs.length σ H → D.nx σ H) :
    ∃ W : Nat → Nat → L2.St → Hp → Prop, (∃ m, W 0 m σ H) ∧ ∀ i m σ H, W i m σ H →
      ((Ite K a).stop i H ∧ D.nx σ H) ∨ ((Ite K a).go i H ∧ ∃ N : L2.St → Hp → Prop, (∀ σ' H', N σ' H' → ∃ m', m' < m ∧ W (i + 1) m' σ' H') ∧ ∀ v H', (Ite K a).yld i H v H' → g v σ H' fun σ2 H2 => tb { D with nx := N, ct := N, bk := D.nx } σ2 H2) := by
  refine ⟨fun i m σ H => i + m = xs.length ∧ Pv i σ H, ⟨_, Nat.zero_add _, h0⟩, ?_⟩
  rintro i m σ H ⟨e, p⟩
  by_cases hm : m = 0
  · have e2 : i = xs.length := by omega
    refine .inl ⟨⟨xs, hq i σ H p, by omega⟩, hd σ H ?_⟩
    rw [← e2]
    exact p
  · have hi : i < xs.length := by omega
    refine .inr ⟨⟨xs, xs[i], hq i σ H p, List.getElem?_eq_getElem hi⟩, Pv (i + 1), fun σ' H' p' => ⟨m - 1, by omega, by omega, p'⟩, ?_⟩
    rintro v H' ⟨T, x, rfl, hT, rfl, hx⟩
    exact hs i x T σ H (hx xs (hq i σ H p)) p hT
end EN

namespace TR
open PySem PySem.Spec PyProof.Rows L2 Evl
/-- a list or a tuple of these -/
def ob (k : Bool) (xs : List V) : HO := if k = true then .tup xs else .lst xs
theorem ob_seq {K : PySem.W.Frag} {H : Hp} {a : Addr} {k : Bool} {xs : List V} (h : H a = some (ob k xs)) : SqL K H a xs ∨ SqT K H a xs := by
  cases k
  · exact .inl (sq_of h)
  · exact .inr (st_of h)
theorem ob_list {K : PySem.W.Frag} {H : Hp} {a : Addr} {k : Bool} {xs : List V} (h : H a = some (ob k xs)) : TyX K H (.ref a) (if k = true then .type "tuple" else .type "list") := by
  cases k
  · exact .base (.lst h)
  · exact .base (.tup h)
theorem ob_ne {k : Bool} {xs : List V} {kvs : List (Key × V)} : ob k xs ≠ .dK kvs := by
  cases k <;> intro h <;> cases h
section
variable {X : Cx} {pos : Pos}
/-- a, b, .. = a list or a tuple of that length -/
def gSeq (K : PySem.W.Frag) (n : Nat) (t : TGs) : TG := fun v σ H Q => gUnl K n t v σ H Q ∨ gTup K n t v σ H Q
theorem pg_seq {es : List Expr} {k : Nat} {t : TGs} {n : Nat} (hc : X.calm = true) (h : PGs X es t)
    (hn : (assignEach es X.env).length = n := by rfl) (hst : (assignEach es X.env).findIdx? (·.1) = none := by rfl) : PG X (.Tuple es k pos) (gSeq X.K n t) := by
  refine ⟨fun pins s σ H v u Q I r hw => ?_⟩
  rcases hw with hw | hw
  · exact (pg_unl hc h hn hst).run pins s σ H v u Q I r hw
  · exact (pg_tup hc h hn hst).run pins s σ H v u Q I r hw
theorem gSeq_of {K : PySem.W.Frag} {n : Nat} {t : TGs} {H : Hp} {a : Addr} {k : Bool} {xs : List V} {σ : L2.St} {Q : L2.St → Hp → Prop} (h : H a = some (ob k xs)) (hl : xs.length = n) (q : t xs σ H Q) : gSeq K n t (.ref a) σ H Q := by
  cases k
  · exact .inl ⟨a, xs, rfl, sq_of h, hl, q⟩
  · exact .inr ⟨a, xs, rfl, st_of h, hl, q⟩
/-- a walk over either -/
def iSeq (K : PySem.W.Frag) (te : TE) : TI := fun σ H R => iList K te σ H R ∨ iTup K te σ H R
theorem pi_seq {tg e : Expr} {te : TE} (he : PE X e te) : PI X tg e (iSeq X.K te) := by
  refine ⟨fun pins s σ H R I h => ?_⟩
  rcases h with h | h
  · exact (pi_list he).run pins s σ H R I h
  · exact (pi_tup he).run pins s σ H R I h
def iEnumQ (K : PySem.W.Frag) (ta : TA) : TI := fun σ H R => iEnum K ta σ H R ∨ EN.iEnumT K ta σ H R
theorem pi_enumQ {e : Expr} {ta : TA} {p tpos : Pos} {elts : List Expr} {kk : Nat} (hg : Gl X "enumerate") (hm : X.mg "enumerate" = none) (ha : PA X [e] ta) (hs : starEach [e] X.env = [(false, eval e X.env)] := by rfl) :
    PI X (.Tuple elts kk tpos) (.Call (.Name "enumerate" p) [e] [] pos) (iEnumQ X.K ta) := by
  refine ⟨fun pins s σ H R I h => ?_⟩
  rcases h with h | h
  · exact (pi_enum hg hm ha hs).run pins s σ H R I h
  · exact (EN.pi_enumT hg hm ha hs).run pins s σ H R I h
theorem ix_at {K : PySem.W.Frag} {H : Hp} {a : Addr} {k : Bool} {xs : List V} {i : Int} {v : V} {Q : VK} (h : H a = some (ob k xs)) (hi : atI xs i = some v) (q : Q v H) : rIx K (.ref a) (.int i) H Q := by
  cases k
  · exact .inl ⟨a, xs, i, v, rfl, rfl, sq_of h, hi, q⟩
  · exact .inr (.inl ⟨a, xs, i, v, rfl, rfl, st_of h, hi, q⟩)
end
/-! ### trees -/
mutual
inductive Tr where
  | go (s q : Nat) : Tr
  | tell (n : Nat) (t : Tr) : Tr
  | read (p : Nat) (ts : Trs) : Tr
inductive Trs where
  | nil : Trs
  | cons (t : Tr) (r : Trs) : Trs
end
def Trs.list : Trs → List Tr
  | .nil => []
  | .cons t r => t :: r.list
mutual
def Tr.size : Tr → Nat
  | .go _ _ => 1
  | .tell _ t => t.size + 1
  | .read _ ts => ts.size + 1
def Trs.size : Trs → Nat
  | .nil => 0
  | .cons t r => t.size + r.size
end
mutual
def Tr.depth : Tr → Nat
  | .go _ _ => 1
  | .tell _ t => t.depth + 1
  | .read _ ts => ts.depth + 1
def Trs.depth : Trs → Nat
  | .nil => 0
  | .cons t r => max t.depth r.depth
end
/-! as described, for so many letters, this width, so many states -/
mutual
def Tr.ok (l w n : Nat) : Tr → Prop
  | .go s q => 1 ≤ s ∧ s ≤ w + 1 ∧ q < n
  | .tell k t => k ≤ 2 ∧ t.ok l w n
  | .read p ts => p ≤ w ∧ ts.list.length = l ∧ ts.ok l w n
def Trs.ok (l w n : Nat) : Trs → Prop
  | .nil => True
  | .cons t r => t.ok l w n ∧ r.ok l w n
end
/-- the trees within -/
def Tr.kids : Tr → List Tr
  | .go _ _ => []
  | .tell _ t => [t]
  | .read _ ts => ts.list
/-! how a tree stands in memory, of lists or of tuples -/
mutual
inductive TA (k : Bool) (H : Hp) : V → Tr → Prop
  | go {a : Addr} {s q : Nat} : H a = some (ob k [.str "go", .int (s : Nat), .int (q : Nat)]) → TA k H (.ref a) (.go s q)
  | tell {a : Addr} {n : Nat} {v : V} {t : Tr} : H a = some (ob k [.str "tell", .int (n : Nat), v]) → TA k H v t → TA k H (.ref a) (.tell n t)
  | read {a b : Addr} {p : Nat} {vs : List V} {ts : Trs} : H a = some (ob k [.str "read", .int (p : Nat), .ref b]) → H b = some (ob k vs) → TAs k H vs ts → TA k H (.ref a) (.read p ts)
inductive TAs (k : Bool) (H : Hp) : List V → Trs → Prop
  | nil : TAs k H [] .nil
  | cons {v : V} {vs : List V} {t : Tr} {r : Trs} : TA k H v t → TAs k H vs r → TAs k H (v :: vs) (.cons t r)
end
mutual
theorem TA.ex {k : Bool} {H H' : Hp} (e : Ex H H') : ∀ {t : Tr} {v : V}, TA k H v t → TA k H' v t
  | _, _, .go h => .go (e _ _ h)
  | _, _, .tell h r => .tell (e _ _ h) (TA.ex e r)
  | _, _, .read h1 h2 r => .read (e _ _ h1) (e _ _ h2) (TAs.ex e r)
theorem TAs.ex {k : Bool} {H H' : Hp} (e : Ex H H') : ∀ {ts : Trs} {vs : List V}, TAs k H vs ts → TAs k H' vs ts
  | _, _, .nil => .nil
  | _, _, .cons h r => .cons (TA.ex e h) (TAs.ex e r)
end
/-- a list of trees as it stands -/
inductive Kids (k : Bool) (H : Hp) : List V → List Tr → Prop
  | nil : Kids k H [] []
  | cons {v : V} {vs : List V} {t : Tr} {r : List Tr} : TA k H v t → Kids k H vs r → Kids k H (v :: vs) (t :: r)
theorem TAs.kids {k : Bool} {H : Hp} : ∀ {ts : Trs} {vs : List V}, TAs k H vs ts → Kids k H vs ts.list
  | _, _, .nil => .nil
  | _, _, .cons h r => .cons h r.kids
theorem Kids.ex {k : Bool} {H H' : Hp} (e : Ex H H') : ∀ {vs : List V} {ts : List Tr}, Kids k H vs ts → Kids k H' vs ts
  | _, _, .nil => .nil
  | _, _, .cons h r => .cons (h.ex e) (Kids.ex e r)
theorem Kids.len {k : Bool} {H : Hp} : ∀ {vs : List V} {ts : List Tr}, Kids k H vs ts → vs.length = ts.length
  | _, _, .nil => rfl
  | _, _, .cons _ r => by rw [List.length_cons, List.length_cons, r.len]
theorem Kids.get {k : Bool} {H : Hp} : ∀ {vs : List V} {ts : List Tr} {i : Nat} {x : V}, Kids k H vs ts → vs[i]? = some x → ∃ t, ts[i]? = some t ∧ TA k H x t
  | _, _, _, _, .nil, h => by cases h
  | _, _, 0, _, .cons (t := t) h1 _, h => ⟨t, rfl, by rw [← Option.some.inj h]; exact h1⟩
  | _, _, i + 1, _, .cons _ r, h => Kids.get (i := i) r h
theorem Kids.snoc {k : Bool} {H : Hp} {v : V} {t : Tr} (h : TA k H v t) : ∀ {vs : List V} {ts : List Tr}, Kids k H vs ts → Kids k H (vs ++ [v]) (ts ++ [t])
  | _, _, .nil => .cons h .nil
  | _, _, .cons h1 r => .cons h1 (Kids.snoc h r)
theorem Kids.app {k : Bool} {H : Hp} : ∀ {vs : List V} {ts : List Tr} {us : List V} {rs : List Tr}, Kids k H vs ts → Kids k H us rs → Kids k H (vs ++ us) (ts ++ rs)
  | _, _, _, _, .nil, h => h
  | _, _, _, _, .cons h r, h2 => .cons h (Kids.app r h2)
theorem size_pos : ∀ t : Tr, 1 ≤ t.size
  | .go _ _ => Nat.le_refl 1
  | .tell _ t => by
    show 1 ≤ t.size + 1
    omega
  | .read _ ts => by
    show 1 ≤ ts.size + 1
    omega
def total (ts : List Tr) : Nat := (ts.map Tr.size).sum
theorem Trs.total : ∀ ts : Trs, TR.total ts.list = ts.size
  | .nil => rfl
  | .cons t r => by
    show t.size + TR.total r.list = t.size + r.size
    rw [Trs.total r]
theorem size_kids : ∀ t : Tr, t.size = TR.total t.kids + 1
  | .go _ _ => rfl
  | .tell _ t => rfl
  | .read _ ts => by
    show ts.size + 1 = TR.total ts.list + 1
    rw [Trs.total]
theorem Trs.ok_mem {l w n : Nat} : ∀ {ts : Trs}, ts.ok l w n → ∀ t ∈ ts.list, t.ok l w n
  | .nil, _, _, h => nomatch h
  | .cons t r, h, x, hx => by
    rcases List.mem_cons.mp hx with q | q
    · rw [q]
      exact h.1
    · exact Trs.ok_mem h.2 x q
theorem ok_kids {l w n : Nat} : ∀ {t : Tr}, t.ok l w n → ∀ x ∈ t.kids, x.ok l w n
  | .go _ _, _, _, h => nomatch h
  | .tell _ t, h, x, hx => by
    rw [List.mem_singleton.mp hx]
    exact h.2
  | .read _ ts, h, x, hx => Trs.ok_mem h.2.2 x hx
theorem Trs.depth_mem : ∀ {ts : Trs}, ∀ t ∈ ts.list, t.depth ≤ ts.depth
  | .nil, _, h => nomatch h
  | .cons t r, x, hx => by
    rcases List.mem_cons.mp hx with q | q
    · rw [q]
      exact Nat.le_max_left _ _
    · exact Nat.le_trans (Trs.depth_mem x q) (Nat.le_max_right _ _)
theorem depth_kids : ∀ {t : Tr}, ∀ x ∈ t.kids, x.depth + 1 ≤ t.depth
  | .go _ _, _, h => nomatch h
  | .tell _ t, x, hx => by
    rw [List.mem_singleton.mp hx]
    exact Nat.le_refl _
  | .read _ ts, x, hx => Nat.succ_le_succ (Trs.depth_mem x hx)
end TR

namespace Law
open PySem PySem.Spec PyProof.Rows L2 Evl
def top (i : Nat) : Stmt := PySem.Challenge.pw_wordskips_k06_whole_least_searchers.main.body.getD i (.Pass ⟨0, 0, 0, 0⟩)
abbrev s_wall : Stmt := top 0
abbrev N_wall : List Str := ["k"]
theorem sc_wall : FnScope N_wall ["k"] (defScope s_wall) := ⟨rfl, rfl, rfl, by decide +kernel, rfl, by decide +kernel, by decide +kernel⟩
abbrev s_is_list : Stmt := top 2
abbrev N_is_list : List Str := ["value"]
theorem sc_is_list : FnScope N_is_list ["value"] (defScope s_is_list) := ⟨rfl, rfl, rfl, by decide +kernel, rfl, by decide +kernel, by decide +kernel⟩
abbrev s_is_integer : Stmt := top 3
abbrev N_is_integer : List Str := ["value"]
theorem sc_is_integer : FnScope N_is_integer ["value"] (defScope s_is_integer) := ⟨rfl, rfl, rfl, by decide +kernel, rfl, by decide +kernel, by decide +kernel⟩
abbrev s_is_whole : Stmt := top 4
abbrev N_is_whole : List Str := ["value", "low", "high"]
theorem sc_is_whole : FnScope N_is_whole ["value", "low", "high"] (defScope s_is_whole) := ⟨rfl, rfl, rfl, by decide +kernel, rfl, by decide +kernel, by decide +kernel⟩
abbrev s_are_letters : Stmt := top 5
abbrev N_are_letters : List Str := ["value", "sign"]
theorem sc_are_letters : FnScope N_are_letters ["value"] (defScope s_are_letters) := ⟨rfl, rfl, rfl, by decide +kernel, rfl, by decide +kernel, by decide +kernel⟩
abbrev s_wrong_sign : Stmt := top 6
abbrev N_wrong_sign : List Str := ["letters", "text", "place", "sign"]
theorem sc_wrong_sign : FnScope N_wrong_sign ["letters", "text"] (defScope s_wrong_sign) := ⟨rfl, rfl, rfl, by decide +kernel, rfl, by decide +kernel, by decide +kernel⟩
abbrev s_kept : Stmt := top 15
abbrev N_kept : List Str := ["value", "part", "key"]
theorem sc_kept : FnScope N_kept ["value"] (defScope s_kept) := ⟨rfl, rfl, rfl, by decide +kernel, rfl, by decide +kernel, by decide +kernel⟩
abbrev s_first_wrong : Stmt := top 18
abbrev N_first_wrong : List Str := ["tree", "letters", "width", "states", "waiting", "number", "part", "depth", "inner"]
theorem sc_first_wrong : FnScope N_first_wrong ["tree", "letters", "width", "states"] (defScope s_first_wrong) := ⟨rfl, rfl, rfl, by decide +kernel, rfl, by decide +kernel, by decide +kernel⟩
abbrev s_all_parts : Stmt := top 19
abbrev N_all_parts : List Str := ["tree", "waiting", "found", "part", "inner"]
theorem sc_all_parts : FnScope N_all_parts ["tree"] (defScope s_all_parts) := ⟨rfl, rfl, rfl, by decide +kernel, rfl, by decide +kernel, by decide +kernel⟩
abbrev s_renamed : Stmt := top 20
abbrev N_renamed : List Str := ["tree", "names", "head", "number", "rest", "inner"]
theorem sc_renamed : FnScope N_renamed ["tree", "names"] (defScope s_renamed) := ⟨rfl, rfl, rfl, by decide +kernel, rfl, by decide +kernel, by decide +kernel⟩
abbrev s_followed : Stmt := top 21
abbrev N_followed : List Str := ["tree", "letters", "signs", "reads", "tells", "head", "number", "rest"]
theorem sc_followed : FnScope N_followed ["tree", "letters", "signs"] (defScope s_followed) := ⟨rfl, rfl, rfl, by decide +kernel, rfl, by decide +kernel, by decide +kernel⟩
abbrev s_tree_text : Stmt := top 22
abbrev N_tree_text : List Str := ["letters", "tree", "head", "number", "rest", "branches", "letter", "inner", "inside"]
theorem sc_tree_text : FnScope N_tree_text ["letters", "tree"] (defScope s_tree_text) := ⟨rfl, rfl, rfl, by decide +kernel, rfl, by decide +kernel, by decide +kernel⟩
abbrev s_rough_tree : Stmt := top 23
abbrev N_rough_tree : List Str := ["letters", "line", "words", "word"]
theorem sc_rough_tree : FnScope N_rough_tree ["letters", "line"] (defScope s_rough_tree) := ⟨rfl, rfl, rfl, by decide +kernel, rfl, by decide +kernel, by decide +kernel⟩
abbrev s_is_part : Stmt := top 24
abbrev N_is_part : List Str := ["part", "letters", "width", "states", "head", "number", "rest"]
theorem sc_is_part : FnScope N_is_part ["part", "letters", "width", "states"] (defScope s_is_part) := ⟨rfl, rfl, rfl, by decide +kernel, rfl, by decide +kernel, by decide +kernel⟩
abbrev s_within : Stmt := top 25
abbrev N_within : List Str := ["part"]
theorem sc_within : FnScope N_within ["part"] (defScope s_within) := ⟨rfl, rfl, rfl, by decide +kernel, rfl, by decide +kernel, by decide +kernel⟩
abbrev s_taken_tree : Stmt := top 26
abbrev N_taken_tree : List Str := ["letters", "words", "depth", "head", "slide", "number", "place"]
theorem sc_taken_tree : FnScope N_taken_tree ["letters", "words", "depth"] (defScope s_taken_tree) := ⟨rfl, rfl, rfl, by decide +kernel, rfl, by decide +kernel, by decide +kernel⟩
abbrev s_taken_branches : Stmt := top 27
abbrev N_taken_branches : List Str := ["letters", "words", "depth", "trees", "_"]
theorem sc_taken_branches : FnScope N_taken_branches ["letters", "words", "depth"] (defScope s_taken_branches) := ⟨rfl, rfl, rfl, by decide +kernel, rfl, by decide +kernel, by decide +kernel⟩
abbrev s_taken : Stmt := top 28
abbrev N_taken : List Str := ["words"]
theorem sc_taken : FnScope N_taken ["words"] (defScope s_taken) := ⟨rfl, rfl, rfl, by decide +kernel, rfl, by decide +kernel, by decide +kernel⟩
abbrev s_taken_number : Stmt := top 29
abbrev N_taken_number : List Str := ["words", "word"]
theorem sc_taken_number : FnScope N_taken_number ["words"] (defScope s_taken_number) := ⟨rfl, rfl, rfl, by decide +kernel, rfl, by decide +kernel, by decide +kernel⟩
abbrev s_is_width : Stmt := top 35
abbrev N_is_width : List Str := ["text"]
theorem sc_is_width : FnScope N_is_width ["text"] (defScope s_is_width) := ⟨rfl, rfl, rfl, by decide +kernel, rfl, by decide +kernel, by decide +kernel⟩
abbrev s_classes : Stmt := top 36
abbrev N_classes : List Str := ["letters", "states", "classes", "_", "finer", "tree"]
theorem sc_classes : FnScope N_classes ["letters", "states"] (defScope s_classes) := ⟨rfl, rfl, rfl, by decide +kernel, rfl, by decide +kernel, by decide +kernel⟩
abbrev s_numbered : Stmt := top 37
abbrev N_numbered : List Str := ["texts", "numbers", "text"]
theorem sc_numbered : FnScope N_numbered ["texts"] (defScope s_numbered) := ⟨rfl, rfl, rfl, by decide +kernel, rfl, by decide +kernel, by decide +kernel⟩
abbrev s_met : Stmt := top 38
abbrev N_met : List Str := ["states", "classes", "order", "seen", "done", "part"]
theorem sc_met : FnScope N_met ["states", "classes"] (defScope s_met) := ⟨rfl, rfl, rfl, by decide +kernel, rfl, by decide +kernel, by decide +kernel⟩
abbrev s_trace : Stmt := top 42
abbrev N_trace : List Str := ["searcher", "text", "wrong"]
theorem sc_trace : FnScope N_trace ["searcher", "text"] (defScope s_trace) := ⟨rfl, rfl, rfl, by decide +kernel, rfl, by decide +kernel, by decide +kernel⟩
abbrev s_searched : Stmt := top 43
abbrev N_searched : List Str := ["searcher", "text", "windows", "told", "place", "state", "signs", "reads", "tells", "go", "number", "_", "slide"]
theorem sc_searched : FnScope N_searched ["searcher", "text"] (defScope s_searched) := ⟨rfl, rfl, rfl, by decide +kernel, rfl, by decide +kernel, by decide +kernel⟩
abbrev s_lpen : Stmt := top 45
abbrev N_lpen : List Str := ["_law_script"]
theorem sc_lpen : FnScope N_lpen ["_law_script"] (defScope s_lpen) := ⟨rfl, rfl, rfl, by decide +kernel, rfl, by decide +kernel, by decide +kernel⟩
abbrev s_ldraw : Stmt := top 46
abbrev N_ldraw : List Str := ["_law_pen_here", "_law_many", "_law_digit", "_law_k", "_law_cells", "_law_cell", "_law_mix"]
theorem sc_ldraw : FnScope N_ldraw ["_law_pen_here", "_law_many"] (defScope s_ldraw) := ⟨rfl, rfl, rfl, by decide +kernel, rfl, by decide +kernel, by decide +kernel⟩
abbrev s_lpick : Stmt := top 47
abbrev N_lpick : List Str := ["_law_pen_here", "_law_some"]
theorem sc_lpick : FnScope N_lpick ["_law_pen_here", "_law_some"] (defScope s_lpick) := ⟨rfl, rfl, rfl, by decide +kernel, rfl, by decide +kernel, by decide +kernel⟩
abbrev s_lshuffled : Stmt := top 48
abbrev N_lshuffled : List Str := ["_law_pen_here", "_law_some", "_law_left", "_law_found"]
theorem sc_lshuffled : FnScope N_lshuffled ["_law_pen_here", "_law_some"] (defScope s_lshuffled) := ⟨rfl, rfl, rfl, by decide +kernel, rfl, by decide +kernel, by decide +kernel⟩
abbrev s_lletters : Stmt := top 49
abbrev N_lletters : List Str := ["_law_pen_here", "_law_small", "_law_first", "_law_pace", "_law_k"]
theorem sc_lletters : FnScope N_lletters ["_law_pen_here"] (defScope s_lletters) := ⟨rfl, rfl, rfl, by decide +kernel, rfl, by decide +kernel, by decide +kernel⟩
abbrev s_ltext : Stmt := top 50
abbrev N_ltext : List Str := ["_law_pen_here", "_law_letters_here", "_law_words", "_law_most", "_law_text_here", "_law_size", "_law_word", "_law_near"]
theorem sc_ltext : FnScope N_ltext ["_law_pen_here", "_law_letters_here", "_law_words", "_law_most"] (defScope s_ltext) := ⟨rfl, rfl, rfl, by decide +kernel, rfl, by decide +kernel, by decide +kernel⟩
abbrev s_ltree : Stmt := top 51
abbrev N_ltree : List Str := ["_law_pen_here", "_law_letters_here", "_law_width", "_law_states", "_law_depth", "_law_way", "_law_place", "_law_letter"]
theorem sc_ltree : FnScope N_ltree ["_law_pen_here", "_law_letters_here", "_law_width", "_law_states", "_law_depth"] (defScope s_ltree) := ⟨rfl, rfl, rfl, by decide +kernel, rfl, by decide +kernel, by decide +kernel⟩
abbrev s_ltrees : Stmt := top 52
abbrev N_ltrees : List Str := ["_law_pen_here", "_law_letters_here", "_law_width", "_law_many", "_law_depth", "_law_k"]
theorem sc_ltrees : FnScope N_ltrees ["_law_pen_here", "_law_letters_here", "_law_width", "_law_many", "_law_depth"] (defScope s_ltrees) := ⟨rfl, rfl, rfl, by decide +kernel, rfl, by decide +kernel, by decide +kernel⟩
abbrev s_lturned : Stmt := top 53
abbrev N_lturned : List Str := ["_law_tree_here", "_law_numbers", "_law_part"]
theorem sc_lturned : FnScope N_lturned ["_law_tree_here", "_law_numbers"] (defScope s_lturned) := ⟨rfl, rfl, rfl, by decide +kernel, rfl, by decide +kernel, by decide +kernel⟩
abbrev s_lleaves : Stmt := top 54
abbrev N_lleaves : List Str := ["_law_tree_here", "_law_found", "_law_part"]
theorem sc_lleaves : FnScope N_lleaves ["_law_tree_here"] (defScope s_lleaves) := ⟨rfl, rfl, rfl, by decide +kernel, rfl, by decide +kernel, by decide +kernel⟩
abbrev s_lleast : Stmt := top 55
abbrev N_lleast : List Str := ["_law_states", "_law_marks", "_law_many", "_law_rows", "_law_k", "_law_row", "_law_first", "_law_met", "_law_at", "_law_state", "_law_numbers", "_law_mark"]
theorem sc_lleast : FnScope N_lleast ["_law_states"] (defScope s_lleast) := ⟨rfl, rfl, rfl, by decide +kernel, rfl, by decide +kernel, by decide +kernel⟩
abbrev s_lspread : Stmt := top 56
abbrev N_lspread : List Str := ["_law_pen_here", "_law_tree_here", "_law_twins", "_law_part"]
theorem sc_lspread : FnScope N_lspread ["_law_pen_here", "_law_tree_here", "_law_twins"] (defScope s_lspread) := ⟨rfl, rfl, rfl, by decide +kernel, rfl, by decide +kernel, by decide +kernel⟩
abbrev s_ldoubled : Stmt := top 57
abbrev N_ldoubled : List Str := ["_law_pen_here", "_law_states", "_law_rows", "_law_k", "_law_order", "_law_twins", "_law_at", "_law_found"]
theorem sc_ldoubled : FnScope N_ldoubled ["_law_pen_here", "_law_states"] (defScope s_ldoubled) := ⟨rfl, rfl, rfl, by decide +kernel, rfl, by decide +kernel, by decide +kernel⟩
abbrev s_law : Stmt := top 58
abbrev N_law : List Str := ["_law_script", "_law_pen_here", "_law_turn", "_law_letters_here", "_law_width", "_law_many", "_law_states", "_law_due", "_law_told", "_law_some", "_law_searcher", "_law_small", "_law_text_here", "_law_one", "_law_other", "_law_window"]
theorem sc_law : FnScope N_law ["_law_script"] (defScope s_law) := ⟨rfl, rfl, rfl, by decide +kernel, rfl, by decide +kernel, by decide +kernel⟩
abbrev s_Searcher_init : Stmt := inClass (top 34) 0
abbrev N_Searcher_init : List Str := ["self", "letters", "width", "states", "many", "state", "tree", "node", "nodes", "same"]
theorem sc_Searcher_init : FnScope N_Searcher_init ["self", "letters", "width", "states"] (defScope s_Searcher_init) := ⟨rfl, rfl, rfl, by decide +kernel, rfl, by decide +kernel, by decide +kernel⟩
abbrev s_Searcher_eq : Stmt := inClass (top 34) 1
abbrev N_Searcher_eq : List Str := ["self", "other"]
theorem sc_Searcher_eq : FnScope N_Searcher_eq ["self", "other"] (defScope s_Searcher_eq) := ⟨rfl, rfl, rfl, by decide +kernel, rfl, by decide +kernel, by decide +kernel⟩
abbrev s_Searcher_least : Stmt := inClass (top 34) 2
abbrev N_Searcher_least : List Str := ["self", "classes", "order", "numbers", "number", "state", "names", "place"]
theorem sc_Searcher_least : FnScope N_Searcher_least ["self"] (defScope s_Searcher_least) := ⟨rfl, rfl, rfl, by decide +kernel, rfl, by decide +kernel, by decide +kernel⟩
abbrev s_Trace_init : Stmt := inClass (top 41) 0
abbrev N_Trace_init : List Str := ["self", "windows", "told", "_", "reads"]
theorem sc_Trace_init : FnScope N_Trace_init ["self", "windows", "told"] (defScope s_Trace_init) := ⟨rfl, rfl, rfl, by decide +kernel, rfl, by decide +kernel, by decide +kernel⟩

/-! ### the pen -/
def penK (c : Addr) (op lf : Int) : List (Key × V) := [(.inr "cells", .ref c), (.inr "opened", .int op), (.inr "left", .int lf)]
structure PenI where
  d : Addr
  c : Addr
  ns : List Int
def PenAt (p : PenI) (H0 H : Hp) (n : Nat) : Prop := Ex H0 H ∧ H0 p.d = none ∧ H0 p.c = some (.lst (p.ns.map V.int)) ∧ p.ns.length ≤ 63 ∧
  ∃ (op : Nat) (lf : Int), op ≤ n ∧ H p.d = some (.dK (penK p.c op lf))
theorem PenAt.ex {p : PenI} {H0 H H1 : Hp} {n : Nat} (P : PenAt p H0 H n) (e : Ex H H1) : PenAt p H0 H1 n := by
  obtain ⟨e0, h0, hc, hl, op, lf, ho, hd⟩ := P
  exact ⟨e0.trans e, h0, hc, hl, op, lf, ho, e p.d _ hd⟩
theorem PenAt.le {p : PenI} {H0 H : Hp} {n m : Nat} (P : PenAt p H0 H n) (h : n ≤ m) : PenAt p H0 H m := by
  obtain ⟨e0, h0, hc, hl, op, lf, ho, hd⟩ := P
  exact ⟨e0, h0, hc, hl, op, lf, Nat.le_trans ho h, hd⟩
theorem PenAt.dict {p : PenI} {H0 H : Hp} {n : Nat} (P : PenAt p H0 H n) : ∃ kvs, H p.d = some (.dK kvs) := by
  obtain ⟨_, _, _, _, op, lf, _, h⟩ := P
  exact ⟨_, h⟩
theorem PenAt.lst_ne {p : PenI} {H0 H : Hp} {a : Addr} {n : Nat} {xs : List V} (P : PenAt p H0 H n) (h : H a = some (.lst xs)) : a ≠ p.d := by
  obtain ⟨kvs, h2⟩ := P.dict
  exact ne_of h h2 (by intro z; cases z)
/-- an object made meanwhile may change -/
theorem PenAt.upd {p : PenI} {H0 H : Hp} {a : Addr} {n : Nat} {o : HO} (P : PenAt p H0 H n) (h : H0 a = none) (hd : a ≠ p.d) : PenAt p H0 (upd H a o) n := by
  obtain ⟨e0, h0, hc, hl, op, lf, ho, hd'⟩ := P
  exact ⟨e0.mut h, h0, hc, hl, op, lf, ho, by rw [upd_ne hd.symm]; exact hd'⟩
/-- one more object kept, and let go again -/
theorem PenAt.keep {p : PenI} {H0 H : Hp} {a : Addr} {n : Nat} {o : HO} (P : PenAt p H0 H n) (h : H a = some o) (hd : a ≠ p.d) : PenAt p (L2.upd H0 a o) H n := by
  obtain ⟨e0, h0, hc, r⟩ := P
  refine ⟨fun b u e => ?_, by rw [upd_ne hd.symm]; exact h0, ?_, r⟩
  · by_cases q : b = a
    · subst q
      rw [upd_same] at e
      rw [h, e]
    · rw [upd_ne q] at e
      exact e0 b u e
  · by_cases q : p.c = a
    · have e2 := e0 _ _ hc
      rw [q, h] at e2
      rw [q, upd_same, e2]
    · rw [upd_ne q]
      exact hc
theorem PenAt.drop {p : PenI} {H0 H H' : Hp} {a : Addr} {n m : Nat} {o : HO} (P : PenAt p H0 H n) (h : H a = some o) (P' : PenAt p (L2.upd H0 a o) H' m) : PenAt p H0 H' m := by
  refine ⟨fun b u e => ?_, P.2.1, P.2.2.1, P'.2.2.2⟩
  by_cases q : b = a
  · subst q
    have e2 := P.1 _ _ e
    rw [h] at e2
    exact P'.1 _ _ (by rw [upd_same, e2])
  · exact P'.1 _ _ (by rw [upd_ne q]; exact e)
theorem cells_opened : ¬ (("cells" : Str) = "opened") := by decide +kernel
theorem cells_left : ¬ (("cells" : Str) = "left") := by decide +kernel
theorem opened_left : ¬ (("opened" : Str) = "left") := by decide +kernel
theorem get_cells (c : Addr) (op lf : Int) : valV (penK c op lf) (.inr "cells") = some (.ref c) := by
  unfold valV penK
  rw [List.find?_cons_of_pos (by simp)]
  rfl
theorem get_opened (c : Addr) (op lf : Int) : valV (penK c op lf) (.inr "opened") = some (.int op) := by
  unfold valV penK
  rw [List.find?_cons_of_neg (by simpa using cells_opened), List.find?_cons_of_pos (by simp)]
  rfl
theorem get_left (c : Addr) (op lf : Int) : valV (penK c op lf) (.inr "left") = some (.int lf) := by
  unfold valV penK
  rw [List.find?_cons_of_neg (by simpa using cells_left), List.find?_cons_of_neg (by simpa using opened_left), List.find?_cons_of_pos (by simp)]
  rfl
theorem put_opened (c : Addr) (op lf x : Int) : putK (penK c op lf) (.inr "opened") (.int x) = penK c x lf := by
  unfold putK penK
  simp [cells_opened, opened_left, cells_left, Ne.symm opened_left]
theorem put_left (c : Addr) (op lf x : Int) : putK (penK c op lf) (.inr "left") (.int x) = penK c op x := by
  unfold putK penK
  simp [cells_opened, opened_left, cells_left]
theorem dget_of {H : Hp} {d : Addr} {kvs : List (Key × V)} {k : Str} {v : V} (e : H d = some (.dK kvs)) (h : valV kvs (.inr k) = some v) : DGet H d (.str k) (some v) := by
  rw [← h]
  exact DGet.k (k := .inr k) e
theorem dput_of {H : Hp} {d : Addr} {kvs kvs' : List (Key × V)} {k : Str} {v : V} (e : H d = some (.dK kvs)) (hl : kvs.length < 100) (h : putK kvs (.inr k) v = kvs') : DPut H d (.str k) v (upd H d (.dK kvs')) := by
  rw [← h]
  exact DPut.k (k := .inr k) e (Nat.lt_of_lt_of_le hl (by decide))

/-! ### lists of ints as data -/
theorem lay_ints : ∀ ns : List Int, PyData.canLayAll0 (ns.map PyData.int) = true
  | [] => rfl
  | n :: r => by
    show (PyData.canLay0 (.int n) && PyData.canLayAll0 (r.map PyData.int)) = true
    rw [lay_ints r]
    rfl
theorem depth_ints : ∀ ns : List Int, PyData.depthAll (ns.map PyData.int) = 0
  | [] => rfl
  | n :: r => by
    show max (PyData.depth (.int n)) (PyData.depthAll (r.map PyData.int)) = 0
    rw [depth_ints r]
    rfl
theorem shaped_ints (ns : List Int) : SeqAt.shaped (.list (ns.map PyData.int)) = true := by
  unfold SeqAt.shaped
  have e1 : (PyData.list (ns.map PyData.int)).canLay0 = true := lay_ints ns
  have e2 : (PyData.list (ns.map PyData.int)).depth = 1 := by
    show PyData.depthAll (ns.map PyData.int) + 1 = 1
    rw [depth_ints]
  rw [e1, e2]
  rfl
theorem dp_ints {K : PySem.W.Frag} {H : Hp} : ∀ ns : List Int, DpAll K H (ns.map V.int) (ns.map PyData.int)
  | [] => .nil
  | n :: r => .cons (.int n) (dp_ints r)
theorem eqv_nil (ns : List Int) : PyData.eqv (.list (ns.map PyData.int)) (.list []) = ns.isEmpty := by
  cases ns <;> rfl

/-! ### what is known of a def that is called -/
structure Kn (P : Program) (w : World) (K : PySem.W.Frag) (mg : Str → Option Value) (base : Heap) (x : Str) (ps : List Str) (k : Nat) (sp : Sp) where
  f : Addr
  fd : FuncData
  ok : FnOk P w K mg base CX0 k f fd ps sp
  g : mg x = some (.ref f)
  kp : PySem.W.keepIn K (.ref f) = true
  b : Binds K fd ps []
structure Tx (mg : Str → Option Value) where
  len : mg "len" = none
  int : mg "int" = none
  bool : mg "bool" = none
  abs : mg "abs" = none
  min : mg "min" = none
  list : mg "list" = none
  all : mg "all" = none
  range : mg "range" = none
  isinstance : mg "isinstance" = none
  str : mg "str" = none
  set : mg "set" = none
  tuple : mg "tuple" = none
  dict : mg "dict" = none
  enumerate : mg "enumerate" = none
  reversed : mg "reversed" = none
  sum : mg "sum" = none
  zip : mg "zip" = none
  max : mg "max" = none
  k_DEEPEST : Tok
  m_DEEPEST : mg "DEEPEST" = some (.int 40 k_DEEPEST)
  k_MOST_WIDTH : Tok
  m_MOST_WIDTH : mg "MOST_WIDTH" = some (.int 8 k_MOST_WIDTH)
  k_MOST_STATES : Tok
  m_MOST_STATES : mg "MOST_STATES" = some (.int 64 k_MOST_STATES)
  k_MOST_NODES : Tok
  m_MOST_NODES : mg "MOST_NODES" = some (.int 3000 k_MOST_NODES)
  k_MOST_LETTERS : Tok
  m_MOST_LETTERS : mg "MOST_LETTERS" = some (.int 5000 k_MOST_LETTERS)

def spPen (K : PySem.W.Frag) : Sp := fun vs H Q _ => ∃ (a : Addr) (ns : List Int), vs = [.ref a] ∧ SqL K H a (ns.map V.int) ∧ ns.length ≤ 63 ∧ ∀ p H0 H', Ex H H0 → PenAt p H0 H' 0 → Q (.ref p.d) H'
def spDraw : Sp := fun vs H Q _ => ∃ (p : PenI) (H0 : Hp) (n : Nat) (m : Int), vs = [.ref p.d, .int m] ∧ PenAt p H0 H n ∧ n < 1000000 ∧ 0 < m ∧ m < 1000 ∧ ∀ H' r, PenAt p H0 H' (n + 1) → 0 ≤ r → r < m → Q (.int r) H'

section
variable {P : Program} {w : World} {K : PySem.W.Frag} {mg : Str → Option Value} {base : Heap}
theorem ok_pen {f : Addr} {fd : FuncData} (F : Fun K "_law_pen" "_law_pen" s_lpen f fd) (T : Tx mg) : FnOk P w K mg base CX0 1 f fd ["_law_script"] (spPen K) := by
  refine F.ok sc_lpen (fun vs H Q E h => ?_) (fun cdv A outer s H vs Q E hr h => ?_)
  · obtain ⟨a, ns, rfl, _⟩ := h
    rfl
  · obtain ⟨a, ns, rfl, hS, hl, q⟩ := h
    refine ⟨_, (pss_one (ps_ret (pe_disp (pps_cons pe_str (pe_callTy call_list_of (by rfl) T.list PyProof.Rows.boot_list (pa_cons (pe_slice sl_list (pv 0) po_none (po_some pe_int)) pa_nil)) (pps_cons pe_str pe_int (pps_cons pe_str pe_int pps_nil))) (by rfl) (by rfl) (fun z => by cases z) (by decide)))), ?_⟩
    intro d hd
    have e1 : Ex H (upd H d (.dK [])) := Ex.new hd
    refine ⟨.ref a, rfl, 63, rfl, a, _, rfl, ex_l e1 hS, fun c hc => ?_⟩
    have e2 := e1.trans (Ex.new (o := .lst (cutV (ns.map V.int) none (some 63))) hc)
    refine ⟨c, _, rfl, .inl (.inl (.inl upd_same)), fun c2 hc2 => ?_⟩
    have e3 := e2.trans (Ex.new (o := .lst (cutV (ns.map V.int) none (some 63))) hc2)
    have ncd : c ≠ d := fun z => by rw [z, upd_same] at hc; cases hc
    have nc2c : c2 ≠ c := fun z => by rw [z, upd_same] at hc2; cases hc2
    have nc2d : c2 ≠ d := fun z => by rw [z, upd_ne ncd.symm, upd_same] at hc2; cases hc2
    refine ⟨by rw [upd_ne nc2d.symm, upd_ne ncd.symm, upd_same], penK c2 0 0, rfl, (by show 3 ≤ 15; decide), ?_⟩
    have em : mergeK [] (penK c2 0 0) = penK c2 0 0 := by
      unfold mergeK penK
      simp [putK, cells_opened, opened_left, cells_left]
    rw [em]
    have el : ((cutV (ns.map V.int) none (some 63)) : List V) = ((ns.drop (HT.sIx ns.length 0 none)).take (HT.sIx ns.length ns.length (some 63) - HT.sIx ns.length 0 none)).map V.int := by
      unfold cutV
      rw [List.length_map, List.map_take, List.map_drop]
    have hn2 : H c2 = none := by
      rw [upd_ne nc2c, upd_ne nc2d] at hc2
      exact hc2
    refine q ⟨d, c2, (ns.drop (HT.sIx ns.length 0 none)).take (HT.sIx ns.length ns.length (some 63) - HT.sIx ns.length 0 none)⟩ (upd H c2 (.lst (cutV (ns.map V.int) none (some 63)))) _ (Ex.new hn2) ⟨fun b u e => ?_, ?_, ?_, ?_, 0, 0, Nat.le_refl _, upd_same⟩
    · have nbd : b ≠ d := fun z => by
        rw [z, upd_ne nc2d.symm, hd] at e
        cases e
      rw [upd_ne nbd]
      by_cases z : b = c2
      · subst z
        rw [upd_same] at e ⊢
        exact e
      · rw [upd_ne z] at e ⊢
        exact (e1.trans (Ex.new hc)) _ _ e
    · exact (upd_ne nc2d.symm).trans hd
    · show upd H c2 _ c2 = _
      rw [upd_same, el]
    · rw [List.length_take, List.length_drop]
      omega
theorem ok_draw {f : Addr} {fd : FuncData} (F : Fun K "_law_draw" "_law_draw" s_ldraw f fd) (T : Tx mg) : FnOk P w K mg base CX0 1 f fd ["_law_pen_here", "_law_many"] spDraw := by
  refine F.ok sc_ldraw (fun vs H Q E h => ?_) (fun cdv A outer s H vs Q E hr h => ?_)
  · obtain ⟨p, H0, n, m, rfl, _⟩ := h
    rfl
  · obtain ⟨⟨d, c, ns⟩, H0, n, m, rfl, ⟨e0, h0, hc0, hl, op, lf, ho, hd⟩, hn, hm0, hm1, q⟩ := h
    have hc : H c = some (.lst (ns.map V.int)) := e0 _ _ hc0
    dsimp only at h0 hl hd q ⊢
    have ncd : c ≠ d := ne_of hc hd (by intro z; cases z)
    have fin : ∀ (o2 : Nat) (l2 : Int) (H' : Hp), Ex H0 H' → H' c = some (.lst (ns.map V.int)) → H' d = some (.dK (penK c o2 l2)) → o2 ≤ n + 1 → PenAt ⟨d, c, ns⟩ H0 H' (n + 1) :=
      fun o2 l2 H' x1 x2 x3 x4 => ⟨x1, h0, hc0, hl, o2, l2, x4, x3⟩
    refine ⟨_, (pss_cons (ps_if (pt_cmpR op_gt (pe_dget (hu_of hr) (pv 0) pe_str (fun _ _ => rfl)) pe_int (nomark _)) (pss_cons (ps_set (i := 2) sc_ldraw.nd rfl (Or.inl rfl) (pe_op op_mod (pe_callTy call_int1 (by rfl) T.int PyProof.Rows.boot_int (pa_cons (pe_dget (hu_of hr) (pv 0) pe_str (fun _ _ => rfl)) pa_nil)) (pv 1)))
      (pss_cons (ps_dput (hu_of hr) (pv 0) pe_str (pe_op op_fdivN (pe_dget (hu_of hr) (pv 0) pe_str (fun _ _ => rfl)) (pv 1)) rfl)
      (pss_one (ps_ret (pv 2))))) pss_nil)
      (pss_cons (ps_par (i := 3) (j := 4) (by rfl) sc_ldraw.nd rfl rfl (by decide) rfl rfl (pa_cons (pe_dget (hu_of hr) (pv 0) pe_str (fun _ _ => rfl)) (pa_cons (pe_dget (hu_of hr) (pv 0) pe_str (fun _ _ => rfl)) pa_nil)) (by rfl))
      (pss_cons (ps_dput (hu_of hr) (pv 0) pe_str (pe_op op_add (pv 3) pe_int) rfl)
      (pss_cons (ps_if (pt_cmpR (op_eqD hr.units) (pv 4) (pe_lst pa_nil) (nomark _)) (pss_one (ps_ret (pe_op op_mod (pe_callTy call_int1 (by rfl) T.int PyProof.Rows.boot_int (pa_cons (pe_op op_add (pe_op op_mul pe_int (pv 3)) pe_int) pa_nil)) (pv 1)))) pss_nil)
      (pss_cons (ps_set (i := 5) sc_ldraw.nd rfl (Or.inl rfl) (pe_ix ix_list (pv 4) (pe_op op_mod (pe_callTy call_int1 (by rfl) T.int PyProof.Rows.boot_int (pa_cons (pv 3) pa_nil)) (pe_callB call_len_seq (by rfl) T.len PySem.boot_len (pa_cons (pv 4) pa_nil))) (fun _ _ => rfl)))
      (pss_cons (ps_if (PW.pt (pw_and (pt_cmpR op_lt (pv 3) (pe_callB call_len_seq (by rfl) T.len PySem.boot_len (pa_cons (pv 4) pa_nil)) (nomark _)) (pw_and1 (pt_cmpR op_ge (pe_callB call_abs (by rfl) T.abs (by decide +kernel) (pa_cons (pv 5) pa_nil)) (pe_op op_pow pe_int pe_int) (nomark _))))) (pss_cons (ps_dput (hu_of hr) (pv 0) pe_str (pe_op op_fdivN (pe_op op_sub (pe_callB call_abs (by rfl) T.abs (by decide +kernel) (pa_cons (pv 5) pa_nil)) (pe_op op_pow pe_int pe_int)) (pv 1)) rfl)
      (pss_one (ps_ret (pe_op op_mod (pe_callTy call_int1 (by rfl) T.int PyProof.Rows.boot_int (pa_cons (pe_op op_sub (pe_callB call_abs (by rfl) T.abs (by decide +kernel) (pa_cons (pv 5) pa_nil)) (pe_op op_pow pe_int pe_int)) pa_nil)) (pv 1))))) pss_nil)
      (pss_cons (ps_set (i := 6) sc_ldraw.nd rfl (Or.inl rfl) (pe_op op_mod (pe_callTy call_int1 (by rfl) T.int PyProof.Rows.boot_int (pa_cons (pe_op op_add (pe_op op_add (pe_op op_add (pe_op op_mul (pe_op op_mod (pe_callTy call_int1 (by rfl) T.int PyProof.Rows.boot_int (pa_cons (pv 5) pa_nil)) pe_int) pe_int) (pe_op op_mul (pe_op op_mul pe_int (pv 3)) (pv 3))) (pe_op op_mul pe_int (pv 3))) pe_int) pa_nil)) pe_int))
      (pss_cons (ps_set (i := 6) sc_ldraw.nd rfl (Or.inl rfl) (pe_op op_mod (pe_callTy call_int1 (by rfl) T.int PyProof.Rows.boot_int (pa_cons (pe_op op_add (pe_op op_add (pe_op op_mul (pv 6) (pv 6)) (pe_op op_mul pe_int (pv 6))) (pe_op op_mul pe_int (pv 3))) pa_nil)) pe_int))
      (pss_one (ps_ret (pe_op op_mod (pe_callTy call_int1 (by rfl) T.int PyProof.Rows.boot_int (pa_cons (pe_op op_fdivN (pe_op op_mod (pe_callTy call_int1 (by rfl) T.int PyProof.Rows.boot_int (pa_cons (pe_op op_mul (pv 6) (pe_op op_add (pv 6) pe_int)) pa_nil)) pe_int) pe_int) pa_nil)) (pv 1)))))))))))), ?_⟩
    refine ⟨_, rfl, d, .int lf, rfl, dget_of hd (get_left _ _ _), _, _, rfl, rfl, _, rfl, ite2 (fun hp => ?_) (fun hp => ?_)⟩
    · refine ⟨_, rfl, d, .int lf, rfl, dget_of hd (get_left _ _ _), .inl ⟨_, rfl, ?_⟩⟩
      refine ⟨_, rfl, _, _, rfl, rfl, hm0, ?_⟩
      refine ⟨_, rfl, d, .int lf, rfl, dget_of hd (get_left _ _ _), _, rfl, _, _, rfl, rfl, ⟨by omega, by omega⟩, ?_⟩
      refine ⟨_, rfl, d, _, rfl, dput_of hd (by show 3 < 100; decide) (put_left _ _ _ _), ?_⟩
      refine ⟨_, rfl, ?_⟩
      exact q _ _ (fin op _ _ (e0.mut h0) (by rw [upd_ne ncd]; exact hc) upd_same (by omega)) (Int.emod_nonneg _ (by omega)) (Int.emod_lt_of_pos _ hm0)
    · refine ⟨_, rfl, d, _, rfl, dget_of hd (get_opened _ _ _), _, rfl, d, _, rfl, dget_of hd (get_cells _ _ _), _, _, rfl, ?_⟩
      refine ⟨_, rfl, _, _, rfl, rfl, _, rfl, d, _, rfl, dput_of hd (by show 3 < 100; decide) (put_opened _ _ _ _), ?_⟩
      have x1 : Ex H0 (upd H d (.dK (penK c ((op : Int) + 1) lf))) := e0.mut h0
      have hc1 : (upd H d (.dK (penK c ((op : Int) + 1) lf))) c = some (.lst (ns.map V.int)) := by
        rw [upd_ne ncd]
        exact hc
      have hd1 : (upd H d (.dK (penK c ((op : Int) + 1) lf))) d = some (.dK (penK c ((op + 1 : Nat) : Int) lf)) := upd_same
      generalize (upd H d (.dK (penK c ((op : Int) + 1) lf))) = H1 at x1 hc1 hd1 ⊢
      -- if cells == []
      refine ⟨_, rfl, Nat.zero_le _, fun el hel => ?_⟩
      have x2 := x1.trans (Ex.new (o := .lst []) hel)
      have hc2 : (upd H1 el (.lst [])) c = some (.lst (ns.map V.int)) := Ex.new hel _ _ hc1
      have hd2 : (upd H1 el (.lst [])) d = some (.dK (penK c ((op + 1 : Nat) : Int) lf)) := Ex.new hel _ _ hd1
      refine ⟨.list (ns.map PyData.int), .list [], .lst (sq_of hc2) (dp_ints ns), .lst (xs := []) (sq_of upd_same) .nil, shaped_ints ns, rfl, _, rfl, ?_⟩
      rw [eqv_nil]
      generalize (upd H1 el (.lst [])) = H2 at x2 hc2 hd2 ⊢
      cases hns : ns.isEmpty with
      | true =>
        refine iteT ?_
        refine ⟨_, rfl, _, _, rfl, rfl, .inl (by decide), _, _, rfl, rfl, .inl ⟨_, rfl, _, rfl, _, _, rfl, rfl, hm0, ?_⟩⟩
        exact q _ _ (fin _ _ _ x2 hc2 hd2 (by omega)) (Int.emod_nonneg _ (by omega)) (Int.emod_lt_of_pos _ hm0)
      | false =>
        refine iteF ?_
        have hpos : 0 < ns.length := by
          cases ns with
          | nil => cases hns
          | cons x r => exact Nat.succ_pos _
        have hL : (0 : Int) < ((ns.map V.int).length : Int) := by
          rw [List.length_map]
          omega
        -- cell = cells[int(k) % len(cells)]
        obtain ⟨i, hi⟩ : ∃ i : Nat, (op : Int) % ((ns.map V.int).length : Int) = (i : Int) := ⟨((op : Int) % ((ns.map V.int).length : Int)).toNat, (Int.toNat_of_nonneg (Int.emod_nonneg _ (by omega))).symm⟩
        have hi2 : i < ns.length := by
          have := Int.emod_lt_of_pos (op : Int) hL
          rw [hi, List.length_map] at this
          omega
        have hat : atI (ns.map V.int) ((op : Int) % ((ns.map V.int).length : Int)) = some (V.int ns[i]) := by
          rw [hi]
          exact atI_nat (by rw [List.getElem?_map, List.getElem?_eq_getElem hi2]; rfl)
        refine ⟨_, rfl, _, rfl, .inl ⟨_, rfl, _, rfl, c, _, rfl, .inl (sq_of hc2), _, _, rfl, rfl, hL, c, _, _, _, rfl, rfl, sq_of hc2, hat, ?_⟩⟩
        generalize ns[i] = x
        -- the test
        have hcell : ∀ {σ : L2.St} {H' : Hp}, σ[5]? = some (some (V.int x)) → Ev (tVar 5) σ H' (V.int x) := fun h => ev_var h
        dsimp only [gName]
        refine q_when (b := decide ((op : Int) < ((ns.map V.int).length : Int)) && decide ((10 : Int) ^ (18 : Int).toNat ≤ (if x < 0 then -x else x)))
          (et_and (fun H4 e4 Q4 q4 => ?_) (fun _ H4 e4 Q4 q4 => ?_)) (fun hb H3 e3 => ?_) (fun hb H3 e3 => ?_)
        · exact ⟨_, rfl, _, rfl, c, _, rfl, .inl (sq_of (e4 _ _ hc2)), _, _, rfl, rfl, _, rfl, q4 _ (Ex.refl _)⟩
        · exact ⟨_, rfl, _, rfl, _, _, rfl, rfl, ⟨by decide, by decide, by decide⟩, _, _, rfl, rfl, _, rfl, q4 _ (Ex.refl _)⟩
        · have x3 := x2.trans e3
          refine ⟨_, rfl, _, rfl, _, _, rfl, rfl, ⟨by decide, by decide, by decide⟩, _, _, rfl, rfl, _, rfl, _, _, rfl, rfl, ⟨by omega, by omega⟩, ?_⟩
          refine ⟨_, rfl, d, _, rfl, dput_of (e3 _ _ hd2) (by show 3 < 100; decide) (put_left _ _ _ _), ?_⟩
          refine ⟨_, rfl, _, rfl, _, _, rfl, rfl, ⟨by decide, by decide, by decide⟩, _, _, rfl, rfl, .inl ⟨_, rfl, _, rfl, _, _, rfl, rfl, hm0, ?_⟩⟩
          exact q _ _ (fin _ _ _ (x3.mut h0) (by rw [upd_ne ncd]; exact e3 _ _ hc2) upd_same (by omega)) (Int.emod_nonneg _ (by omega)) (Int.emod_lt_of_pos _ hm0)
        · have x3 := x2.trans e3
          have b1 : (0 : Int) ≤ x % 4294965521 := Int.emod_nonneg _ (by decide)
          have b2 : x % 4294965521 < 4294965521 := Int.emod_lt_of_pos _ (by decide)
          refine ⟨_, rfl, .inl ⟨_, rfl, _, _, rfl, rfl, (by show (0 : Int) < _; decide), _, _, rfl, rfl, .inr ⟨by decide, by decide⟩, ?_⟩⟩
          refine ⟨_, rfl, _, _, rfl, rfl, .inl ⟨by decide, by decide⟩, _, rfl, _, _, rfl, rfl, .inr ⟨by omega, by omega⟩, _, _, rfl, rfl, ?_⟩
          refine ⟨_, rfl, _, _, rfl, rfl, .inl ⟨by decide, by decide⟩, _, _, rfl, rfl, _, _, rfl, rfl, .inl ⟨_, rfl, _, _, rfl, rfl, (by show (0 : Int) < _; decide), ?_⟩⟩
          generalize hy : (x % 4294965521 * 43793 + 25999 * (op : Int) * (op : Int) + 839 * (op : Int) + 67) % 4294965583 = y
          have b3 : 0 ≤ y := by rw [← hy]; exact Int.emod_nonneg _ (by decide)
          have b4 : y < 4294965583 := by rw [← hy]; exact Int.emod_lt_of_pos _ (by decide)
          refine ⟨_, rfl, _, rfl, _, _, rfl, rfl, .inl ⟨by omega, by omega⟩, _, rfl, _, _, rfl, rfl, .inl ⟨by decide, by decide⟩, _, _, rfl, rfl, ?_⟩
          refine ⟨_, rfl, _, _, rfl, rfl, .inl ⟨by decide, by decide⟩, _, _, rfl, rfl, .inl ⟨_, rfl, _, _, rfl, rfl, (by show (0 : Int) < _; decide), ?_⟩⟩
          generalize hz : (y * y + 40163 * y + 31 * (op : Int)) % 4294965511 = z
          have b5 : 0 ≤ z := by rw [← hz]; exact Int.emod_nonneg _ (by decide)
          have b6 : z < 4294965511 := by rw [← hz]; exact Int.emod_lt_of_pos _ (by decide)
          refine ⟨_, rfl, _, rfl, _, _, rfl, rfl, _, _, rfl, rfl, .inl ⟨by omega, by omega⟩, .inl ⟨_, rfl, _, _, rfl, rfl, (by show (0 : Int) < _; decide), _, _, rfl, rfl, ⟨by decide, by decide⟩, .inl ⟨_, rfl, _, rfl, _, _, rfl, rfl, hm0, ?_⟩⟩⟩
          exact q _ _ (fin _ _ _ x3 (e3 _ _ hc2) (e3 _ _ hd2) (by omega)) (Int.emod_nonneg _ (by omega)) (Int.emod_lt_of_pos _ hm0)
end
end Law

namespace Law
open PySem PySem.Spec PyProof.Rows L2 Evl
theorem sz_le {n : Nat} (h : n < 1000) : n ≤ sizeLine := Nat.le_trans (Nat.le_of_lt h) (by decide)
theorem at_draw {α : Type} {xs : List α} {r : Int} (h0 : 0 ≤ r) (h1 : r < (xs.length : Int)) : ∃ v, v ∈ xs ∧ atI xs r = some v := by
  obtain ⟨j, rfl⟩ : ∃ j : Nat, r = (j : Int) := ⟨r.toNat, (Int.toNat_of_nonneg h0).symm⟩
  have hj : j < xs.length := by omega
  exact ⟨xs[j], List.getElem_mem hj, atI_nat (List.getElem?_eq_getElem hj)⟩
def spPickS : Sp := fun vs H Q _ => ∃ (p : PenI) (H0 : Hp) (n : Nat) (z : Str), vs = [.ref p.d, .str z] ∧ PenAt p H0 H n ∧ n < 1000000 ∧ 0 < z.length ∧ z.length < 1000 ∧ ∀ H' c, PenAt p H0 H' (n + 1) → c ∈ z.cps.toList → Q (.str ⟨#[c]⟩) H'
def spPickL : Sp := fun vs H Q _ => ∃ (p : PenI) (H0 : Hp) (a : Addr) (n : Nat) (xs : List V), vs = [.ref p.d, .ref a] ∧ PenAt p H0 H n ∧ n < 1000000 ∧ H a = some (.lst xs) ∧ 0 < xs.length ∧ xs.length < 1000 ∧ ∀ H' v, PenAt p H0 H' (n + 1) → v ∈ xs → Q v H'
section
variable {P : Program} {w : World} {K : PySem.W.Frag} {mg : Str → Option Value} {base : Heap}
theorem ok_pickS {f : Addr} {fd : FuncData} (F : Fun K "_law_pick" "_law_pick" s_lpick f fd) (T : Tx mg) (c_ldraw : Kn P w K mg base "_law_draw" ["_law_pen_here", "_law_many"] 1 spDraw) : FnOk P w K mg base CX0 2 f fd ["_law_pen_here", "_law_some"] spPickS := by
  refine F.ok sc_lpick (fun vs H Q E h => ?_) (fun cdv A outer s H vs Q E hr h => ?_)
  · obtain ⟨p, H0, n, z, rfl, _⟩ := h
    rfl
  · obtain ⟨p, H0, n, z, rfl, P0, hn, hz0, hz1, q⟩ := h
    have ez : z.length = z.cps.toList.length := by simp [Str.length]
    refine ⟨_, (pss_one (ps_ret (pe_ix ix_str (pv 1) (pe_call c_ldraw.ok (hr.mono (by decide)) (by rfl) c_ldraw.g c_ldraw.kp c_ldraw.b .nil pass0 (pa_cons (pv 0) (pa_cons (pe_callB call_len_str (by rfl) T.len PySem.boot_len (pa_cons (pv 1) pa_nil)) pa_nil))) (fun _ _ => rfl)))), ?_⟩
    refine ⟨_, rfl, _, rfl, _, rfl, z, rfl, sz_le hz1, p, H0, n, _, rfl, P0, hn, by omega, by omega, fun H' r P1 r0 r1 => ?_⟩
    obtain ⟨c, hc, ha⟩ := at_draw (xs := z.cps.toList) r0 (by rw [← ez]; exact r1)
    exact ⟨z, r, c, rfl, rfl, sz_le hz1, ha, q _ _ P1 hc⟩
theorem ok_pickL {f : Addr} {fd : FuncData} (F : Fun K "_law_pick" "_law_pick" s_lpick f fd) (T : Tx mg) (c_ldraw : Kn P w K mg base "_law_draw" ["_law_pen_here", "_law_many"] 1 spDraw) : FnOk P w K mg base CX0 2 f fd ["_law_pen_here", "_law_some"] spPickL := by
  refine F.ok sc_lpick (fun vs H Q E h => ?_) (fun cdv A outer s H vs Q E hr h => ?_)
  · obtain ⟨p, H0, a, n, xs, rfl, _⟩ := h
    rfl
  · obtain ⟨p, H0, a, n, xs, rfl, P0, hn, hx, hz0, hz1, q⟩ := h
    refine ⟨_, (pss_one (ps_ret (pe_ix ix_list (pv 1) (pe_call c_ldraw.ok (hr.mono (by decide)) (by rfl) c_ldraw.g c_ldraw.kp c_ldraw.b .nil pass0 (pa_cons (pv 0) (pa_cons (pe_callB call_len_seq (by rfl) T.len PySem.boot_len (pa_cons (pv 1) pa_nil)) pa_nil))) (fun _ _ => rfl)))), ?_⟩
    refine ⟨_, rfl, _, rfl, _, rfl, a, xs, rfl, .inl (sq_of hx), p, upd H0 a (.lst xs), n, _, rfl, P0.keep hx (P0.lst_ne hx), hn, by omega, by omega, fun H' r P1 r0 r1 => ?_⟩
    obtain ⟨v, hv, ha⟩ := at_draw (xs := xs) r0 r1
    exact ⟨a, xs, r, v, rfl, rfl, sq_of (P1.1 _ _ upd_same), ha, q _ _ (P0.drop hx P1) hv⟩
end
end Law

namespace Law
open PySem PySem.Spec PyProof.Rows L2 Evl
def sg (c : Nat) : Str := ⟨#[c]⟩
def tx (l : List Nat) : Str := ⟨l.toArray⟩
theorem tx_len (l : List Nat) : (tx l).length = l.length := by simp [tx, Str.length]
theorem tx_list (l : List Nat) : (tx l).cps.toList = l := rfl
theorem tx_of (z : Str) : tx z.cps.toList = z := TL.ext_tl rfl
theorem sg_len (c : Nat) : (sg c).length = 1 := rfl
theorem joinL_nil : ∀ cs : List Nat, TL.joinL [] (cs.map fun c => [c]) = cs
  | [] => rfl
  | [c] => rfl
  | c :: d :: r => by
    show [c] ++ ([] ++ TL.joinL [] ((d :: r).map fun c => [c])) = c :: d :: r
    rw [joinL_nil (d :: r)]
    rfl
theorem join_sg (cs : List Nat) : Txt.join (Str.ofString "") (cs.map sg) = tx cs := by
  refine TL.ext_tl ?_
  rw [TL.join_eq, TL.tl_join, List.map_map, show TL.tl (Str.ofString "") = [] by decide +kernel]
  exact joinL_nil cs
theorem join_size (cs : List Nat) : ((cs.map sg).map (·.length)).sum = cs.length := by
  induction cs with
  | nil => rfl
  | cons c r ih =>
    show 1 + ((r.map sg).map (·.length)).sum = r.length + 1
    rw [ih, Nat.add_comm]
/-- the signs joined -/
theorem join_done {K : PySem.W.Frag} {H : Hp} {D : Addr} {cs : List Nat} {Q : VK} (hD : H D = some (.lst ((cs.map sg).map V.str))) (hl : cs.length ≤ 1000000) (q : Q (.str (tx cs)) H) :
    ∃ (a : Str) (p : Addr), ∃ ys : List Str, V.str (Str.ofString "") = .str a ∧ [V.ref D] = [.ref p] ∧ (SqL K H p (ys.map V.str) ∨ SqT K H p (ys.map V.str)) ∧ (ys.map (·.length)).sum + ys.length * a.length ≤ 16777216 ∧ Q (.str (Txt.join a ys)) H := by
  refine ⟨_, D, cs.map sg, rfl, rfl, .inl (sq_of hD), ?_, ?_⟩
  · rw [join_size, show (Str.ofString "").length = 0 from rfl]
    omega
  · rw [join_sg]
    exact q
def lets (f p n : Nat) : List Nat := (List.range n).map fun k => 97 + (f + p * k) % 26
def paces : List Nat := [1, 3, 5, 7, 9, 11, 15, 17, 19, 21, 23, 25]
def spLetters : Sp := fun vs H Q _ => ∃ (p : PenI) (H0 : Hp) (n : Nat), vs = [.ref p.d] ∧ PenAt p H0 H n ∧ n < 900000 ∧ ∀ H' f q m, PenAt p H0 H' (n + 3) → f < 26 → q ∈ paces → 2 ≤ m → m ≤ 4 → Q (.str (tx (lets f q m))) H'
theorem abc_at (r : Int) : ∃ c, atI (Str.ofString "abcdefghijklmnopqrstuvwxyz").cps.toList (r % 26) = some c ∧ c = 97 + (r % 26).toNat := by
  have h0 : 0 ≤ r % 26 := Int.emod_nonneg _ (by decide)
  have h1 : r % 26 < 26 := Int.emod_lt_of_pos _ (by decide)
  generalize hi : (r % 26) = i at h0 h1
  obtain ⟨j, rfl⟩ : ∃ j : Nat, i = (j : Int) := ⟨i.toNat, (Int.toNat_of_nonneg h0).symm⟩
  have hj : j < 26 := by omega
  have key : ∀ j : Nat, j < 26 → (Str.ofString "abcdefghijklmnopqrstuvwxyz").cps.toList[j]? = some (97 + j) := by decide +kernel
  exact ⟨97 + j, atI_nat (key j hj), by simp⟩
theorem paces_le : ∀ x ∈ paces, x ≤ 25 := by decide
theorem lets_succ (f p n : Nat) : lets f p (n + 1) = lets f p n ++ [97 + (f + p * n) % 26] := by
  unfold lets
  rw [List.range_succ, List.map_append]
  rfl
theorem lets_len (f p n : Nat) : (lets f p n).length = n := by
  unfold lets
  rw [List.length_map, List.length_range]
theorem sg_snoc (cs : List Nat) (c : Nat) : ((cs.map sg).map V.str) ++ [.str (sg c)] = ((cs ++ [c]).map sg).map V.str := by
  rw [List.map_append, List.map_append]
  rfl
theorem fresh0 {p : PenI} {H0 H : Hp} {n : Nat} {a : Addr} (P : PenAt p H0 H n) (h : H a = none) : H0 a = none := fresh_back P.1 h
theorem fresh_ne {p : PenI} {H0 H : Hp} {n : Nat} {a : Addr} (P : PenAt p H0 H n) (h : H a = none) : a ≠ p.d := by
  obtain ⟨kvs, h2⟩ := P.dict
  intro e
  rw [e, h2] at h
  cases h
section
variable {P : Program} {w : World} {K : PySem.W.Frag} {mg : Str → Option Value} {base : Heap}
theorem ok_letters {f : Addr} {fd : FuncData} (F : Fun K "_law_letters" "_law_letters" s_lletters f fd) (T : Tx mg) (c_ldraw : Kn P w K mg base "_law_draw" ["_law_pen_here", "_law_many"] 1 spDraw)
    (c_pickL : Kn P w K mg base "_law_pick" ["_law_pen_here", "_law_some"] 2 spPickL) : FnOk P w K mg base CX0 3 f fd ["_law_pen_here"] spLetters := by
  refine F.ok sc_lletters (fun vs H Q E h => ?_) (fun cdv A outer s H vs Q E hr h => ?_)
  · obtain ⟨p, H0, n, rfl, _⟩ := h
    rfl
  · obtain ⟨p, H0, n, rfl, P0, hn, q⟩ := h
    refine ⟨_, (pss_cons (ps_asg (pe_tup (pa_cons pe_str (pa_cons (pe_call c_ldraw.ok (hr.mono (by decide)) (by rfl) c_ldraw.g c_ldraw.kp c_ldraw.b .nil pass0 (pa_cons (pv 0) (pa_cons pe_int pa_nil))) pa_nil))) (pg_tup (by rfl) (pgs_cons (pg_name (i := 1) sc_lletters.nd rfl (Or.inr rfl)) (pgs_cons (pg_name (i := 2) sc_lletters.nd rfl (Or.inr rfl)) pgs_nil))))
      (pss_cons (ps_set (i := 3) sc_lletters.nd rfl (Or.inr rfl) (pe_call c_pickL.ok (hr.mono (by decide)) (by rfl) c_pickL.g c_pickL.kp c_pickL.b .nil pass0 (pa_cons (pv 0) (pa_cons (pe_lst (pa_cons pe_int (pa_cons pe_int (pa_cons pe_int (pa_cons pe_int (pa_cons pe_int (pa_cons pe_int (pa_cons pe_int (pa_cons pe_int (pa_cons pe_int (pa_cons pe_int (pa_cons pe_int (pa_cons pe_int pa_nil))))))))))))) pa_nil))))
      (pss_one (ps_ret (pe_join pe_str (pe_lc (own := [("_law_k", 4)]) (g := gName 4) (tt := tYes) rfl sc_lletters.nd (pi_range1 (by rfl) T.range (pa_cons (pe_op op_add pe_int (pe_call c_ldraw.ok (hr.mono (by decide)) (by rfl) c_ldraw.g c_ldraw.kp c_ldraw.b .nil pass0 (pa_cons (pv 0) (pa_cons pe_int pa_nil)))) pa_nil)) (blkOk_by (N := N_lletters) (sc := defScope s_lletters) (by decide +kernel)) (fun _ _ _ _ _ => (pg_name (i := 4) sc_lletters.nd rfl (Or.inl rfl))) (fun _ _ _ _ _ => pts_nil) (fun _ _ _ _ _ => (pe_ix ix_str (pv 1) (pe_op op_mod (pe_callTy call_int1 (by rfl) T.int PyProof.Rows.boot_int (pa_cons (pe_op op_add (pv 2) (pe_op op_mul (pv 3) (pv 4))) pa_nil)) pe_int) (fun _ _ => rfl))))))))), ?_⟩
    refine ⟨_, rfl, p, H0, n, 26, rfl, P0, by omega, by decide, by decide, fun H1 r P1 r0 r1 => ⟨by show 2 ≤ sizeLine; decide, fun t ht => ?_⟩⟩
    refine ⟨t, _, rfl, .inl (.inl upd_same), rfl, _, _, rfl, _, _, rfl, rfl, ?_⟩
    have P2 := P1.ex (Ex.new (o := .tup [V.str (Str.ofString "abcdefghijklmnopqrstuvwxyz"), V.int r]) ht)
    generalize (upd H1 t (.tup [V.str (Str.ofString "abcdefghijklmnopqrstuvwxyz"), V.int r])) = H2 at P2 ⊢
    refine ⟨_, rfl, by show 12 ≤ sizeLine; decide, fun l hl => ⟨p, H0, l, n + 1, _, rfl, P2.ex (Ex.new hl), by omega, upd_same, by show 0 < 12; decide, by show 12 < 1000; decide, fun H3 v P3 hv => ?_⟩⟩
    obtain ⟨pc, hpc, rfl⟩ : ∃ pc : Nat, pc ∈ paces ∧ v = .int pc := by
      have hv2 : v ∈ paces.map fun pc => V.int ((pc : Nat) : Int) := hv
      obtain ⟨x, h1, h2⟩ := List.mem_map.mp hv2
      exact ⟨x, h1, h2.symm⟩
    refine ⟨⟨_, rfl⟩, _, rfl, p, H0, n + 2, 3, rfl, P3, by omega, by decide, by decide, fun H4 r2 P4 s0 s1 => ⟨_, _, rfl, rfl, _, rfl, by omega, by omega, fun D hD => ?_⟩⟩
    obtain ⟨m, hm⟩ : ∃ m : Nat, (2 + r2).toNat = m := ⟨_, rfl⟩
    obtain ⟨fr, rfl⟩ : ∃ fr : Nat, r = (fr : Int) := ⟨r.toNat, (Int.toNat_of_nonneg r0).symm⟩
    rw [hm]
    have pc1 := paces_le pc hpc
    have d0 := fresh0 P4 hD
    have d1 := fresh_ne P4 hD
    refine lc_range (lo := 0) (n := m) (fun i H => PenAt p H0 H (n + 3) ∧ H D = some (.lst (((lets fr pc i).map sg).map V.str))) ⟨(P4.upd d0 d1).le (by omega), upd_same⟩ (fun i H hi hw => ?_) (fun H hw => ?_)
    · refine ⟨rfl, _, rfl, _, rfl, _, rfl, _, rfl, _, _, rfl, rfl, .inl ⟨by omega, by omega⟩, _, _, rfl, rfl, .inl ⟨_, rfl, _, _, rfl, rfl, (by show (0 : Int) < 26; decide), ?_⟩⟩
      obtain ⟨c, hc1, hc2⟩ := abc_at ((fr : Int) + (pc : Int) * ((0 : Int) + (i : Int)))
      refine ⟨_, _, c, rfl, rfl, by decide +kernel, hc1, _, hw.2, ?_, hw.1.upd d0 d1, ?_⟩
      · rw [List.length_map, List.length_map, lets_len]
        exact Nat.lt_of_lt_of_le (show i < 100 by omega) (by decide)
      · rw [upd_same]
        refine congrArg (fun l => some (HO.lst l)) ?_
        rw [lets_succ, ← sg_snoc]
        have e : c = 97 + (fr + pc * i) % 26 := by
          rw [hc2]
          have e1 : ((fr : Int) + (pc : Int) * ((0 : Int) + (i : Int))) = ((fr + pc * i : Nat) : Int) := by
            rw [Int.zero_add]
            simp
          rw [e1]
          omega
        rw [e]
        rfl
    · exact join_done hw.2 (by unfold lets; rw [List.length_map, List.length_range]; omega) (q _ _ _ _ hw.1 (by omega) hpc (by omega) (by omega))
end
end Law

namespace Law
open PySem PySem.Spec PyProof.Rows L2 Evl TR
theorem fold_app (l : List (Array Nat)) : ∀ a : Array Nat, (l.foldl (· ++ ·) a).toList = a.toList ++ (l.map Array.toList).flatten := by
  induction l with
  | nil => intro a; simp
  | cons x r ih =>
    intro a
    rw [List.foldl_cons, ih, List.map_cons, List.flatten_cons, Array.toList_append, List.append_assoc]
theorem mul_tx (l : List Nat) {n : Int} (h : 1 ≤ n) : Txt.mul (tx l) n = tx (List.replicate n.toNat l).flatten := by
  refine TL.ext_tl ?_
  unfold Txt.mul
  rw [if_neg (by omega)]
  by_cases q : (n == 1 || (tx l).length == 0) = true
  · rw [if_pos q]
    rw [Bool.or_eq_true, beq_iff_eq, beq_iff_eq] at q
    rcases q with q | q
    · subst q
      show l = (List.replicate 1 l).flatten
      simp
    · rw [tx_len] at q
      have e : l = [] := List.length_eq_zero_iff.mp q
      subst e
      show ([] : List Nat) = (List.replicate n.toNat []).flatten
      simp
  · rw [if_neg q]
    show (List.foldl (· ++ ·) #[] (List.replicate n.toNat (tx l).cps)).toList = (List.replicate n.toNat l).flatten
    rw [fold_app, List.map_replicate]
    rfl
theorem rep_len (n : Nat) (l : List Nat) : (List.replicate n l).flatten.length = n * l.length := by
  induction n with
  | zero => simp
  | succ k ih => rw [List.replicate_succ, List.flatten_cons, List.length_append, ih, Nat.succ_mul, Nat.add_comm]
theorem cut_to (l : List Nat) (k : Nat) : cutS (tx l) none (some (k : Int)) = tx (l.take k) := by
  refine TL.ext_tl ?_
  show (List.take _ (List.drop _ l)) = l.take k
  rw [HT.sIx_none, HT.sIx_nat, tx_len, Nat.sub_zero, List.drop_zero]
  rw [List.take_eq_take_iff]
  omega
theorem cut_from (l : List Nat) (k : Nat) : cutS (tx l) (some (k : Int)) none = tx (l.drop k) := by
  refine TL.ext_tl ?_
  show (List.take _ (List.drop _ l)) = l.drop k
  rw [HT.sIx_none, HT.sIx_nat, tx_len]
  by_cases h : k ≤ l.length
  · rw [Nat.min_eq_left h, List.take_of_length_le (by rw [List.length_drop]; omega)]
  · rw [Nat.min_eq_right (by omega), Nat.sub_self, List.take_zero, List.drop_eq_nil_of_le (by omega)]
theorem cut_mid (l : List Nat) (a b : Nat) : cutS (tx l) (some (a : Int)) (some ((a : Int) + (b : Int))) = tx ((l.drop a).take b) := by
  refine TL.ext_tl ?_
  show (List.take _ (List.drop _ l)) = (l.drop a).take b
  rw [show (a : Int) + (b : Int) = ((a + b : Nat) : Int) by omega, HT.sIx_nat, HT.sIx_nat, tx_len]
  by_cases h : a ≤ l.length
  · rw [Nat.min_eq_left h, List.take_eq_take_iff, List.length_drop]
    omega
  · have x1 : min a l.length = l.length := by omega
    have x2 : min (a + b) l.length = l.length := by omega
    rw [x1, x2, List.drop_length, List.drop_eq_nil_of_le (show l.length ≤ a by omega), List.take_nil, List.take_nil]
theorem join_bound (cs : List Nat) (h : cs.length ≤ 1000000) : ((cs.map sg).map (·.length)).sum + (cs.map sg).length * (Str.ofString "").length ≤ 16777216 := by
  rw [join_size, show (Str.ofString "").length = 0 from rfl]
  omega
theorem tx_le {l : List Nat} (h : l.length < 1000) : (tx l).length ≤ sizeLine := by
  rw [tx_len]
  exact sz_le h
theorem sg_tx (c : Nat) : sg c = tx [c] := rfl
theorem mem_rep {n : Nat} {l : List Nat} {c : Nat} (h : c ∈ (List.replicate n l).flatten) : c ∈ l := by
  obtain ⟨m, hm, hc⟩ := List.mem_flatten.mp h
  rw [List.eq_of_mem_replicate hm] at hc
  exact hc
theorem tx_app (l m : List Nat) : tx l ++ tx m = tx (l ++ m) := by
  refine TL.ext_tl ?_
  rw [TL.tl_append]
  rfl
theorem sgs_of (l : List Nat) : ST.signsOf (tx l) = l.map sg := rfl
theorem tx_size (l : List Nat) : (tx l).cps.size = l.length := by simp [tx]
theorem tx_at {l : List Nat} {i c : Nat} (h : (tx l).cps[i]? = some c) : l[i]? = some c := by
  rw [← h]
  simp [tx]
theorem sg_inj2 {c d : Nat} (h : sg c = sg d) : c = d := by
  have h2 : (sg c).cps.toList = (sg d).cps.toList := by rw [h]
  exact List.head_eq_of_cons_eq h2
theorem dct_nodup {l : List Nat} (h : l.Nodup) : ∀ i, i ≤ l.length → ST.dct (l.map sg) i = i
  | 0, _ => rfl
  | i + 1, hi => by
    have ih := dct_nodup h i (by omega)
    unfold ST.dct
    have hno : (((l.map sg).take i).any (· == (l.map sg).getD i Str.empty)) = false := by
      rw [Bool.eq_false_iff]
      intro q
      rw [List.any_eq_true] at q
      obtain ⟨x, hx, he⟩ := q
      rw [beq_iff_eq] at he
      have hi2 : i < l.length := by omega
      have e1 : (l.map sg).getD i Str.empty = sg l[i] := by
        rw [List.getD_eq_getElem?_getD, List.getElem?_map, List.getElem?_eq_getElem hi2]
        rfl
      rw [e1] at he
      obtain ⟨j, hj, ej⟩ := List.mem_iff_getElem.mp hx
      rw [List.length_take, List.length_map] at hj
      have ej2 : sg (l[j]'(by omega)) = x := by
        rw [← ej, List.getElem_take, List.getElem_map]
      have e2 : l[j]'(by omega) = l[i] := sg_inj2 (ej2.trans he)
      exact List.pairwise_iff_getElem.mp h j i (by omega) hi2 (by omega) e2
    rw [hno]
    show (if false = true then _ else _) = i + 1
    rw [if_neg (by decide), ih]
/-- letters: two to four different small ones -/
structure LG (l : List Nat) : Prop where
  lo : 2 ≤ l.length
  hi : l.length ≤ 4
  az : ∀ c ∈ l, 97 ≤ c ∧ c ≤ 122
  nd : l.Nodup
theorem lets_good {f p m : Nat} (hf : f < 26) (hp : p ∈ paces) (h1 : 2 ≤ m) (h2 : m ≤ 4) : LG (lets f p m) := by
  refine ⟨by rw [lets_len]; exact h1, by rw [lets_len]; exact h2, fun c hc => ?_, ?_⟩
  · unfold lets at hc
    obtain ⟨k, _, rfl⟩ := List.mem_map.mp hc
    omega
  · have key : ∀ f : Nat, f < 26 → ∀ p ∈ paces, (lets f p 2).Nodup ∧ (lets f p 3).Nodup ∧ (lets f p 4).Nodup := by decide +kernel
    obtain ⟨a, b, c⟩ := key f hf p hp
    have hm : m = 2 ∨ m = 3 ∨ m = 4 := by omega
    rcases hm with rfl | rfl | rfl <;> assumption
def spAreL : Sp := fun vs H Q _ => ∃ L : List Nat, vs = [.str (tx L)] ∧ LG L ∧ ∀ H', Ex H H' → Q (.bl true) H'
theorem kit_lt {K : PySem.W.Frag} : PySem.W.kitAny K (.type "list") [.type "list", .type "tuple"] = some true :=
  kitAny_cons (b := true) (kit_ty (by decide +kernel)) (fun h => by cases h) fun _ => rfl
theorem kit_tt {K : PySem.W.Frag} : PySem.W.kitAny K (.type "tuple") [.type "list", .type "tuple"] = some true :=
  kitAny_cons (b := false) (kit_ty (by decide +kernel)) (fun _ => kitAny_cons (b := true) (kit_ty (by decide +kernel)) (fun h => by cases h) fun _ => rfl) fun h => by cases h
theorem kit_ss {K : PySem.W.Frag} : PySem.W.kitOne K (.type "str") (.type "str") = some true := kit_ty (by decide +kernel)
theorem kit_ii {K : PySem.W.Frag} : PySem.W.kitOne K (.type "int") (.type "int") = some true := kit_ty (by decide +kernel)
theorem kit_ib {K : PySem.W.Frag} : PySem.W.kitOne K (.type "int") (.type "bool") = some false := kit_ty (by decide +kernel)
def spIsQ : Sp := fun vs H Q _ => ∃ (a : Addr) (k : Bool) (xs : List V), vs = [.ref a] ∧ H a = some (ob k xs) ∧ ∀ H', Ex H H' → Q (.bl true) H'
def spIsInt : Sp := fun vs H Q _ => ∃ v : Int, vs = [.int v] ∧ ∀ H', Ex H H' → Q (.bl true) H'
def spWhole : Sp := fun vs H Q _ => ∃ v lo hi : Int, vs = [.int v, .int lo, .int hi] ∧ lo ≤ v ∧ v ≤ hi ∧ ∀ H', Ex H H' → Q (.bl true) H'
def spIsPart : Sp := fun vs H Q _ => ∃ (t : Tr) (v : V) (k : Bool) (L : List Nat) (w n : Nat), vs = [v, .str (tx L), .int (w : Int), .int (n : Int)] ∧ TA k H v t ∧ t.ok L.length w n ∧ L.length ≤ 10 ∧ ∀ H', Ex H H' → Q (.bl true) H'
def spWithin : Sp := fun vs H Q _ => ∃ (t : Tr) (v : V) (k : Bool) (H0 : Hp), vs = [v] ∧ TA k H0 v t ∧ Ex H0 H ∧ ∀ r H' us, Ex H H' → H r = none → H' r = some (.lst us) → Kids k H0 us t.kids → Q (.ref r) H'
theorem go_ne_read : ¬ (V.str (Str.ofString "go") = V.str (Str.ofString "read")) := fun h => absurd (V.str.inj h) (by decide +kernel)
theorem go_ne_tell : ¬ (V.str (Str.ofString "go") = V.str (Str.ofString "tell")) := fun h => absurd (V.str.inj h) (by decide +kernel)
theorem tell_ne_read : ¬ (V.str (Str.ofString "tell") = V.str (Str.ofString "read")) := fun h => absurd (V.str.inj h) (by decide +kernel)
theorem tell_ne_go : ¬ (V.str (Str.ofString "tell") = V.str (Str.ofString "go")) := fun h => absurd (V.str.inj h) (by decide +kernel)
theorem read_ne_go : ¬ (V.str (Str.ofString "read") = V.str (Str.ofString "go")) := fun h => absurd (V.str.inj h) (by decide +kernel)
theorem read_ne_tell : ¬ (V.str (Str.ofString "read") = V.str (Str.ofString "tell")) := fun h => absurd (V.str.inj h) (by decide +kernel)
theorem iteD {c A B : Prop} [Decidable c] (hc : c) (h : A) : if decide c = true then A else B := by
  rw [if_pos (decide_eq_true hc)]
  exact h
theorem iteDn {c A B : Prop} [Decidable c] (hc : ¬ c) (h : B) : if decide c = true then A else B := by
  rw [if_neg (by rw [decide_eq_true_eq]; exact hc)]
  exact h
section
variable {P : Program} {w : World} {K : PySem.W.Frag} {mg : Str → Option Value} {base : Heap}
theorem ok_isQ {f : Addr} {fd : FuncData} (F : Fun K "is_list" "is_list" s_is_list f fd) (T : Tx mg) : FnOk P w K mg base CX0 1 f fd ["value"] spIsQ := by
  refine F.ok sc_is_list (fun vs H Q E h => ?_) (fun cdv A outer s H vs Q E hr h => ?_)
  · obtain ⟨a, k, xs, rfl, _⟩ := h
    rfl
  · obtain ⟨a, k, xs, rfl, ha, q⟩ := h
    refine ⟨_, (pss_one (ps_ret (pe_callB call_isiT (by rfl) T.isinstance PyProof.Rows.boot_isinstance (pa_cons (pv 0) (pa_cons (pe_tup (pa_cons (pe_bltn (v := .ty "list") (by rfl) T.list PyProof.Rows.boot_list rfl) (pa_cons (pe_bltn (v := .ty "tuple") (by rfl) T.tuple PyProof.Rows.boot_tuple rfl) pa_nil))) pa_nil))))), ?_⟩
    refine ⟨_, rfl, by show 2 ≤ sizeLine; decide, fun t ht => ?_⟩
    cases k
    · exact ⟨_, t, _, _, _, true, rfl, upd_same, .cons (.ty _) (.cons (.ty _) .nil), .base (.lst (Ex.new ht _ _ ha)), kit_lt, q _ (Ex.new ht)⟩
    · exact ⟨_, t, _, _, _, true, rfl, upd_same, .cons (.ty _) (.cons (.ty _) .nil), .base (.tup (Ex.new ht _ _ ha)), kit_tt, q _ (Ex.new ht)⟩
theorem ok_integer {f : Addr} {fd : FuncData} (F : Fun K "is_integer" "is_integer" s_is_integer f fd) (T : Tx mg) : FnOk P w K mg base CX0 1 f fd ["value"] spIsInt := by
  refine F.ok sc_is_integer (fun vs H Q E h => ?_) (fun cdv A outer s H vs Q E hr h => ?_)
  · obtain ⟨v, rfl, _⟩ := h
    rfl
  · obtain ⟨v, rfl, q⟩ := h
    refine ⟨_, (pss_one (ps_ret (pe_and (pe_callB call_isi (by rfl) T.isinstance PyProof.Rows.boot_isinstance (pa_cons (pv 0) (pa_cons (pe_bltn (v := .ty "int") (by rfl) T.int PyProof.Rows.boot_int rfl) pa_nil))) (pe_one (pe_not (pe_callB call_isi (by rfl) T.isinstance PyProof.Rows.boot_isinstance (pa_cons (pv 0) (pa_cons (pe_bltn (v := .ty "bool") (by rfl) T.bool PyProof.Rows.boot_bool rfl) pa_nil)))))))), ?_⟩
    refine ⟨_, rfl, _, _, _, _, true, rfl, .ty _, .base (.int _), kit_ii, true, rfl, ?_⟩
    exact ⟨_, rfl, _, _, _, _, false, rfl, .ty _, .base (.int _), kit_ib, false, rfl, q H (Ex.refl _)⟩
theorem ok_whole {f : Addr} {fd : FuncData} (F : Fun K "is_whole" "is_whole" s_is_whole f fd) (T : Tx mg) (c_is_integer : Kn P w K mg base "is_integer" ["value"] 1 spIsInt) : FnOk P w K mg base CX0 2 f fd ["value", "low", "high"] spWhole := by
  refine F.ok sc_is_whole (fun vs H Q E h => ?_) (fun cdv A outer s H vs Q E hr h => ?_)
  · obtain ⟨v, lo, hi, rfl, _⟩ := h
    rfl
  · obtain ⟨v, lo, hi, rfl, h1, h2, q⟩ := h
    refine ⟨_, (pss_one (ps_ret (pe_and (pe_call c_is_integer.ok (hr.mono (by decide)) (by rfl) c_is_integer.g c_is_integer.kp c_is_integer.b .nil pass0 (pa_cons (pv 0) pa_nil)) (pe_one (pe_chain op_le op_le (pv 1) (pv 0) (pv 2)))))), ?_⟩
    refine ⟨_, rfl, v, rfl, fun H' e => ⟨true, rfl, ?_⟩⟩
    refine ⟨_, rfl, _, rfl, _, _, rfl, rfl, _, rfl, iteD h1 ⟨_, rfl, _, _, rfl, rfl, ?_⟩⟩
    have q2 := q H' e
    show Q (V.bl (decide (v ≤ hi))) H'
    rw [decide_eq_true h2]
    exact q2
theorem le_a {c : Nat} (h : 97 ≤ c) : (!decide ((sg c).cps.toList < (Str.ofString "a").cps.toList)) = true := by
  rw [show (Str.ofString "a").cps.toList = [97] by decide +kernel, show (sg c).cps.toList = [c] from rfl]
  rw [decide_eq_false]
  · rfl
  · intro q
    rw [List.cons_lt_cons_iff] at q
    rcases q with q | ⟨_, q⟩
    · omega
    · exact absurd q (by simp)
theorem le_z {c : Nat} (h : c ≤ 122) : (!decide ((Str.ofString "z").cps.toList < (sg c).cps.toList)) = true := by
  rw [show (Str.ofString "z").cps.toList = [122] by decide +kernel, show (sg c).cps.toList = [c] from rfl]
  rw [decide_eq_false]
  · rfl
  · intro q
    rw [List.cons_lt_cons_iff] at q
    rcases q with q | ⟨_, q⟩
    · omega
    · exact absurd q (by simp)
theorem lc_str {x : Str} {g : TG} {tt : TT} {te : TE} {vs : List Nat} {σ : L2.St} {H1 : Hp} {D : Addr} {Qd : Hp → Prop} (Pv : Nat → Hp → Prop) (h0 : Pv 0 (upd H1 D (.lst [])))
    (hs : ∀ i c H, x.cps[i]? = some c → Pv i H → g (.str ⟨#[c]⟩) (wipe σ vs) H fun σ2 H2 => wipe σ2 vs = wipe σ vs ∧ tt σ2 H2 fun b H3 =>
      if b = true then te σ2 H3 fun z H4 => ∃ acc, H4 D = some (.lst acc) ∧ acc.length < sizeLine ∧ Pv (i + 1) (upd H4 D (.lst (acc ++ [z]))) else Pv (i + 1) H3) (hd : ∀ H, Pv x.cps.size H → Qd H) :
    ∃ W : Nat → Nat → Hp → Prop, (∃ m, W 0 m (upd H1 D (.lst []))) ∧ ∀ i m H, W i m H →
      ((Its x).stop i H ∧ Qd H) ∨ ((Its x).go i H ∧ ∃ Nx : Hp → Prop, (∀ H', Nx H' → ∃ m', m' < m ∧ W (i + 1) m' H') ∧ ∀ v H', (Its x).yld i H v H' → g v (wipe σ vs) H' fun σ2 H2 => wipe σ2 vs = wipe σ vs ∧ tt σ2 H2 fun b H3 =>
        if b = true then te σ2 H3 fun z H4 => ∃ acc, H4 D = some (.lst acc) ∧ acc.length < sizeLine ∧ Nx (upd H4 D (.lst (acc ++ [z]))) else Nx H3) := by
  refine ⟨fun i m H => i + m = x.cps.size ∧ Pv i H, ⟨_, Nat.zero_add _, h0⟩, ?_⟩
  rintro i m H ⟨e, p⟩
  by_cases hm : m = 0
  · have e2 : i = x.cps.size := by omega
    refine .inl ⟨by show x.cps.size ≤ i; omega, hd H ?_⟩
    rw [← e2]
    exact p
  · refine .inr ⟨by show i < x.cps.size; omega, Pv (i + 1), fun H' p' => ⟨m - 1, by omega, by omega, p'⟩, ?_⟩
    rintro v H' ⟨rfl, c, hc, rfl⟩
    exact hs i c _ hc p
theorem bl_snoc' (bs : List Bool) (b : Bool) : bs.map V.bl ++ [.bl b] = (bs ++ [b]).map V.bl := by
  rw [List.map_append]
  rfl
theorem all_yes (n : Nat) : (List.replicate n true).all id = true := by
  rw [List.all_eq_true]
  intro x hx
  rw [List.eq_of_mem_replicate hx]
  rfl
theorem ok_areL {f : Addr} {fd : FuncData} (F : Fun K "are_letters" "are_letters" s_are_letters f fd) (T : Tx mg) : FnOk P w K mg base CX0 1 f fd ["value"] spAreL := by
  refine F.ok sc_are_letters (fun vs H Q E h => ?_) (fun cdv A outer s H vs Q E hr h => ?_)
  · obtain ⟨L, rfl, _⟩ := h
    rfl
  · obtain ⟨L, rfl, hL, q⟩ := h
    have h1 := hL.lo
    have h2 := hL.hi
    refine ⟨_, (pss_cons (ps_if (PW.pt (pw_or (pt_not (pt_val (pe_callB call_isi (by rfl) T.isinstance PyProof.Rows.boot_isinstance (pa_cons (pv 0) (pa_cons (pe_bltn (v := .ty "str") (by rfl) T.str PyProof.Rows.boot_str rfl) pa_nil))))) (pw_or1 (pt_not (pt_chain op_le op_le pe_int (pe_callB call_len_str (by rfl) T.len PySem.boot_len (pa_cons (pv 0) pa_nil)) pe_int))))) (pss_one (ps_ret pe_bl)) pss_nil)
      (pss_one (ps_ret (pe_and (pe_callB (cr_all rfl) (by rfl) T.all PyProof.Rows.boot_all (pa_cons (pe_lc (own := [("sign", 1)]) (g := gName 1) (tt := tYes) rfl sc_are_letters.nd (pi_str (pv 0)) (blkOk_by (N := N_are_letters) (sc := defScope s_are_letters) (by decide +kernel)) (fun _ _ _ _ _ => (pg_name (i := 1) sc_are_letters.nd rfl (Or.inl rfl))) (fun _ _ _ _ _ => pts_nil) (fun _ _ _ _ _ => (pe_chain op_le_str op_le_str pe_str (pv 1) pe_str))) pa_nil)) (pe_one (pe_cmpR op_eq (EN.pe_lenSetS rfl (by rfl) T.len (by rfl) T.set (pv 0)) (pe_callB call_len_str (by rfl) T.len PySem.boot_len (pa_cons (pv 0) pa_nil)) (nomark _))))))), ?_⟩
    refine ⟨_, rfl, _, _, _, _, true, rfl, .ty _, .base (.str _), kit_ss, true, rfl, ?_⟩
    refine ⟨_, rfl, _, rfl, tx_le (by omega), _, _, rfl, rfl, _, rfl, ite2 (fun _ => ?_) (fun hn => absurd (decide_eq_true (by rw [tx_len]; omega)) hn)⟩
    refine ⟨_, _, rfl, rfl, _, rfl, ite2 (fun hb => ?_) (fun _ => ?_)⟩
    · rw [tx_len, decide_eq_true (by omega)] at hb
      cases hb
    refine ⟨_, rfl, _, rfl, fun D hD => ?_⟩
    refine lc_str (x := tx L) (fun i H' => Ex H H' ∧ H' D = some (.lst ((List.replicate i true).map V.bl))) ⟨Ex.new hD, upd_same⟩ (fun i c H' hic hw => ?_) (fun H' hw => ?_)
    · obtain ⟨e, hl⟩ := hw
      have hc := tx_at hic
      have az := hL.az c (List.mem_of_getElem? hc)
      have hi := (List.getElem?_eq_some_iff.mp hc).1
      refine ⟨rfl, _, rfl, _, _, rfl, rfl, _, rfl, ite2 (fun _ => ?_) (fun hn => absurd (le_a az.1) hn)⟩
      refine ⟨_, _, rfl, rfl, _, hl, ?_, e.mut hD, ?_⟩
      · rw [List.length_map, List.length_replicate]
        exact sz_lt (by omega)
      · rw [upd_same]
        refine congrArg (fun l => some (HO.lst l)) ?_
        show (List.replicate i true).map V.bl ++ [V.bl (!decide ((Str.ofString "z").cps.toList < (sg c).cps.toList))] = _
        rw [le_z az.2, bl_snoc', List.replicate_succ']
    · obtain ⟨e, hl⟩ := hw
      refine ⟨D, _, rfl, sq_of hl, _, rfl, ?_⟩
      rw [all_yes]
      refine ⟨_, rfl, _, rfl, by rw [tx_size]; omega, _, rfl, _, rfl, tx_le (by omega), rfl, ?_⟩
      have e2 : decide (V.int ((ST.dct (ST.signsOf (tx L)) (tx L).cps.size : Nat) : Int) = V.int (((tx L).length : Nat) : Int)) = true := decide_eq_true (by
        rw [sgs_of, tx_size, dct_nodup hL.nd _ (Nat.le_refl _), tx_len])
      show Q (V.bl (decide (V.int ((ST.dct (ST.signsOf (tx L)) (tx L).cps.size : Nat) : Int) = V.int (((tx L).length : Nat) : Int)))) H'
      rw [e2]
      exact q _ e
theorem ok_ispart {f : Addr} {fd : FuncData} (F : Fun K "_is_part" "_is_part" s_is_part f fd) (T : Tx mg) (c_is_list : Kn P w K mg base "is_list" ["value"] 1 spIsQ)
    (c_is_whole : Kn P w K mg base "is_whole" ["value", "low", "high"] 2 spWhole) : FnOk P w K mg base CX0 3 f fd ["part", "letters", "width", "states"] spIsPart := by
  refine F.ok sc_is_part (fun vs H Q E h => ?_) (fun cdv A outer s H vs Q E hr h => ?_)
  · obtain ⟨t, v, k, L, wd, n, rfl, _⟩ := h
    rfl
  · obtain ⟨t, v, k, L, wd, n, rfl, hT, hok, hL, q⟩ := h
    refine ⟨_, (pss_cons (ps_if (PW.pt (pw_or (pt_not (pt_val (pe_call c_is_list.ok (hr.mono (by decide)) (by rfl) c_is_list.g c_is_list.kp c_is_list.b .nil pass0 (pa_cons (pv 0) pa_nil)))) (pw_or1 (pt_cmpR op_ne (pe_callB call_len_seq (by rfl) T.len PySem.boot_len (pa_cons (pv 0) pa_nil)) pe_int (nomark _))))) (pss_one (ps_ret pe_bl)) pss_nil)
      (pss_cons (ps_asg (pv 0) (TR.pg_seq (by rfl) (pgs_cons (pg_name (i := 4) sc_is_part.nd rfl (Or.inl rfl)) (pgs_cons (pg_name (i := 5) sc_is_part.nd rfl (Or.inl rfl)) (pgs_cons (pg_name (i := 6) sc_is_part.nd rfl (Or.inl rfl)) pgs_nil)))))
      (pss_cons (ps_if (pt_cmpR op_eq (pv 4) pe_str (nomark _)) (pss_one (ps_ret (pe_and (pe_call c_is_whole.ok (hr.mono (by decide)) (by rfl) c_is_whole.g c_is_whole.kp c_is_whole.b .nil pass0 (pa_cons (pv 5) (pa_cons pe_int (pa_cons (pv 2) pa_nil)))) (pe_and (pe_call c_is_list.ok (hr.mono (by decide)) (by rfl) c_is_list.g c_is_list.kp c_is_list.b .nil pass0 (pa_cons (pv 6) pa_nil)) (pe_one (pe_cmpR op_eq (pe_callB call_len_seq (by rfl) T.len PySem.boot_len (pa_cons (pv 6) pa_nil)) (pe_callB call_len_str (by rfl) T.len PySem.boot_len (pa_cons (pv 1) pa_nil)) (nomark _))))))) pss_nil)
      (pss_cons (ps_if (pt_cmpR op_eq (pv 4) pe_str (nomark _)) (pss_one (ps_ret (pe_call c_is_whole.ok (hr.mono (by decide)) (by rfl) c_is_whole.g c_is_whole.kp c_is_whole.b .nil pass0 (pa_cons (pv 5) (pa_cons pe_int (pa_cons pe_int pa_nil)))))) pss_nil)
      (pss_cons (ps_if (pt_cmpR op_eq (pv 4) pe_str (nomark _)) (pss_one (ps_ret (pe_and (pe_call c_is_whole.ok (hr.mono (by decide)) (by rfl) c_is_whole.g c_is_whole.kp c_is_whole.b .nil pass0 (pa_cons (pv 5) (pa_cons pe_int (pa_cons (pe_op op_add (pv 2) pe_int) pa_nil)))) (pe_one (pe_call c_is_whole.ok (hr.mono (by decide)) (by rfl) c_is_whole.g c_is_whole.kp c_is_whole.b .nil pass0 (pa_cons (pv 6) (pa_cons pe_int (pa_cons (pe_op op_sub (pv 3) pe_int) pa_nil)))))))) pss_nil)
      (pss_one (ps_ret pe_bl))))))), ?_⟩
    cases hT with
    | @go a s' q' h =>
      obtain ⟨o1, o2, o3⟩ := hok
      refine ⟨_, rfl, a, k, _, rfl, h, fun H1 e1 => ⟨true, rfl, ?_⟩⟩
      refine ⟨_, rfl, a, _, rfl, ob_seq (e1 _ _ h), rfl, _, rfl, iteNS rfl ?_⟩
      refine ⟨_, rfl, gSeq_of (e1 _ _ h) rfl ⟨_, _, rfl, _, _, rfl, _, _, rfl, rfl, ?_⟩⟩
      refine ⟨_, rfl, rfl, _, rfl, iteDn go_ne_read ?_⟩
      refine ⟨_, rfl, rfl, _, rfl, iteDn go_ne_tell ?_⟩
      refine ⟨_, rfl, rfl, _, rfl, iteD rfl ?_⟩
      refine ⟨_, rfl, _, rfl, _, _, rfl, rfl, _, _, _, rfl, by omega, by omega, fun H2 e2 => ⟨true, rfl, ?_⟩⟩
      exact ⟨_, rfl, _, rfl, _, _, rfl, rfl, _, _, _, rfl, by omega, by omega, fun H3 e3 => q _ ((e1.trans e2).trans e3)⟩
    | @tell a n' v' t' h r =>
      obtain ⟨o1, o2⟩ := hok
      refine ⟨_, rfl, a, k, _, rfl, h, fun H1 e1 => ⟨true, rfl, ?_⟩⟩
      refine ⟨_, rfl, a, _, rfl, ob_seq (e1 _ _ h), rfl, _, rfl, iteNS rfl ?_⟩
      refine ⟨_, rfl, gSeq_of (e1 _ _ h) rfl ⟨_, _, rfl, _, _, rfl, _, _, rfl, rfl, ?_⟩⟩
      refine ⟨_, rfl, rfl, _, rfl, iteDn tell_ne_read ?_⟩
      refine ⟨_, rfl, rfl, _, rfl, iteD rfl ?_⟩
      exact ⟨_, rfl, _, _, _, rfl, by omega, by omega, fun H2 e2 => q _ (e1.trans e2)⟩
    | @read a b p' us ts h hb r =>
      obtain ⟨o1, o2, o3⟩ := hok
      have lk := r.kids.len
      refine ⟨_, rfl, a, k, _, rfl, h, fun H1 e1 => ⟨true, rfl, ?_⟩⟩
      refine ⟨_, rfl, a, _, rfl, ob_seq (e1 _ _ h), rfl, _, rfl, iteNS rfl ?_⟩
      refine ⟨_, rfl, gSeq_of (e1 _ _ h) rfl ⟨_, _, rfl, _, _, rfl, _, _, rfl, rfl, ?_⟩⟩
      refine ⟨_, rfl, rfl, _, rfl, iteD rfl ?_⟩
      refine ⟨_, rfl, _, rfl, _, _, _, rfl, by omega, by omega, fun H2 e2 => ⟨true, rfl, ?_⟩⟩
      have e12 := e1.trans e2
      refine ⟨_, rfl, b, k, _, rfl, e12 _ _ hb, fun H3 e3 => ⟨true, rfl, ?_⟩⟩
      have e13 := e12.trans e3
      refine ⟨_, rfl, b, _, rfl, ob_seq (e13 _ _ hb), _, rfl, _, rfl, tx_le (by omega), rfl, ?_⟩
      have ee : decide (V.int ((us.length : Nat) : Int) = V.int (((tx L).length : Nat) : Int)) = true := decide_eq_true (by rw [tx_len, lk, o2])
      show Q (V.bl (decide (V.int ((us.length : Nat) : Int) = V.int (((tx L).length : Nat) : Int)))) _
      rw [ee]
      exact q _ e13
theorem ok_within {f : Addr} {fd : FuncData} (F : Fun K "_within" "_within" s_within f fd) (T : Tx mg) : FnOk P w K mg base CX0 1 f fd ["part"] spWithin := by
  refine F.ok sc_within (fun vs H Q E h => ?_) (fun cdv A outer s H vs Q E hr h => ?_)
  · obtain ⟨t, v, k, H0, rfl, _⟩ := h
    rfl
  · obtain ⟨t, v, k, H0, rfl, hT, e0, q⟩ := h
    refine ⟨_, (pss_cons (ps_if (pt_cmpR op_eq (pe_ix ix_seq (pv 0) pe_int (fun _ _ => rfl)) pe_str (nomark _)) (pss_one (ps_ret (pe_callTy call_list_of (by rfl) T.list PyProof.Rows.boot_list (pa_cons (pe_ix ix_seq (pv 0) pe_int (fun _ _ => rfl)) pa_nil)))) pss_nil)
      (pss_cons (ps_if (pt_cmpR op_eq (pe_ix ix_seq (pv 0) pe_int (fun _ _ => rfl)) pe_str (nomark _)) (pss_one (ps_ret (pe_lst (pa_cons (pe_ix ix_seq (pv 0) pe_int (fun _ _ => rfl)) pa_nil)))) pss_nil)
      (pss_one (ps_ret (pe_lst pa_nil))))), ?_⟩
    cases hT with
    | @go a s' q' h =>
      refine ⟨_, rfl, ix_at (e0 _ _ h) (atI_nat (j := 0) rfl) ⟨rfl, _, rfl, iteDn go_ne_read ?_⟩⟩
      refine ⟨_, rfl, ix_at (e0 _ _ h) (atI_nat (j := 0) rfl) ⟨rfl, _, rfl, iteDn go_ne_tell ?_⟩⟩
      exact ⟨Nat.zero_le _, fun r hr => q r _ _ (Ex.new hr) hr upd_same .nil⟩
    | @tell a n' v' t' h r0 =>
      refine ⟨_, rfl, ix_at (e0 _ _ h) (atI_nat (j := 0) rfl) ⟨rfl, _, rfl, iteDn tell_ne_read ?_⟩⟩
      refine ⟨_, rfl, ix_at (e0 _ _ h) (atI_nat (j := 0) rfl) ⟨rfl, _, rfl, iteD rfl ?_⟩⟩
      exact ⟨_, rfl, ix_at (e0 _ _ h) (atI_nat (j := 2) rfl) ⟨by show 1 ≤ sizeLine; decide, fun r hr => q r _ _ (Ex.new hr) hr upd_same (.cons r0 .nil)⟩⟩
    | @read a b p' us ts h hb r0 =>
      refine ⟨_, rfl, ix_at (e0 _ _ h) (atI_nat (j := 0) rfl) ⟨rfl, _, rfl, iteD rfl ?_⟩⟩
      exact ⟨_, rfl, ix_at (e0 _ _ h) (atI_nat (j := 2) rfl) ⟨b, _, rfl, ob_seq (e0 _ _ hb), fun r hr => q r _ _ (Ex.new hr) hr upd_same r0.kids⟩⟩
end
end Law

namespace Law
open PySem PySem.Spec PyProof.Rows L2 Evl TR
/-! ### the waiting ones -/
inductive Stk (k : Bool) (H0 H : Hp) : List V → List (Tr × Nat) → Prop
  | nil : Stk k H0 H [] []
  | cons {r : Addr} {v : V} {t : Tr} {d : Nat} {vs : List V} {ps : List (Tr × Nat)} : H r = some (.tup [v, .int (d : Nat)]) → TA k H0 v t → Stk k H0 H vs ps → Stk k H0 H (.ref r :: vs) ((t, d) :: ps)
theorem Stk.ex {k : Bool} {H0 H H' : Hp} (e : Ex H H') : ∀ {vs : List V} {ps : List (Tr × Nat)}, Stk k H0 H vs ps → Stk k H0 H' vs ps
  | _, _, .nil => .nil
  | _, _, .cons h1 h2 r => .cons (e _ _ h1) h2 (Stk.ex e r)
theorem Stk.len {k : Bool} {H0 H : Hp} : ∀ {vs : List V} {ps : List (Tr × Nat)}, Stk k H0 H vs ps → vs.length = ps.length
  | _, _, .nil => rfl
  | _, _, .cons _ _ r => by rw [List.length_cons, List.length_cons, r.len]
theorem Stk.app {k : Bool} {H0 H : Hp} : ∀ {vs : List V} {ps : List (Tr × Nat)} {us : List V} {qs : List (Tr × Nat)}, Stk k H0 H vs ps → Stk k H0 H us qs → Stk k H0 H (vs ++ us) (ps ++ qs)
  | _, _, _, _, .nil, h => h
  | _, _, _, _, .cons h1 h2 r, h => .cons h1 h2 (Stk.app r h)
theorem Stk.upd {k : Bool} {H0 H : Hp} {a : Addr} {o : HO} : ∀ {vs : List V} {ps : List (Tr × Nat)}, Stk k H0 H vs ps → (∀ xs, H a ≠ some (.tup xs)) → Stk k H0 (L2.upd H a o) vs ps
  | _, _, .nil, _ => .nil
  | _, _, .cons (r := r) h1 h2 r1, hn => .cons (by rw [upd_ne (fun q : r = a => hn _ (by rw [← q]; exact h1))]; exact h1) h2 (Stk.upd r1 hn)
theorem Stk.last {k : Bool} {H0 H : Hp} : ∀ {vs : List V} {ps : List (Tr × Nat)}, Stk k H0 H vs ps → vs ≠ [] →
    ∃ us r v t d qs, vs = us ++ [.ref r] ∧ ps = qs ++ [(t, d)] ∧ Stk k H0 H us qs ∧ H r = some (.tup [v, .int (d : Nat)]) ∧ TA k H0 v t
  | _, _, .nil, h => absurd rfl h
  | _, _, .cons (r := r) (v := v) (t := t) (d := d) h1 h2 .nil, _ => ⟨[], r, v, t, d, [], rfl, rfl, .nil, h1, h2⟩
  | _, _, .cons (r := r) (v := v) (t := t) (d := d) h1 h2 (.cons a1 a2 a3), _ => by
    obtain ⟨us, r', v', t', d', qs, e1, e2, s, b1, b2⟩ := Stk.last (.cons a1 a2 a3) (by intro q; cases q)
    exact ⟨.ref r :: us, r', v', t', d', (t, d) :: qs, by rw [e1]; rfl, by rw [e2]; rfl, .cons h1 h2 s, b1, b2⟩
def tot (ps : List (Tr × Nat)) : Nat := (ps.map fun p => p.1.size).sum
theorem tot_app (ps qs : List (Tr × Nat)) : tot (ps ++ qs) = tot ps + tot qs := by
  unfold tot
  rw [List.map_append, List.sum_append]
theorem tot_kids (ts : List Tr) (d : Nat) : tot (ts.map fun t => (t, d)) = total ts := by
  unfold tot total
  rw [List.map_map]
  rfl
theorem total_rev (ts : List Tr) : total ts.reverse = total ts := by
  unfold total
  rw [List.map_reverse, List.sum_reverse]
theorem len_tot : ∀ ps : List (Tr × Nat), ps.length ≤ tot ps
  | [] => Nat.zero_le _
  | p :: r => by
    have h1 := len_tot r
    have h2 := size_pos p.1
    show r.length + 1 ≤ p.1.size + tot r
    omega
def spFW : Sp := fun vs H Q _ => ∃ (t : Tr) (v : V) (k : Bool) (L : List Nat) (w n : Nat), vs = [v, .str (tx L), .int (w : Int), .int (n : Int)] ∧ TA k H v t ∧ t.ok L.length w n ∧ L.length ≤ 10 ∧ t.depth ≤ 40 ∧ t.size ≤ 10000 ∧ ∀ H', Ex H H' → Q .non H'
theorem pop_last {α : Type} (us : List α) (x : α) : (us ++ [x])[(us ++ [x]).length - 1]? = some x := by
  rw [List.length_append]
  simp
theorem take_next' {α : Type} {l : List α} {i : Nat} {x : α} (h : l[i]? = some x) : l.take (i + 1) = l.take i ++ [x] := by
  rw [List.take_add_one, h]
  rfl
theorem rev_get {α : Type} {l : List α} {i : Nat} {x : α} (h : l[l.length - 1 - i]? = some x) (hi : i < l.length) : l.reverse[i]? = some x := by
  rw [List.getElem?_reverse hi]
  exact h
section
variable {P : Program} {w : World} {K : PySem.W.Frag} {mg : Str → Option Value} {base : Heap}
theorem ok_fw {f : Addr} {fd : FuncData} (F : Fun K "first_wrong" "first_wrong" s_first_wrong f fd) (T : Tx mg) (c_is_part : Kn P w K mg base "_is_part" ["part", "letters", "width", "states"] 3 spIsPart)
    (c_within : Kn P w K mg base "_within" ["part"] 1 spWithin) : FnOk P w K mg base CX0 4 f fd ["tree", "letters", "width", "states"] spFW := by
  refine F.ok sc_first_wrong (fun vs H Q E h => ?_) (fun cdv A outer s H vs Q E hr h => ?_)
  · obtain ⟨t, v, k, L, wd, n, rfl, _⟩ := h
    rfl
  · obtain ⟨t, v, k, L, wd, n, rfl, hT, hok, hL, hdp, hsz, q⟩ := h
    refine ⟨_, (pss_cons (ps_set (i := 4) sc_first_wrong.nd rfl (Or.inl rfl) (pe_lst (pa_cons (pe_tup (pa_cons (pv 0) (pa_cons pe_int pa_nil))) pa_nil)))
      (pss_cons (ps_set (i := 5) sc_first_wrong.nd rfl (Or.inl rfl) pe_int)
      (pss_cons (ps_while PassesOwn.never (pt_truth (pv 4) (by intro _; rfl)) (pss_cons (ps_asg (pe_bm0 PySem.F.plainAttrs_list PySem.F.slot_list_pop PySem.F.type_list_pop mt_pop (pv 4)) (pg_tup (by rfl) (pgs_cons (pg_name (i := 6) sc_first_wrong.nd rfl (Or.inl rfl)) (pgs_cons (pg_name (i := 7) sc_first_wrong.nd rfl (Or.inr rfl)) pgs_nil))))
      (pss_cons (ps_if (PW.pt (pw_or (pt_cmpR op_gt (pv 7) (pe_glob (v := .int 40) rfl T.m_DEEPEST ⟨_, rfl⟩) (nomark _)) (pw_or1 (pt_not (pt_val (pe_call c_is_part.ok (hr.mono (by decide)) (by rfl) c_is_part.g c_is_part.kp c_is_part.b .nil pass0 (pa_cons (pv 6) (pa_cons (pv 1) (pa_cons (pv 2) (pa_cons (pv 3) pa_nil)))))))))) (pss_one (ps_ret (pv 5))) pss_nil)
      (pss_cons (ps_expr (pe_bm PySem.F.plainAttrs_list PySem.F.slot_list_extend PySem.F.type_list_extend mt_extend (pv 4) (pa_cons (pe_lc (own := [("inner", 8)]) (g := gName 8) (tt := tYes) rfl sc_first_wrong.nd (pi_reversed (by rfl) T.reversed (pa_cons (pe_call c_within.ok (hr.mono (by decide)) (by rfl) c_within.g c_within.kp c_within.b .nil pass0 (pa_cons (pv 6) pa_nil)) pa_nil)) (blkOk_by (N := N_first_wrong) (sc := defScope s_first_wrong) (by decide +kernel)) (fun _ _ _ _ _ => (pg_name (i := 8) sc_first_wrong.nd rfl (Or.inl rfl))) (fun _ _ _ _ _ => pts_nil) (fun _ _ _ _ _ => (pe_tup (pa_cons (pv 8) (pa_cons (pe_op op_add (pv 7) pe_int) pa_nil))))) pa_nil)))
      (pss_one (ps_aug (i := 5) sc_first_wrong.nd rfl (Or.inl rfl) pe_int ip_add))))))
      (pss_one (ps_ret pe_non))))), ?_⟩
    refine ⟨_, rfl, by show 2 ≤ sizeLine; decide, fun t1 ht1 => ⟨by show 1 ≤ sizeLine; decide, fun l hl => ?_⟩⟩
    have hl0 : H l = none := fresh_back (Ex.new ht1) hl
    have e1 := (Ex.new (o := .tup [v, .int 1]) ht1).trans (Ex.new (o := .lst [V.ref t1]) hl)
    refine ⟨fun m σ H' => ∃ (st : List V) (ps : List (Tr × Nat)) (nm : Int) (y6 y7 y8 : Option V), σ = [some v, some (.str (tx L)), some (.int (wd : Int)), some (.int (n : Int)), some (.ref l), some (.int nm), y6, y7, y8] ∧
        Ex H H' ∧ H' l = some (.lst st) ∧ Stk k H H' st ps ∧ (∀ p ∈ ps, p.1.ok L.length wd n ∧ p.2 + p.1.depth ≤ 41) ∧ m = tot ps ∧ m ≤ 10000,
      ⟨t.size, [.ref t1], [(t, 1)], 0, none, none, none, rfl, e1, upd_same, .cons (Ex.new hl _ _ upd_same) hT .nil, fun p hp => ?_, ?_, hsz⟩, fun m σ H' hw => ?_⟩
    · rw [List.mem_singleton.mp hp]
      exact ⟨hok, by show 1 + t.depth ≤ 41; omega⟩
    · show t.size = t.size + 0
      rfl
    obtain ⟨st, ps, nm, y6, y7, y8, rfl, e2, hst, S, hall, hm, hm2⟩ := hw
    refine ⟨_, rfl, !st.isEmpty, .inl ⟨st, sq_of hst, rfl⟩, ?_⟩
    cases st with
    | nil =>
      refine iteF ?_
      exact q _ e2
    | cons s0 srest =>
      refine iteT ?_
      obtain ⟨us, r, pv_, pt, d, qs, eS, eP, S', hr, hTA⟩ := S.last (by intro z; cases z)
      rw [eS] at hst
      rw [eP] at hm hall
      have hpt := hall (pt, d) (List.mem_append_right _ List.mem_cons_self)
      have hpt2 : d + pt.depth ≤ 41 := hpt.2
      have dpos : 1 ≤ pt.depth := by
        cases pt
        · exact Nat.le_refl 1
        · exact Nat.succ_le_succ (Nat.zero_le _)
        · exact Nat.succ_le_succ (Nat.zero_le _)
      have hm3 : m = tot qs + pt.size := by
        rw [hm, tot_app]
        rfl
      have nrl : r ≠ l := fun z => by
        rw [z, hst] at hr
        cases hr
      refine ⟨fun σ2 H2 => ∃ m', m' < m ∧ ∃ (st : List V) (ps : List (Tr × Nat)) (nm : Int) (y6 y7 y8 : Option V), σ2 = [some v, some (.str (tx L)), some (.int (wd : Int)), some (.int (n : Int)), some (.ref l), some (.int nm), y6, y7, y8] ∧
        Ex H H2 ∧ H2 l = some (.lst st) ∧ Stk k H H2 st ps ∧ (∀ p ∈ ps, p.1.ok L.length wd n ∧ p.2 + p.1.depth ≤ 41) ∧ m' = tot ps ∧ m' ≤ 10000, fun σ2 H2 h => h, ?_⟩
      refine ⟨_, rfl, .inl ⟨rfl, _, sq_of hst⟩, l, _, _, rfl, rfl, hst, pop_last _ _, ?_⟩
      rw [List.dropLast_concat]
      have e3 : Ex H (L2.upd H' l (.lst us)) := e2.mut hl0
      have hl3 : (L2.upd H' l (.lst us)) l = some (.lst us) := upd_same
      have hr3 : (L2.upd H' l (.lst us)) r = some (.tup [pv_, .int (d : Nat)]) := by
        rw [upd_ne nrl]
        exact hr
      have S3 := S'.upd (a := l) (o := .lst us) fun xs hh => by
        rw [hst] at hh
        cases hh
      generalize (L2.upd H' l (.lst us)) = H3 at e3 hl3 hr3 S3 ⊢
      refine ⟨r, _, rfl, st_of hr3, rfl, _, _, rfl, _, _, rfl, rfl, ?_⟩
      refine ⟨_, rfl, _, _, rfl, rfl, _, rfl, iteDn (by omega) ?_⟩
      refine ⟨_, rfl, _, rfl, _, rfl, _, rfl, pt, pv_, k, L, wd, n, rfl, hTA.ex e3, hpt.1, hL, fun H4 e4 => ⟨true, rfl, ?_⟩⟩
      have e34 := e3.trans e4
      refine ⟨_, rfl, .inl ⟨rfl, _, sq_of (e4 _ _ hl3)⟩, ?_⟩
      refine ⟨_, rfl, pt, pv_, k, H, rfl, hTA, e34, fun r2 H5 ks e5 hr2 hks KK => ?_⟩
      have e35 := e34.trans e5
      have lks := KK.len
      refine ⟨r2, ks, rfl, sq_of hks, fun D hD => ?_⟩
      refine lc_it (walk_rev (K := K) (a := r2) (xs := ks)) (fun i H6 => Ex H5 H6 ∧ ∃ zs, H6 D = some (.lst zs) ∧ Stk k H H6 zs ((pt.kids.reverse.take i).map fun x => (x, d + 1))) ⟨Ex.new hD, [], upd_same, .nil⟩ (fun i H6 _ hw => sq_of (hw.1 _ _ hks)) (fun i x H6 H7 hi hw hy => ?_) (fun H6 hw => ?_)
      · obtain ⟨e6, zs, hzs, Z⟩ := hw
        obtain ⟨rfl, hx⟩ := hy
        obtain ⟨kt, hkt, hka⟩ := KK.get hx
        have hi2 : i < pt.kids.length := by omega
        have hkt2 : pt.kids.reverse[i]? = some kt := rev_get (by rw [← lks]; exact hkt) hi2
        have lz := Z.len
        refine ⟨rfl, _, rfl, _, rfl, _, _, rfl, rfl, by show 2 ≤ sizeLine; decide, fun q2 hq2 => ?_⟩
        have nDq : D ≠ q2 := fun z => by
          rw [z, hq2] at hzs
          cases hzs
        refine ⟨zs, Ex.new hq2 _ _ hzs, ?_, (e6.trans (Ex.new hq2)).mut hD, zs ++ [.ref q2], upd_same, ?_⟩
        · have : zs.length ≤ i := by
            rw [lz, List.length_map, List.length_take]
            exact Nat.min_le_left _ _
          have l2 := KK.len
          have l3 : pt.kids.length ≤ total pt.kids := by
            have := len_tot (pt.kids.map fun x => (x, 0))
            rw [List.length_map, tot_kids] at this
            exact this
          have l4 := size_kids pt
          exact sz_lt (by omega)
        · rw [take_next' hkt2, List.map_append]
          refine Stk.upd ((Z.ex (Ex.new hq2)).app (.cons upd_same hka .nil)) fun xs hh => ?_
          rw [upd_ne nDq, hzs] at hh
          cases hh
      · obtain ⟨e6, zs, hzs, Z⟩ := hw
        rw [lks, ← List.length_reverse, List.take_length] at Z
        have e46 := e5.trans e6
        have lz := Z.len
        have lu := S3.len
        rw [List.length_map, List.length_reverse] at lz
        have l3 : pt.kids.length ≤ total pt.kids := by
          have := len_tot (pt.kids.map fun x => (x, 0))
          rw [List.length_map, tot_kids] at this
          exact this
        have l4 := size_kids pt
        have l5 := len_tot qs
        have hl6 : H6 l = some (.lst us) := e46 _ _ (e4 _ _ hl3)
        refine ⟨l, D, us, zs, rfl, rfl, hl6, hzs, sz_of (by omega), ?_⟩
        refine ⟨_, rfl, _, _, rfl, rfl, tot (qs ++ pt.kids.reverse.map fun x => (x, d + 1)), ?_, us ++ zs, qs ++ pt.kids.reverse.map fun x => (x, d + 1), nm + 1, _, _, _, rfl, (e35.trans e6).mut hl0, upd_same, ?_, fun p hp => ?_, rfl, ?_⟩
        · rw [tot_app, tot_kids, total_rev]
          omega
        · refine Stk.upd ((S3.ex (e4.trans e46)).app Z) fun xs hh => ?_
          rw [hl6] at hh
          cases hh
        · rcases List.mem_append.mp hp with h | h
          · exact hall p (List.mem_append_left _ h)
          · obtain ⟨x, hx, rfl⟩ := List.mem_map.mp h
            have hx2 := List.mem_reverse.mp hx
            have hd := depth_kids x hx2
            exact ⟨ok_kids hpt.1 x hx2, by show d + 1 + x.depth ≤ 41; omega⟩
        · rw [tot_app, tot_kids, total_rev]
          omega
end
end Law

namespace TR
open PySem PySem.Spec L2 Evl
theorem Kids.last {k : Bool} {H : Hp} : ∀ {vs : List V} {ts : List Tr}, Kids k H vs ts → vs ≠ [] → ∃ us v rs t, vs = us ++ [v] ∧ ts = rs ++ [t] ∧ Kids k H us rs ∧ TA k H v t
  | _, _, .nil, h => absurd rfl h
  | _, _, .cons (v := v) (t := t) h .nil, _ => ⟨[], v, [], t, rfl, rfl, .nil, h⟩
  | _, _, .cons (v := v) (t := t) h (.cons a1 a2), _ => by
    obtain ⟨us, v', rs, t', e1, e2, s, b1⟩ := Kids.last (.cons a1 a2) (by intro q; cases q)
    exact ⟨v :: us, v', t :: rs, t', by rw [e1]; rfl, by rw [e2]; rfl, .cons h s, b1⟩
theorem Kids.rev {k : Bool} {H : Hp} : ∀ {vs : List V} {ts : List Tr}, Kids k H vs ts → Kids k H vs.reverse ts.reverse
  | _, _, .nil => .nil
  | _, _, .cons h r => by
    rw [List.reverse_cons, List.reverse_cons]
    exact r.rev.snoc h
/-! ### trees of tuples do not change with a list -/
mutual
theorem TA.upd {H : Hp} {a : Addr} {o : HO} (hn : ∀ xs, H a ≠ some (.tup xs)) : ∀ {t : Tr} {v : V}, TA true H v t → TA true (L2.upd H a o) v t
  | _, _, .go (a := r) h => .go (by rw [upd_ne (fun q : r = a => hn _ (by rw [← q]; exact h))]; exact h)
  | _, _, .tell (a := r) h r1 => .tell (by rw [upd_ne (fun q : r = a => hn _ (by rw [← q]; exact h))]; exact h) (TA.upd hn r1)
  | _, _, .read (a := r) (b := b) h hb r1 => .read (by rw [upd_ne (fun q : r = a => hn _ (by rw [← q]; exact h))]; exact h) (by rw [upd_ne (fun q : b = a => hn _ (by rw [← q]; exact hb))]; exact hb) (TAs.upd hn r1)
theorem TAs.upd {H : Hp} {a : Addr} {o : HO} (hn : ∀ xs, H a ≠ some (.tup xs)) : ∀ {ts : Trs} {vs : List V}, TAs true H vs ts → TAs true (L2.upd H a o) vs ts
  | _, _, .nil => .nil
  | _, _, .cons h r => .cons (TA.upd hn h) (TAs.upd hn r)
end
theorem Kids.upd {H : Hp} {a : Addr} {o : HO} (hn : ∀ xs, H a ≠ some (.tup xs)) : ∀ {vs : List V} {ts : List Tr}, Kids true H vs ts → Kids true (L2.upd H a o) vs ts
  | _, _, .nil => .nil
  | _, _, .cons h r => .cons (h.upd hn) (Kids.upd hn r)
theorem Kids.tas {k : Bool} {H : Hp} : ∀ {ts : Trs} {vs : List V}, Kids k H vs ts.list → TAs k H vs ts
  | .nil, _, .nil => .nil
  | .cons _ _, _, .cons h r => .cons h (Kids.tas r)
end TR
namespace Law
open PySem PySem.Spec PyProof.Rows L2 Evl TR
theorem total_app (ts us : List Tr) : total (ts ++ us) = total ts + total us := by
  unfold total
  rw [List.map_append, List.sum_append]
theorem len_total (ts : List Tr) : ts.length ≤ total ts := by
  have := len_tot (ts.map fun x => (x, 0))
  rw [List.length_map, tot_kids] at this
  exact this
def spAll : Sp := fun vs H Q _ => ∃ (t : Tr) (v : V) (k : Bool), vs = [v] ∧ TA k H v t ∧ t.size ≤ 10000 ∧ ∀ r H' us, Ex H H' → H r = none → H' r = some (.lst us) → us.length = t.size → Q (.ref r) H'
theorem size_mem {t : Tr} : ∀ {ts : List Tr}, t ∈ ts → t.size ≤ total ts
  | x :: r, h => by
    rcases List.mem_cons.mp h with q | q
    · rw [q]
      exact Nat.le_add_right _ _
    · exact Nat.le_trans (size_mem q) (Nat.le_add_left _ _)
/-- names that leave the states as they are -/
def Same1 (xs : List V) (n : Nat) : Prop := ∀ q : Nat, q < n → atI xs (q : Int) = some (.int (q : Nat))
def spRen (d : Nat) : Sp := fun vs H Q _ => ∃ (t : Tr) (v : V) (k : Bool) (l w n : Nat) (an : Addr) (xs : List V), vs = [v, .ref an] ∧ TA k H v t ∧ t.ok l w n ∧ H an = some (.lst xs) ∧ Same1 xs n ∧ t.depth ≤ d ∧ t.size ≤ 10000 ∧ ∀ H' v', Ex H H' → TA true H' v' t → Q v' H'
section
variable {P : Program} {w : World} {K : PySem.W.Frag} {mg : Str → Option Value} {base : Heap}
theorem ok_all {f : Addr} {fd : FuncData} (F : Fun K "all_parts" "all_parts" s_all_parts f fd) (T : Tx mg) (c_within : Kn P w K mg base "_within" ["part"] 1 spWithin) : FnOk P w K mg base CX0 2 f fd ["tree"] spAll := by
  refine F.ok sc_all_parts (fun vs H Q E h => ?_) (fun cdv A outer s H vs Q E hr h => ?_)
  · obtain ⟨t, v, k, rfl, _⟩ := h
    rfl
  · obtain ⟨t, v, k, rfl, hT, hsz, q⟩ := h
    refine ⟨_, (pss_cons (ps_set (i := 1) sc_all_parts.nd rfl (Or.inl rfl) (pe_lst (pa_cons (pv 0) pa_nil)))
      (pss_cons (ps_set (i := 2) sc_all_parts.nd rfl (Or.inl rfl) (pe_lst pa_nil))
      (pss_cons (ps_while PassesOwn.never (pt_truth (pv 1) (by intro _; rfl)) (pss_cons (ps_set (i := 3) sc_all_parts.nd rfl (Or.inl rfl) (pe_bm0 PySem.F.plainAttrs_list PySem.F.slot_list_pop PySem.F.type_list_pop mt_pop (pv 1)))
      (pss_cons (ps_expr (pe_bm PySem.F.plainAttrs_list PySem.F.slot_list_append PySem.F.type_list_append mt_append (pv 2) (pa_cons (pv 3) pa_nil)))
      (pss_one (ps_expr (pe_bm PySem.F.plainAttrs_list PySem.F.slot_list_extend PySem.F.type_list_extend mt_extend (pv 1) (pa_cons (pe_lc (own := [("inner", 4)]) (g := gName 4) (tt := tYes) rfl sc_all_parts.nd (pi_reversed (by rfl) T.reversed (pa_cons (pe_call c_within.ok (hr.mono (by decide)) (by rfl) c_within.g c_within.kp c_within.b .nil pass0 (pa_cons (pv 3) pa_nil)) pa_nil)) (blkOk_by (N := N_all_parts) (sc := defScope s_all_parts) (by decide +kernel)) (fun _ _ _ _ _ => (pg_name (i := 4) sc_all_parts.nd rfl (Or.inl rfl))) (fun _ _ _ _ _ => pts_nil) (fun _ _ _ _ _ => (pv 4))) pa_nil)))))))
      (pss_one (ps_ret (pv 2)))))), ?_⟩
    refine ⟨_, rfl, by show 1 ≤ sizeLine; decide, fun l1 hl1 => ?_⟩
    have e0 := Ex.new (o := .lst [v]) hl1
    refine ⟨Nat.zero_le _, fun l2 hl2 => ?_⟩
    have hl20 : H l2 = none := fresh_back e0 hl2
    have e1 := e0.trans (Ex.new (o := .lst []) hl2)
    have n12 : l1 ≠ l2 := fun z => by
      rw [← z, upd_same] at hl2
      cases hl2
    refine ⟨fun m σ H' => ∃ (st : List V) (ts : List Tr) (fs : List V) (y3 y4 : Option V), σ = [some v, some (.ref l1), some (.ref l2), y3, y4] ∧ Ex H H' ∧ H' l1 = some (.lst st) ∧ Kids k H st ts ∧ H' l2 = some (.lst fs) ∧ fs.length + total ts = t.size ∧ m = total ts,
      ⟨t.size, [v], [t], [], none, none, rfl, e1, Ex.new hl2 _ _ upd_same, .cons hT .nil, upd_same, by show 0 + (t.size + 0) = t.size; omega, rfl⟩, fun m σ H' hw => ?_⟩
    obtain ⟨st, ts, fs, y3, y4, rfl, e2, hst, KK, hfs, hsum, hm⟩ := hw
    refine ⟨_, rfl, !st.isEmpty, .inl ⟨st, sq_of hst, rfl⟩, ?_⟩
    cases st with
    | nil =>
      refine iteF ?_
      cases KK
      exact ⟨_, rfl, q l2 _ fs e2 hl20 hfs hsum⟩
    | cons s0 srest =>
      refine iteT ?_
      obtain ⟨us, x, rs, pt, eS, eP, K', hTA⟩ := KK.last (by intro z; cases z)
      rw [eS] at hst
      subst eP
      rw [total_app, show total [pt] = pt.size from Nat.add_zero _] at hsum hm
      have hk := size_kids pt
      refine ⟨fun σ2 H2 => ∃ m', m' < m ∧ ∃ (st : List V) (ts : List Tr) (fs : List V) (y3 y4 : Option V), σ2 = [some v, some (.ref l1), some (.ref l2), y3, y4] ∧ Ex H H2 ∧ H2 l1 = some (.lst st) ∧ Kids k H st ts ∧ H2 l2 = some (.lst fs) ∧ fs.length + total ts = t.size ∧ m' = total ts, fun σ2 H2 h => h, ?_⟩
      refine ⟨_, rfl, .inl ⟨rfl, _, sq_of hst⟩, l1, _, _, rfl, rfl, hst, pop_last _ _, ?_⟩
      rw [List.dropLast_concat]
      have e3 : Ex H (L2.upd H' l1 (.lst us)) := e2.mut hl1
      have hl3 : (L2.upd H' l1 (.lst us)) l1 = some (.lst us) := upd_same
      have hf3 : (L2.upd H' l1 (.lst us)) l2 = some (.lst fs) := by
        rw [upd_ne n12.symm]
        exact hfs
      generalize (L2.upd H' l1 (.lst us)) = H3 at e3 hl3 hf3 ⊢
      refine ⟨_, rfl, .inl ⟨rfl, _, sq_of hf3⟩, _, rfl, l2, _, _, rfl, rfl, hf3, sz_lt (by omega), ?_⟩
      have e4 : Ex H (L2.upd H3 l2 (.lst (fs ++ [x]))) := e3.mut hl20
      have hl4 : (L2.upd H3 l2 (.lst (fs ++ [x]))) l1 = some (.lst us) := by
        rw [upd_ne n12]
        exact hl3
      have hf4 : (L2.upd H3 l2 (.lst (fs ++ [x]))) l2 = some (.lst (fs ++ [x])) := upd_same
      generalize (L2.upd H3 l2 (.lst (fs ++ [x]))) = H4 at e4 hl4 hf4 ⊢
      refine ⟨_, rfl, .inl ⟨rfl, _, sq_of hl4⟩, ?_⟩
      refine ⟨_, rfl, pt, x, k, H, rfl, hTA, e4, fun r2 H5 ks e5 hr2 hks KX => ?_⟩
      have lks := KX.len
      have ltk := len_total pt.kids
      refine ⟨r2, ks, rfl, sq_of hks, fun D hD => ?_⟩
      refine lc_it (walk_rev (K := K) (a := r2) (xs := ks)) (fun i H6 => Ex H5 H6 ∧ H6 D = some (.lst (ks.reverse.take i))) ⟨Ex.new hD, upd_same⟩ (fun i H6 _ hw => sq_of (hw.1 _ _ hks)) (fun i z H6 H7 hi hw hy => ?_) (fun H6 hw => ?_)
      · obtain ⟨e6, hz⟩ := hw
        obtain ⟨rfl, hx⟩ := hy
        refine ⟨rfl, _, rfl, _, hz, ?_, e6.mut hD, ?_⟩
        · rw [List.length_take]
          exact sz_lt (by omega)
        · rw [upd_same, take_next' (rev_get hx hi)]
      · obtain ⟨e6, hz⟩ := hw
        rw [← List.length_reverse, List.take_length] at hz
        have hl6 := e6 _ _ (e5 _ _ hl4)
        have lu := K'.len
        have ltr := len_total rs
        refine ⟨l1, D, us, ks.reverse, rfl, rfl, hl6, hz, sz_of (by rw [List.length_reverse]; omega), ?_⟩
        refine ⟨total (rs ++ pt.kids.reverse), by rw [total_app, total_rev]; omega, us ++ ks.reverse, rs ++ pt.kids.reverse, fs ++ [x], _, _, rfl, ((e4.trans e5).trans e6).mut hl1, upd_same, K'.app KX.rev, ?_, ?_, rfl⟩
        · rw [upd_ne n12.symm]
          exact e6 _ _ (e5 _ _ hf4)
        · rw [List.length_append, total_app, total_rev]
          show fs.length + 1 + _ = _
          omega
theorem ok_ren0 {f : Addr} {fd : FuncData} (F : Fun K "renamed" "renamed" s_renamed f fd) (T : Tx mg) (g : mg "renamed" = some (.ref f)) (b : Binds K fd ["tree", "names"] []) : ∀ d : Nat, FnOk P w K mg base CX0 (d + 1) f fd ["tree", "names"] (spRen d)
  | 0 => by
    refine F.ok sc_renamed (fun vs H Q E h => ?_) (fun cdv A outer s H vs Q E hr h => ?_)
    · obtain ⟨t, v, k, l, wd, n, an, xs, rfl, _⟩ := h
      rfl
    · obtain ⟨t, v, k, l, wd, n, an, xs, rfl, hT, hok, han, hS, hd, hsz, q⟩ := h
      exfalso
      cases t
      · exact absurd hd (by show ¬ (1 ≤ 0); omega)
      · exact absurd hd (by show ¬ (_ + 1 ≤ 0); omega)
      · exact absurd hd (by show ¬ (_ + 1 ≤ 0); omega)
  | d + 1 => by
    have c_renamed : Kn P w K mg base "renamed" ["tree", "names"] (d + 1) (spRen d) := ⟨f, fd, ok_ren0 F T g b d, g, F.kp, b⟩
    refine F.ok sc_renamed (fun vs H Q E h => ?_) (fun cdv A outer s H vs Q E hr h => ?_)
    · obtain ⟨t, v, k, l, wd, n, an, xs, rfl, _⟩ := h
      rfl
    · obtain ⟨t, v, k, l, wd, n, an, xs, rfl, hT, hok, han, hS, hd, hsz, q⟩ := h
      refine ⟨_, (pss_cons (ps_asg (pv 0) (TR.pg_seq (by rfl) (pgs_cons (pg_name (i := 2) sc_renamed.nd rfl (Or.inl rfl)) (pgs_cons (pg_name (i := 3) sc_renamed.nd rfl (Or.inl rfl)) (pgs_cons (pg_name (i := 4) sc_renamed.nd rfl (Or.inl rfl)) pgs_nil)))))
      (pss_cons (ps_if (pt_cmpR op_eq (pv 2) pe_str (nomark _)) (pss_one (ps_ret (pe_tup (pa_cons (pv 2) (pa_cons (pv 3) (pa_cons (pe_ix ix_list (pv 1) (pv 4) (fun _ _ => rfl)) pa_nil)))))) pss_nil)
      (pss_cons (ps_if (pt_cmpR op_eq (pv 2) pe_str (nomark _)) (pss_one (ps_ret (pe_tup (pa_cons (pv 2) (pa_cons (pv 3) (pa_cons (pe_call c_renamed.ok (hr.mono (by omega)) (by rfl) c_renamed.g c_renamed.kp c_renamed.b .nil pass0 (pa_cons (pv 4) (pa_cons (pv 1) pa_nil))) pa_nil)))))) pss_nil)
      (pss_one (ps_ret (pe_tup (pa_cons (pv 2) (pa_cons (pv 3) (pa_cons (pe_callTy call_tuple_of (by rfl) T.tuple PyProof.Rows.boot_tuple (pa_cons (pe_lc (own := [("inner", 5)]) (g := gName 5) (tt := tYes) rfl sc_renamed.nd (TR.pi_seq (pv 4)) (blkOk_by (N := N_renamed) (sc := defScope s_renamed) (by decide +kernel)) (fun _ _ _ _ _ => (pg_name (i := 5) sc_renamed.nd rfl (Or.inl rfl))) (fun _ _ _ _ _ => pts_nil) (fun _ _ _ _ _ => (pe_call c_renamed.ok (hr.mono (by omega)) (by rfl) c_renamed.g c_renamed.kp c_renamed.b .nil pass0 (pa_cons (pv 5) (pa_cons (pv 1) pa_nil))))) pa_nil)) pa_nil))))))))), ?_⟩
      cases hT with
      | @go a s' q' h =>
        refine ⟨_, rfl, gSeq_of h rfl ⟨_, _, rfl, _, _, rfl, _, _, rfl, rfl, ?_⟩⟩
        refine ⟨_, rfl, rfl, _, rfl, iteD rfl ?_⟩
        exact ⟨_, rfl, _, rfl, _, rfl, _, rfl, an, _, _, _, rfl, rfl, sq_of han, hS _ hok.2.2, by show 3 ≤ sizeLine; decide, fun r hr2 => q _ _ (Ex.new hr2) (.go upd_same)⟩
      | @tell a n' v' t' h r0 =>
        have hd' : t'.depth ≤ d := by
          have : t'.depth + 1 ≤ d + 1 := hd
          omega
        have hs' : t'.size ≤ 10000 := by
          have : t'.size + 1 ≤ 10000 := hsz
          omega
        refine ⟨_, rfl, gSeq_of h rfl ⟨_, _, rfl, _, _, rfl, _, _, rfl, rfl, ?_⟩⟩
        refine ⟨_, rfl, rfl, _, rfl, iteDn tell_ne_go ?_⟩
        refine ⟨_, rfl, rfl, _, rfl, iteD rfl ?_⟩
        refine ⟨_, rfl, _, rfl, _, rfl, _, rfl, t', v', k, l, wd, n, an, xs, rfl, r0, hok.2, han, hS, hd', hs', fun H1 v1 e1 hv1 => ⟨by show 3 ≤ sizeLine; decide, fun r hr2 => ?_⟩⟩
        exact q _ _ (e1.trans (Ex.new hr2)) (.tell upd_same (hv1.ex (Ex.new hr2)))
      | @read a b' p' us ts h hb r0 =>
        have hd' : ts.depth ≤ d := by
          have : ts.depth + 1 ≤ d + 1 := hd
          omega
        have hs' : ts.size ≤ 9999 := by
          have : ts.size + 1 ≤ 10000 := hsz
          omega
        have KK := r0.kids
        have lks := KK.len
        have ltk := len_total ts.list
        rw [Trs.total] at ltk
        refine ⟨_, rfl, gSeq_of h rfl ⟨_, _, rfl, _, _, rfl, _, _, rfl, rfl, ?_⟩⟩
        refine ⟨_, rfl, rfl, _, rfl, iteDn read_ne_go ?_⟩
        refine ⟨_, rfl, rfl, _, rfl, iteDn read_ne_tell ?_⟩
        refine ⟨_, rfl, _, rfl, ?_⟩
        cases k
        · refine .inl ⟨_, rfl, b', rfl, ⟨us, sq_of hb⟩, fun D hD => lc_it (walk_list (K := K) (a := b') (xs := us)) (fun i H6 => Ex H H6 ∧ ∃ zs, H6 D = some (.lst zs) ∧ Kids true H6 zs (ts.list.take i)) ⟨Ex.new hD, [], upd_same, .nil⟩ (fun i H6 _ hw => sq_of (hw.1 _ _ hb)) (fun i x H6 H7 hi hw hy => ?_) (fun H6 hw => ?_)⟩
          · obtain ⟨e6, zs, hz, Z⟩ := hw
            obtain ⟨rfl, hx⟩ := hy
            obtain ⟨kt, hkt, hka⟩ := KK.get hx
            have mem := List.mem_of_getElem? hkt
            have dk := Trs.depth_mem kt mem
            have sk : kt.size ≤ ts.size := by
              have h1 := size_mem mem
              rw [Trs.total] at h1
              exact h1
            have lz := Z.len
            rw [List.length_take] at lz
            refine ⟨rfl, _, rfl, _, rfl, kt, x, _, l, wd, n, an, xs, rfl, hka.ex e6, Trs.ok_mem hok.2.2 kt mem, e6 _ _ han, hS, by omega, by omega, fun H8 v8 e8 hv8 => ?_⟩
            refine ⟨zs, e8 _ _ hz, sz_lt (by omega), (e6.trans e8).mut hD, zs ++ [v8], upd_same, ?_⟩
            rw [take_next' hkt]
            refine Kids.upd (fun ys hh => ?_) ((Z.ex e8).snoc hv8)
            rw [e8 _ _ hz] at hh
            cases hh
          · obtain ⟨e6, zs, hz, Z⟩ := hw
            rw [lks, List.take_length] at Z
            refine ⟨D, zs, rfl, .inl ⟨sq_of hz, fun t2 ht2 => ⟨by show 3 ≤ sizeLine; decide, fun r hr2 => ?_⟩⟩⟩
            exact q _ _ ((e6.trans (Ex.new ht2)).trans (Ex.new hr2)) (.read upd_same (Ex.new hr2 _ _ upd_same) ((Z.ex ((Ex.new ht2).trans (Ex.new hr2))).tas))
        · refine .inr ⟨_, rfl, b', rfl, ⟨us, st_of hb⟩, fun D hD => lc_it (walk_tup (K := K) (a := b') (xs := us)) (fun i H6 => Ex H H6 ∧ ∃ zs, H6 D = some (.lst zs) ∧ Kids true H6 zs (ts.list.take i)) ⟨Ex.new hD, [], upd_same, .nil⟩ (fun i H6 _ hw => st_of (hw.1 _ _ hb)) (fun i x H6 H7 hi hw hy => ?_) (fun H6 hw => ?_)⟩
          · obtain ⟨e6, zs, hz, Z⟩ := hw
            obtain ⟨rfl, hx⟩ := hy
            obtain ⟨kt, hkt, hka⟩ := KK.get hx
            have mem := List.mem_of_getElem? hkt
            have dk := Trs.depth_mem kt mem
            have sk : kt.size ≤ ts.size := by
              have h1 := size_mem mem
              rw [Trs.total] at h1
              exact h1
            have lz := Z.len
            rw [List.length_take] at lz
            refine ⟨rfl, _, rfl, _, rfl, kt, x, _, l, wd, n, an, xs, rfl, hka.ex e6, Trs.ok_mem hok.2.2 kt mem, e6 _ _ han, hS, by omega, by omega, fun H8 v8 e8 hv8 => ?_⟩
            refine ⟨zs, e8 _ _ hz, sz_lt (by omega), (e6.trans e8).mut hD, zs ++ [v8], upd_same, ?_⟩
            rw [take_next' hkt]
            refine Kids.upd (fun ys hh => ?_) ((Z.ex e8).snoc hv8)
            rw [e8 _ _ hz] at hh
            cases hh
          · obtain ⟨e6, zs, hz, Z⟩ := hw
            rw [lks, List.take_length] at Z
            refine ⟨D, zs, rfl, .inl ⟨sq_of hz, fun t2 ht2 => ⟨by show 3 ≤ sizeLine; decide, fun r hr2 => ?_⟩⟩⟩
            exact q _ _ ((e6.trans (Ex.new ht2)).trans (Ex.new hr2)) (.read upd_same (Ex.new hr2 _ _ upd_same) ((Z.ex ((Ex.new ht2).trans (Ex.new hr2))).tas))
end
end Law

namespace TR
open PySem PySem.Spec L2 Evl
def rLenQ (K : PySem.W.Frag) : List V → Hp → VK → Prop := fun xs H Q => ∃ p ys, xs = [.ref p] ∧ (SqL K H p ys ∨ SqT K H p ys) ∧ Q (.int ys.length) H
end TR
namespace Law
open PySem PySem.Spec PyProof.Rows L2 Evl TR
abbrev lcR (g : TG) (tt : TT) (tl : TE) (vs : List Nat) (σ : L2.St) (Q : Addr → Hp → Prop) : It → Hp → Prop := fun J H1 => ∀ D, H1 D = none → ∃ W : Nat → Nat → Hp → Prop, (∃ m, W 0 m (upd H1 D (.lst []))) ∧ ∀ i m H, W i m H →
  (J.stop i H ∧ Q D H) ∨ (J.go i H ∧ ∃ Nx : Hp → Prop, (∀ H', Nx H' → ∃ m', m' < m ∧ W (i + 1) m' H') ∧ ∀ x H', J.yld i H x H' → g x (wipe σ vs) H' fun σ2 H2 => wipe σ2 vs = wipe σ vs ∧ tt σ2 H2 fun b H3 =>
    if b = true then tl σ2 H3 fun y H4 => ∃ acc, H4 D = some (.lst acc) ∧ acc.length < sizeLine ∧ Nx (upd H4 D (.lst (acc ++ [y]))) else Nx H3)
/-- a walk over a list or a tuple, in a comprehension -/
theorem lcq {K : PySem.W.Frag} {te tl : TE} {g : TG} {tt : TT} {vs : List Nat} {σ : L2.St} {H : Hp} {Q : Addr → Hp → Prop} {a : Addr} {k : Bool} {xs : List V} (h : H a = some (ob k xs)) (hv : ∀ R : VK, R (.ref a) H → te σ H R) (Pv : Addr → Nat → Hp → Prop)
    (h0 : ∀ D, H D = none → Pv D 0 (upd H D (.lst []))) (hk : ∀ D i H', H D = none → Pv D i H' → Ex H H')
    (hs : ∀ D i x H', H D = none → xs[i]? = some x → Pv D i H' → g x (wipe σ vs) H' fun σ2 H2 => wipe σ2 vs = wipe σ vs ∧ tt σ2 H2 fun b H3 =>
      if b = true then tl σ2 H3 fun y H4 => ∃ acc, H4 D = some (.lst acc) ∧ acc.length < sizeLine ∧ Pv D (i + 1) (upd H4 D (.lst (acc ++ [y]))) else Pv D (i + 1) H3)
    (hd : ∀ D H', H D = none → Pv D xs.length H' → Q D H') : iList K te σ H (lcR g tt tl vs σ Q) ∨ iTup K te σ H (lcR g tt tl vs σ Q) := by
  cases k
  · exact .inl (hv _ ⟨a, rfl, ⟨xs, sq_of h⟩, fun D hD => lc_list (Pv D) (h0 D hD) (fun i H' _ p => sq_of (hk D i H' hD p _ _ h)) (fun i x H' hx p => hs D i x H' hD hx p) (fun H' p => hd D H' hD p)⟩)
  · exact .inr (hv _ ⟨a, rfl, ⟨xs, st_of h⟩, fun D hD => lc_tup (Pv D) (h0 D hD) (fun i H' _ p => st_of (hk D i H' hD p _ _ h)) (fun i x H' hx p => hs D i x H' hD hx p) (fun H' p => hd D H' hD p)⟩)
/-- .. in a loop over enumerate -/
theorem forq {K : PySem.W.Frag} {ta : TA} {g : TG} {tb : TS} {D : Ends} {σ : L2.St} {H : Hp} {a : Addr} {k : Bool} {xs : List V} (h : H a = some (ob k xs)) (hv : ∀ R : List V → Hp → Prop, R [.ref a] H → ta σ H R) (Pv : Nat → L2.St → Hp → Prop) (h0 : Pv 0 σ H)
    (hk : ∀ i σ H', Pv i σ H' → Ex H H')
    (hs : ∀ (i : Nat) (x : V) (T : Addr) (σ : L2.St) (H : Hp), xs[i]? = some x → Pv i σ H → H T = none → g (.ref T) σ (upd H T (.tup [.int (i : Nat), x])) fun σ2 H2 => tb { D with nx := Pv (i + 1), ct := Pv (i + 1), bk := D.nx } σ2 H2)
    (hd : ∀ σ H, Pv xs.length σ H → D.nx σ H) : tFor (iEnumQ K ta) g tb D σ H := by
  cases k
  · exact .inl (hv _ ⟨a, xs, rfl, sq_of h, EN.for_enumL Pv h0 (fun i σ H' p => sq_of (hk i σ H' p _ _ h)) hs hd⟩)
  · exact .inr (hv _ ⟨a, xs, rfl, st_of h, EN.for_enumT Pv h0 (fun i σ H' p => st_of (hk i σ H' p _ _ h)) hs hd⟩)
/-- what of the text the class has -/
structure SC (K : PySem.W.Frag) (C : Addr) : Prop where
  cl : Cls K C
  nl : NoAttr K C "letters"
  nw : NoAttr K C "width"
  ns : NoAttr K C "states"
  nn : NoAttr K C "nodes"
def sFs (l w s n : V) : List (Str × V) := [("letters", l), ("width", w), ("states", s), ("nodes", n)]
theorem putF4 (l w s n : V) : putF "nodes" n (putF "states" s (putF "width" w (putF "letters" l []))) = sFs l w s n := by
  have a1 : ¬ (("letters" : Str) = "width") := by decide +kernel
  have a2 : ¬ (("letters" : Str) = "states") := by decide +kernel
  have a3 : ¬ (("letters" : Str) = "nodes") := by decide +kernel
  have a4 : ¬ (("width" : Str) = "states") := by decide +kernel
  have a5 : ¬ (("width" : Str) = "nodes") := by decide +kernel
  have a6 : ¬ (("states" : Str) = "nodes") := by decide +kernel
  simp [putF, sFs, a1, a2, a3, a4, a5, a6]
/-- a searcher: its letters, its width, its trees -/
structure SObj (C : Addr) (H : Hp) (o : Addr) (L : List Nat) (w : Nat) (ts : List Tr) : Prop where
  ex : ∃ (dx st : Addr) (us : List V), H o = some (.ins C dx (sFs (.str (tx L)) (.int (w : Int)) (.ref st) (.int (total ts : Nat)))) ∧ H st = some (.tup us) ∧ Kids true H us ts
theorem sum_sizes : ∀ ts : List Tr, (ts.map fun t => (t.size : Int)).sum = ((total ts : Nat) : Int)
  | [] => rfl
  | t :: r => by
    rw [List.map_cons, List.sum_cons, sum_sizes r]
    show _ = (((t.size + total r : Nat)) : Int)
    omega
def spInit (C : Addr) : Sp := fun vs H Q _ => ∃ (o dx sa : Addr) (L : List Nat) (w : Nat) (kt k : Bool) (xs : List V) (ts : List Tr) (H0 : Hp), vs = [.ref o, .str (tx L), .int (w : Int), .ref sa] ∧ Ex H0 H ∧ H0 o = none ∧ H o = some (.ins C dx []) ∧ H0 sa = some (ob kt xs) ∧ Kids k H0 xs ts ∧ LG L ∧ 1 ≤ w ∧ w ≤ 8 ∧ 1 ≤ ts.length ∧ ts.length ≤ 64 ∧ (∀ t ∈ ts, t.ok L.length w ts.length ∧ t.depth ≤ 40) ∧ total ts ≤ 3000 ∧ ∀ H', Ex H0 H' → SObj C H' o L w ts → Q .non H'
theorem same_rg (n : Nat) : Same1 (rgV 0 (n : Int)) n := by
  intro q hq
  unfold rgV
  rw [show (((n : Int) - 0).toNat) = n by omega]
  refine atI_nat ?_
  rw [List.getElem?_map, List.getElem?_range hq]
  show some (V.int (0 + (q : Int))) = _
  rw [Int.zero_add]
section
variable {P : Program} {w : World} {K : PySem.W.Frag} {mg : Str → Option Value} {base : Heap}
theorem ok_init {f C : Addr} {fd : FuncData} (F : Fun K "__init__" "Searcher.__init__" s_Searcher_init f fd) (T : Tx mg) (S : SC K C) (c_are_letters : Kn P w K mg base "are_letters" ["value"] 1 spAreL)
    (c_is_whole : Kn P w K mg base "is_whole" ["value", "low", "high"] 2 spWhole) (c_is_list : Kn P w K mg base "is_list" ["value"] 1 spIsQ) (c_first_wrong : Kn P w K mg base "first_wrong" ["tree", "letters", "width", "states"] 4 spFW)
    (c_all_parts : Kn P w K mg base "all_parts" ["tree"] 2 spAll) (c_renamed : Kn P w K mg base "renamed" ["tree", "names"] 41 (spRen 40)) : FnOk P w K mg base CX0 42 f fd ["self", "letters", "width", "states"] (spInit C) := by
  refine F.ok sc_Searcher_init (fun vs H Q E h => ?_) (fun cdv A outer s H vs Q E hr h => ?_)
  · obtain ⟨o, dx, sa, L, wd, kt, k, xs, ts, H0, rfl, _⟩ := h
    rfl
  · obtain ⟨o, dx, sa, L, wd, kt, k, xs, ts, H0, rfl, e0, ho0, ho, hsa, KK, hL, w1, w8, n1, n64, hall, htot, q⟩ := h
    have lks := KK.len
    have hL2 := hL.hi
    refine ⟨_, (pss_cons (ps_if (pt_not (pt_val (pe_call c_are_letters.ok (hr.mono (by decide)) (by rfl) c_are_letters.g c_are_letters.kp c_are_letters.b .nil pass0 (pa_cons (pv 1) pa_nil)))) (pss_one ps_never) pss_nil)
      (pss_cons (ps_if (pt_not (pt_val (pe_call c_is_whole.ok (hr.mono (by decide)) (by rfl) c_is_whole.g c_is_whole.kp c_is_whole.b .nil pass0 (pa_cons (pv 2) (pa_cons pe_int (pa_cons (pe_glob (v := .int 8) rfl T.m_MOST_WIDTH ⟨_, rfl⟩) pa_nil)))))) (pss_one ps_never) pss_nil)
      (pss_cons (ps_set (i := 4) sc_Searcher_init.nd rfl (Or.inl rfl) (pe_ifExp (pt_val (pe_call c_is_list.ok (hr.mono (by decide)) (by rfl) c_is_list.g c_is_list.kp c_is_list.b .nil pass0 (pa_cons (pv 3) pa_nil))) (pe_callB call_len_seq (by rfl) T.len PySem.boot_len (pa_cons (pv 3) pa_nil)) pe_int))
      (pss_cons (ps_if (pt_not (pt_chain op_le op_le pe_int (pv 4) (pe_glob (v := .int 64) rfl T.m_MOST_STATES ⟨_, rfl⟩))) (pss_one ps_never) pss_nil)
      (pss_cons (ps_for PassesOwn.never rfl (TR.pi_enumQ (by rfl) T.enumerate (pa_cons (pv 3) pa_nil)) (pg_tup (by rfl) (pgs_cons (pg_name (i := 5) sc_Searcher_init.nd rfl (Or.inl rfl)) (pgs_cons (pg_name (i := 6) sc_Searcher_init.nd rfl (Or.inl rfl)) pgs_nil))) (pss_cons (ps_set (i := 7) sc_Searcher_init.nd rfl (Or.inl rfl) (pe_call c_first_wrong.ok (hr.mono (by decide)) (by rfl) c_first_wrong.g c_first_wrong.kp c_first_wrong.b .nil pass0 (pa_cons (pv 6) (pa_cons (pv 1) (pa_cons (pv 2) (pa_cons (pv 4) pa_nil))))))
      (pss_one (ps_if (pt_cmpR op_notN (pv 7) pe_non (nomark _)) (pss_one ps_never) pss_nil))))
      (pss_cons (ps_set (i := 8) sc_Searcher_init.nd rfl (Or.inl rfl) (pe_callB (cr_sum rfl) (by rfl) T.sum (by decide +kernel) (pa_cons (pe_lc (own := [("tree", 6)]) (g := gName 6) (tt := tYes) rfl sc_Searcher_init.nd (TR.pi_seq (pv 3)) (blkOk_by (N := N_Searcher_init) (sc := defScope s_Searcher_init) (by decide +kernel)) (fun _ _ _ _ _ => (pg_name (i := 6) sc_Searcher_init.nd rfl (Or.inl rfl))) (fun _ _ _ _ _ => pts_nil) (fun _ _ _ _ _ => (pe_callB (show CallR _ _ (TR.rLenQ K) from call_len_seq) (by rfl) T.len PySem.boot_len (pa_cons (pe_call c_all_parts.ok (hr.mono (by decide)) (by rfl) c_all_parts.g c_all_parts.kp c_all_parts.b .nil pass0 (pa_cons (pv 6) pa_nil)) pa_nil)))) pa_nil)))
      (pss_cons (ps_if (pt_cmpR op_gt (pv 8) (pe_glob (v := .int 3000) rfl T.m_MOST_NODES ⟨_, rfl⟩) (nomark _)) (pss_one ps_never) pss_nil)
      (pss_cons (ps_set (i := 9) sc_Searcher_init.nd rfl (Or.inr rfl) (pe_listRg rfl (by rfl) T.list (prg_1 (by rfl) T.range (pv 4))))
      (pss_cons (ps_fld (pv 0) (pv 1) rfl)
      (pss_cons (ps_fld (pv 0) (pv 2) rfl)
      (pss_cons (ps_fld (pv 0) (pe_callTy call_tuple_of (by rfl) T.tuple PyProof.Rows.boot_tuple (pa_cons (pe_lc (own := [("tree", 6)]) (g := gName 6) (tt := tYes) rfl sc_Searcher_init.nd (TR.pi_seq (pv 3)) (blkOk_by (N := N_Searcher_init) (sc := defScope s_Searcher_init) (by decide +kernel)) (fun _ _ _ _ _ => (pg_name (i := 6) sc_Searcher_init.nd rfl (Or.inl rfl))) (fun _ _ _ _ _ => pts_nil) (fun _ _ _ _ _ => (pe_call c_renamed.ok (hr.mono (by decide)) (by rfl) c_renamed.g c_renamed.kp c_renamed.b .nil pass0 (pa_cons (pv 6) (pa_cons (pv 9) pa_nil))))) pa_nil)) rfl)
      (pss_one (ps_fld (pv 0) (pv 8) rfl))))))))))))), ?_⟩
    refine ⟨_, rfl, L, rfl, hL, fun H1 e1 => ⟨true, rfl, ?_⟩⟩
    refine ⟨_, rfl, _, _, _, rfl, by omega, by omega, fun H2 e2 => ⟨true, rfl, ?_⟩⟩
    have e3 := e1.trans e2
    have hs2 := e3 _ _ (e0 _ _ hsa)
    refine ⟨_, rfl, sa, kt, xs, rfl, hs2, fun H3 e4 => ⟨true, rfl, ?_⟩⟩
    have hs3 := e4 _ _ hs2
    refine ⟨_, rfl, sa, _, rfl, ob_seq hs3, ?_⟩
    refine ⟨_, rfl, _, _, rfl, rfl, _, rfl, iteD (by omega) ⟨_, _, rfl, rfl, _, rfl, ite2 (fun hb => ?_) (fun _ => ?_)⟩⟩
    · rw [decide_eq_true (by omega)] at hb
      cases hb
    have e5 := e3.trans e4
    have e6 := e0.trans e5
    refine forq hs3 (fun R h => ⟨_, rfl, h⟩) (fun i σ H' => ∃ y5 y6 y7 : Option V, σ = [some (.ref o), some (.str (tx L)), some (.int (wd : Int)), some (.ref sa), some (.int (xs.length : Nat)), y5, y6, y7, none, none] ∧ Ex H3 H') ⟨none, none, none, rfl, Ex.refl _⟩ (fun i σ H' p => by obtain ⟨_, _, _, _, e⟩ := p; exact e) (fun i x T' σ H' hx p hT => ?_) (fun σ H' p => ?_)
    · obtain ⟨y5, y6, y7, rfl, e7⟩ := p
      have e8 := e7.trans (Ex.new (o := .tup [.int (i : Nat), x]) hT)
      obtain ⟨t, ht, hta⟩ := KK.get hx
      have mem := List.mem_of_getElem? ht
      obtain ⟨tok, tdp⟩ := hall t mem
      have tsz := size_mem mem
      refine ⟨T', _, rfl, .inl (.inl upd_same), rfl, _, _, rfl, _, _, rfl, rfl, ?_⟩
      refine ⟨_, rfl, _, rfl, _, rfl, _, rfl, t, x, k, L, wd, ts.length, by rw [lks]; rfl, hta.ex (e6.trans e8), tok, by omega, tdp, by omega, fun H4 e9 => ?_⟩
      refine ⟨_, rfl, rfl, _, rfl, ite2 (fun hb => by cases hb) (fun _ => ?_)⟩
      exact ⟨_, _, _, rfl, e8.trans e9⟩
    obtain ⟨y5, y6, y7, rfl, e7⟩ := p
    have hs4 := e7 _ _ hs3
    have e8 := e6.trans e7
    refine lcq hs4 (fun R h => ⟨_, rfl, h⟩) (fun D i H'' => Ex H' H'' ∧ H'' D = some (.lst (((ts.take i).map fun t => (t.size : Int)).map V.int))) (fun D hD => ⟨Ex.new hD, upd_same⟩) (fun D i H'' _ p => p.1) (fun D i x H'' hD hx p => ?_) (fun D H'' hD p => ?_)
    · obtain ⟨e9, hz⟩ := p
      obtain ⟨t, ht, hta⟩ := KK.get hx
      have mem := List.mem_of_getElem? ht
      have tsz := size_mem mem
      have hi := (List.getElem?_eq_some_iff.mp ht).1
      refine ⟨rfl, _, rfl, t, x, k, rfl, hta.ex (e8.trans e9), by omega, fun r H5 us e10 hr hus hl => ?_⟩
      refine ⟨r, us, rfl, .inl (sq_of hus), _, e10 _ _ hz, ?_, (e9.trans e10).mut hD, ?_⟩
      · rw [List.length_map, List.length_map, List.length_take]
        exact sz_lt (by omega)
      · rw [upd_same, take_next' ht, List.map_append, List.map_append, hl]
        rfl
    obtain ⟨e9, hz⟩ := p
    rw [lks, List.take_length] at hz
    refine ⟨D, _, rfl, sq_of hz, ?_⟩
    rw [sum_sizes]
    refine ⟨_, rfl, _, _, rfl, rfl, _, rfl, ite2 (fun hb => absurd (of_decide_eq_true hb) (by omega)) (fun _ => ?_)⟩
    refine ⟨_, rfl, _, rfl, RgOk.of_le (by omega) (by omega) (by omega) (by omega), fun an han => ?_⟩
    have eA := (e8.trans e9).trans (Ex.new (o := .lst (rgV 0 (xs.length : Int))) han)
    have hoA := ((((e5.trans e7).trans e9).trans (Ex.new (o := .lst (rgV 0 (xs.length : Int))) han)) _ _ ho)
    have hanA : (upd H'' an (.lst (rgV 0 (xs.length : Int)))) an = some (.lst (rgV 0 (xs.length : Int))) := upd_same
    generalize (upd H'' an (.lst (rgV 0 (xs.length : Int)))) = HA at eA hoA hanA ⊢
    have nao : an ≠ o := ne_of hanA hoA (by intro z; cases z)
    refine ⟨_, rfl, _, rfl, o, C, dx, _, rfl, hoA, S.cl, S.nl, by show 0 < 1000; decide, ?_⟩
    have eB := eA.mut (o := .ins C dx (putF "letters" (.str (tx L)) [])) ho0
    have hoB : (upd HA o (.ins C dx (putF "letters" (.str (tx L)) []))) o = _ := upd_same
    have hanB := (upd_ne (H := HA) (o := .ins C dx (putF "letters" (.str (tx L)) [])) nao).trans hanA
    generalize (upd HA o (.ins C dx (putF "letters" (.str (tx L)) []))) = HB at eB hoB hanB ⊢
    refine ⟨_, rfl, _, rfl, o, C, dx, _, rfl, hoB, S.cl, S.nw, by show 1 < 1000; decide, ?_⟩
    generalize hf2 : putF "width" (.int (wd : Int)) (putF "letters" (.str (tx L)) []) = f2
    have lf2 : f2.length < 1000 := by
      rw [← hf2]
      show 2 < 1000
      decide
    have eC := eB.mut (o := .ins C dx f2) ho0
    have hoC : (upd HB o (.ins C dx f2)) o = _ := upd_same
    have hanC := (upd_ne (H := HB) (o := .ins C dx f2) nao).trans hanB
    generalize (upd HB o (.ins C dx f2)) = HC at eC hoC hanC ⊢
    refine lcq (eC _ _ hsa) (fun R h => ⟨_, rfl, h⟩) (fun D i H'' => Ex HC H'' ∧ ∃ zs, H'' D = some (.lst zs) ∧ Kids true H'' zs (ts.take i)) (fun D hD => ⟨Ex.new hD, [], upd_same, .nil⟩) (fun D i H'' _ p => p.1) (fun D i x H'' hD hx p => ?_) (fun D H'' hD p => ?_)
    · obtain ⟨e9, zs, hz, Z⟩ := p
      obtain ⟨t, ht, hta⟩ := KK.get hx
      have mem := List.mem_of_getElem? ht
      obtain ⟨tok, tdp⟩ := hall t mem
      have tsz := size_mem mem
      have lz := Z.len
      rw [List.length_take] at lz
      refine ⟨rfl, _, rfl, _, rfl, t, x, k, L.length, wd, ts.length, an, _, rfl, hta.ex (eC.trans e9), tok, e9 _ _ hanC, ?_, tdp, by omega, fun H8 v8 e10 hv8 => ?_⟩
      · rw [← lks]
        exact same_rg _
      refine ⟨zs, e10 _ _ hz, sz_lt (by omega), (e9.trans e10).mut hD, zs ++ [v8], upd_same, ?_⟩
      rw [take_next' ht]
      refine Kids.upd (fun ys hh => ?_) ((Z.ex e10).snoc hv8)
      rw [e10 _ _ hz] at hh
      cases hh
    obtain ⟨e9, zs, hz, Z⟩ := p
    rw [lks, List.take_length] at Z
    refine ⟨D, zs, rfl, .inl ⟨sq_of hz, fun t2 ht2 => ?_⟩⟩
    have e10 := e9.trans (Ex.new (o := .tup zs) ht2)
    have hoD := e10 _ _ hoC
    have ZD := Z.ex (Ex.new (o := .tup zs) ht2)
    have ht3 : (upd H'' t2 (.tup zs)) t2 = some (.tup zs) := upd_same
    have eD := eC.trans e10
    generalize (upd H'' t2 (.tup zs)) = HD at hoD ZD ht3 eD ⊢
    have nto : t2 ≠ o := ne_of ht3 hoD (by intro z; cases z)
    refine ⟨_, rfl, o, C, dx, _, rfl, hoD, S.cl, S.ns, lf2, ?_⟩
    refine ⟨_, rfl, _, rfl, o, C, dx, _, rfl, upd_same, S.cl, S.nn, ?_, ?_⟩
    · rw [← hf2]
      show 3 < 1000
      decide
    refine q _ ((eD.mut ho0).mut ho0) ⟨dx, t2, zs, ?_, ?_, ?_⟩
    · rw [upd_same, ← hf2, putF4]
    · rw [upd_ne nto, upd_ne nto]
      exact ht3
    · refine Kids.upd (fun ys hh => ?_) (Kids.upd (fun ys hh => ?_) ZD)
      · rw [upd_same] at hh
        cases hh
      · rw [hoD] at hh
        cases hh
end
end Law

namespace TR
open PySem PySem.Spec L2 Evl
def Trs.of : List Tr → Trs
  | [] => .nil
  | t :: r => .cons t (Trs.of r)
theorem Trs.of_list : ∀ l : List Tr, (Trs.of l).list = l
  | [] => rfl
  | t :: r => congrArg (t :: ·) (Trs.of_list r)
theorem Trs.ok_of {l w n : Nat} : ∀ {ts : List Tr}, (∀ t ∈ ts, t.ok l w n) → (Trs.of ts).ok l w n
  | [], _ => True.intro
  | t :: r, h => ⟨h t List.mem_cons_self, Trs.ok_of fun x hx => h x (List.mem_cons_of_mem _ hx)⟩
theorem Trs.depth_of {d : Nat} : ∀ {ts : List Tr}, (∀ t ∈ ts, t.depth ≤ d) → (Trs.of ts).depth ≤ d
  | [], _ => Nat.zero_le _
  | t :: r, h => Nat.max_le.mpr ⟨h t List.mem_cons_self, Trs.depth_of fun x hx => h x (List.mem_cons_of_mem _ hx)⟩
theorem total_le {s : Nat} : ∀ {ts : List Tr}, (∀ t ∈ ts, t.size ≤ s) → TR.total ts ≤ ts.length * s
  | [], _ => Nat.zero_le _
  | t :: r, h => by
    have h1 := h t List.mem_cons_self
    have h2 := total_le (ts := r) fun x hx => h x (List.mem_cons_of_mem _ hx)
    show t.size + TR.total r ≤ (r.length + 1) * s
    rw [Nat.succ_mul]
    omega
end TR
namespace Law
open PySem PySem.Spec PyProof.Rows L2 Evl TR
theorem PenAt.both {p : PenI} {H0 H : Hp} {a : Addr} {n : Nat} {o : HO} (P : PenAt p H0 H n) (hd : a ≠ p.d) (hc : a ≠ p.c) : PenAt p (L2.upd H0 a o) (L2.upd H a o) n := by
  obtain ⟨e0, h0, hc0, hl, op, lf, ho, hd'⟩ := P
  refine ⟨fun b u e => ?_, by rw [upd_ne hd.symm]; exact h0, by rw [upd_ne hc.symm]; exact hc0, hl, op, lf, ho, by rw [upd_ne hd.symm]; exact hd'⟩
  by_cases q : b = a
  · subst q
    rw [upd_same] at e ⊢
    exact e
  · rw [upd_ne q] at e ⊢
    exact e0 b u e
theorem fresh_nc {p : PenI} {H0 H : Hp} {n : Nat} {a : Addr} (P : PenAt p H0 H n) (h : H a = none) : a ≠ p.c := fun e => by
  rw [e, P.1 _ _ P.2.2.1] at h
  cases h
/-- one more object made -/
theorem PenAt.made {p : PenI} {H0 H : Hp} {a : Addr} {n : Nat} {o : HO} (P : PenAt p H0 H n) (h : H a = none) : PenAt p (L2.upd H0 a o) (L2.upd H a o) n ∧ Ex H0 (L2.upd H0 a o) :=
  ⟨P.both (fresh_ne P h) (fresh_nc P h), Ex.new (fresh0 P h)⟩
/-- draws of a tree, its size -/
def nd : Nat → Nat
  | 0 => 2
  | d + 1 => 2 + 4 * nd d
def sz : Nat → Nat
  | 0 => 1
  | d + 1 => 1 + 4 * sz d
theorem nd_pos : ∀ d, 2 ≤ nd d
  | 0 => Nat.le_refl _
  | d + 1 => Nat.le_add_right _ _
theorem sz_pos : ∀ d, 1 ≤ sz d
  | 0 => Nat.le_refl _
  | d + 1 => Nat.le_add_right _ _
def spTree (k : Nat) : Sp := fun vs H Q _ => ∃ (p : PenI) (H0 : Hp) (n d : Nat) (L : List Nat) (w m : Nat), vs = [.ref p.d, .str (tx L), .int (w : Int), .int (m : Int), .int (d : Int)] ∧ d < k ∧ PenAt p H0 H n ∧ n + nd d < 900000 ∧ 2 ≤ L.length ∧ L.length ≤ 4 ∧ 1 ≤ w ∧ w ≤ 8 ∧ 1 ≤ m ∧ m ≤ 64 ∧
  ∀ H1 H' v t, Ex H0 H1 → PenAt p H1 H' (n + nd d) → TR.TA true H1 v t → t.ok L.length w m → t.depth ≤ d + 1 → t.size ≤ sz d → Q v H'
section
variable {P : Program} {w : World} {K : PySem.W.Frag} {mg : Str → Option Value} {base : Heap}
theorem ok_tree {f : Addr} {fd : FuncData} (F : Fun K "_law_tree" "_law_tree" s_ltree f fd) (T : Tx mg) (g : mg "_law_tree" = some (.ref f)) (b : Binds K fd ["_law_pen_here", "_law_letters_here", "_law_width", "_law_states", "_law_depth"] [])
    (c_ldraw : Kn P w K mg base "_law_draw" ["_law_pen_here", "_law_many"] 1 spDraw) : ∀ k : Nat, FnOk P w K mg base CX0 (k + 2) f fd ["_law_pen_here", "_law_letters_here", "_law_width", "_law_states", "_law_depth"] (spTree k)
  | 0 => by
    refine F.ok sc_ltree (fun vs H Q E h => ?_) (fun cdv A outer s H vs Q E hr h => ?_)
    · obtain ⟨p, H0, n, d, L, wd, m, rfl, _⟩ := h
      rfl
    · obtain ⟨p, H0, n, d, L, wd, m, rfl, hk, _⟩ := h
      exact absurd hk (Nat.not_lt_zero _)
  | k + 1 => by
    have c_ltree : Kn P w K mg base "_law_tree" ["_law_pen_here", "_law_letters_here", "_law_width", "_law_states", "_law_depth"] (k + 2) (spTree k) := ⟨f, fd, ok_tree F T g b c_ldraw k, g, F.kp, b⟩
    refine F.ok sc_ltree (fun vs H Q E h => ?_) (fun cdv A outer s H vs Q E hr h => ?_)
    · obtain ⟨p, H0, n, d, L, wd, m, rfl, _⟩ := h
      rfl
    · obtain ⟨p, H0, n, d, L, wd, m, rfl, hk, P0, hn, l2, l4, w1, w8, m1, m64, q⟩ := h
      have ndp := nd_pos d
      refine ⟨_, (pss_cons (ps_set (i := 5) sc_ltree.nd rfl (Or.inl rfl) (pe_ifExp (pt_cmpR op_gt (pv 4) pe_int (nomark _)) (pe_call c_ldraw.ok (hr.mono (by omega)) (by rfl) c_ldraw.g c_ldraw.kp c_ldraw.b .nil pass0 (pa_cons (pv 0) (pa_cons pe_int pa_nil))) pe_int))
      (pss_cons (ps_if (pt_cmpR op_lt (pv 5) pe_int (nomark _)) (pss_cons (ps_set (i := 6) sc_ltree.nd rfl (Or.inl rfl) (pe_call c_ldraw.ok (hr.mono (by omega)) (by rfl) c_ldraw.g c_ldraw.kp c_ldraw.b .nil pass0 (pa_cons (pv 0) (pa_cons (pe_op op_add (pv 2) pe_int) pa_nil))))
      (pss_one (ps_ret (pe_tup (pa_cons pe_str (pa_cons (pv 6) (pa_cons (pe_callTy call_tuple_of (by rfl) T.tuple PyProof.Rows.boot_tuple (pa_cons (pe_lc (own := [("_law_letter", 7)]) (g := gName 7) (tt := tYes) rfl sc_ltree.nd (pi_str (pv 1)) (blkOk_by (N := N_ltree) (sc := defScope s_ltree) (by decide +kernel)) (fun _ _ _ _ _ => (pg_name (i := 7) sc_ltree.nd rfl (Or.inl rfl))) (fun _ _ _ _ _ => pts_nil) (fun _ _ _ _ _ => (pe_call c_ltree.ok (hr.mono (by omega)) (by rfl) c_ltree.g c_ltree.kp c_ltree.b .nil pass0 (pa_cons (pv 0) (pa_cons (pv 1) (pa_cons (pv 2) (pa_cons (pv 3) (pa_cons (pe_op op_sub (pv 4) pe_int) pa_nil)))))))) pa_nil)) pa_nil))))))) pss_nil)
      (pss_cons (ps_if (pt_cmpR op_eq (pv 5) pe_int (nomark _)) (pss_one (ps_ret (pe_tup (pa_cons pe_str (pa_cons (pe_call c_ldraw.ok (hr.mono (by omega)) (by rfl) c_ldraw.g c_ldraw.kp c_ldraw.b .nil pass0 (pa_cons (pv 0) (pa_cons pe_int pa_nil))) (pa_cons (pe_call c_ltree.ok (hr.mono (by omega)) (by rfl) c_ltree.g c_ltree.kp c_ltree.b .nil pass0 (pa_cons (pv 0) (pa_cons (pv 1) (pa_cons (pv 2) (pa_cons (pv 3) (pa_cons (pe_op op_sub (pv 4) pe_int) pa_nil)))))) pa_nil)))))) pss_nil)
      (pss_one (ps_ret (pe_tup (pa_cons pe_str (pa_cons (pe_op op_add pe_int (pe_call c_ldraw.ok (hr.mono (by omega)) (by rfl) c_ldraw.g c_ldraw.kp c_ldraw.b .nil pass0 (pa_cons (pv 0) (pa_cons (pe_op op_add (pv 2) pe_int) pa_nil)))) (pa_cons (pe_call c_ldraw.ok (hr.mono (by omega)) (by rfl) c_ldraw.g c_ldraw.kp c_ldraw.b .nil pass0 (pa_cons (pv 0) (pa_cons (pv 3) pa_nil))) pa_nil))))))))), ?_⟩
      refine ⟨_, rfl, _, _, rfl, rfl, _, rfl, ite2 (fun hb => ?_) (fun hb => ?_)⟩
      · have hd0 : 0 < (d : Int) := of_decide_eq_true hb
        obtain ⟨d', rfl⟩ : ∃ d', d = d' + 1 := ⟨d - 1, by omega⟩
        have nde : nd (d' + 1) = 2 + 4 * nd d' := rfl
        have sze : sz (d' + 1) = 1 + 4 * sz d' := rfl
        have ndp' := nd_pos d'
        have szp' := sz_pos d'
        have dm : (V.int (((d' + 1 : Nat) : Int) - 1)) = V.int (d' : Int) := congrArg V.int (by omega)
        refine ⟨_, rfl, p, H0, n, 6, rfl, P0, by omega, by decide, by decide, fun H1 r P1 r0 r1 => ?_⟩
        refine ⟨_, rfl, _, _, rfl, rfl, _, rfl, ite2 (fun hb1 => ?_) (fun hb1 => ?_)⟩
        · refine ⟨_, rfl, _, rfl, _, _, rfl, rfl, p, H0, n + 1, _, rfl, P1, by omega, by omega, by omega, fun H2 pl P2 p0 p1 => ?_⟩
          obtain ⟨pn, rfl⟩ : ∃ pn : Nat, pl = (pn : Int) := ⟨pl.toNat, (Int.toNat_of_nonneg p0).symm⟩
          refine ⟨_, rfl, _, rfl, _, rfl, fun D hD => ?_⟩
          have d0 := fresh0 P2 hD
          have d1 := fresh_ne P2 hD
          have d2 := fresh_nc P2 hD
          refine lc_str (x := tx L) (fun i H' => ∃ (Hb : Hp) (zs : List V) (ts : List Tr), Ex H0 Hb ∧ PenAt p Hb H' (n + 2 + i * nd d') ∧ Hb D = some (.lst zs) ∧ Kids true Hb zs ts ∧ ts.length = i ∧ ∀ t ∈ ts, t.ok L.length wd m ∧ t.depth ≤ d' + 1 ∧ t.size ≤ sz d')
            ⟨L2.upd H0 D (.lst []), [], [], Ex.new d0, (P2.both d1 d2).le (by omega), upd_same, .nil, rfl, fun t ht => nomatch ht⟩ (fun i c H' hic hw => ?_) (fun H' hw => ?_)
          · obtain ⟨Hb, zs, ts, e, Pb, hz, KK, hl, hall⟩ := hw
            have hi := (List.getElem?_eq_some_iff.mp (tx_at hic)).1
            have hi4 : (i + 1) * nd d' ≤ 4 * nd d' := Nat.mul_le_mul_right _ (by omega)
            rw [Nat.succ_mul] at hi4
            have lz := KK.len
            refine ⟨rfl, _, rfl, _, rfl, _, rfl, _, rfl, _, rfl, _, _, rfl, rfl, p, Hb, n + 2 + i * nd d', d', L, wd, m, congrArg (fun z => [V.ref p.d, V.str (tx L), V.int (wd : Int), V.int (m : Int), z]) dm, by omega, Pb, by omega, l2, l4, w1, w8, m1, m64, fun H3 H4 v t e3 P4 hta tok tdp tsz => ?_⟩
            refine ⟨zs, P4.1 _ _ (e3 _ _ hz), sz_lt (by omega), L2.upd H3 D (.lst (zs ++ [v])), zs ++ [v], ts ++ [t], (e.trans e3).mut d0, (P4.both d1 d2).le ?_, upd_same, ?_, ?_, ?_⟩
            · rw [Nat.succ_mul]
              omega
            · refine Kids.upd (fun ys hh => ?_) ((KK.ex e3).snoc hta)
              rw [e3 _ _ hz] at hh
              cases hh
            · rw [List.length_append, hl]
              rfl
            · intro x hx
              rcases List.mem_append.mp hx with h | h
              · exact hall x h
              · rw [List.mem_singleton.mp h]
                exact ⟨tok, tdp, tsz⟩
          · obtain ⟨Hb, zs, ts, e, Pb, hz, KK, hl, hall⟩ := hw
            rw [tx_size] at hl
            refine ⟨D, zs, rfl, .inl ⟨sq_of (Pb.1 _ _ hz), fun t2 ht2 => ⟨by show 3 ≤ sizeLine; decide, fun r2 hr2 => ?_⟩⟩⟩
            obtain ⟨Pc, ec⟩ := Pb.made (o := .tup zs) ht2
            obtain ⟨Pd, ed⟩ := Pc.made (o := .tup [.str "read", .int (pn : Int), .ref t2]) hr2
            have hn2 : L.length * nd d' ≤ 4 * nd d' := Nat.mul_le_mul_right _ l4
            have hs2 : L.length * sz d' ≤ 4 * sz d' := Nat.mul_le_mul_right _ l4
            have tot := total_le (s := sz d') fun t ht => (hall t ht).2.2
            rw [hl] at tot
            rw [tx_size] at Pd
            refine q _ _ _ (.read pn (Trs.of ts)) ((e.trans ec).trans ed) (Pd.le (by omega)) (.read upd_same (ed _ _ upd_same) ?_) ⟨by omega, ?_, Trs.ok_of fun t ht => (hall t ht).1⟩ ?_ ?_
            · refine Kids.tas ?_
              rw [Trs.of_list]
              exact KK.ex (ec.trans ed)
            · rw [Trs.of_list]
              exact hl
            · exact Nat.succ_le_succ (Trs.depth_of fun t ht => (hall t ht).2.1)
            · show (Trs.of ts).size + 1 ≤ _
              rw [← Trs.total, Trs.of_list]
              omega
        · refine ⟨_, rfl, rfl, _, rfl, ite2 (fun hb2 => ?_) (fun hb2 => ?_)⟩
          · refine ⟨_, rfl, p, H0, n + 1, 3, rfl, P1, by omega, by decide, by decide, fun H2 r2 P2 s0 s1 => ?_⟩
            obtain ⟨rn, rfl⟩ : ∃ rn : Nat, r2 = (rn : Int) := ⟨r2.toNat, (Int.toNat_of_nonneg s0).symm⟩
            refine ⟨_, rfl, _, rfl, _, rfl, _, rfl, _, rfl, _, _, rfl, rfl, p, H0, n + 2, d', L, wd, m, congrArg (fun z => [V.ref p.d, V.str (tx L), V.int (wd : Int), V.int (m : Int), z]) dm, by omega, P2, by omega, l2, l4, w1, w8, m1, m64, fun H3 H4 v t e3 P4 hta tok tdp tsz => ⟨by show 3 ≤ sizeLine; decide, fun r3 hr3 => ?_⟩⟩
            obtain ⟨Pd, ed⟩ := P4.made (o := .tup [.str "tell", .int (rn : Int), v]) hr3
            exact q _ _ _ (.tell rn t) (e3.trans ed) (Pd.le (by omega)) (.tell upd_same (hta.ex ed)) ⟨by omega, tok⟩ (Nat.succ_le_succ tdp) (by show t.size + 1 ≤ _; omega)
          · refine ⟨_, rfl, _, rfl, _, _, rfl, rfl, p, H0, n + 1, _, rfl, P1, by omega, by omega, by omega, fun H2 r2 P2 s0 s1 => ⟨_, _, rfl, rfl, ?_⟩⟩
            refine ⟨_, rfl, _, rfl, p, H0, n + 2, _, rfl, P2, by omega, by omega, by omega, fun H3 r3 P3 u0 u1 => ⟨by show 3 ≤ sizeLine; decide, fun r4 hr4 => ?_⟩⟩
            obtain ⟨an, rfl⟩ : ∃ an : Nat, r2 = (an : Int) := ⟨r2.toNat, (Int.toNat_of_nonneg s0).symm⟩
            obtain ⟨bn, rfl⟩ : ∃ bn : Nat, r3 = (bn : Int) := ⟨r3.toNat, (Int.toNat_of_nonneg u0).symm⟩
            obtain ⟨Pd, ed⟩ := P3.made (o := .tup [.str "go", .int (1 + (an : Int)), .int (bn : Int)]) hr4
            refine q _ _ _ (.go (1 + an) bn) ed (Pd.le (by omega)) (.go ?_) ⟨by omega, by omega, by omega⟩ (by show 1 ≤ _; omega) (by show 1 ≤ _; omega)
            rw [upd_same]
            rfl
      · have hd0 : d = 0 := by
          have : ¬ (0 < (d : Int)) := fun z => hb (decide_eq_true z)
          omega
        subst hd0
        have nde : nd 0 = 2 := rfl
        refine ⟨_, rfl, _, _, rfl, rfl, _, rfl, ite2 (fun hb1 => absurd (of_decide_eq_true hb1) (by decide)) (fun hb1 => ?_)⟩
        refine ⟨_, rfl, rfl, _, rfl, ite2 (fun hb2 => absurd hb2 (by decide)) (fun hb2 => ?_)⟩
        refine ⟨_, rfl, _, rfl, _, _, rfl, rfl, p, H0, n, _, rfl, P0, by omega, by omega, by omega, fun H2 r2 P2 s0 s1 => ⟨_, _, rfl, rfl, ?_⟩⟩
        refine ⟨_, rfl, _, rfl, p, H0, n + 1, _, rfl, P2, by omega, by omega, by omega, fun H3 r3 P3 u0 u1 => ⟨by show 3 ≤ sizeLine; decide, fun r4 hr4 => ?_⟩⟩
        obtain ⟨an, rfl⟩ : ∃ an : Nat, r2 = (an : Int) := ⟨r2.toNat, (Int.toNat_of_nonneg s0).symm⟩
        obtain ⟨bn, rfl⟩ : ∃ bn : Nat, r3 = (bn : Int) := ⟨r3.toNat, (Int.toNat_of_nonneg u0).symm⟩
        obtain ⟨Pd, ed⟩ := P3.made (o := .tup [.str "go", .int (1 + (an : Int)), .int (bn : Int)]) hr4
        refine q _ _ _ (.go (1 + an) bn) ed (Pd.le (by omega)) (.go ?_) ⟨by omega, by omega, by omega⟩ (by show 1 ≤ _; omega) (by show 1 ≤ 1; omega)
        rw [upd_same]
        rfl
/-- the states drawn -/
def spTrees : Sp := fun vs H Q _ => ∃ (p : PenI) (H0 : Hp) (n : Nat) (L : List Nat) (w m : Nat), vs = [.ref p.d, .str (tx L), .int (w : Int), .int (m : Int), .int 3] ∧ PenAt p H0 H n ∧ n < 800000 ∧ 2 ≤ L.length ∧ L.length ≤ 4 ∧ 1 ≤ w ∧ w ≤ 8 ∧ 1 ≤ m ∧ m ≤ 4 ∧
  ∀ H1 H' r vs ts, Ex H0 H1 → PenAt p H1 H' (n + 1000) → H0 r = none → H1 r = some (.lst vs) → Kids true H1 vs ts → ts.length = m → (∀ t ∈ ts, t.ok L.length w m ∧ t.depth ≤ 4 ∧ t.size ≤ 100) → Q (.ref r) H'
theorem ok_trees {f : Addr} {fd : FuncData} (F : Fun K "_law_trees" "_law_trees" s_ltrees f fd) (T : Tx mg) (c_ltree : Kn P w K mg base "_law_tree" ["_law_pen_here", "_law_letters_here", "_law_width", "_law_states", "_law_depth"] 6 (spTree 4)) :
    FnOk P w K mg base CX0 7 f fd ["_law_pen_here", "_law_letters_here", "_law_width", "_law_many", "_law_depth"] spTrees := by
  refine F.ok sc_ltrees (fun vs H Q E h => ?_) (fun cdv A outer s H vs Q E hr h => ?_)
  · obtain ⟨p, H0, n, L, wd, m, rfl, _⟩ := h
    rfl
  · obtain ⟨p, H0, n, L, wd, m, rfl, P0, hn, l2, l4, w1, w8, m1, m4, q⟩ := h
    refine ⟨_, (pss_one (ps_ret (pe_lc (own := [("_law_k", 5)]) (g := gName 5) (tt := tYes) rfl sc_ltrees.nd (pi_range1 (by rfl) T.range (pa_cons (pv 3) pa_nil)) (blkOk_by (N := N_ltrees) (sc := defScope s_ltrees) (by decide +kernel)) (fun _ _ _ _ _ => (pg_name (i := 5) sc_ltrees.nd rfl (Or.inl rfl))) (fun _ _ _ _ _ => pts_nil) (fun _ _ _ _ _ => (pe_call c_ltree.ok (hr.mono (by decide)) (by rfl) c_ltree.g c_ltree.kp c_ltree.b .nil pass0 (pa_cons (pv 0) (pa_cons (pv 1) (pa_cons (pv 2) (pa_cons (pv 3) (pa_cons (pv 4) pa_nil)))))))))), ?_⟩
    have n3 : nd 3 = 170 := rfl
    have z3 : sz 3 = 85 := rfl
    refine ⟨_, rfl, _, rfl, by omega, by omega, fun D hD => ?_⟩
    have d0 := fresh0 P0 hD
    have d1 := fresh_ne P0 hD
    have d2 := fresh_nc P0 hD
    refine lc_range (lo := 0) (n := m) (fun i H' => ∃ (Hb : Hp) (zs : List V) (ts : List Tr), Ex H0 Hb ∧ PenAt p Hb H' (n + i * 170) ∧ Hb D = some (.lst zs) ∧ Kids true Hb zs ts ∧ ts.length = i ∧ ∀ t ∈ ts, t.ok L.length wd m ∧ t.depth ≤ 4 ∧ t.size ≤ 100)
      ⟨L2.upd H0 D (.lst []), [], [], Ex.new d0, (P0.both d1 d2).le (by omega), upd_same, .nil, rfl, fun t ht => nomatch ht⟩ (fun i H' hi hw => ?_) (fun H' hw => ?_)
    · obtain ⟨Hb, zs, ts, e, Pb, hz, KK, hl, hall⟩ := hw
      have lz := KK.len
      refine ⟨rfl, _, rfl, _, rfl, _, rfl, _, rfl, _, rfl, p, Hb, n + i * 170, 3, L, wd, m, rfl, by decide, Pb, by omega, l2, l4, w1, w8, m1, by omega, fun H3 H4 v t e3 P4 hta tok tdp tsz => ?_⟩
      refine ⟨zs, P4.1 _ _ (e3 _ _ hz), sz_lt (by omega), L2.upd H3 D (.lst (zs ++ [v])), zs ++ [v], ts ++ [t], (e.trans e3).mut d0, (P4.both d1 d2).le (by omega), upd_same, ?_, ?_, ?_⟩
      · refine Kids.upd (fun ys hh => ?_) ((KK.ex e3).snoc hta)
        rw [e3 _ _ hz] at hh
        cases hh
      · rw [List.length_append, hl]
        rfl
      · intro x hx
        rcases List.mem_append.mp hx with h | h
        · exact hall x h
        · rw [List.mem_singleton.mp h]
          exact ⟨tok, tdp, by omega⟩
    · obtain ⟨Hb, zs, ts, e, Pb, hz, KK, hl, hall⟩ := hw
      exact q _ _ _ _ _ e (Pb.le (by omega)) d0 hz KK hl hall
end
end Law

/-! own errors over an own base whose __init__ they call; several except clauses with a name -/
namespace EK
open PySem PySem.Spec PyProof.Rows L2
section
variable {X : Cx} {C0 : Addr} {x : Str} {e : Expr} {es : List Expr} {ta : TA} {p1 p2 pos : Pos}
/-- B.__init__(self, ..), B an own class over ValueError without an __init__ of its own -/
theorem pe_skinit {pl : Sem Bool} (hg : Gl X x) (hm : X.mg x = some (.ref C0)) (r : ClX.CRead X.K C0 (.type "type")) (k : PySem.W.findCls X.K (.ref C0) (.type "type") "__init__" = some (.val (.builtin "ValueError.__init__"))) (ha : PA X (e :: es) ta)
    (hc : eval (.Call (.Attribute (.Name x p1) "__init__" p2) (e :: es) [] pos) X.env = (do
      let ov ← eval (.Name x p1) X.env
      standAt p2.atName
      let (f, first) ← holding [ov] (getMethod ov "__init__" pl)
      callWith pos f first (backTo pos (starEach (e :: es) X.env)) (backToKw pos (keywordEach [] X.env))) := by rfl)
    (hdb : (x == ("__debug__" : Str)) = false := by decide)
    (he : starEach (e :: es) X.env = (false, eval e X.env) :: starEach es X.env := by rfl) (hpl : (backTo pos (starEach es X.env)).any (·.1) = false := by rfl) :
    PE X (.Call (.Attribute (.Name x p1) "__init__" p2) (e :: es) [] pos) (tVeI X.K ta) := by
  refine ⟨fun pins s σ H Q I h => ?_⟩
  refine PySem.W.methodCall_KW (ld_glob I hg hm ?_ hdb) hc
  refine PySem.W.method_cls I.kIn r.ga (PySem.W.cls_value I.kIn r.rd k rfl ?_)
  show wpAny _ _ (callWith pos (Value.builtin "ValueError.__init__") [] (backTo pos (starEach (e :: es) X.env)) []) _ _ _
  refine PyProof.Rows.callWith_method1 (thn (ha.run pos pins _ σ H _ (I.tok _) h) fun us s1 ⟨vs, H1, I1, r1, a, C, ws, ev, hl, T, ea, q⟩ => ?_) he hpl
  subst ev
  cases r1 with
  | @cons _ u0 _ ur ra rw' =>
    obtain rfl : u0 = Value.ref a := ra
    have hlen : ur.length ≤ sizeLine := by
      rw [← Paired.length rw', sizeLine_eq]
      omega
    exact oinit_ok T I1 ea hlen fun s' J => ⟨.non, H1, J, rfl, q⟩
end
end EK
/-! ### isinstance of a caught error that has its dict -/
namespace PySem.W
open PySem PySem.Spec PySem.Calls PyProof.Rows
section
variable {prog : Program} {w : World} {A : Around} {E : Value → Shared → Prop} {s : Shared} {K : Frag} {x D : Addr} {ox : Obj} {od : Option Obj}
theorem ek_findObj {C : Addr} {name : Str} {a g : Value} (hc : (clsIn K C).isSome = true) (ha : findIn K (.ref C) name = some (some a)) (hg : specialIn K a "__get__" = some (some g)) (ht : takesIn K a = some true) : findObj K C od name = some (.bind g a) := by
  obtain ⟨cd, hc⟩ := Option.isSome_iff_exists.mp hc
  unfold findObj
  rw [hc, Option.bind_some, ha, Option.bind_some]
  simp [hg, ht]
theorem ek_kin_class {Q : Option Value → Shared → Prop} (hga : findIn K (.ref D) "__getattribute__" = some (some (.builtin "BaseException.__getattribute__"))) (hgt : findIn K (.ref D) "__getattr__" = some none) (hsub : subIn K (.ref D) (.type "BaseException") = some true)
    (hdct : hasDictIn K D = true) (ha : findIn K (.ref D) "__class__" = some (some (.builtin "object.__class__")))
    (hn : specialIn K (.builtin "object.__class__") "__get__" = some (some (.builtin "getset_descriptor.__get__"))) (htk : takesIn K (.builtin "object.__class__") = some true) (hm : mroIn K D (.type "object") = some true)
    (X : K.In s.heap) (I : InstAt s.heap x ox D od) (h : Q (some (.ref D)) { s with toks := s.toks + 1 }) : wpAny (model prog w) A (getAttr? (.ref x) "__class__") Q E s := by
  have hf : findObj K D od "__class__" = some (.bind (.builtin "getset_descriptor.__get__") (.builtin "object.__class__")) := ek_findObj (by obtain ⟨cd, hc, _⟩ := any_some hdct; rw [hc]; rfl) ha hn htk
  obtain ⟨hp, g, d, t, os⟩ := s
  have L0 := I.type (M := model prog w)
  have L1 := looks_findIn (M := model prog w) X hga
  have L2 := looks_findIn (M := model prog w) X hgt
  have L3 := looks_find (M := model prog w) X I hf
  have sub : Looks (model prog w) hp (isInstance (.ref x) (.type "BaseException")) true := L0.andThen (looks_subIn X hsub)
  have hx0 : (false && onTheHeap (Value.builtin "BaseException.__getattribute__")) = false := rfl
  have hx2 : (Value.builtin "BaseException.__getattribute__" == Value.builtin "object.__getattribute__") = false := by decide +kernel
  have hx1 : (onTheHeap (Value.ref D) && Value.builtin "BaseException.__getattribute__" == Value.builtin "object.__getattribute__") = false := by rw [hx2]; rfl
  unfold getAttr? getAttrBy? getAttrBy
  refine wpAny_bind (wpAny_mkText (wpAny_bind (wpAny_attempt (wpAny_holding (wpAny_bind (L0.at (wpAny_bind (L1.at ?_))))))))
  show wpAny _ _ (if (onTheHeap (Value.ref D) && Value.builtin "BaseException.__getattribute__" == Value.builtin "object.__getattribute__") = true then _ else _) _ _ _
  rw [hx1, if_neg Bool.false_ne_true]
  unfold getAttrByItsOwn hookBefore
  refine wpAny_bind ?_
  rw [if_pos (show onTheHeap (Value.ref D) = true from rfl)]
  refine L2.at ?_
  refine wpAny_bind (wpAny_attempt (wpAny_holding ?_))
  unfold callGetattribute
  rw [hx0, if_neg Bool.false_ne_true]
  unfold boundAndCalled
  rw [PySem.F.excAttr_ValueError.ga.bind (.ref x)]
  refine wpAny_bind (wpAny_pure ?_)
  show wpAny _ _ (call (.builtin "BaseException.__getattribute__") [.ref x, .str "__class__" t]) _ _ _
  refine wpAny_call (codeAny_call_builtin PySem.F.excAttr_ValueError.ga.plain PySem.F.entry_bexc_ga ?_)
  refine @check_slot (model prog w) _ _ ⟨hp, g, d, t + 1, os⟩ "BaseException.__getattribute__" "BaseException" "__getattribute__" (.ref x) [.str "__class__" t] [] _ (by decide +kernel) (by decide +kernel) sub (PySem.F.args_bexc_ga (.ref x) (.str "__class__" t)) ?_
  unfold Builtin.«object.__getattribute__»
  refine wpAny_bind (wpAny_of_eq (a := ((Value.ref x : Value), [Value.str "__class__" t])) (by first | rfl | (simp only [slotArgs]; rfl)) ?_)
  refine wpAny_bind (wpAny_pure (wpAny_bind (L0.at (wpAny_bind (L3.at ?_)))))
  show wpAny _ _ (holding [Value.builtin "object.__class__"] (call (.builtin "getset_descriptor.__get__") [.builtin "object.__class__", .ref x, .ref D]) >>= ret) _ _ _
  refine wpAny_bind (wpAny_holding (wpAny_call (class_get (s := ⟨hp, g, d, t + 1, os⟩) (ox := ox) (od := od) X I hm ?_)))
  refine wpAny_pure ?_
  show wpAny _ _ (handedOut (.ref D)) _ _ _
  rw [handedOut_of (v := .ref D) rfl]
  first
    | exact wpAny_pure (wpAny_pure h)
    | exact wpAny_pure h
    | exact wpAny_pure (wpAny_bind (wpAny_pure (wpAny_pure h)))
theorem ek_kitx (hga : findIn K (.ref D) "__getattribute__" = some (some (.builtin "BaseException.__getattribute__"))) (hgt : findIn K (.ref D) "__getattr__" = some none) (hsub : subIn K (.ref D) (.type "BaseException") = some true) (hdct : hasDictIn K D = true) (ha : findIn K (.ref D) "__class__" = some (some (.builtin "object.__class__")))
    (hn : specialIn K (.builtin "object.__class__") "__get__" = some (some (.builtin "getset_descriptor.__get__"))) (htk : takesIn K (.builtin "object.__class__") = some true) (hm : mroIn K D (.type "object") = some true) :
    KitX K (.ref x) (.ref D) (fun h => InstAt h x ox D od) where
  ty := fun _ _ _ I => I.type
  it := fun _ _ X _ => by
    obtain ⟨cdD, hcD, _⟩ := any_some hdct
    unfold clsIn at hcD
    split at hcD
    · rename_i c' d' cd' sl' ho
      intro A' Q' E' s' k q
      unfold isType loadHead
      exact wpAny_bind (wpAny_loadPart (k _ _ (X _ _ ho)) (wpAny_pure q))
    · cases hcD
  ne := fun h tp dd its n sl X htp => by
    obtain ⟨cdD, hcD, _⟩ := any_some hdct
    refine Bool.eq_false_iff.mpr fun q => ?_
    have e : D = tp := Value.ref.inj (beq_iff_eq.mp q)
    subst e
    unfold clsIn at hcD
    split at hcD
    · rename_i c' d' cd' sl' ho
      have z := (X _ _ ho).symm.trans htp
      cases z
    · cases hcD
  ca := fun X I k => ek_kin_class hga hgt hsub hdct ha hn htk hm X I k
end
end PySem.W
namespace EK
open PySem PySem.Spec PyProof.Rows L2
/-- isinstance(e, c), e the exception that the suite holds: its class D, its dict at d -/
def rIsE (K : PySem.W.Frag) (cls : Value) (d : Option Addr) (D a : Addr) : List V → Hp → VK → Prop := fun xs H Q => ∃ (c : V) (cv : Value) (b : Bool), xs = [.ref a, c] ∧ cls = .ref D ∧ (∃ dd fs, d = some dd ∧ H dd = some (.xd fs)) ∧ ClsV c cv ∧ PySem.W.kitOne K (.ref D) cv = some b ∧ Q (.bl b) H
theorem call_isE {X : Cx} {a D : Addr} {cls : Value} {d : Option Addr} {oe : Obj} {pn : List (Addr × Obj)} (C : ExcC X.K D) (hz : Zc cls d oe) (hf : ∃ vs, oe.data = .fields vs) : CallR (X.suite a ((a, oe) :: pn)) (.builtin "isinstance") (rIsE X.K cls d D a) := by
  intro pins s σ H xs us Q I r h
  obtain ⟨c, cv, b, rfl, ec, ⟨dd, fs, ed, hd⟩, k, e, q⟩ := h
  obtain ⟨u1, u2, rfl, r1, r2⟩ := vals2 r
  cases r1
  have e2 := k.eq r2
  subst e2 ec ed
  obtain ⟨hget, _⟩ := I.pin (a, oe) (List.mem_append.mpr (.inl List.mem_cons_self))
  obtain ⟨vs, hv⟩ := hf
  have hx : ObjOk X.prog X.w H s.heap dd (.xd fs) := I.hok dd _ hd
  obtain ⟨mA, hns, _⟩ := hx
  obtain ⟨od, ho, _⟩ := lookIn_ns hns
  have J : PySem.W.InstAt s.heap a oe D (some od) := ⟨hget, hz.1, by unfold PySem.W.notCls; rw [hv] <;> rfl, by rw [hz.2]; exact ho⟩
  exact PySem.W.kia_one (PySem.W.ek_kitx C.hg C.hk C.hs C.hd C.ha C.hn C.ht C.hm) I.kIn J e (fun z => nomatch z) fun tk => ⟨.bl b, H, I.kept (t' := tk) fun _ _ z => z, rfl, q⟩
/-! ### several except clauses, all with one name -/
def endsN (D : Ends) (i : Nat) : Ends := { nx := fun σ' H' => D.nx (σ'.set i none) H', rt := D.rt, bk := fun σ' H' => D.bk (σ'.set i none) H', ct := fun σ' H' => D.ct (σ'.set i none) H' }
def wManyN (K : PySem.W.Frag) (Wout : WX) (D : Ends) (i : Nat) : List (Value × (Addr → Value → Option Addr → TS)) → WX
  | [] => Wout
  | (c, ts) :: r => fun cls d σ H => ∃ b, PySem.W.exmOne K cls c = some b ∧ (b = true → ∀ a, H a = none → ts a cls d (endsN D i) (σ.set i (some (.ref a))) H) ∧ (b = false → wManyN K Wout D i r cls d σ H)
inductive HdsN (X : Cx) (n : Str) : List ExceptHandler → List (Value × (Addr → Value → Option Addr → TS)) → Prop
  | nil : HdsN X n [] []
  | cons {x : Str} {c : Value} {ts : Addr → Value → Option Addr → TS} {b₀ : Stmt} {suite : List Stmt} {np pos' : Pos} {hds : List ExceptHandler} {l : List (Value × (Addr → Value → Option Addr → TS))} (hc : Names X x c)
      (hsu : ∀ (a : Addr) (oe : Obj) (cls : Value) (d : Option Addr) (pn : List (Addr × Obj)), Zc cls d oe → (∃ vs, oe.data = .fields vs) → PSs (X.suite a ((a, oe) :: pn)) (b₀ :: suite) (ts a cls d)) (r : HdsN X n hds l) :
      HdsN X n (.ExceptHandler (some (.Name x np)) (some n) (b₀ :: suite) pos' :: hds) ((c, ts) :: l)
section
variable {X : Cx} {n : Str} {i : Nat} {body : List Stmt} {h₀ : ExceptHandler} {hds : List ExceptHandler} {l : List (Value × (Addr → Value → Option Addr → TS))} {pos : Pos} {tb : WX → TS} {Wout : WX}
theorem ps_tryN (hs : X.stack = X.env :: X.outer) (hf : X.env.frame = some X.env.locals) (hN : X.N.Nodup) (hi : X.N[i]? = some n) (hln : X.env.kindOf n = some .local) (tk : Takes X Wout)
    (hb : ∀ (W : WX) (pn : List (Addr × Obj)) (xe : Value → Shared → Prop), Takes (X.tr pn xe) W → PassesOwn (model X.prog X.w) X.A X.env xe → PSs (X.tr pn xe) body (tb W))
    (hh : HdsN X n (h₀ :: hds) l) : PS X (.Try body (h₀ :: hds) [] [] pos) (fun D σ H => tb (wManyN X.K Wout D i l) D σ H) := by
  refine ⟨fun pins s σ H D I h => ?_⟩
  have ok := I.ok
  have hfr : X.A.frames = some (X.env :: X.outer) := by rw [ok.frames, hs]
  have hloc : Loc X.env.scope n := .inl hln
  refine wpAny_Try_except ?_
  refine wpAny_mono ((hb (wManyN X.K Wout D i l) (X.pn ++ pins) (fun e s₁ => wpAny (model X.prog X.w) X.A (noteFrame e X.env) (fun _ s₂ => wpAny (model X.prog X.w) X.A (setFlight e none) (fun _ s₃ =>
    wpAny (model X.prog X.w) X.A (handleBy e X.env (h₀ :: hds)) (SP X pins D) X.xe s₃) X.xe s₂) X.xe s₁) (fun u s' xx => ?_) PassesOwn.looking).run [] s σ H D (I.toTry _) h) (fun f s1 hsp => ?_) (fun e s1 he => he)
  · -- the catch
    obtain ⟨a, B, sI, pins', σ', H', cls, d, rfl, J', nb, up, sky, na, os, ag, w⟩ := xx
    have J : Inv X pins σ' H' sI := J'.ofTry ok
    have sky' : Sky B (X.env :: X.outer) a (Zc cls d) X.env.locals s'.heap := by rw [← hs]; exact sky
    show wpAny (model X.prog X.w) X.A (noteFrame (.ref a) X.env) _ _ _
    refine Sky.land Zc.steady hfr hf sky' fun h3 fl3 up3 => ?_
    have J3 : Inv X pins σ' H' { s' with heap := h3 } := J.landed nb fl3.1 (up.trans up3) os ag
    obtain ⟨oe3, vs3, he3, hz3, hd3⟩ := fl3.there
    have notFr : ∀ {h : Heap} {o : Obj} {vs : Array Value}, h.FunFrames B (X.env :: X.outer) → h.get? a = some o → o.data = .fields vs → a ∉ frs (X.env :: X.outer) := fun {h o vs} ff e dd hm => by
      obtain ⟨_, o', e', hnf⟩ := ff.mem hm
      rw [e] at e'; cases e'
      exact hnf _ dd
    have nfr := notFr fl3.2.2.1 he3 hd3
    have nL : a ≠ X.env.locals := fun z => nfr (List.mem_filterMap.mpr ⟨X.env, List.mem_cons_self, by rw [hf, z]⟩)
    have nF : a ∉ X.fs := fun hm => by
      obtain ⟨e, he, q⟩ := List.mem_filterMap.mp hm
      exact nfr (List.mem_filterMap.mpr ⟨e, List.mem_cons_of_mem _ he, q⟩)
    have S3 := J3.suite he3 hd3 na nL nF
    have go : ∀ {hds' : List ExceptHandler} {l' : List (Value × (Addr → Value → Option Addr → TS))}, HdsN X n hds' l' → wManyN X.K Wout D i l' cls d σ' H' →
        wpAny (model X.prog X.w) X.A (handleBy (.ref a) X.env hds') (SP X pins D) X.xe { s' with heap := h3 } := by
      intro hds' l' hk
      induction hk with
      | nil =>
        intro w
        refine wpAny_handleBy_nil ?_
        obtain ⟨k1, k2, k3, oe, vs, T, oT, ts', he, hz, hd, h1, hr⟩ := id fl3
        unfold PySem.passOn
        refine wpAny_bind (wpAny_field he hd h1 ?_)
        rw [if_neg (show ¬ ((Value.ref T == Value.none) = true) from by simp)]
        have fin : wpAny (model X.prog X.w) X.A (setFlight (.ref a) X.env.frame) (fun _ s4 => wpAny (model X.prog X.w) X.A (throw (.ref a) : Sem Flow) (SP X pins D) X.xe s4) X.xe { s' with heap := h3 } := by
          rw [hf]
          refine HandSPX.setFlight_upZ fl3 fun h4 hh4 up4 => wpAny_throw (tk _ _ ?_)
          exact ⟨a, B, sI, pins, σ', H', cls, d, rfl, J, nb, (up.trans up3).trans up4, .inr (.inr (by rw [hs]; exact hh4)), na, os, ag, w⟩
        first
          | exact wpAny_bind (wpAny_pure (wpAny_bind fin))
          | exact wpAny_bind fin
      | @cons x c ts b₀ suite np pos' hds2 l2 hc hsu r ih =>
        intro w
        obtain ⟨b, hb1, hyes, hno⟩ := w
        refine wpAny_handleBy_cons (codeAny_handlers_test ?_) (by intro q; cases q)
        have LT : PySem.W.Looks (model X.prog X.w) h3 (typeOf (.ref a)) cls := fun A Q E s k q => wpAny_typeOf_ref (k _ _ he3) (by rw [hz3.1]; exact q)
        have LM := PySem.W.exm_one (M := model X.prog X.w) (J3.kIn) LT hb1
        have test : ∀ {Q : Value → Shared → Prop} {E : Value → Shared → Prop}, Q c { s' with heap := h3 } → wpAny (model X.prog X.w) (X.A.mark (some (.ref a))) (eval (.Name x np) X.env) Q E { s' with heap := h3 } := fun {Q E} q => by
          obtain ⟨hg, hdbg, hm | ⟨hm, hv, hnn⟩⟩ := hc
          · exact ld_glob (X := X.suite a ((a, oe3) :: (X.pn ++ pins))) S3 hg hm q hdbg
          · exact ld_blt (X := X.suite a ((a, oe3) :: (X.pn ++ pins))) S3 hg hm hv q hnn hdbg
        refine test (LM.here ?_)
        cases b with
        | true =>
          refine codeAny_handlers_suite_as ?_
          refine HandSPX.lands_againZ fl3 fun h4 fl4 up4 => ?_
          have J4 : Inv X pins σ' H' { s' with heap := h4 } := J.landed nb fl4.1 ((up.trans up3).trans up4) os ag
          obtain ⟨oe4, vs4, he4, hz4, hd4⟩ := fl4.there
          have S4 := J4.suite he4 hd4 na nL nF
          refine store_ok (X := X.suite a ((a, oe4) :: (X.pn ++ pins))) (v := .ref a) S4 hN hi hloc rfl (fun s5 S5 => ?_) (.inr hln)
          refine wpAny_mono ((hsu a oe4 cls d (X.pn ++ pins) hz4 ⟨_, hd4⟩).run [] s5 _ H' _ S5 (hyes rfl a na)) (fun f s6 hsp => ?_) (fun _ _ z => False.elim z)
          have end_ : ∀ {σ6 : L2.St} {H6 : Hp} {Q : Shared → Prop}, Inv (X.suite a ((a, oe4) :: (X.pn ++ pins))) [] σ6 H6 s6 → (∀ s7, Inv X pins (σ6.set i none) H6 s7 → Q s7) →
              wpAny (model X.prog X.w) X.A (do bindName X.env n .none; unbindBehindTheSuite X.env n pos') (fun _ s7 => Q s7) X.xe s6 := fun {σ6 H6 Q} S6 hq => gone_ok (S6.unsuite ok) hN hi hln hq
          cases f with
          | next =>
            obtain ⟨σ6, H6, S6, q6⟩ := hsp
            exact end_ S6 fun s7 J7 => ⟨_, _, J7, q6⟩
          | brk =>
            obtain ⟨σ6, H6, S6, q6⟩ := hsp
            exact end_ S6 fun s7 J7 => ⟨_, _, J7, q6⟩
          | cont =>
            obtain ⟨σ6, H6, S6, q6⟩ := hsp
            exact end_ S6 fun s7 J7 => ⟨_, _, J7, q6⟩
          | ret u =>
            obtain ⟨v6, σ6, H6, S6, r6, q6⟩ := hsp
            exact end_ S6 fun s7 J7 => ⟨_, _, _, J7, r6, q6⟩
        | false =>
          show wpAny _ X.A (handleBy (.ref a) X.env hds2) _ _ _
          exact ih (hno rfl)
    exact go hh w
  · cases f with
    | next =>
      obtain ⟨σ', H', J', q⟩ := hsp
      exact wpAny_execs_nil ⟨σ', H', J'.ofTry ok, q⟩
    | brk =>
      obtain ⟨σ', H', J', q⟩ := hsp
      exact ⟨σ', H', J'.ofTry ok, q⟩
    | cont =>
      obtain ⟨σ', H', J', q⟩ := hsp
      exact ⟨σ', H', J'.ofTry ok, q⟩
    | ret u =>
      obtain ⟨v, σ', H', J', r, q⟩ := hsp
      exact ⟨v, σ', H', J'.ofTry ok, r, q⟩
end
end EK

namespace TR
open PySem PySem.Spec L2 Evl
/-- the place of a letter -/
def ixN : List Nat → Nat → Nat
  | [], _ => 0
  | a :: r, c => if a = c then 0 else ixN r c + 1
theorem ixN_at : ∀ {L : List Nat} {i c : Nat}, L.Nodup → L[i]? = some c → ixN L c = i
  | a :: r, 0, c, _, h => by
    have h2 : a = c := Option.some.inj h
    unfold ixN
    rw [if_pos h2]
  | a :: r, i + 1, c, hn, h => by
    have h2 : r[i]? = some c := h
    have hc := List.mem_of_getElem? h2
    have hne : a ≠ c := fun e => by
      rw [List.nodup_cons] at hn
      exact hn.1 (e ▸ hc)
    unfold ixN
    rw [if_neg hne, ixN_at (List.nodup_cons.mp hn).2 h2]
  | [], _, _, _, h => by cases h
/-! a turn over signs: the reads, the numbers told, the go at the end or none -/
mutual
def Tr.run (L S : List Nat) : Tr → List (Nat × Nat) × List Nat × Option (Nat × Nat)
  | .go s q => ([], [], some (s, q))
  | .tell n t => ((t.run L S).1, n :: (t.run L S).2.1, (t.run L S).2.2)
  | .read p ts => match S[p]? with
    | none => ([], [], none)
    | some c => ((p, c) :: (ts.runAt L S (ixN L c)).1, (ts.runAt L S (ixN L c)).2.1, (ts.runAt L S (ixN L c)).2.2)
def Trs.runAt (L S : List Nat) : Trs → Nat → List (Nat × Nat) × List Nat × Option (Nat × Nat)
  | .nil, _ => ([], [], none)
  | .cons t r, i => match i with
    | 0 => t.run L S
    | j + 1 => r.runAt L S j
end
theorem Trs.runAt_get {L S : List Nat} : ∀ {ts : Trs} {i : Nat} {t : Tr}, ts.list[i]? = some t → ts.runAt L S i = t.run L S
  | .cons t r, 0, u, h => by
    have h2 : t = u := Option.some.inj h
    rw [← h2]
    simp only [Trs.runAt]
  | .cons t r, j + 1, _, h => by
    have h2 := Trs.runAt_get (L := L) (S := S) (ts := r) (i := j) h
    rw [← h2]
    simp only [Trs.runAt]
  | .nil, _, _, h => by cases h
theorem run_go (L S : List Nat) (s q : Nat) : (Tr.go s q).run L S = ([], [], some (s, q)) := by simp only [Tr.run]
theorem run_tell (L S : List Nat) (n : Nat) (t : Tr) : (Tr.tell n t).run L S = ((t.run L S).1, n :: (t.run L S).2.1, (t.run L S).2.2) := by simp only [Tr.run]
theorem run_none {L S : List Nat} {p : Nat} {ts : Trs} (h : S[p]? = none) : (Tr.read p ts).run L S = ([], [], none) := by simp only [Tr.run, h]
theorem run_some {L S : List Nat} {p c i : Nat} {ts : Trs} {t : Tr} (h : S[p]? = some c) (hn : L.Nodup) (hi : L[i]? = some c) (ht : ts.list[i]? = some t) : (Tr.read p ts).run L S = ((p, c) :: (t.run L S).1, (t.run L S).2.1, (t.run L S).2.2) := by
  simp only [Tr.run, h, ixN_at hn hi, Trs.runAt_get ht]
end TR
namespace Law
open PySem PySem.Spec PyProof.Rows L2 Evl TR EK
theorem idx_of {L : List Nat} {c : Nat} (h : c ∈ L) : ∃ i rest, Builtin.Str.occurrences (tx L) (sg c) 0 (tx L).length 1 = i :: rest ∧ L[i]? = some c := by
  have h1 := StrLaws.found_one (tx L) c
  rw [decide_eq_true (show c ∈ (tx L).cps.toList from h)] at h1
  cases ho : Builtin.Str.occurrences (tx L) (sg c) 0 (tx L).length 1 with
  | nil =>
    have ho2 : Builtin.Str.occurrences (tx L) ⟨#[c]⟩ 0 (tx L).length 1 = [] := ho
    rw [ho2] at h1
    cases h1
  | cons i rest =>
    refine ⟨i, rest, rfl, ?_⟩
    have h2 := StrLaws.occ_spec (tx L) (sg c) 0 (tx L).length 1 i (by rw [ho]; exact List.mem_cons_self)
    exact (StrLaws.subAt_one (tx L) c i).mp h2
/-- reads in memory -/
inductive RdA (H : Hp) : List V → List (Nat × Nat) → Prop
  | nil : RdA H [] []
  | cons {a : Addr} {p c : Nat} {us : List V} {rs : List (Nat × Nat)} : H a = some (.tup [.int (p : Nat), .str (sg c)]) → RdA H us rs → RdA H (.ref a :: us) ((p, c) :: rs)
theorem RdA.ex {H H' : Hp} (e : Ex H H') : ∀ {us : List V} {rs : List (Nat × Nat)}, RdA H us rs → RdA H' us rs
  | _, _, .nil => .nil
  | _, _, .cons h r => .cons (e _ _ h) (RdA.ex e r)
theorem RdA.upd {H : Hp} {a : Addr} {o : HO} (hn : ∀ xs, H a ≠ some (.tup xs)) : ∀ {us : List V} {rs : List (Nat × Nat)}, RdA H us rs → RdA (L2.upd H a o) us rs
  | _, _, .nil => .nil
  | _, _, .cons (a := b) h r => .cons (by rw [upd_ne (fun q : b = a => hn _ (by rw [← q]; exact h))]; exact h) (RdA.upd hn r)
theorem RdA.snoc {H : Hp} {a : Addr} {p c : Nat} (h : H a = some (.tup [.int (p : Nat), .str (sg c)])) : ∀ {us : List V} {rs : List (Nat × Nat)}, RdA H us rs → RdA H (us ++ [.ref a]) (rs ++ [(p, c)])
  | _, _, .nil => .cons h .nil
  | _, _, .cons h1 r => .cons h1 (RdA.snoc h r)
theorem RdA.len {H : Hp} : ∀ {us : List V} {rs : List (Nat × Nat)}, RdA H us rs → us.length = rs.length
  | _, _, .nil => rfl
  | _, _, .cons _ r => congrArg Nat.succ (RdA.len r)
/-- the go, or None -/
def GoA (H : Hp) (g : V) : Option (Nat × Nat) → Prop
  | none => g = .non
  | some (s, q) => ∃ a, g = .ref a ∧ H a = some (.tup [.str "go", .int (s : Nat), .int (q : Nat)])
abbrev nv (ns : List Nat) : List V := ns.map fun n => V.int (n : Nat)
theorem nv_snoc (ns : List Nat) (n : Nat) : nv ns ++ [.int (n : Nat)] = nv (ns ++ [n]) := by
  unfold nv
  rw [List.map_append]
  rfl
theorem lst_no {H : Hp} {a : Addr} {xs : List V} (h : H a = some (.lst xs)) (ys : List V) : H a ≠ some (.tup ys) := fun z => by
  rw [h] at z
  cases z
theorem sz_m {n : Nat} (h : n ≤ 100000) : n ≤ sizeLine := Nat.le_trans h (by decide)
theorem sz_k {n : Nat} (h : n < 100000) : n < sizeLine := Nat.lt_of_lt_of_le h (by decide)
theorem tx_m {l : List Nat} (h : l.length ≤ 100000) : (tx l).length ≤ sizeLine := by
  rw [tx_len]
  exact sz_m h
theorem iteN {c A B : Prop} [Decidable c] (hc : ¬ c) (h : A) : if (!decide c) = true then A else B := by
  rw [decide_eq_false hc]
  exact (if_pos rfl).mpr h
theorem iteNn {c A B : Prop} [Decidable c] (hc : c) (h : B) : if (!decide c) = true then A else B := by
  rw [decide_eq_true hc]
  exact (if_neg (by decide)).mpr h
def spFol : Sp := fun vs H Q _ => ∃ (t : Tr) (v : V) (L S : List Nat) (wd n : Nat), vs = [v, .str (tx L), .str (tx S)] ∧ TA true H v t ∧ t.ok L.length wd n ∧ L.Nodup ∧ (∀ c ∈ S, c ∈ L) ∧ L.length ≤ 10 ∧ S.length ≤ 100 ∧ t.size ≤ 10000 ∧
  ∀ H' r r1 r2 g us, Ex H H' → H' r = some (.tup [.ref r1, .ref r2, g]) → H' r1 = some (.tup us) → RdA H' us (t.run L S).1 → H' r2 = some (.tup (nv (t.run L S).2.1)) → GoA H' g (t.run L S).2.2 → Q (.ref r) H'
section
variable {P : Program} {w : World} {K : PySem.W.Frag} {mg : Str → Option Value} {base : Heap}
theorem ok_fol {f : Addr} {fd : FuncData} (F : Fun K "followed" "followed" s_followed f fd) (T : Tx mg) : FnOk P w K mg base CX0 1 f fd ["tree", "letters", "signs"] spFol := by
  refine F.ok sc_followed (fun vs H Q E h => ?_) (fun cdv A outer s H vs Q E hr h => ?_)
  · obtain ⟨t, v, L, S, wd, n, rfl, _⟩ := h
    rfl
  · obtain ⟨t, v, L, S, wd, n, rfl, hT, hok, hnd, hS, hL, hS9, hsz, q⟩ := h
    refine ⟨_, (pss_cons (ps_set (i := 3) sc_followed.nd rfl (Or.inl rfl) (pe_lst pa_nil))
      (pss_cons (ps_set (i := 4) sc_followed.nd rfl (Or.inl rfl) (pe_lst pa_nil))
      (pss_cons (ps_while PassesOwn.never (pt_cmpR op_ne (pe_ix ix_seq (pv 0) pe_int (fun _ _ => rfl)) pe_str (nomark _)) (pss_cons (ps_asg (pv 0) (TR.pg_seq (by rfl) (pgs_cons (pg_name (i := 5) sc_followed.nd rfl (Or.inl rfl)) (pgs_cons (pg_name (i := 6) sc_followed.nd rfl (Or.inl rfl)) (pgs_cons (pg_name (i := 7) sc_followed.nd rfl (Or.inl rfl)) pgs_nil)))))
      (pss_one (ps_if (pt_cmpR op_eq (pv 5) pe_str (nomark _)) (pss_cons (ps_expr (pe_bm PySem.F.plainAttrs_list PySem.F.slot_list_append PySem.F.type_list_append mt_append (pv 4) (pa_cons (pv 6) pa_nil)))
      (pss_one (ps_set (i := 0) sc_followed.nd rfl (Or.inl rfl) (pv 7)))) (pss_one (ps_if (pt_cmpR op_lt (pv 6) (pe_callB call_len_str (by rfl) T.len PySem.boot_len (pa_cons (pv 2) pa_nil)) (nomark _)) (pss_cons (ps_expr (pe_bm PySem.F.plainAttrs_list PySem.F.slot_list_append PySem.F.type_list_append mt_append (pv 3) (pa_cons (pe_tup (pa_cons (pv 6) (pa_cons (pe_ix ix_str (pv 2) (pv 6) (fun _ _ => rfl)) pa_nil))) pa_nil)))
      (pss_one (ps_set (i := 0) sc_followed.nd rfl (Or.inl rfl) (pe_ix ix_seq (pv 7) (pe_bm PySem.F.plainAttrs_str PySem.F.slot_str_index PySem.F.type_str_index mt_sindex (pv 1) (pa_cons (pe_ix ix_str (pv 2) (pv 6) (fun _ _ => rfl)) pa_nil)) (fun _ _ => rfl))))) (pss_one (ps_ret (pe_tup (pa_cons (pe_callTy call_tuple_of (by rfl) T.tuple PyProof.Rows.boot_tuple (pa_cons (pv 3) pa_nil)) (pa_cons (pe_callTy call_tuple_of (by rfl) T.tuple PyProof.Rows.boot_tuple (pa_cons (pv 4) pa_nil)) (pa_cons pe_non pa_nil))))))))))))
      (pss_one (ps_ret (pe_tup (pa_cons (pe_callTy call_tuple_of (by rfl) T.tuple PyProof.Rows.boot_tuple (pa_cons (pv 3) pa_nil)) (pa_cons (pe_callTy call_tuple_of (by rfl) T.tuple PyProof.Rows.boot_tuple (pa_cons (pv 4) pa_nil)) (pa_cons (pv 0) pa_nil))))))))), ?_⟩
    refine ⟨Nat.zero_le _, fun l1 hl1 => ⟨Nat.zero_le _, fun l2 hl2 => ?_⟩⟩
    have hl20 : H l2 = none := fresh_back (Ex.new hl1) hl2
    have n12 : l1 ≠ l2 := fun z => by
      rw [← z, upd_same] at hl2
      cases hl2
    have e0 := (Ex.new (o := .lst []) hl1).trans (Ex.new (o := .lst []) hl2)
    refine ⟨fun m σ H' => ∃ (u : Tr) (x : V) (rs : List (Nat × Nat)) (ns : List Nat) (us : List V) (y5 y6 y7 : Option V), σ = [some x, some (.str (tx L)), some (.str (tx S)), some (.ref l1), some (.ref l2), y5, y6, y7] ∧
        Ex H H' ∧ H' l1 = some (.lst us) ∧ RdA H' us rs ∧ H' l2 = some (.lst (nv ns)) ∧ TA true H x u ∧ u.ok L.length wd n ∧ rs ++ (u.run L S).1 = (t.run L S).1 ∧ ns ++ (u.run L S).2.1 = (t.run L S).2.1 ∧ (u.run L S).2.2 = (t.run L S).2.2 ∧
        m = u.size ∧ rs.length + ns.length + u.size ≤ 10000,
      ⟨t.size, t, v, [], [], [], none, none, none, rfl, e0, (by rw [upd_ne n12, upd_same]), .nil, upd_same, hT, hok, rfl, rfl, rfl, rfl, by show 0 + 0 + t.size ≤ 10000; omega⟩, fun m σ H' hw => ?_⟩
    obtain ⟨u, x, rs, ns, us, y5, y6, y7, rfl, e, h1, hR, h2, hX, uok, q1, q2, q3, hm, hb⟩ := hw
    have lus := hR.len
    -- the end: two new tuples and the triple
    have fin : ∀ (g : V) (H1 : Hp), Ex H' H1 → (∀ H2, Ex H1 H2 → GoA H2 g (t.run L S).2.2) → rs = (t.run L S).1 → ns = (t.run L S).2.1 → ∀ t1, H1 t1 = none → ∀ t2, (L2.upd H1 t1 (.tup us)) t2 = none → ∀ r, (L2.upd (L2.upd H1 t1 (.tup us)) t2 (.tup (nv ns))) r = none →
        Q (.ref r) (L2.upd (L2.upd (L2.upd H1 t1 (.tup us)) t2 (.tup (nv ns))) r (.tup [.ref t1, .ref t2, g])) := fun g H1 e1 hg er en t1 ht1 t2 ht2 r hr2 => by
      have f1 := Ex.new (o := .tup us) ht1
      have f2 := Ex.new (o := .tup (nv ns)) ht2
      have f3 := Ex.new (o := .tup [.ref t1, .ref t2, g]) hr2
      refine q _ r t1 t2 g us (e.trans (e1.trans (f1.trans (f2.trans f3)))) upd_same (f3 _ _ (f2 _ _ upd_same)) ?_ ?_ (hg _ (f1.trans (f2.trans f3)))
      · rw [← er]
        exact hR.ex (e1.trans (f1.trans (f2.trans f3)))
      · rw [← en]
        exact f3 _ _ upd_same
    cases hX with
    | @go a s' q' h =>
      rw [run_go] at q1 q2 q3
      rw [List.append_nil] at q1 q2
      refine ⟨_, rfl, ix_at (e _ _ h) (atI_nat (j := 0) rfl) ⟨rfl, _, rfl, iteNn rfl ?_⟩⟩
      refine ⟨_, rfl, l1, _, rfl, .inl ⟨sq_of h1, fun t1 ht1 => ?_⟩⟩
      have f1 := Ex.new (o := .tup us) ht1
      refine ⟨_, rfl, l2, _, rfl, .inl ⟨sq_of (f1 _ _ h2), fun t2 ht2 => ⟨_, rfl, by show 3 ≤ sizeLine; decide, fun r hr2 => ?_⟩⟩⟩
      exact fin _ _ (Ex.refl _) (fun H2 e2 => by rw [← q3]; exact ⟨a, rfl, e2 _ _ (e _ _ h)⟩) q1 q2 t1 ht1 t2 ht2 r hr2
    | @tell a n' x' u' h r0 =>
      rw [run_tell] at q1 q2 q3
      refine ⟨_, rfl, ix_at (e _ _ h) (atI_nat (j := 0) rfl) ⟨rfl, _, rfl, iteN tell_ne_go ?_⟩⟩
      refine ⟨fun σ2 H2 => ∃ m', m' < m ∧ ∃ (u : Tr) (x : V) (rs : List (Nat × Nat)) (ns : List Nat) (us : List V) (y5 y6 y7 : Option V), σ2 = [some x, some (.str (tx L)), some (.str (tx S)), some (.ref l1), some (.ref l2), y5, y6, y7] ∧
        Ex H H2 ∧ H2 l1 = some (.lst us) ∧ RdA H2 us rs ∧ H2 l2 = some (.lst (nv ns)) ∧ TA true H x u ∧ u.ok L.length wd n ∧ rs ++ (u.run L S).1 = (t.run L S).1 ∧ ns ++ (u.run L S).2.1 = (t.run L S).2.1 ∧ (u.run L S).2.2 = (t.run L S).2.2 ∧
        m' = u.size ∧ rs.length + ns.length + u.size ≤ 10000, fun σ2 H2 h => h, ?_⟩
      have hsz2 : u'.size + 1 = m := hm.symm
      refine ⟨_, rfl, gSeq_of (e _ _ h) rfl ⟨_, _, rfl, _, _, rfl, _, _, rfl, rfl, ?_⟩⟩
      refine ⟨_, rfl, rfl, _, rfl, iteD rfl ?_⟩
      refine ⟨_, rfl, .inl ⟨rfl, _, sq_of h2⟩, _, rfl, l2, _, _, rfl, rfl, h2, ?_, ?_⟩
      · rw [List.length_map]
        exact sz_k (by omega)
      refine ⟨_, rfl, u'.size, by omega, u', x', rs, ns ++ [n'], us, _, _, _, rfl, e.mut hl20, ?_, hR.upd (lst_no h2), ?_, r0, uok.2, q1, ?_, q3, rfl, ?_⟩
      · rw [upd_ne n12]
        exact h1
      · rw [upd_same, nv_snoc]
      · rw [List.append_assoc]
        exact q2
      · rw [List.length_append]
        show rs.length + (ns.length + 1) + u'.size ≤ 10000
        omega
    | @read a b p us' ts h hb' r0 =>
      have KK := r0.kids
      have hts : ts.list.length = L.length := uok.2.1
      refine ⟨_, rfl, ix_at (e _ _ h) (atI_nat (j := 0) rfl) ⟨rfl, _, rfl, iteN read_ne_go ?_⟩⟩
      refine ⟨fun σ2 H2 => ∃ m', m' < m ∧ ∃ (u : Tr) (x : V) (rs : List (Nat × Nat)) (ns : List Nat) (us : List V) (y5 y6 y7 : Option V), σ2 = [some x, some (.str (tx L)), some (.str (tx S)), some (.ref l1), some (.ref l2), y5, y6, y7] ∧
        Ex H H2 ∧ H2 l1 = some (.lst us) ∧ RdA H2 us rs ∧ H2 l2 = some (.lst (nv ns)) ∧ TA true H x u ∧ u.ok L.length wd n ∧ rs ++ (u.run L S).1 = (t.run L S).1 ∧ ns ++ (u.run L S).2.1 = (t.run L S).2.1 ∧ (u.run L S).2.2 = (t.run L S).2.2 ∧
        m' = u.size ∧ rs.length + ns.length + u.size ≤ 10000, fun σ2 H2 h => h, ?_⟩
      have hsz2 : ts.size + 1 = m := hm.symm
      refine ⟨_, rfl, gSeq_of (e _ _ h) rfl ⟨_, _, rfl, _, _, rfl, _, _, rfl, rfl, ?_⟩⟩
      refine ⟨_, rfl, rfl, _, rfl, iteDn read_ne_tell ?_⟩
      refine ⟨_, rfl, _, rfl, _, rfl, tx_m (by omega), _, _, rfl, rfl, _, rfl, ite2 (fun hlt => ?_) (fun hlt => ?_)⟩
      · have hp : p < S.length := by
          have := of_decide_eq_true hlt
          rw [tx_len] at this
          omega
        have hc : S[p]? = some S[p] := List.getElem?_eq_getElem hp
        generalize S[p] = c at hc
        have hcL := hS c (List.mem_of_getElem? hc)
        have hat : atI (tx S).cps.toList ((p : Nat) : Int) = some c := atI_nat hc
        obtain ⟨i, rest, ho, hi⟩ := idx_of hcL
        have hi2 : i < us'.length := by
          have := (List.getElem?_eq_some_iff.mp hi).1
          rw [KK.len, hts]
          exact this
        obtain ⟨kt, hkt, hka⟩ := KK.get (List.getElem?_eq_getElem hi2)
        have mem := List.mem_of_getElem? hkt
        rw [run_some hc hnd hi hkt] at q1 q2 q3
        refine ⟨_, rfl, .inl ⟨rfl, _, sq_of h1⟩, _, rfl, _, rfl, _, rfl, tx S, _, c, rfl, rfl, tx_m (by omega), hat, by show 2 ≤ sizeLine; decide, fun r hr2 => ?_⟩
        have f1 := Ex.new (o := .tup [.int (p : Nat), .str (sg c)]) hr2
        refine ⟨l1, _, _, rfl, rfl, f1 _ _ h1, sz_k (by omega), ?_⟩
        have hr3 : (L2.upd H' r (.tup [.int (p : Nat), .str (sg c)])) r = some (.tup [.int (p : Nat), .str (sg c)]) := upd_same
        have h13 := f1 _ _ h1
        have h23 := f1 _ _ h2
        have e3 := e.trans f1
        have R3 := (hR.ex f1).snoc hr3
        have hsk := size_mem mem
        rw [Trs.total] at hsk
        refine ⟨_, rfl, _, rfl, rfl, _, rfl, _, rfl, tx S, _, c, rfl, rfl, tx_m (by omega), hat, tx L, sg c, i, rest, rfl, rfl, ho, ix_at ((e3.mut hl1) _ _ hb') (atI_nat (List.getElem?_eq_getElem hi2)) ?_⟩
        refine ⟨kt.size, by omega, kt, _, rs ++ [(p, c)], ns, us ++ [V.ref r], _, _, _, rfl, e3.mut hl1, upd_same, R3.upd (lst_no h13), ?_, hka, Trs.ok_mem uok.2.2 kt mem, ?_, q2, q3, rfl, ?_⟩
        · rw [upd_ne n12.symm]
          exact h23
        · rw [List.append_assoc]
          exact q1
        · rw [List.length_append]
          show rs.length + 1 + ns.length + kt.size ≤ 10000
          have hb2 : rs.length + ns.length + (ts.size + 1) ≤ 10000 := hb
          omega
      · have hp : S[p]? = none := by
          rw [List.getElem?_eq_none_iff]
          have : ¬ _ := fun z => hlt (decide_eq_true z)
          rw [tx_len] at this
          omega
        rw [run_none hp] at q1 q2 q3
        rw [List.append_nil] at q1 q2
        refine ⟨_, rfl, l1, _, rfl, .inl ⟨sq_of h1, fun t1 ht1 => ?_⟩⟩
        have f1 := Ex.new (o := .tup us) ht1
        refine ⟨_, rfl, l2, _, rfl, .inl ⟨sq_of (f1 _ _ h2), fun t2 ht2 => ⟨by show 3 ≤ sizeLine; decide, fun r hr2 => ?_⟩⟩⟩
        exact fin _ _ (Ex.refl _) (fun H2 e2 => by rw [← q3]; exact rfl) q1 q2 t1 ht1 t2 ht2 r hr2
end
end Law

namespace TR
open PySem PySem.Spec L2 Evl
abbrev Win := Nat × Nat × List (Nat × Nat)
/-- a search: the windows, the told pairs -/
def search (w : Nat) (ts : List Tr) (L X : List Nat) : Nat → Nat → Nat → List Win × List (Nat × Nat)
  | 0, _, _ => ([], [])
  | f + 1, p, q => if p + w ≤ X.length then
      match ts[q]? with
      | none => ([], [])
      | some t => match (t.run L ((X.drop p).take (w + 1))).2.2 with
        | none => ([(p, q, (t.run L ((X.drop p).take (w + 1))).1)], (t.run L ((X.drop p).take (w + 1))).2.1.map fun n => (p, n))
        | some (s, q') => ((p, q, (t.run L ((X.drop p).take (w + 1))).1) :: (search w ts L X f (p + s) q').1, ((t.run L ((X.drop p).take (w + 1))).2.1.map fun n => (p, n)) ++ (search w ts L X f (p + s) q').2)
    else ([], [])
section
variable {w : Nat} {ts : List Tr} {L X : List Nat} {f p q : Nat} {t : Tr}
theorem search_end (h : ¬ p + w ≤ X.length) : search w ts L X f p q = ([], []) := by
  cases f with
  | zero => rfl
  | succ f => unfold search; rw [if_neg h]
theorem search_cut (h : p + w ≤ X.length) (ht : ts[q]? = some t) (hr : (t.run L ((X.drop p).take (w + 1))).2.2 = none) :
    search w ts L X (f + 1) p q = ([(p, q, (t.run L ((X.drop p).take (w + 1))).1)], (t.run L ((X.drop p).take (w + 1))).2.1.map fun n => (p, n)) := by
  rw [search, if_pos h, ht]
  simp only [hr]
theorem search_go {s q' : Nat} (h : p + w ≤ X.length) (ht : ts[q]? = some t) (hr : (t.run L ((X.drop p).take (w + 1))).2.2 = some (s, q')) :
    search w ts L X (f + 1) p q = ((p, q, (t.run L ((X.drop p).take (w + 1))).1) :: (search w ts L X f (p + s) q').1, ((t.run L ((X.drop p).take (w + 1))).2.1.map fun n => (p, n)) ++ (search w ts L X f (p + s) q').2) := by
  rw [search, if_pos h, ht]
  simp only [hr]
end
/-! the go of a right tree -/
mutual
theorem Tr.run_ok {L S : List Nat} {l w n : Nat} : ∀ {t : Tr} {s q : Nat}, t.ok l w n → (t.run L S).2.2 = some (s, q) → 1 ≤ s ∧ s ≤ w + 1 ∧ q < n
  | .go s' q', s, q, h, e => by
    rw [run_go] at e
    have e2 : (s', q') = (s, q) := Option.some.inj e
    cases e2
    exact h
  | .tell k t, s, q, h, e => by
    rw [run_tell] at e
    exact Tr.run_ok h.2 e
  | .read p ts, s, q, h, e => by
    cases hp : S[p]? with
    | none =>
      rw [run_none hp] at e
      cases e
    | some c =>
      simp only [Tr.run, hp] at e
      exact Trs.run_ok h.2.2 e
theorem Trs.run_ok {L S : List Nat} {l w n : Nat} : ∀ {ts : Trs} {i s q : Nat}, ts.ok l w n → (ts.runAt L S i).2.2 = some (s, q) → 1 ≤ s ∧ s ≤ w + 1 ∧ q < n
  | .nil, i, s, q, _, e => by
    simp only [Trs.runAt] at e
    cases e
  | .cons t r, 0, s, q, h, e => by
    simp only [Trs.runAt] at e
    exact Tr.run_ok h.1 e
  | .cons t r, j + 1, s, q, h, e => by
    simp only [Trs.runAt] at e
    exact Trs.run_ok h.2 e
end
mutual
theorem Tr.run_len {L S : List Nat} : ∀ (t : Tr), (t.run L S).1.length + (t.run L S).2.1.length ≤ t.size
  | .go s q => by
    rw [run_go]
    exact Nat.zero_le _
  | .tell k t => by
    have := Tr.run_len (L := L) (S := S) t
    rw [run_tell]
    show (t.run L S).1.length + ((t.run L S).2.1.length + 1) ≤ t.size + 1
    omega
  | .read p ts => by
    show _ ≤ ts.size + 1
    cases hp : S[p]? with
    | none =>
      rw [run_none hp]
      exact Nat.zero_le _
    | some c =>
      have := Trs.run_len (L := L) (S := S) ts (ixN L c)
      simp only [Tr.run, hp, List.length_cons]
      omega
theorem Trs.run_len {L S : List Nat} : ∀ (ts : Trs) (i : Nat), (ts.runAt L S i).1.length + (ts.runAt L S i).2.1.length ≤ ts.size
  | .nil, i => by
    simp only [Trs.runAt]
    exact Nat.zero_le _
  | .cons t r, 0 => by
    have := Tr.run_len (L := L) (S := S) t
    simp only [Trs.runAt]
    show _ ≤ t.size + r.size
    omega
  | .cons t r, j + 1 => by
    have := Trs.run_len (L := L) (S := S) r j
    simp only [Trs.runAt]
    show _ ≤ t.size + r.size
    omega
end
end TR
namespace Law
open PySem PySem.Spec PyProof.Rows L2 Evl TR EK
theorem sFs_l (l w s n : V) : (sFs l w s n).lookup ("letters" : Str) = some l := rfl
theorem sFs_w (l w s n : V) : (sFs l w s n).lookup ("width" : Str) = some w := rfl
theorem sFs_s (l w s n : V) : (sFs l w s n).lookup ("states" : Str) = some s := rfl
theorem sFs_n (l w s n : V) : (sFs l w s n).lookup ("nodes" : Str) = some n := rfl
theorem SObj.up {C o : Addr} {H H' : Hp} {L : List Nat} {w : Nat} {ts : List Tr} (S : SObj C H o L w ts) (e : Ex H H') : SObj C H' o L w ts := by
  obtain ⟨dx, st, us, h1, h2, h3⟩ := S.ex
  exact ⟨dx, st, us, e _ _ h1, e _ _ h2, h3.ex e⟩
/-- windows in memory -/
inductive WnA (H : Hp) : List V → List Win → Prop
  | nil : WnA H [] []
  | cons {a b : Addr} {p q : Nat} {us vs : List V} {rs : List (Nat × Nat)} {ws : List Win} : H a = some (.tup [.int (p : Nat), .int (q : Nat), .ref b]) → H b = some (.tup us) → RdA H us rs → WnA H vs ws → WnA H (.ref a :: vs) ((p, q, rs) :: ws)
theorem WnA.ex {H H' : Hp} (e : Ex H H') : ∀ {vs : List V} {ws : List Win}, WnA H vs ws → WnA H' vs ws
  | _, _, .nil => .nil
  | _, _, .cons h1 h2 r s => .cons (e _ _ h1) (e _ _ h2) (r.ex e) (WnA.ex e s)
theorem WnA.upd {H : Hp} {a : Addr} {o : HO} (hn : ∀ xs, H a ≠ some (.tup xs)) : ∀ {vs : List V} {ws : List Win}, WnA H vs ws → WnA (L2.upd H a o) vs ws
  | _, _, .nil => .nil
  | _, _, .cons (a := x) (b := y) h1 h2 r s => .cons (by rw [upd_ne (fun q : x = a => hn _ (by rw [← q]; exact h1))]; exact h1) (by rw [upd_ne (fun q : y = a => hn _ (by rw [← q]; exact h2))]; exact h2) (r.upd hn) (WnA.upd hn s)
theorem WnA.snoc {H : Hp} {a b : Addr} {p q : Nat} {us : List V} {rs : List (Nat × Nat)} (h1 : H a = some (.tup [.int (p : Nat), .int (q : Nat), .ref b])) (h2 : H b = some (.tup us)) (h3 : RdA H us rs) : ∀ {vs : List V} {ws : List Win}, WnA H vs ws → WnA H (vs ++ [V.ref a]) (ws ++ [(p, q, rs)])
  | _, _, .nil => .cons h1 h2 h3 .nil
  | _, _, .cons k1 k2 k3 s => .cons k1 k2 k3 (WnA.snoc h1 h2 h3 s)
theorem WnA.len {H : Hp} : ∀ {vs : List V} {ws : List Win}, WnA H vs ws → vs.length = ws.length
  | _, _, .nil => rfl
  | _, _, .cons _ _ _ s => congrArg Nat.succ (WnA.len s)
theorem WnA.get {H : Hp} : ∀ {vs : List V} {ws : List Win} {i : Nat} {v : V}, WnA H vs ws → vs[i]? = some v → ∃ a b p q us rs, v = .ref a ∧ ws[i]? = some (p, q, rs) ∧ H a = some (.tup [.int (p : Nat), .int (q : Nat), .ref b]) ∧ H b = some (.tup us) ∧ RdA H us rs
  | _, _, 0, _, .cons (a := a) (b := b) (p := p) (q := q) (us := us) (rs := rs) h1 h2 h3 _, h => ⟨a, b, p, q, us, rs, (Option.some.inj h).symm, rfl, h1, h2, h3⟩
  | _, _, i + 1, _, .cons _ _ _ s, h => WnA.get (i := i) s h
  | _, _, _, _, .nil, h => by cases h
/-- pairs of ints in memory -/
inductive PrA (H : Hp) : List V → List (Nat × Nat) → Prop
  | nil : PrA H [] []
  | cons {a : Addr} {p n : Nat} {us : List V} {ps : List (Nat × Nat)} : H a = some (.tup [.int (p : Nat), .int (n : Nat)]) → PrA H us ps → PrA H (.ref a :: us) ((p, n) :: ps)
theorem PrA.ex {H H' : Hp} (e : Ex H H') : ∀ {us : List V} {ps : List (Nat × Nat)}, PrA H us ps → PrA H' us ps
  | _, _, .nil => .nil
  | _, _, .cons h r => .cons (e _ _ h) (PrA.ex e r)
theorem PrA.upd {H : Hp} {a : Addr} {o : HO} (hn : ∀ xs, H a ≠ some (.tup xs)) : ∀ {us : List V} {ps : List (Nat × Nat)}, PrA H us ps → PrA (L2.upd H a o) us ps
  | _, _, .nil => .nil
  | _, _, .cons (a := b) h r => .cons (by rw [upd_ne (fun q : b = a => hn _ (by rw [← q]; exact h))]; exact h) (PrA.upd hn r)
theorem PrA.app {H : Hp} : ∀ {us vs : List V} {ps qs : List (Nat × Nat)}, PrA H us ps → PrA H vs qs → PrA H (us ++ vs) (ps ++ qs)
  | _, _, _, _, .nil, h => h
  | _, _, _, _, .cons h1 r, h => .cons h1 (PrA.app r h)
theorem PrA.len {H : Hp} : ∀ {us : List V} {ps : List (Nat × Nat)}, PrA H us ps → us.length = ps.length
  | _, _, .nil => rfl
  | _, _, .cons _ r => congrArg Nat.succ (PrA.len r)
def tFs (a b c : V) : List (Str × V) := [("windows", a), ("told", b), ("cost", c)]
theorem tFs_w (a b c : V) : (tFs a b c).lookup ("windows" : Str) = some a := rfl
theorem tFs_t (a b c : V) : (tFs a b c).lookup ("told" : Str) = some b := rfl
theorem tFs_c (a b c : V) : (tFs a b c).lookup ("cost" : Str) = some c := rfl
theorem putF3 (a b c : V) : putF "cost" c (putF "told" b (putF "windows" a [])) = tFs a b c := by
  have a1 : ¬ (("windows" : Str) = "told") := by decide +kernel
  have a2 : ¬ (("windows" : Str) = "cost") := by decide +kernel
  have a3 : ¬ (("told" : Str) = "cost") := by decide +kernel
  simp [putF, tFs, a1, a2, a3]
def costN (ws : List Win) : Nat := (ws.map fun w => w.2.2.length).sum
/-- a trace -/
structure TrO (C : Addr) (H : Hp) (o : Addr) (ws : List Win) (td : List (Nat × Nat)) : Prop where
  ex : ∃ (dx a b : Addr) (us vs : List V), H o = some (.ins C dx (tFs (.ref a) (.ref b) (.int (costN ws : Nat)))) ∧ H a = some (.tup us) ∧ WnA H us ws ∧ H b = some (.tup vs) ∧ PrA H vs td
theorem TrO.up {C o : Addr} {H H' : Hp} {ws : List Win} {td : List (Nat × Nat)} (S : TrO C H o ws td) (e : Ex H H') : TrO C H' o ws td := by
  obtain ⟨dx, a, b, us, vs, h1, h2, h3, h4, h5⟩ := S.ex
  exact ⟨dx, a, b, us, vs, e _ _ h1, e _ _ h2, h3.ex e, e _ _ h4, h5.ex e⟩
structure TC (K : PySem.W.Frag) (C : Addr) : Prop where
  cl : Cls K C
  nw : NoAttr K C "windows"
  nt : NoAttr K C "told"
  nc : NoAttr K C "cost"
def spTInit (C : Addr) : Sp := fun vs H Q _ => ∃ (o dx a b : Addr) (us ts : List V) (ws : List Win) (td : List (Nat × Nat)) (H0 : Hp), vs = [.ref o, .ref a, .ref b] ∧ Ex H0 H ∧ H0 o = none ∧ H o = some (.ins C dx []) ∧ H0 a = some (.tup us) ∧ WnA H0 us ws ∧ H0 b = some (.tup ts) ∧ PrA H0 ts td ∧ ws.length ≤ 10000 ∧
  ∀ H', Ex H0 H' → TrO C H' o ws td → Q .non H'
theorem sum_wins : ∀ ws : List Win, (ws.map fun w => (w.2.2.length : Int)).sum = ((costN ws : Nat) : Int)
  | [] => rfl
  | w :: r => by
    rw [List.map_cons, List.sum_cons, sum_wins r]
    show _ = (((w.2.2.length + costN r : Nat)) : Int)
    omega
section
variable {P : Program} {w : World} {K : PySem.W.Frag} {mg : Str → Option Value} {base : Heap}
theorem ok_tinit {f C : Addr} {fd : FuncData} (F : Fun K "__init__" "Trace.__init__" s_Trace_init f fd) (T : Tx mg) (S : TC K C) : FnOk P w K mg base CX0 1 f fd ["self", "windows", "told"] (spTInit C) := by
  refine F.ok sc_Trace_init (fun vs H Q E h => ?_) (fun cdv A outer s H vs Q E hr h => ?_)
  · obtain ⟨o, dx, a, b, us, ts, ws, td, H0, rfl, _⟩ := h
    rfl
  · obtain ⟨o, dx, a, b, us, ts, ws, td, H0, rfl, e0, ho0, ho, ha, hW, hb, hP, hlen, q⟩ := h
    have lus := hW.len
    refine ⟨_, (pss_cons (ps_fld (pv 0) (pv 1) rfl)
      (pss_cons (ps_fld (pv 0) (pv 2) rfl)
      (pss_one (ps_fld (pv 0) (pe_callB (cr_sum rfl) (by rfl) T.sum (by decide +kernel) (pa_cons (pe_lc (own := [("_", 3), ("_", 3), ("reads", 4)]) (g := gTup K 3 (gCons (gName 3) (gCons (gName 3) (gCons (gName 4) gNil)))) (tt := tYes) rfl sc_Trace_init.nd (pi_tup (pv 1)) (blkOk_by (N := N_Trace_init) (sc := defScope s_Trace_init) (by decide +kernel)) (fun _ _ _ _ _ => (pg_tup (by rfl) (pgs_cons (pg_name (i := 3) sc_Trace_init.nd rfl (Or.inl rfl)) (pgs_cons (pg_name (i := 3) sc_Trace_init.nd rfl (Or.inl rfl)) (pgs_cons (pg_name (i := 4) sc_Trace_init.nd rfl (Or.inl rfl)) pgs_nil))))) (fun _ _ _ _ _ => pts_nil) (fun _ _ _ _ _ => (pe_callB (show CallR _ _ (TR.rLenQ K) from call_len_seq) (by rfl) T.len PySem.boot_len (pa_cons (pv 4) pa_nil)))) pa_nil)) rfl)))), ?_⟩
    refine ⟨_, rfl, _, rfl, o, C, dx, _, rfl, ho, S.cl, S.nw, by show 0 < 1000; decide, ?_⟩
    have e1 := e0.mut (o := .ins C dx (putF "windows" (.ref a) [])) ho0
    have h1 : (L2.upd H o (.ins C dx (putF "windows" (.ref a) []))) o = _ := upd_same
    generalize (L2.upd H o (.ins C dx (putF "windows" (.ref a) []))) = H1 at e1 h1 ⊢
    refine ⟨_, rfl, _, rfl, o, C, dx, _, rfl, h1, S.cl, S.nt, by show 1 < 1000; decide, ?_⟩
    generalize hf2 : putF "told" (.ref b) (putF "windows" (.ref a) []) = f2
    have lf2 : f2.length < 1000 := by
      rw [← hf2]
      show 2 < 1000
      decide
    have e2 := e1.mut (o := .ins C dx f2) ho0
    have h2 : (L2.upd H1 o (.ins C dx f2)) o = _ := upd_same
    generalize (L2.upd H1 o (.ins C dx f2)) = H2 at e2 h2 ⊢
    refine ⟨_, rfl, a, rfl, ⟨us, st_of (e2 _ _ ha)⟩, fun D hD => ?_⟩
    refine lc_tup (fun i H' => Ex H2 H' ∧ H' D = some (.lst (((ws.take i).map fun w => (w.2.2.length : Int)).map V.int))) ⟨Ex.new hD, upd_same⟩ (fun i H' _ p => st_of (p.1 _ _ (e2 _ _ ha))) (fun i x H' hx p => ?_) (fun H' p => ?_)
    · obtain ⟨e3, hz⟩ := p
      obtain ⟨x', b', p', q', us', rs', rfl, hw, k1, k2, k3⟩ := hW.get hx
      have e4 := e2.trans e3
      refine ⟨x', _, rfl, st_of (e4 _ _ k1), rfl, _, _, rfl, _, _, rfl, _, _, rfl, rfl, rfl, ?_⟩
      refine ⟨_, rfl, b', us', rfl, .inr (st_of (e4 _ _ k2)), _, hz, ?_, e3.mut hD, ?_⟩
      · have hi := (List.getElem?_eq_some_iff.mp hw).1
        rw [List.length_map, List.length_map, List.length_take]
        exact sz_k (by omega)
      · rw [upd_same, take_next' hw, List.map_append, List.map_append, k3.len]
        rfl
    · obtain ⟨e3, hz⟩ := p
      rw [lus, List.take_length] at hz
      refine ⟨D, _, rfl, sq_of hz, ?_⟩
      rw [sum_wins]
      refine ⟨_, rfl, o, C, dx, _, rfl, e3 _ _ h2, S.cl, S.nc, lf2, ?_⟩
      have e4 := (e2.trans e3).mut (o := .ins C dx (putF "cost" (.int (costN ws : Nat)) f2)) ho0
      refine q _ e4 ⟨dx, a, b, us, ts, ?_, e4 _ _ ha, hW.ex e4, e4 _ _ hb, hP.ex e4⟩
      rw [upd_same, ← hf2, putF3]
end
end Law

namespace Law
open PySem PySem.Spec PyProof.Rows L2 Evl TR EK
theorem mk_tr {C x dx a b : Addr} {H1 : Hp} {us vs : List V} {ws : List Win} {td : List (Nat × Nat)} {Q : VK} {E : XK} (hx : H1 x = none) (hd : H1 dx = none) (ne : dx ≠ x) (ha : H1 a = some (.tup us)) (hW : WnA H1 us ws) (hb : H1 b = some (.tup vs)) (hP : PrA H1 vs td) (hl : ws.length ≤ 10000)
    (q : ∀ H2, Ex H1 H2 → TrO C H2 x ws td → Q .non H2) : spTInit C [.ref x, .ref a, .ref b] (L2.upd (L2.upd H1 dx (.own x)) x (.ins C dx [])) Q E :=
  ⟨x, dx, a, b, us, vs, ws, td, H1, rfl, (Ex.new hd).trans (Ex.new (by rw [upd_ne ne.symm]; exact hx)), hx, upd_same, ha, hW, hb, hP, hl, q⟩
/-- a pair's list in memory grows by a comprehension's list -/
theorem told_len (p : Nat) (ns : List Nat) : (ns.map fun n => (p, n)).length = ns.length := List.length_map ..
structure Sch (C : Addr) (H : Hp) (o : Addr) (L : List Nat) (wd : Nat) (ts : List Tr) : Prop where
  o : SObj C H o L wd ts
  g : LG L
  w1 : 1 ≤ wd
  w8 : wd ≤ 8
  n1 : 1 ≤ ts.length
  n64 : ts.length ≤ 64
  ok : ∀ t ∈ ts, t.ok L.length wd ts.length
  tot : total ts ≤ 3000
def spWS (K : PySem.W.Frag) : Sp := fun vs H Q _ => ∃ L : List Nat, L.length ≤ 10 ∧ ((∃ T, vs = [.str (tx L), .str (tx T)] ∧ (∀ H', Ex H H' → (∀ c ∈ T, c ∈ L) → Q .non H') ∧
    ∀ H' i c, Ex H H' → T[i]? = some c → c ∉ L → (∀ j d, j < i → T[j]? = some d → d ∈ L) → Q (.int (i : Nat)) H') ∨
  ∃ v t, vs = [.str (tx L), v] ∧ TyX K H v t ∧ PySem.W.kitOne K t (.type "str") = some false ∧ Q (.int 0) H)
def spTraceN (CS CT : Addr) : Sp := fun vs H Q _ => ∃ (o : Addr) (L : List Nat) (wd : Nat) (ts : List Tr) (X : List Nat), Sch CS H o L wd ts ∧ vs = [.ref o, .str (tx X)] ∧ (∀ c ∈ X, c ∈ L) ∧ X.length ≤ 5000 ∧ ∀ H' r, Ex H H' → TrO CT H' r (search wd ts L X (X.length + 1) 0 0).1 (search wd ts L X (X.length + 1) 0 0).2 → Q (.ref r) H'
def spSearched (CS CT : Addr) : Sp := fun vs H Q _ => ∃ (o : Addr) (L : List Nat) (wd : Nat) (ts : List Tr) (X : List Nat), Sch CS H o L wd ts ∧ vs = [.ref o, .str (tx X)] ∧ (∀ c ∈ X, c ∈ L) ∧ X.length ≤ 5000 ∧ ∀ H' r, Ex H H' → TrO CT H' r (search wd ts L X (X.length + 1) 0 0).1 (search wd ts L X (X.length + 1) 0 0).2 → Q (.ref r) H'
theorem Sch.up {C o : Addr} {H H' : Hp} {L : List Nat} {wd : Nat} {ts : List Tr} (S : Sch C H o L wd ts) (e : Ex H H') : Sch C H' o L wd ts := ⟨S.o.up e, S.g, S.w1, S.w8, S.n1, S.n64, S.ok, S.tot⟩
section
variable {P : Program} {w : World} {K : PySem.W.Frag} {mg : Str → Option Value} {base : Heap}
theorem ok_searched {f C_Searcher C_Trace ft : Addr} {fd fdt : FuncData} (F : Fun K "searched" "searched" s_searched f fd) (T : Tx mg) (S : SC K C_Searcher) (ST : TC K C_Trace) (M_Trace : Mk K C_Trace ft) (F_Trace : FnOk P w K mg base CX0 1 ft fdt ["self", "windows", "told"] (spTInit C_Trace)) (g_Trace : mg "Trace" = some (.ref C_Trace))
    (b_Trace : Binds K fdt ["self", "windows", "told"] []) (c_followed : Kn P w K mg base "followed" ["tree", "letters", "signs"] 1 spFol) : FnOk P w K mg base CX0 3 f fd ["searcher", "text"] (spSearched C_Searcher C_Trace) := by
  refine F.ok sc_searched (fun vs H Q E h => ?_) (fun cdv A outer s H vs Q E hr h => ?_)
  · obtain ⟨o, L, wd, ts, X, _, rfl, _⟩ := h
    rfl
  · obtain ⟨o, L, wd, ts, X, SS, rfl, hX, hXl, q⟩ := h
    obtain ⟨SO, hLG, w1, w8, n1, n64, hok, htot⟩ := SS
    obtain ⟨dxo, sa, us, s1, s2, s3⟩ := SO.ex
    have L4 := hLG.hi
    refine ⟨_, (pss_cons (ps_set (i := 2) sc_searched.nd rfl (Or.inl rfl) (pe_lst pa_nil))
      (pss_cons (ps_set (i := 3) sc_searched.nd rfl (Or.inl rfl) (pe_lst pa_nil))
      (pss_cons (ps_asg (pe_tup (pa_cons pe_int (pa_cons pe_int pa_nil))) (pg_tup (by rfl) (pgs_cons (pg_name (i := 4) sc_searched.nd rfl (Or.inr rfl)) (pgs_cons (pg_name (i := 5) sc_searched.nd rfl (Or.inl rfl)) pgs_nil))))
      (pss_cons (ps_while PassesOwn.never (pt_cmpR op_le (pe_op op_add (pv 4) (pe_fld (pv 0) rfl)) (pe_callB call_len_str (by rfl) T.len PySem.boot_len (pa_cons (pv 1) pa_nil)) (nomark _)) (pss_cons (ps_set (i := 6) sc_searched.nd rfl (Or.inl rfl) (pe_slice sl_str (pv 1) (po_some (pv 4)) (po_some (pe_op op_add (pe_op op_add (pv 4) (pe_fld (pv 0) rfl)) pe_int))))
      (pss_cons (ps_asg (pe_call c_followed.ok (hr.mono (by decide)) (by rfl) c_followed.g c_followed.kp c_followed.b .nil pass0 (pa_cons (pe_ix ix_tup (pe_fld (pv 0) rfl) (pv 5) (fun _ _ => rfl)) (pa_cons (pe_fld (pv 0) rfl) (pa_cons (pv 6) pa_nil)))) (pg_tup (by rfl) (pgs_cons (pg_name (i := 7) sc_searched.nd rfl (Or.inl rfl)) (pgs_cons (pg_name (i := 8) sc_searched.nd rfl (Or.inl rfl)) (pgs_cons (pg_name (i := 9) sc_searched.nd rfl (Or.inl rfl)) pgs_nil)))))
      (pss_cons (ps_expr (pe_bm PySem.F.plainAttrs_list PySem.F.slot_list_append PySem.F.type_list_append mt_append (pv 2) (pa_cons (pe_tup (pa_cons (pv 4) (pa_cons (pv 5) (pa_cons (pv 7) pa_nil)))) pa_nil)))
      (pss_cons (ps_expr (pe_bm PySem.F.plainAttrs_list PySem.F.slot_list_extend PySem.F.type_list_extend mt_extend (pv 3) (pa_cons (pe_lc (own := [("number", 10)]) (g := gName 10) (tt := tYes) rfl sc_searched.nd (pi_tup (pv 8)) (blkOk_by (N := N_searched) (sc := defScope s_searched) (by decide +kernel)) (fun _ _ _ _ _ => (pg_name (i := 10) sc_searched.nd rfl (Or.inl rfl))) (fun _ _ _ _ _ => pts_nil) (fun _ _ _ _ _ => (pe_tup (pa_cons (pv 4) (pa_cons (pv 10) pa_nil))))) pa_nil)))
      (pss_cons (ps_if (pt_cmpR op_isN (pv 9) pe_non (nomark _)) (pss_one ps_break) pss_nil)
      (pss_cons (ps_asg (pv 9) (pg_tup (by rfl) (pgs_cons (pg_name (i := 11) sc_searched.nd rfl (Or.inl rfl)) (pgs_cons (pg_name (i := 12) sc_searched.nd rfl (Or.inl rfl)) (pgs_cons (pg_name (i := 5) sc_searched.nd rfl (Or.inl rfl)) pgs_nil)))))
      (pss_one (ps_aug (i := 4) sc_searched.nd rfl (Or.inr rfl) (pv 12) ip_add)))))))))
      (pss_one (ps_ret (pe_make M_Trace F_Trace (hr.mono (by decide)) (by rfl) g_Trace b_Trace .nil pass0 (pa_cons (pe_callTy call_tuple_of (by rfl) T.tuple PyProof.Rows.boot_tuple (pa_cons (pv 2) pa_nil)) (pa_cons (pe_callTy call_tuple_of (by rfl) T.tuple PyProof.Rows.boot_tuple (pa_cons (pv 3) pa_nil)) pa_nil))))))))), ?_⟩
    have e1 : Ex H H := Ex.refl _
    refine ⟨Nat.zero_le _, fun l1 hl1 => ⟨Nat.zero_le _, fun l2 hl2 => ⟨by show 2 ≤ sizeLine; decide, fun pr hpr => ?_⟩⟩⟩
    refine ⟨pr, _, rfl, .inl (.inl upd_same), rfl, _, _, rfl, _, _, rfl, rfl, ?_⟩
    have hl10 := fresh_back e1 hl1
    have n12 : l1 ≠ l2 := fun z => by
      rw [← z, upd_same] at hl2
      cases hl2
    have hl2' := fresh_back (Ex.new hl1) hl2
    have hl20 := fresh_back e1 hl2'
    have g1 : (L2.upd (L2.upd (L2.upd H l1 (.lst [])) l2 (.lst [])) pr (.tup [.int 0, .int 0])) l1 = some (.lst []) := Ex.new hpr _ _ (by rw [upd_ne n12, upd_same])
    have g2 : (L2.upd (L2.upd (L2.upd H l1 (.lst [])) l2 (.lst [])) pr (.tup [.int 0, .int 0])) l2 = some (.lst []) := Ex.new hpr _ _ upd_same
    have e2 := e1.trans ((Ex.new (o := .lst []) hl1).trans ((Ex.new (o := .lst []) hl2).trans (Ex.new (o := .tup [.int 0, .int 0]) hpr)))
    generalize (L2.upd (L2.upd (L2.upd H l1 (.lst [])) l2 (.lst [])) pr (.tup [.int 0, .int 0])) = H2 at g1 g2 e2 ⊢
    obtain ⟨R, hR⟩ : ∃ R, search wd ts L X (X.length + 1) 0 0 = R := ⟨_, rfl⟩
    rw [hR] at q
    refine ⟨fun m σ H' => ∃ (p st : Nat) (vs us' : List V) (ws : List Win) (td : List (Nat × Nat)) (y7 y8 y9 y10 y11 y12 y13 : Option V), σ = [some (.ref o), some (.str (tx X)), some (.ref l1), some (.ref l2), some (.int (p : Nat)), some (.int (st : Nat)), y7, y8, y9, y10, y11, y12, y13] ∧
        Ex H H' ∧ H' l1 = some (.lst vs) ∧ WnA H' vs ws ∧ H' l2 = some (.lst us') ∧ PrA H' us' td ∧ st < ts.length ∧ X.length + 1 ≤ m + p ∧ ws ++ (search wd ts L X m p st).1 = R.1 ∧ td ++ (search wd ts L X m p st).2 = R.2 ∧ ws.length + m ≤ 5001 ∧ td.length + 3000 * m ≤ 3000 * 5001,
      ⟨X.length + 1, 0, 0, [], [], [], [], none, none, none, none, none, none, none, rfl, e2, g1, .nil, g2, .nil, n1, Nat.le_refl _, by rw [hR]; rfl, by rw [hR]; rfl, by show 0 + (X.length + 1) ≤ 5001; omega, by show 0 + 3000 * (X.length + 1) ≤ _; omega⟩, fun m σ H' hw => ?_⟩
    obtain ⟨p, st, vs, us', ws, td, y7, y8, y9, y10, y11, y12, y13, rfl, e, h1, hW, h2, hP, hst, hm, q1, q2, hb1, hb2⟩ := hw
    have lvs := hW.len
    have lus := hP.len
    have so := e _ _ s1
    -- the end
    have fin : ∀ (σ : L2.St) (H3 : Hp) (vs3 us3 : List V), Ex H H3 → H3 l1 = some (.lst vs3) → WnA H3 vs3 R.1 → H3 l2 = some (.lst us3) → PrA H3 us3 R.2 → R.1.length ≤ 10000 → ∀ t1, H3 t1 = none → ∀ t2, (L2.upd H3 t1 (.tup vs3)) t2 = none → ∀ x dx, (L2.upd (L2.upd H3 t1 (.tup vs3)) t2 (.tup us3)) x = none → (L2.upd (L2.upd H3 t1 (.tup vs3)) t2 (.tup us3)) dx = none → dx ≠ x →
        spTInit C_Trace [.ref x, .ref t1, .ref t2] (L2.upd (L2.upd (L2.upd (L2.upd H3 t1 (.tup vs3)) t2 (.tup us3)) dx (.own x)) x (.ins C_Trace dx [])) (fun v H4 => v = .non ∧ Q (.ref x) H4) (fun _ _ _ => False) := by
      intro σ H3 vs3 us3 e3 k1 kW k2 kP hlen t1 ht1 t2 ht2 x dx hx hdx hne
      have f1 := Ex.new (o := .tup vs3) ht1
      have f2 := Ex.new (o := .tup us3) ht2
      exact mk_tr hx hdx hne (f2 _ _ upd_same) (kW.ex (f1.trans f2)) upd_same (kP.ex (f1.trans f2)) hlen fun H4 e4 TO => ⟨rfl, q H4 x (e3.trans (f1.trans (f2.trans e4))) TO⟩
    refine ⟨_, rfl, _, rfl, o, _, dxo, _, _, rfl, so, S.cl, S.nw, sFs_w _ _ _ _, _, _, rfl, rfl, _, rfl, _, rfl, tx_m (by omega), _, _, rfl, rfl, _, rfl, ite2 (fun hlt => ?_) (fun hlt => ?_)⟩
    · have hpw : p + wd ≤ X.length := by
        have := of_decide_eq_true hlt
        rw [tx_len] at this
        omega
      obtain ⟨m', rfl⟩ : ∃ m', m = m' + 1 := ⟨m - 1, by omega⟩
      refine ⟨fun σ2 H2 => ∃ m2, m2 < m' + 1 ∧ ∃ (p st : Nat) (vs us' : List V) (ws : List Win) (td : List (Nat × Nat)) (y7 y8 y9 y10 y11 y12 y13 : Option V), σ2 = [some (.ref o), some (.str (tx X)), some (.ref l1), some (.ref l2), some (.int (p : Nat)), some (.int (st : Nat)), y7, y8, y9, y10, y11, y12, y13] ∧
        Ex H H2 ∧ H2 l1 = some (.lst vs) ∧ WnA H2 vs ws ∧ H2 l2 = some (.lst us') ∧ PrA H2 us' td ∧ st < ts.length ∧ X.length + 1 ≤ m2 + p ∧ ws ++ (search wd ts L X m2 p st).1 = R.1 ∧ td ++ (search wd ts L X m2 p st).2 = R.2 ∧ ws.length + m2 ≤ 5001 ∧ td.length + 3000 * m2 ≤ 3000 * 5001, fun σ2 H2 h => h, ?_⟩
      refine ⟨_, rfl, _, rfl, _, rfl, _, rfl, _, rfl, o, _, dxo, _, _, rfl, so, S.cl, S.nw, sFs_w _ _ _ _, _, _, rfl, rfl, _, _, rfl, rfl, _, rfl, _, rfl, tx_m (by omega), ?_⟩
      have hcut : cutS (tx X) (some ((p : Nat) : Int)) (some (((p : Nat) : Int) + (wd : Int) + 1)) = tx ((X.drop p).take (wd + 1)) := by
        rw [show ((p : Nat) : Int) + (wd : Int) + 1 = ((p : Nat) : Int) + ((wd + 1 : Nat) : Int) by omega, cut_mid]
      rw [hcut]
      obtain ⟨Y, hY⟩ : ∃ Y, (X.drop p).take (wd + 1) = Y := ⟨_, rfl⟩
      have hYL : ∀ c ∈ Y, c ∈ L := fun c hc => by
        rw [← hY] at hc
        exact hX c (List.mem_of_mem_drop (List.mem_of_mem_take hc))
      have hYl : Y.length ≤ 9 := by
        rw [← hY, List.length_take]
        omega
      rw [hY]
      -- the tree
      have hsu : st < us.length := by
        rw [s3.len]
        exact hst
      obtain ⟨t, ht, hta⟩ := s3.get (List.getElem?_eq_getElem hsu)
      have mem := List.mem_of_getElem? ht
      have tsz := size_mem mem
      have tok := hok t mem
      have hrl := Tr.run_len (L := L) (S := Y) t
      refine ⟨_, rfl, o, _, dxo, _, _, rfl, so, S.cl, S.ns, sFs_s _ _ _ _, _, rfl, sa, us, _, _, rfl, rfl, st_of (e _ _ s2), atI_nat (List.getElem?_eq_getElem hsu), _, rfl, o, _, dxo, _, _, rfl, so, S.cl, S.nl, sFs_l _ _ _ _, _, rfl, t, _, L, Y, wd, ts.length, rfl, hta.ex e, tok, hLG.nd, hYL, by omega, by omega, by omega, fun H3 r r1 r2 g rv e3 hr hr1 hRd hr2 hG => ?_⟩
      refine ⟨r, _, rfl, st_of hr, rfl, _, _, rfl, _, _, rfl, _, _, rfl, rfl, ?_⟩
      -- windows.append
      refine ⟨_, rfl, .inl ⟨rfl, _, sq_of (e3 _ _ h1)⟩, _, rfl, _, rfl, _, rfl, by show 3 ≤ sizeLine; decide, fun tw htw => ?_⟩
      have f1 := Ex.new (o := .tup [.int (p : Nat), .int (st : Nat), .ref r1]) htw
      refine ⟨l1, _, _, rfl, rfl, f1 _ _ (e3 _ _ h1), sz_k (by omega), ?_⟩
      have htw1 : (L2.upd H3 tw (.tup [.int (p : Nat), .int (st : Nat), .ref r1])) tw = some (.tup [.int (p : Nat), .int (st : Nat), .ref r1]) := upd_same
      have hW4 := ((hW.ex (e3.trans f1)).snoc htw1 (f1 _ _ hr1) (hRd.ex f1)).upd (a := l1) (o := .lst (vs ++ [.ref tw])) (lst_no (f1 _ _ (e3 _ _ h1)))
      have hP4 := (hP.ex (e3.trans f1)).upd (a := l1) (o := .lst (vs ++ [.ref tw])) (lst_no (f1 _ _ (e3 _ _ h1)))
      have e4 : Ex H (L2.upd (L2.upd H3 tw (.tup [.int (p : Nat), .int (st : Nat), .ref r1])) l1 (.lst (vs ++ [.ref tw]))) := (e.trans (e3.trans f1)).mut hl10
      have k1 : (L2.upd (L2.upd H3 tw (.tup [.int (p : Nat), .int (st : Nat), .ref r1])) l1 (.lst (vs ++ [.ref tw]))) l1 = some (.lst (vs ++ [.ref tw])) := upd_same
      have k2 : (L2.upd (L2.upd H3 tw (.tup [.int (p : Nat), .int (st : Nat), .ref r1])) l1 (.lst (vs ++ [.ref tw]))) l2 = some (.lst us') := by
        rw [upd_ne n12.symm]
        exact f1 _ _ (e3 _ _ h2)
      have n1r : ∀ {a : Addr} {xs : List V}, H3 a = some (.tup xs) → a ≠ l1 := fun {a xs} z z2 => by
        rw [z2, e3 _ _ h1] at z
        cases z
      have k3 : (L2.upd (L2.upd H3 tw (.tup [.int (p : Nat), .int (st : Nat), .ref r1])) l1 (.lst (vs ++ [.ref tw]))) r2 = some (.tup (nv (t.run L Y).2.1)) := by
        rw [upd_ne (n1r hr2)]
        exact f1 _ _ hr2
      have kG : GoA (L2.upd (L2.upd H3 tw (.tup [.int (p : Nat), .int (st : Nat), .ref r1])) l1 (.lst (vs ++ [.ref tw]))) g (t.run L Y).2.2 := by
        cases hz : (t.run L Y).2.2 with
        | none =>
          rw [hz] at hG
          exact hG
        | some z =>
          obtain ⟨z1, z2⟩ := z
          rw [hz] at hG
          obtain ⟨a, e5, h5⟩ := hG
          exact ⟨a, e5, by rw [upd_ne (n1r h5)]; exact f1 _ _ h5⟩
      generalize (L2.upd (L2.upd H3 tw (.tup [.int (p : Nat), .int (st : Nat), .ref r1])) l1 (.lst (vs ++ [.ref tw]))) = H4 at hW4 hP4 e4 k1 k2 k3 kG ⊢
      -- told.extend
      obtain ⟨ns, hns⟩ : ∃ ns, (t.run L Y).2.1 = ns := ⟨_, rfl⟩
      rw [hns] at k3 hrl
      refine ⟨_, rfl, .inl ⟨rfl, _, sq_of k2⟩, _, rfl, r2, rfl, ⟨_, st_of k3⟩, fun D hD => ?_⟩
      refine lc_tup (fun i H' => Ex H4 H' ∧ ∃ zs, H' D = some (.lst zs) ∧ PrA H' zs ((ns.take i).map fun n => (p, n))) ⟨Ex.new hD, [], upd_same, .nil⟩ (fun i H' _ p => st_of (p.1 _ _ k3)) (fun i x H' hx hw => ?_) (fun H5 hw => ?_)
      · obtain ⟨e5, zs, hz, Z⟩ := hw
        obtain ⟨nn, hnn, rfl⟩ : ∃ nn, ns[i]? = some nn ∧ x = .int (nn : Nat) := by
          rw [List.getElem?_map] at hx
          cases hq : ns[i]? with
          | none =>
            rw [hq] at hx
            cases hx
          | some nn =>
            rw [hq] at hx
            exact ⟨nn, rfl, (Option.some.inj hx).symm⟩
        have hi := (List.getElem?_eq_some_iff.mp hnn).1
        have lz := Z.len
        rw [List.length_map, List.length_take] at lz
        refine ⟨rfl, _, rfl, _, rfl, by show 2 ≤ sizeLine; decide, fun x2 hx2 => ?_⟩
        have f2 := Ex.new (o := .tup [.int (p : Nat), .int (nn : Nat)]) hx2
        refine ⟨zs, f2 _ _ hz, sz_k (by omega), (e5.trans f2).mut hD, zs ++ [.ref x2], upd_same, ?_⟩
        rw [take_next' hnn, List.map_append]
        exact ((Z.ex f2).app (.cons upd_same .nil)).upd (lst_no (f2 _ _ hz))
      obtain ⟨e5, zs, hz, Z⟩ := hw
      rw [show (List.map (fun n => V.int (n : Nat)) ns).length = ns.length from List.length_map .., List.take_length] at Z
      have lz := Z.len
      rw [List.length_map] at lz
      have hns3 : ns.length ≤ 3000 := by omega
      refine ⟨l2, D, _, zs, rfl, rfl, e5 _ _ k2, hz, ?_, ?_⟩
      · rw [sizeLine_eq, lus, lz]
        omega
      have e6 : Ex H (L2.upd H5 l2 (.lst (us' ++ zs))) := (e4.trans e5).mut hl20
      have j1 : (L2.upd H5 l2 (.lst (us' ++ zs))) l1 = some (.lst (vs ++ [.ref tw])) := by
        rw [upd_ne n12]
        exact e5 _ _ k1
      have j2 : (L2.upd H5 l2 (.lst (us' ++ zs))) l2 = some (.lst (us' ++ zs)) := upd_same
      have jW := (hW4.ex e5).upd (a := l2) (o := .lst (us' ++ zs)) (lst_no (e5 _ _ k2))
      have jP := ((hP4.ex e5).app Z).upd (a := l2) (o := .lst (us' ++ zs)) (lst_no (e5 _ _ k2))
      have jG : GoA (L2.upd H5 l2 (.lst (us' ++ zs))) g (t.run L Y).2.2 := by
        cases hz2 : (t.run L Y).2.2 with
        | none =>
          rw [hz2] at kG
          exact kG
        | some z =>
          obtain ⟨z1, z2⟩ := z
          rw [hz2] at kG
          obtain ⟨a, e7, h7⟩ := kG
          refine ⟨a, e7, ?_⟩
          rw [upd_ne (fun z3 : a = l2 => by
            rw [z3, k2] at h7
            cases h7)]
          exact e5 _ _ h7
      generalize (L2.upd H5 l2 (.lst (us' ++ zs))) = H6 at e6 j1 j2 jW jP jG ⊢
      have hrun := hns
      rw [← hY] at hrun
      cases hz3 : (t.run L Y).2.2 with
      | none =>
        have hcut2 := search_cut (f := m') hpw ht (by rw [hY]; exact hz3)
        rw [hcut2, hY, hns] at q1 q2
        rw [hz3] at jG
        have jg : g = .non := jG
        subst jg
        refine ⟨_, rfl, rfl, _, rfl, ite2 (fun _ => ?_) (fun hb => absurd (by decide) hb)⟩
        refine ⟨_, rfl, l1, _, rfl, .inl ⟨sq_of j1, fun t1 ht1 => ?_⟩⟩
        have f2 := Ex.new (o := .tup (vs ++ [.ref tw])) ht1
        refine ⟨_, rfl, l2, _, rfl, .inl ⟨sq_of (f2 _ _ j2), fun t2 ht2 => ?_⟩⟩
        intro x dx hx hdx hne
        exact fin [] H6 _ _ e6 j1 (by rw [← q1]; exact jW) j2 (by rw [← q2]; exact jP) (by rw [← q1, List.length_append]; show ws.length + 1 ≤ _; omega) t1 ht1 t2 ht2 x dx hx hdx hne
      | some z =>
        obtain ⟨s', q'⟩ := z
        have hgo := search_go (f := m') hpw ht (by rw [hY]; exact hz3)
        rw [hgo, hY, hns] at q1 q2
        rw [hz3] at jG
        obtain ⟨ga, rfl, hga⟩ := jG
        obtain ⟨s1', s2', s3'⟩ := Tr.run_ok tok hz3
        refine ⟨_, rfl, rfl, _, rfl, ite2 (fun hb => absurd hb (by simp)) (fun _ => ?_)⟩
        refine ⟨_, rfl, ga, _, rfl, .inl (.inl hga), rfl, _, _, rfl, _, _, rfl, _, _, rfl, rfl, ?_⟩
        refine ⟨_, rfl, _, rfl, _, _, rfl, rfl, ?_⟩
        refine ⟨m', by omega, p + s', q', _, _, _, _, _, _, _, _, _, _, _, congrArg (fun z => [some (V.ref o), some (V.str (tx X)), some (V.ref l1), some (V.ref l2), some (V.int z), some (V.int (q' : Nat)), some (V.str (tx Y)), some (V.ref r1), some (V.ref r2), some (V.ref ga), y11, some (V.str "go"), some (V.int (s' : Nat))]) (show (p : Int) + (s' : Int) = ((p + s' : Nat) : Int) by omega), e6, j1, jW, j2, jP, s3', by omega, ?_, ?_, ?_, ?_⟩
        · rw [List.append_assoc]
          exact q1
        · rw [List.append_assoc]
          exact q2
        · rw [List.length_append]
          show ws.length + 1 + m' ≤ 5001
          omega
        · rw [List.length_append, List.length_map]
          omega
    · rw [search_end (by
        have : ¬ _ := fun z => hlt (decide_eq_true z)
        rw [tx_len] at this
        omega)] at q1 q2
      rw [List.append_nil] at q1 q2
      refine ⟨_, rfl, l1, _, rfl, .inl ⟨sq_of h1, fun t1 ht1 => ?_⟩⟩
      have f1 := Ex.new (o := .tup vs) ht1
      refine ⟨_, rfl, l2, _, rfl, .inl ⟨sq_of (f1 _ _ h2), fun t2 ht2 => ?_⟩⟩
      intro x dx hx hdx hne
      exact fin [] H' vs us' e h1 (by rw [← q1]; exact hW) h2 (by rw [← q2]; exact hP) (by rw [← q1]; omega) t1 ht1 t2 ht2 x dx hx hdx hne
theorem ok_ws {f : Addr} {fd : FuncData} (F : Fun K "wrong_sign" "wrong_sign" s_wrong_sign f fd) (T : Tx mg) : FnOk P w K mg base CX0 1 f fd ["letters", "text"] (spWS K) := by
  refine F.ok sc_wrong_sign (fun vs H Q E h => ?_) (fun cdv A outer s H vs Q E hr h => ?_)
  · obtain ⟨L, _, ⟨T, rfl, _⟩ | ⟨v, t, rfl, _⟩⟩ := h <;> rfl
  · obtain ⟨L, hL, h⟩ := h
    refine ⟨_, (pss_cons (ps_if (pt_not (pt_val (pe_callB call_isi (by rfl) T.isinstance PyProof.Rows.boot_isinstance (pa_cons (pv 1) (pa_cons (pe_bltn (v := .ty "str") (by rfl) T.str PyProof.Rows.boot_str rfl) pa_nil))))) (pss_one (ps_ret pe_int)) pss_nil)
      (pss_cons (ps_for PassesOwn.never rfl (EN.pi_enumS (by rfl) T.enumerate (pa_cons (pv 1) pa_nil)) (pg_tup (by rfl) (pgs_cons (pg_name (i := 2) sc_wrong_sign.nd rfl (Or.inl rfl)) (pgs_cons (pg_name (i := 3) sc_wrong_sign.nd rfl (Or.inl rfl)) pgs_nil))) (pss_one (ps_if (pt_cmpR op_notIn_sign (pv 3) (pv 0) rfl) (pss_one (ps_ret (pv 2))) pss_nil)))
      (pss_one (ps_ret pe_non)))), ?_⟩
    rcases h with ⟨T, rfl, q1, q2⟩ | ⟨v, t, rfl, ty, kk, q⟩
    · refine ⟨_, rfl, _, _, _, _, true, rfl, .ty _, .base (.str _), kit_ss, true, rfl, ?_⟩
      refine ⟨_, rfl, _, rfl, ?_⟩
      refine EN.for_enumS (x := tx T) (fun i σ H' => ∃ y2 y3 : Option V, σ = [some (.str (tx L)), some (.str (tx T)), y2, y3] ∧ Ex H H' ∧ ∀ j d, j < i → T[j]? = some d → d ∈ L) ⟨none, none, rfl, Ex.refl _, fun j d hj => absurd hj (Nat.not_lt_zero _)⟩ (fun i c T' σ H' hic hw hT => ?_) (fun σ H' hw => ?_)
      · obtain ⟨y2, y3, rfl, e, ih⟩ := hw
        have hc := tx_at hic
        refine ⟨T', _, rfl, .inl (.inl upd_same), rfl, _, _, rfl, _, _, rfl, rfl, ?_⟩
        refine ⟨_, rfl, _, rfl, c, _, rfl, rfl, _, rfl, ?_⟩
        rw [show (tx L).cps.toList = L from rfl]
        by_cases hm : c ∈ L
        · rw [decide_eq_true hm]
          refine ⟨_, _, rfl, e.trans (Ex.new hT), fun j d hj hd => ?_⟩
          by_cases hji : j = i
          · rw [hji, hc] at hd
            rw [← Option.some.inj hd]
            exact hm
          · exact ih j d (by omega) hd
        · rw [decide_eq_false hm]
          exact ⟨_, rfl, q2 _ i c (e.trans (Ex.new hT)) hc hm ih⟩
      · obtain ⟨y2, y3, rfl, e, ih⟩ := hw
        refine q1 _ e fun c hc => ?_
        obtain ⟨j, hj, rfl⟩ := List.mem_iff_getElem.mp hc
        exact ih j _ (by rw [tx_size]; exact hj) (List.getElem?_eq_getElem hj)
    · refine ⟨_, rfl, _, _, _, _, false, rfl, .ty _, ty, kk, false, rfl, ?_⟩
      exact q
theorem ok_traceN {f C_Searcher C_Trace : Addr} {fd : FuncData} (F : Fun K "trace" "trace" s_trace f fd) (T : Tx mg) (S : SC K C_Searcher)
    (c_wrong_sign : Kn P w K mg base "wrong_sign" ["letters", "text"] 1 (spWS K)) (c_searched : Kn P w K mg base "searched" ["searcher", "text"] 3 (spSearched C_Searcher C_Trace)) : FnOk P w K mg base CX0 4 f fd ["searcher", "text"] (spTraceN C_Searcher C_Trace) := by
  refine F.ok sc_trace (fun vs H Q E h => ?_) (fun cdv A outer s H vs Q E hr h => ?_)
  · obtain ⟨o, L, wd, ts, X, _, rfl, _⟩ := h
    rfl
  · obtain ⟨o, L, wd, ts, X, SS, rfl, hX, hXl, q⟩ := h
    obtain ⟨SO, hLG, w1, w8, n1, n64, hok, htot⟩ := SS
    obtain ⟨dxo, sa, us, s1, s2, s3⟩ := SO.ex
    have L4 := hLG.hi
    refine ⟨_, (pss_cons (ps_set (i := 2) sc_trace.nd rfl (Or.inl rfl) (pe_call c_wrong_sign.ok (hr.mono (by decide)) (by rfl) c_wrong_sign.g c_wrong_sign.kp c_wrong_sign.b .nil pass0 (pa_cons (pe_fld (pv 0) rfl) (pa_cons (pv 1) pa_nil))))
      (pss_cons (ps_if (pt_cmpR op_notN (pv 2) pe_non (nomark _)) (pss_one ps_never) pss_nil)
      (pss_cons (ps_if (pt_cmpR op_gt (pe_callB call_len_str (by rfl) T.len PySem.boot_len (pa_cons (pv 1) pa_nil)) (pe_glob (v := .int 5000) rfl T.m_MOST_LETTERS ⟨_, rfl⟩) (nomark _)) (pss_one ps_never) pss_nil)
      (pss_one (ps_ret (pe_call c_searched.ok (hr.mono (by decide)) (by rfl) c_searched.g c_searched.kp c_searched.b .nil pass0 (pa_cons (pv 0) (pa_cons (pv 1) pa_nil)))))))), ?_⟩
    refine ⟨_, rfl, o, _, dxo, _, _, rfl, s1, S.cl, S.nl, sFs_l _ _ _ _, _, rfl, L, by omega, .inl ⟨X, rfl, fun H1 e1 _ => ?_, fun H1 i c e1 hi hc _ => absurd (hX c (List.mem_of_getElem? hi)) hc⟩⟩
    refine ⟨_, rfl, rfl, _, rfl, ite2 (fun hb => absurd hb (by decide)) (fun _ => ?_)⟩
    refine ⟨_, rfl, _, rfl, tx_m (by omega), _, _, rfl, rfl, _, rfl, iteDn (by rw [tx_len]; omega) ?_⟩
    exact ⟨_, rfl, _, rfl, o, L, wd, ts, X, (show Sch C_Searcher H1 o L wd ts from Sch.up ⟨SO, hLG, w1, w8, n1, n64, hok, htot⟩ e1), rfl, hX, hXl, fun H' r e TO => q H' r (e1.trans e) TO⟩
end
end Law

namespace EK
open PySem PySem.Spec PyProof.Rows L2
theorem pe_fldK {X : Cx} {K : PySem.W.Frag} {e : Expr} {te : TE} {f : Str} {pos : Pos} (hk : X.K = K) (he : PE X e te) (hb : attributeBase e f X.env (eval e X.env) = eval e X.env) : PE X (.Attribute e f pos) (tFld K te f) := by
  subst hk
  exact pe_fld he hb
end EK
namespace Law
open PySem PySem.Spec PyProof.Rows L2 Evl TR EK
def spText : Sp := fun vs H Q _ => ∃ (p : PenI) (H0 : Hp) (n mo : Nat) (L : List Nat) (a : Addr), vs = [.ref p.d, .str (tx L), .ref a, .int (mo : Nat)] ∧ PenAt p H0 H n ∧ n < 700000 ∧ H0 a = some (.lst [.str (tx L)]) ∧ 2 ≤ L.length ∧ L.length ≤ 4 ∧ mo ≤ 30 ∧
  ∀ H' X, PenAt p H0 H' (n + 300) → X.length ≤ mo → (∀ c ∈ X, c ∈ L) → Q (.str (tx X)) H'
section
variable {P : Program} {w : World} {K : PySem.W.Frag} {mg : Str → Option Value} {base : Heap}
theorem ok_text {f : Addr} {fd : FuncData} (F : Fun K "_law_text" "_law_text" s_ltext f fd) (T : Tx mg) (c_ldraw : Kn P w K mg base "_law_draw" ["_law_pen_here", "_law_many"] 1 spDraw)
    (c_pickS : Kn P w K mg base "_law_pick" ["_law_pen_here", "_law_some"] 2 spPickS) (c_pickL : Kn P w K mg base "_law_pick" ["_law_pen_here", "_law_some"] 2 spPickL) :
    FnOk P w K mg base CX0 3 f fd ["_law_pen_here", "_law_letters_here", "_law_words", "_law_most"] spText := by
  refine F.ok sc_ltext (fun vs H Q E h => ?_) (fun cdv A outer s H vs Q E hr h => ?_)
  · obtain ⟨p, H0, n, mo, L, a, rfl, _⟩ := h
    rfl
  · obtain ⟨p, H0, n, mo, L, a, rfl, P0, hn, ha, hl0, hl1, hmo, q⟩ := h
    have nad : a ≠ p.d := fun z => by
      rw [z, P0.2.1] at ha
      cases ha
    refine ⟨_, (pss_cons (ps_par (i := 4) (j := 5) (by rfl) sc_ltext.nd rfl rfl (by decide) rfl rfl (pa_cons pe_str (pa_cons (pe_call c_ldraw.ok (hr.mono (by decide)) (by rfl) c_ldraw.g c_ldraw.kp c_ldraw.b .nil pass0 (pa_cons (pv 0) (pa_cons (pe_op op_add (pv 3) pe_int) pa_nil))) pa_nil)) (by rfl))
      (pss_cons (ps_while PassesOwn.never (pt_cmpR op_lt (pe_callB call_len_str (by rfl) T.len PySem.boot_len (pa_cons (pv 4) pa_nil)) (pv 5) (nomark _)) (pss_cons (ps_set (i := 6) sc_ltext.nd rfl (Or.inl rfl) (pe_call c_pickL.ok (hr.mono (by decide)) (by rfl) c_pickL.g c_pickL.kp c_pickL.b .nil pass0 (pa_cons (pv 0) (pa_cons (pv 2) pa_nil))))
      (pss_cons (ps_set (i := 7) sc_ltext.nd rfl (Or.inl rfl) (pe_op op_add_str (pe_slice sl_str (pv 6) po_none (po_some (pe_call c_ldraw.ok (hr.mono (by decide)) (by rfl) c_ldraw.g c_ldraw.kp c_ldraw.b .nil pass0 (pa_cons (pv 0) (pa_cons (pe_callB call_len_str (by rfl) T.len PySem.boot_len (pa_cons (pv 6) pa_nil)) pa_nil))))) (pe_call c_pickS.ok (hr.mono (by decide)) (by rfl) c_pickS.g c_pickS.kp c_pickS.b .nil pass0 (pa_cons (pv 0) (pa_cons (pv 1) pa_nil)))))
      (pss_one (ps_set (i := 4) sc_ltext.nd rfl (Or.inl rfl) (pe_op op_add_str (pv 4) (pe_call c_pickL.ok (hr.mono (by decide)) (by rfl) c_pickL.g c_pickL.kp c_pickL.b .nil pass0 (pa_cons (pv 0) (pa_cons (pe_lst (pa_cons (pv 6) (pa_cons (pv 7) (pa_cons (pe_call c_pickS.ok (hr.mono (by decide)) (by rfl) c_pickS.g c_pickS.kp c_pickS.b .nil pass0 (pa_cons (pv 0) (pa_cons (pv 1) pa_nil))) pa_nil)))) pa_nil)))))))))
      (pss_one (ps_ret (pe_slice sl_str (pv 4) po_none (po_some (pv 5))))))), ?_⟩
    refine ⟨_, rfl, _, rfl, _, _, rfl, rfl, p, H0, n, (mo : Int) + 1, rfl, P0, by omega, by omega, by omega, fun H1 r P1 r0 r1 => ⟨_, _, rfl, ?_⟩⟩
    obtain ⟨sz, rfl⟩ : ∃ k : Nat, r = (k : Int) := ⟨r.toNat, (Int.toNat_of_nonneg r0).symm⟩
    refine ⟨fun k σ H' => ∃ (X : List Nat) (y6 y7 : Option V), σ = [some (.ref p.d), some (.str (tx L)), some (.ref a), some (.int (mo : Nat)), some (.str (tx X)), some (.int (sz : Int)), y6, y7] ∧ PenAt p H0 H' (n + 1 + 5 * X.length) ∧ k = sz - X.length ∧ X.length ≤ 40 ∧ ∀ c ∈ X, c ∈ L,
      ⟨sz, [], none, none, ?_, P1, by simp, by simp, fun c hc => nomatch hc⟩, fun k σ H' hw => ?_⟩
    · show [some (V.ref p.d), some (V.str (tx L)), some (V.ref a), some (V.int (mo : Nat)), some (V.str (Str.ofString "")), some (V.int (sz : Int)), none, none] = _
      rw [show Str.ofString "" = tx [] by decide +kernel]
    obtain ⟨X, y6, y7, rfl, P2, hk, hX, mX⟩ := hw
    refine ⟨_, rfl, _, rfl, tx_le (by omega), _, rfl, _, _, rfl, rfl, _, rfl, ite2 (fun hb => ?_) (fun hb => ?_)⟩
    · have hlt : X.length < sz := by
        have := of_decide_eq_true hb
        rw [tx_len] at this
        omega
      refine ⟨fun σ2 H2 => ∃ k', k' < k ∧ ∃ (X : List Nat) (y6 y7 : Option V), σ2 = [some (.ref p.d), some (.str (tx L)), some (.ref a), some (.int (mo : Nat)), some (.str (tx X)), some (.int (sz : Int)), y6, y7] ∧ PenAt p H0 H2 (n + 1 + 5 * X.length) ∧ k' = sz - X.length ∧ X.length ≤ 40 ∧ ∀ c ∈ X, c ∈ L, fun σ2 H2 h => h, ?_⟩
      -- a word
      refine ⟨_, rfl, _, rfl, p, H0, a, _, [.str (tx L)], rfl, P2, by omega, P2.1 _ _ ha, by show 0 < 1; decide, by show 1 < 1000; decide, fun H3 v P3 hv => ?_⟩
      obtain ⟨u, rfl, gu, lu⟩ : ∃ u, v = .str (tx u) ∧ (∀ x ∈ u, x ∈ L) ∧ u.length = L.length := ⟨L, List.mem_singleton.mp hv, fun x hx => hx, rfl⟩
      -- near
      refine ⟨_, rfl, _, rfl, _, rfl, _, rfl, tx_le (by omega), p, H0, _, _, rfl, P3, by omega, by rw [tx_len]; omega, by rw [tx_len]; omega, fun H4 r4 P4 r40 r41 => ?_⟩
      obtain ⟨at_, rfl⟩ : ∃ k : Nat, r4 = (k : Int) := ⟨r4.toNat, (Int.toNat_of_nonneg r40).symm⟩
      refine ⟨_, rfl, _, rfl, tx_le (by omega), _, rfl, _, rfl, p, H0, _, tx L, rfl, P4, by omega, by rw [tx_len]; omega, by rw [tx_len]; omega, fun H5 c P5 hc => ?_⟩
      rw [cut_to]
      refine ⟨_, _, rfl, rfl, ?_, ?_⟩
      · rw [tx_len, List.length_take]
        exact sz_le (show _ + 1 < 1000 by omega)
      have en : tx (u.take at_) ++ (⟨#[c]⟩ : Str) = tx (u.take at_ ++ [c]) := tx_app _ [c]
      rw [en]
      obtain ⟨nr, hnr⟩ : ∃ nr, u.take at_ ++ [c] = nr := ⟨_, rfl⟩
      have lnr : 1 ≤ nr.length ∧ nr.length ≤ 9 := by
        rw [← hnr, List.length_append, List.length_take]
        exact ⟨by show 1 ≤ _ + 1; omega, by show _ + 1 ≤ 9; omega⟩
      have mnr : ∀ x ∈ nr, x ∈ L := fun x hx => by
        rw [← hnr] at hx
        rcases List.mem_append.mp hx with h | h
        · exact gu x (List.mem_of_mem_take h)
        · rw [List.mem_singleton.mp h]
          exact hc
      rw [hnr]
      -- the piece
      refine ⟨_, rfl, _, rfl, _, rfl, _, rfl, _, rfl, _, rfl, p, H0, _, tx L, rfl, P5, by omega, by rw [tx_len]; omega, by rw [tx_len]; omega, fun H6 c2 P6 hc2 => ⟨by show 3 ≤ sizeLine; decide, fun l hl => ?_⟩⟩
      refine ⟨p, H0, l, _, _, rfl, P6.ex (Ex.new hl), by omega, upd_same, by show 0 < 3; decide, by show 3 < 1000; decide, fun H7 v P7 hv => ?_⟩
      obtain ⟨pc, rfl, lp1, lp9, mp⟩ : ∃ pc : List Nat, v = .str (tx pc) ∧ 1 ≤ pc.length ∧ pc.length ≤ 9 ∧ ∀ x ∈ pc, x ∈ L := by
        rcases List.mem_cons.mp hv with h | h
        · exact ⟨u, h, by omega, by omega, gu⟩
        rcases List.mem_cons.mp h with h | h
        · exact ⟨nr, h, lnr.1, lnr.2, mnr⟩
        · exact ⟨[c2], List.mem_singleton.mp h, by show 1 ≤ 1; omega, by show 1 ≤ 9; omega, fun x hx => by rw [List.mem_singleton.mp hx]; exact hc2⟩
      refine ⟨_, _, rfl, rfl, ?_, ?_⟩
      · rw [tx_len, tx_len]
        exact sz_le (by omega)
      rw [tx_app]
      refine ⟨sz - (X ++ pc).length, ?_, X ++ pc, some (V.str (tx u)), some (V.str (tx nr)), rfl, P7.le ?_, rfl, ?_, fun x hx => ?_⟩
      · rw [List.length_append]
        omega
      · rw [List.length_append]
        omega
      · rw [List.length_append]
        omega
      · rcases List.mem_append.mp hx with h | h
        · exact mX x h
        · exact mp x h
    · refine ⟨_, rfl, _, rfl, _, rfl, _, rfl, tx_le (by omega), ?_⟩
      rw [cut_to]
      refine q _ _ (P2.le (by omega)) ?_ fun c hc => mX c (List.mem_of_mem_take hc)
      rw [List.length_take]
      omega
end
end Law

namespace TR
open PySem PySem.Spec L2 Evl
theorem room70 {k : Nat} {A : Around} (r : Room k A) : A.units + 70 < cLine := by
  have := r.un
  omega
/-- what can't change of a heap, beside a base -/
def fz (B H : Hp) : Hp := fun a => match H a with
  | some (.tup xs) => some (.tup xs)
  | some (.ins C d fs) => some (.ins C d fs)
  | _ => B a
theorem fz_tup {B H : Hp} {a : Addr} {xs : List V} (h : H a = some (.tup xs)) : fz B H a = some (.tup xs) := by
  unfold fz
  rw [h]
theorem fz_ins {B H : Hp} {a C d : Addr} {fs : List (Str × V)} (h : H a = some (.ins C d fs)) : fz B H a = some (.ins C d fs) := by
  unfold fz
  rw [h]
theorem fz_lst {B H : Hp} {a : Addr} {xs : List V} (h : H a = some (.lst xs)) : fz B H a = B a := by
  unfold fz
  rw [h]
theorem fz_dk {B H : Hp} {a : Addr} {xs : List (Key × V)} (h : H a = some (.dK xs)) : fz B H a = B a := by
  unfold fz
  rw [h]
theorem fz_sub {B H : Hp} (e : Ex B H) : Ex B (fz B H) := fun a o h => by
  have h2 := e _ _ h
  unfold fz
  rw [h2]
  cases o <;> first | rfl | exact h
theorem fz_sup {B H : Hp} (e : Ex B H) : Ex (fz B H) H := fun a o h => by
  unfold fz at h
  split at h
  · next q => rw [q, ← h]
  · next q => rw [q, ← h]
  · exact e _ _ h
mutual
theorem TA.fz {B H : Hp} : ∀ {t : Tr} {v : V}, TA true H v t → TA true (TR.fz B H) v t
  | _, _, .go h => .go (fz_tup h)
  | _, _, .tell h r => .tell (fz_tup h) (TA.fz r)
  | _, _, .read h hb r => .read (fz_tup h) (fz_tup hb) (TAs.fz r)
theorem TAs.fz {B H : Hp} : ∀ {ts : Trs} {vs : List V}, TAs true H vs ts → TAs true (TR.fz B H) vs ts
  | _, _, .nil => .nil
  | _, _, .cons h r => .cons (TA.fz h) (TAs.fz r)
end
theorem Kids.fz {B H : Hp} : ∀ {ts : List Tr} {vs : List V}, Kids true H vs ts → Kids true (TR.fz B H) vs ts
  | _, _, .nil => .nil
  | _, _, .cons h r => .cons h.fz (Kids.fz r)
end TR
namespace TR
open PySem PySem.Spec L2 Evl
/-- how many windows a searcher has that slides alone -/
theorem search_go1 {w s : Nat} {L X : List Nat} (hs : 1 ≤ s) : ∀ {f p : Nat}, X.length + 1 ≤ f + p → (search w [.go s 0] L X f p 0).1.length = if p + w ≤ X.length then (X.length - w - p) / s + 1 else 0
  | 0, p, h => by
    rw [if_neg (by omega)]
    rfl
  | f + 1, p, h => by
    by_cases hp : p + w ≤ X.length
    · have hg := search_go (L := L) (X := X) (w := w) (ts := [.go s 0]) (f := f) (p := p) (q := 0) (t := .go s 0) (s := s) (q' := 0) hp rfl (by rw [run_go])
      rw [hg, if_pos hp]
      show (search w [.go s 0] L X f (p + s) 0).1.length + 1 = _
      rw [search_go1 hs (by omega)]
      by_cases h2 : p + s + w ≤ X.length
      · rw [if_pos h2, show X.length - w - p = (X.length - w - (p + s)) + s by omega, Nat.add_div_right _ (by omega)]
      · rw [if_neg h2, Nat.div_eq_of_lt (by omega)]
    · rw [search_end hp, if_neg hp]
      rfl
end TR
namespace Law
open PySem PySem.Spec PyProof.Rows L2 Evl TR EK
theorem SObj.fz {C o : Addr} {B H : Hp} {L : List Nat} {w : Nat} {ts : List Tr} (S : SObj C H o L w ts) : SObj C (TR.fz B H) o L w ts := by
  obtain ⟨dx, st, us, h1, h2, h3⟩ := S.ex
  exact ⟨dx, st, us, fz_ins h1, fz_tup h2, h3.fz⟩
theorem PenAt.fz {p : PenI} {B H : Hp} {n : Nat} (P : PenAt p B H n) : PenAt p (TR.fz B H) H n := by
  obtain ⟨e, h0, hc, hl, op, lf, ho, hd⟩ := P
  exact ⟨fz_sup e, by rw [fz_dk hd]; exact h0, fz_sub e _ _ hc, hl, op, lf, ho, hd⟩
theorem mk_sp {C x dx sa : Addr} {H1 : Hp} {L : List Nat} {w : Nat} {kt k : Bool} {xs : List V} {ts : List Tr} {Q : VK} {E : XK} (hx : H1 x = none) (hd : H1 dx = none) (ne : dx ≠ x) (hsa : H1 sa = some (ob kt xs)) (KK : Kids k H1 xs ts) (hL : LG L) (w1 : 1 ≤ w) (w8 : w ≤ 8)
    (n1 : 1 ≤ ts.length) (n64 : ts.length ≤ 64) (hall : ∀ t ∈ ts, t.ok L.length w ts.length ∧ t.depth ≤ 40) (tot : TR.total ts ≤ 3000) (q : ∀ H2, Ex H1 H2 → SObj C H2 x L w ts → Q .non H2) :
    spInit C [.ref x, .str (tx L), .int (w : Int), .ref sa] (L2.upd (L2.upd H1 dx (.own x)) x (.ins C dx [])) Q E :=
  ⟨x, dx, sa, L, w, kt, k, xs, ts, H1, rfl, (Ex.new hd).trans (Ex.new (by rw [upd_ne ne.symm]; exact hx)), hx, upd_same, hsa, KK, hL, w1, w8, n1, n64, hall, tot, q⟩
end Law

namespace GD
open PySem PySem.Spec PyProof.Rows L2
/-- a law's promise, where no text of an object is being made -/
structure Gd (P : Program) (w : World) (K : PySem.W.Frag) (mg : Str → Option Value) (base : Heap) (k : Nat) (f : Addr) (fd : FuncData) (ps : List Str) (sp : Sp) : Prop where
  run : ∀ (A : Around) (outer : List Env) (s : Shared) (H : Hp) (args : Args) (us : List Value) (vs : List V) (Q : VK) (E : XK), Room k A → A.guards = some [] → Env0 P w K mg base A outer s H → BindsTo s fd args (ps.zip us) → Vals vs us → sp vs H Q E →
    codeAny (model P w) A (.call (.ref f) args) (CR CX0 outer P w H s Q E) s
section
variable {P : Program} {w : World} {K : PySem.W.Frag} {mg : Str → Option Value} {base : Heap}
theorem deeper_guards {A : Around} {env : Env} (h : A.guards = some []) : (A.deeper env).guards = some [] := h
/-- the rule for a def, once more -/
theorem okG {x qual : Str} {st : Stmt} {f : Addr} {fd : FuncData} {N ps : List Str} {k : Nat} {sp : Sp} (F : Fun K x qual st f fd) (S : FnScope N ps (defScope st)) (len : ∀ vs H Q E, sp vs H Q E → vs.length = ps.length)
    (hbody : ∀ (cdv : Value) (A : Around) (outer : List Env) (s : Shared) (H : Hp) (vs : List V) (Q : VK) (E : XK), Room k (A.deeper (envOfC qual (defScope st) s.heap.objs.size f cdv)) → (A.deeper (envOfC qual (defScope st) s.heap.objs.size f cdv)).guards = some [] → sp vs H Q E →
      ∃ t, PSs (cxOf CX0 P w K mg base N qual (defScope st) f cdv A outer s H E).nox (defBody st) t ∧ t { nx := fun _ H' => Q .non H', rt := Q } (start N vs) H) : Gd P w K mg base (k + 1) f fd ps sp := by
  obtain ⟨oc, od, kV, doc, pm, an, cdv, ct, osl, rfl, lk, hcd⟩ := F.ex
  refine ⟨fun A outer s H args us vs Q E hr hg e0 hb r hsp => ?_⟩
  have kin : K.In s.heap := e0.mod.kin.keeps fun b o e => (e0.bs b o e).1
  have nolim : s.heap.NoLimit := e0.mod.nolimit.keeps fun b o e => (e0.bs b o e).1
  have names : ∀ y ∈ ps.zip us, (defScope st).names.lookup y.1 = some .local ∨ ((defScope st).names.lookup y.1 = some .cell ∧ ((cellsFrom (s.heap.objs.size + 1) (defScope st).names []).lookup y.1).isSome = true) := by
    rintro ⟨n, v⟩ hy
    rcases S.par n (List.of_mem_zip hy).1 with q | q
    · exact .inl q
    · exact .inr ⟨q, PySem.W.cellsFrom_some _ _ _ (.inl q)⟩
  refine codeAny_call_function hr.depth (kin _ _ lk) rfl S.co S.gen rfl (PySem.W.codeRec_of kin hcd) (hb _ _ _ _ (wpAny_newFunctionEnv_cells S.kind names fun env he s1 z => ?_))
  subst he
  refine ⟨nolim.keeps z.toInCall.keep, codeAny_func ?_⟩
  obtain ⟨t, ht, hq⟩ := hbody cdv A outer s H vs Q E (hr.deeper _) (deeper_guards hg) hsp
  have I := inv_start (CX := CX0) (E := E) S hr.hd e0 (len _ _ _ _ hsp) r z
  refine wpAny_mono (ht.nox.run [] s1 (start N vs) H _ I hq) (fun fl s' hs => ?_) fun e s' hs => hs
  cases fl with
  | ret u =>
    obtain ⟨v, σ', H', J, rv, q⟩ := hs
    exact ⟨v, H', J.os, J.bare, J.base, J.hok, rv, q⟩
  | next =>
    obtain ⟨σ', H', J, q⟩ := hs
    exact ⟨V.non, H', J.os, J.bare, J.base, J.hok, rfl, q⟩
  | brk =>
    obtain ⟨_, _, _, q⟩ := hs
    exact q.elim
  | cont =>
    obtain ⟨_, _, _, q⟩ := hs
    exact q.elim
end
/-! ### the end: the law's promise at the heap behind the top -/
/-- the script alone is known -/
def one (a : Addr) (vs : List Value) (ns : List Int) : Hp := fun b => if b = a then some (.frz { cls := .type "list", data := .seq vs.toArray } (.lst (ns.map V.int))) else none
theorem callG {P : Program} {w : World} {K : PySem.W.Frag} {mg mb : Str → Option Value} {k : Nat} {fa a : Addr} {fd : FuncData} {x : Str} {sp : Sp} {s : Shared} {vs : List Value} {ns : List Int}
    (kin : K.In s.heap) (hns : s.heap.Ns mainGlobals mg) (hb : s.heap.Ns builtinsNs mb) (hbb : ∀ x : Str, x ≠ "__name__" → mb x = bootBuiltins x) (nolim : s.heap.NoLimit) (gens : s.gens = #[])
    (ha : s.heap.get? a = some { cls := .type "list", data := .seq vs.toArray }) (hi : IntsAre vs ns) (hl : ns.length ≤ sizeLine) (room : Room k callerA)
    (F : ∀ base : Heap, K.In base → base.Ns mainGlobals mg → Gd P w K mg base k fa fd [x] sp) (binds : ∀ (s : Shared) (u : Value), BindsTo s fd ⟨[u], []⟩ [(x, u)])
    (hsp : ∀ H : Hp, SqL K H a (ns.map V.int) → sp [.ref a] H (fun v _ => v = .bl true) E0) :
    codeAny (model P w) callerA (.call (.ref fa) ⟨[.ref a], []⟩) (fun r s' => r = .ok (.ret (.bool true)) ∧ OldK s.heap s'.heap ∧ s'.os = s.os ∧ AllBare s'.gens) s := by
  have rv := vals_ints hi
  have step : ∀ H : Hp, (∀ b u, H b = some u → b = a ∧ K.lookup a = none ∧ ∃ o xs, u = .frz o (.lst xs)) → HOk P w H s.heap → SqL K H a (ns.map V.int) →
      codeAny (model P w) callerA (.call (.ref fa) ⟨[.ref a], []⟩) (fun r s' => r = .ok (.ret (.bool true)) ∧ OldK s.heap s'.heap ∧ s'.os = s.os ∧ AllBare s'.gens) s := by
    intro H only hok hS
    have free : ∀ {b : Addr}, b ≠ a → H b = none := fun {b} n => by
      cases e : H b with
      | none => rfl
      | some u => exact absurd (only b u e).1 n
    have stays : ∀ {b : Addr} {m : Str → Option Value}, s.heap.Ns b m → (hidT s.heap H).Ns b m := fun {b m} ⟨o, es, ep, e, d, r⟩ => by
      refine ⟨o, es, ep, hidT_get e (free fun z => ?_), d, r⟩
      rw [z, ha] at e
      cases e
      cases (show Data.seq vs.toArray _ = Data.dict es ep from d)
    have kinB : K.In (hidT s.heap H) := fun b o e => hidT_get (kin b o e) (by
      cases q : H b with
      | none => rfl
      | some u =>
        obtain ⟨h1, h2, _⟩ := only b u q
        rw [h1, h2] at e
        cases e)
    have e0 : Env0 P w K mg (hidT s.heap H) callerA [] s H :=
      ⟨rfl, ⟨kinB, stays hns, ⟨mb, stays hb, hbb⟩, let ⟨mc, h1, h2⟩ := nolim; ⟨mc, stays h1, h2⟩⟩, fun b o e => of_hidT e, Nat.le_of_eq (hidT_size _ _), trivial, fun b hb => (nomatch (show b ∈ ([] : List Addr) from hb)), hok, .of_eq gens⟩
    refine codeAny_mono ((F _ kinB (stays hns)).run callerA [] s H ⟨[.ref a], []⟩ [.ref a] [.ref a] _ E0 room rfl e0 (binds s (.ref a)) (.cons rfl .nil) (hsp H hS)) fun r s' h => ?_
    cases r with
    | error e => exact h.elim
    | ok fl =>
      cases fl with
      | ret u =>
        obtain ⟨v, H', os, bare, un, hok', r', q⟩ := h
        obtain rfl : v = .bl true := q
        obtain rfl : u = Value.bool true := r'
        refine ⟨rfl, OldK.of_keep fun b o e => ?_, os, bare⟩
        cases q : H b with
        | none => exact un.keep b o e q (by intro z; exact (nomatch (show b ∈ ([] : List Addr) from z))) (by simp)
        | some u =>
          obtain ⟨_, _, ob, xs, rfl⟩ := only b u q
          obtain ⟨e1, _⟩ := hok b _ q
          obtain ⟨e2, _⟩ := hok' b _ (un.frzs b ob _ q)
          rw [e] at e1
          cases e1
          exact e2
      | next => exact h.elim
      | brk => exact h.elim
      | cont => exact h.elim
  cases hk : K.lookup a with
  | some o =>
    have e := kin a o hk
    rw [ha] at e
    cases e
    refine step (fun _ => none) (fun b u z => by cases z) (fun b u z => by cases z) (.inr ⟨_, vs.toArray, _, hk, rfl, rfl, rfl, ?_, by simpa using rv⟩)
    rw [List.size_toArray, hi.length]
    exact hl
  | none =>
    refine step (one a vs ns) (fun b u z => ?_) (fun b u z => ?_) (.inl (.inr ⟨_, if_pos rfl⟩))
    · unfold one at z
      by_cases q : b = a
      · rw [if_pos q] at z
        cases z
        exact ⟨q, hk, _, _, rfl⟩
      · rw [if_neg q] at z
        cases z
    · unfold one at z
      by_cases q : b = a
      · rw [if_pos q] at z
        cases z
        subst q
        exact ⟨ha, by rw [List.length_map]; exact hl, vs, _, rv, ha⟩
      · rw [if_neg q] at z
        cases z
theorem walkG {l : PySem.W.OpenLaw} {n k : Nat} {q : Program} {loose : List Str} {XP : (Str → Option Value) → Heap → Prop} {YP : World → Heap → Prop} {d : DefRec} {K : Params → PySem.W.Frag} {sp : World → Sp} {x : Str}
    (hn : l.most = some n) (hn2 : n ≤ sizeLine) (hdf : d.params.defaults = []) (hr : Room k callerA) (hY : ∀ (w : World) (h : Heap), YP w h → (K w.params).In h)
    (F : ∀ (w : World) (mg : Str → Option Value) (fa : Addr) (h : Heap), (K w.params).In h → h.Ns mainGlobals mg → mg d.name = some (.ref fa) →
      ∃ fd : FuncData, (∀ (s : Shared) (u : Value), BindsTo s fd ⟨[u], []⟩ [(x, u)]) ∧ ∀ base : Heap, (K w.params).In base → base.Ns mainGlobals mg → Gd l.prog w (K w.params) mg base k fa fd [x] (sp w))
    (hsp : ∀ (w : World) (H : Hp) (a : Addr) (ns : List Int), ns.length ≤ n → SqL (K w.params) H a (ns.map V.int) → sp w [.ref a] H (fun v _ => v = .bl true) E0) :
    PySem.W.WalkO q loose XP YP l.row.toRowW d [] (fun f vs => PySem.call f vs) := by
  refine Att.attach_call hn hdf fun w s₀ s₁ mg mb fa o pm cd doc a vs ns G Y ho hd hcd hmg hobj hints hlen hg => ?_
  have kin := hY w _ Y
  obtain ⟨fd, hb, hF⟩ := F w mg fa _ kin G.T.g hmg
  exact callG kin G.T.g G.T.b G.T.builtins G.T.nolimit hg hobj hints (Nat.le_trans hlen hn2) hr hF hb fun H hS => hsp w H a ns hlen hS
end GD

namespace TR
open PySem PySem.Spec L2 Evl
/-! ### a tree as data -/
mutual
def Tr.data : Tr → PyData
  | .go s q => .tuple [.str "go", .int (s : Nat), .int (q : Nat)]
  | .tell n t => .tuple [.str "tell", .int (n : Nat), t.data]
  | .read p ts => .tuple [.str "read", .int (p : Nat), .tuple ts.data]
def Trs.data : Trs → List PyData
  | .nil => []
  | .cons t r => t.data :: r.data
end
mutual
theorem TA.dp {K : PySem.W.Frag} {H : Hp} : ∀ {t : Tr} {v : V}, TA true H v t → Dp K H v t.data
  | _, _, .go h => .tup (st_of h) (.cons (.str _) (.cons (.int _) (.cons (.int _) .nil)))
  | _, _, .tell h r => .tup (st_of h) (.cons (.str _) (.cons (.int _) (.cons (TA.dp r) .nil)))
  | _, _, .read h hb r => .tup (st_of h) (.cons (.str _) (.cons (.int _) (.cons (.tup (st_of hb) (TAs.dp r)) .nil)))
theorem TAs.dp {K : PySem.W.Frag} {H : Hp} : ∀ {ts : Trs} {vs : List V}, TAs true H vs ts → DpAll K H vs ts.data
  | _, _, .nil => .nil
  | _, _, .cons h r => .cons (TA.dp h) (TAs.dp r)
end
theorem Kids.dp {K : PySem.W.Frag} {H : Hp} : ∀ {ts : List Tr} {vs : List V}, Kids true H vs ts → DpAll K H vs (ts.map Tr.data)
  | _, _, .nil => .nil
  | _, _, .cons h r => .cons h.dp (Kids.dp r)
theorem ok_str (x : String) (h : PyData.canLay0 (.str x) = true := by decide +kernel) : PyData.canLay0 (.str x) = true := h
mutual
theorem Tr.lays : ∀ t : Tr, t.data.canLay0 = true
  | .go s q => by
    simp only [Tr.data, PyData.canLay0, PyData.canLayAll0, Bool.and_true]
    decide +kernel
  | .tell n t => by
    simp only [Tr.data, PyData.canLay0, PyData.canLayAll0, Bool.and_true, Bool.true_and, Tr.lays t]
    decide +kernel
  | .read p ts => by
    simp only [Tr.data, PyData.canLay0, PyData.canLayAll0, Bool.and_true, Bool.true_and, Trs.lays ts]
    decide +kernel
theorem Trs.lays : ∀ ts : Trs, PyData.canLayAll0 ts.data = true
  | .nil => by simp only [Trs.data, PyData.canLayAll0]
  | .cons t r => by simp only [Trs.data, PyData.canLayAll0, Tr.lays t, Trs.lays r, Bool.and_true]
end
mutual
theorem Tr.deep : ∀ t : Tr, t.data.depth ≤ 2 * t.depth
  | .go s q => by
    simp only [Tr.data, PyData.depth, PyData.depthAll, Tr.depth]
    decide
  | .tell n t => by
    have := Tr.deep t
    simp only [Tr.data, PyData.depth, PyData.depthAll, Tr.depth]
    omega
  | .read p ts => by
    have := Trs.deep ts
    simp only [Tr.data, PyData.depth, PyData.depthAll, Tr.depth]
    omega
theorem Trs.deep : ∀ ts : Trs, PyData.depthAll ts.data ≤ 2 * ts.depth
  | .nil => Nat.zero_le _
  | .cons t r => by
    have := Tr.deep t
    have := Trs.deep r
    simp only [Trs.data, PyData.depthAll, Trs.depth]
    omega
end
theorem eqv3 (x y : Str) (m n : Nat) (a b : PyData) : PyData.eqv (.tuple [.str x, .int (m : Nat), a]) (.tuple [.str y, .int (n : Nat), b]) = ((x == y) && (((m : Int) == (n : Int)) && (PyData.eqv a b && true))) := by
  simp only [PyData.eqv, PyData.eqvAll]
theorem eqv3_of {x y : Str} {m n : Nat} {a b : PyData} (h : PyData.eqv (.tuple [.str x, .int (m : Nat), a]) (.tuple [.str y, .int (n : Nat), b]) = true) : x = y ∧ m = n ∧ PyData.eqv a b = true := by
  rw [eqv3] at h
  simp only [Bool.and_eq_true, beq_iff_eq] at h
  exact ⟨h.1, by have := h.2.1; omega, h.2.2.1⟩
theorem g_t : ¬ (("go" : Str) = "tell") := by decide +kernel
theorem g_r : ¬ (("go" : Str) = "read") := by decide +kernel
theorem t_r : ¬ (("tell" : Str) = "read") := by decide +kernel
theorem eqvI {m n : Nat} (h : PyData.eqv (.int (m : Nat)) (.int (n : Nat)) = true) : m = n := by
  have h2 : ((m : Int) == (n : Int)) = true := by
    simpa only [PyData.eqv] using h
  have := beq_iff_eq.mp h2
  omega
theorem eqvT {xs ys : List PyData} : PyData.eqv (.tuple xs) (.tuple ys) = PyData.eqvAll xs ys := by
  simp only [PyData.eqv]
mutual
theorem Tr.inj : ∀ t u : Tr, PyData.eqv t.data u.data = true → t = u
  | .go s q, .go s' q', h => by
    obtain ⟨_, h1, h2⟩ := eqv3_of h
    rw [h1, eqvI h2]
  | .tell n t, .tell n' t', h => by
    obtain ⟨_, h1, h2⟩ := eqv3_of h
    rw [h1, Tr.inj t t' h2]
  | .read p ts, .read p' us, h => by
    obtain ⟨_, h1, h2⟩ := eqv3_of h
    rw [eqvT] at h2
    rw [h1, Trs.inj ts us h2]
  | .go _ _, .tell _ _, h => absurd (eqv3_of h).1 g_t
  | .go _ _, .read _ _, h => absurd (eqv3_of h).1 g_r
  | .tell _ _, .go _ _, h => absurd (eqv3_of h).1.symm g_t
  | .tell _ _, .read _ _, h => absurd (eqv3_of h).1 t_r
  | .read _ _, .go _ _, h => absurd (eqv3_of h).1.symm g_r
  | .read _ _, .tell _ _, h => absurd (eqv3_of h).1.symm t_r
theorem Trs.inj : ∀ t u : Trs, PyData.eqvAll t.data u.data = true → t = u
  | .nil, .nil, _ => rfl
  | .cons t r, .cons t' r', h => by
    simp only [Trs.data, PyData.eqvAll, Bool.and_eq_true] at h
    rw [Tr.inj t t' h.1, Trs.inj r r' h.2]
  | .nil, .cons _ _, h => by simp [Trs.data, PyData.eqvAll] at h
  | .cons _ _, .nil, h => by simp [Trs.data, PyData.eqvAll] at h
end
theorem eqv3_mk (x : Str) (m : Nat) {a : PyData} (h : PyData.eqv a a = true) : PyData.eqv (.tuple [.str x, .int (m : Nat), a]) (.tuple [.str x, .int (m : Nat), a]) = true := by
  rw [eqv3, h]
  simp
mutual
theorem Tr.same : ∀ t : Tr, PyData.eqv t.data t.data = true
  | .go s q => eqv3_mk _ _ (by simp only [PyData.eqv, beq_self_eq_true])
  | .tell n t => eqv3_mk _ _ (Tr.same t)
  | .read p ts => eqv3_mk _ _ (by rw [eqvT]; exact Trs.same ts)
theorem Trs.same : ∀ t : Trs, PyData.eqvAll t.data t.data = true
  | .nil => by simp only [Trs.data, PyData.eqvAll]
  | .cons t r => by simp only [Trs.data, PyData.eqvAll, Tr.same t, Trs.same r, Bool.and_true]
end
/-- the states as data -/
def sdata (ts : List Tr) : PyData := .tuple (ts.map Tr.data)
theorem sd_inj : ∀ ts us : List Tr, PyData.eqvAll (ts.map Tr.data) (us.map Tr.data) = true → ts = us
  | [], [], _ => rfl
  | t :: r, u :: s, h => by
    simp only [List.map_cons, PyData.eqvAll, Bool.and_eq_true] at h
    rw [Tr.inj t u h.1, sd_inj r s h.2]
  | [], _ :: _, h => by simp [PyData.eqvAll] at h
  | _ :: _, [], h => by simp [PyData.eqvAll] at h
theorem sd_same : ∀ ts : List Tr, PyData.eqvAll (ts.map Tr.data) (ts.map Tr.data) = true
  | [] => by simp only [List.map_nil, PyData.eqvAll]
  | t :: r => by simp only [List.map_cons, PyData.eqvAll, Tr.same t, sd_same r, Bool.and_true]
theorem sd_lays : ∀ ts : List Tr, PyData.canLayAll0 (ts.map Tr.data) = true
  | [] => by simp only [List.map_nil, PyData.canLayAll0]
  | t :: r => by simp only [List.map_cons, PyData.canLayAll0, Tr.lays t, sd_lays r, Bool.and_true]
theorem sd_deep {d : Nat} : ∀ {ts : List Tr}, (∀ t ∈ ts, t.depth ≤ d) → PyData.depthAll (ts.map Tr.data) ≤ 2 * d
  | [], _ => by simp only [List.map_nil, PyData.depthAll]; exact Nat.zero_le _
  | t :: r, h => by
    have h1 := Tr.deep t
    have h2 := h t List.mem_cons_self
    have h3 := sd_deep (ts := r) fun x hx => h x (List.mem_cons_of_mem _ hx)
    simp only [List.map_cons, PyData.depthAll]
    omega
theorem sd_shaped {ts : List Tr} (h : ∀ t ∈ ts, t.depth ≤ 31) : SeqAt.shaped (sdata ts) = true := by
  have h1 := sd_deep h
  unfold SeqAt.shaped sdata
  rw [Bool.and_eq_true]
  refine ⟨by simp only [PyData.canLay0, sd_lays], decide_eq_true ?_⟩
  simp only [PyData.depth]
  omega
theorem sd_eqv {ts us : List Tr} (d : Bool) (h : d = true ↔ ts = us) : PyData.eqv (sdata ts) (sdata us) = d := by
  unfold sdata
  rw [eqvT]
  cases d
  · cases e : PyData.eqvAll (ts.map Tr.data) (us.map Tr.data)
    · rfl
    · exact absurd (h.mpr (sd_inj _ _ e)) (by decide)
  · rw [h.mp rfl]
    exact sd_same _
end TR
namespace TR
open PySem PySem.Spec L2 Evl
theorem dig (n : Nat) (h : n < 100) : ((toString ((n : Nat) : Int) : String) : Str).length ≤ 2 := by
  have all : ∀ i : Fin 100, ((toString ((i.val : Nat) : Int) : String) : Str).length ≤ 2 := by decide +kernel
  exact all ⟨n, h⟩
theorem q_go : (reprText ("go" : Str)).length ≤ 6 := by decide +kernel
theorem q_tell : (reprText ("tell" : Str)).length ≤ 6 := by decide +kernel
theorem q_read : (reprText ("read" : Str)).length ≤ 6 := by decide +kernel
theorem shown3 (x : Str) (n : Nat) (a : PyData) (hx : (reprText x).length ≤ 6) (hn : n < 100) : (PyData.shown (.tuple [.str x, .int (n : Nat), a])).length ≤ 16 + a.shown.length := by
  have h1 := fmt_text [reprText x, ((toString ((n : Nat) : Int) : String) : Str), a.shown]
  rw [piled_cons, piled_cons, piled_cons] at h1
  have h2 := dig n hn
  have e0 : piled [] = 0 := rfl
  have e : PyData.shown (.tuple [.str x, .int (n : Nat), a]) = tupleText [reprText x, ((toString ((n : Nat) : Int) : String) : Str), a.shown] := by
    simp only [PyData.shown, PyData.shownAll]
  rw [e]
  omega
mutual
theorem Tr.shown_le {l w n : Nat} (hw : w ≤ 8) (hn : n ≤ 64) : ∀ t : Tr, t.ok l w n → t.data.shown.length + 2 ≤ 40 * t.size
  | .go s q, h => by
    have h1 := shown3 "go" s (.int (q : Nat)) q_go (by have := h.2.1; omega)
    have h2 : (PyData.shown (.int (q : Nat))).length ≤ 2 := by
      have e : PyData.shown (.int (q : Nat)) = ((toString ((q : Nat) : Int) : String) : Str) := by simp only [PyData.shown]
      rw [e]
      exact dig q (by have := h.2.2; omega)
    show (PyData.shown (.tuple [.str "go", .int (s : Nat), .int (q : Nat)])).length + 2 ≤ 40 * 1
    omega
  | .tell k t, h => by
    have h1 := shown3 "tell" k t.data q_tell (by have := h.1; omega)
    have h2 := Tr.shown_le hw hn t h.2
    show (PyData.shown (.tuple [.str "tell", .int (k : Nat), t.data])).length + 2 ≤ 40 * (t.size + 1)
    omega
  | .read p ts, h => by
    have h1 := shown3 "read" p (.tuple ts.data) q_read (by have := h.1; omega)
    have h2 := Trs.shown_le hw hn ts h.2.2
    have h3 := fmt_text (PyData.shownAll ts.data)
    have e : PyData.shown (.tuple ts.data) = tupleText (PyData.shownAll ts.data) := by simp only [PyData.shown]
    rw [e] at h1
    show (PyData.shown (.tuple [.str "read", .int (p : Nat), .tuple ts.data])).length + 2 ≤ 40 * (ts.size + 1)
    omega
theorem Trs.shown_le {l w n : Nat} (hw : w ≤ 8) (hn : n ≤ 64) : ∀ ts : Trs, ts.ok l w n → piled (PyData.shownAll ts.data) ≤ 40 * ts.size
  | .nil, _ => by
    have e : PyData.shownAll Trs.nil.data = [] := by simp only [Trs.data, PyData.shownAll]
    rw [e]
    exact Nat.zero_le _
  | .cons t r, h => by
    have h1 := Tr.shown_le hw hn t h.1
    have h2 := Trs.shown_le hw hn r h.2
    have e : PyData.shownAll (Trs.cons t r).data = t.data.shown :: PyData.shownAll r.data := by simp only [Trs.data, PyData.shownAll]
    rw [e, piled_cons]
    show _ ≤ 40 * (t.size + r.size)
    omega
end
theorem sd_piled {l w n : Nat} (hw : w ≤ 8) (hn : n ≤ 64) : ∀ {ts : List Tr}, (∀ t ∈ ts, t.ok l w n) → piled (PyData.shownAll (ts.map Tr.data)) ≤ 40 * TR.total ts
  | [], _ => by
    have e : PyData.shownAll (([] : List Tr).map Tr.data) = [] := by simp only [List.map_nil, PyData.shownAll]
    rw [e]
    exact Nat.zero_le _
  | t :: r, h => by
    have h1 := Tr.shown_le hw hn t (h t List.mem_cons_self)
    have h2 := sd_piled hw hn (ts := r) fun x hx => h x (List.mem_cons_of_mem _ hx)
    have e : PyData.shownAll ((t :: r).map Tr.data) = t.data.shown :: PyData.shownAll (r.map Tr.data) := by simp only [List.map_cons, PyData.shownAll]
    rw [e, piled_cons]
    show _ ≤ 40 * (t.size + TR.total r)
    omega
theorem sd_shown {l w n : Nat} (hw : w ≤ 8) (hn : n ≤ 64) {ts : List Tr} (h : ∀ t ∈ ts, t.ok l w n) : (sdata ts).shown.length ≤ 40 * TR.total ts + 2 := by
  have h1 := fmt_text (PyData.shownAll (ts.map Tr.data))
  have h2 := sd_piled hw hn h
  have e : (sdata ts).shown = tupleText (PyData.shownAll (ts.map Tr.data)) := by
    unfold sdata
    simp only [PyData.shown]
  rw [e]
  omega
/-- repr of data, where no text is being made -/
structure RP (K : PySem.W.Frag) (xs : List V) (H : Hp) (Q : VK) : Prop where
  ex : ∃ a d, xs = [.ref a] ∧ Dp K H (.ref a) d ∧ d.showable = true ∧ d.hasDict = false ∧ d.depth ≤ 64 ∧ d.shown.length ≤ sizeLine ∧ Q (.str d.shown) H
abbrev rRepr (K : PySem.W.Frag) : List V → Hp → VK → Prop := fun xs H Q => RP K xs H Q
theorem call_reprD {X : Cx} (hg : X.A.guards = some []) (hu : X.A.units + 70 < cLine) : CallR X (.builtin "repr") (rRepr X.K) := by
  intro pins s σ H xs us Q I r h
  obtain ⟨a, d, rfl, hd, h1, h2, h3, h4, q⟩ := h.ex
  obtain ⟨u, rfl, ru⟩ := vals1 r
  obtain ⟨as, rd⟩ := Dp.reads I d _ u hd ru
  cases ru
  exact repr_of_reads' rd h1 (fun e => by rw [h2] at e; cases e) hg (by omega) (fun _ _ e => e) (fun h' u tk hk => ⟨.str d.shown, H, I.kept hk, ⟨u, rfl⟩, q⟩) h4
theorem shI {n : Nat} (h : n < 100) : PyData.showable (.int (n : Nat)) = true := by
  have all : ∀ i : Fin 100, PyData.showable (.int (i.val : Nat)) = true := by
    intro i
    simp only [PyData.showable, decide_eq_true_eq]
    revert i
    decide +kernel
  exact all ⟨n, h⟩
theorem sh3 (x : Str) {n : Nat} {a : PyData} (h : n < 100) (ha : a.showable = true) : PyData.showable (.tuple [.str x, .int (n : Nat), a]) = true := by
  have h2 := shI h
  simp only [PyData.showable, PyData.showableAll, Bool.and_true, Bool.true_and] at h2 ⊢
  rw [h2, ha]
  rfl
theorem hd3 (x : Str) {n : Nat} {a : PyData} (ha : a.hasDict = false) : PyData.hasDict (.tuple [.str x, .int (n : Nat), a]) = false := by
  simp only [PyData.hasDict, PyData.hasDictAll, Bool.or_false, Bool.false_or, ha]
mutual
theorem Tr.shows {l w n : Nat} (hw : w ≤ 8) (hn : n ≤ 64) : ∀ t : Tr, t.ok l w n → t.data.showable = true ∧ t.data.hasDict = false
  | .go s q, h => ⟨sh3 _ (by have := h.2.1; omega) (shI (by have := h.2.2; omega)), hd3 _ (by simp only [PyData.hasDict])⟩
  | .tell k t, h => ⟨sh3 _ (by have := h.1; omega) (Tr.shows hw hn t h.2).1, hd3 _ (Tr.shows hw hn t h.2).2⟩
  | .read p ts, h => ⟨sh3 _ (by have := h.1; omega) (by simp only [PyData.showable]; exact (Trs.shows hw hn ts h.2.2).1), hd3 _ (by simp only [PyData.hasDict]; exact (Trs.shows hw hn ts h.2.2).2)⟩
theorem Trs.shows {l w n : Nat} (hw : w ≤ 8) (hn : n ≤ 64) : ∀ ts : Trs, ts.ok l w n → PyData.showableAll ts.data = true ∧ PyData.hasDictAll ts.data = false
  | .nil, _ => ⟨by simp only [Trs.data, PyData.showableAll], by simp only [Trs.data, PyData.hasDictAll]⟩
  | .cons t r, h => ⟨by simp only [Trs.data, PyData.showableAll, (Tr.shows hw hn t h.1).1, (Trs.shows hw hn r h.2).1, Bool.and_true], by simp only [Trs.data, PyData.hasDictAll, (Tr.shows hw hn t h.1).2, (Trs.shows hw hn r h.2).2, Bool.or_false]⟩
end
theorem sd_shows {l w n : Nat} (hw : w ≤ 8) (hn : n ≤ 64) : ∀ {ts : List Tr}, (∀ t ∈ ts, t.ok l w n) → PyData.showableAll (ts.map Tr.data) = true ∧ PyData.hasDictAll (ts.map Tr.data) = false
  | [], _ => ⟨by simp only [List.map_nil, PyData.showableAll], by simp only [List.map_nil, PyData.hasDictAll]⟩
  | t :: r, h => by
    have h1 := Tr.shows hw hn t (h t List.mem_cons_self)
    have h2 := sd_shows hw hn (ts := r) fun x hx => h x (List.mem_cons_of_mem _ hx)
    exact ⟨by simp only [List.map_cons, PyData.showableAll, h1.1, h2.1, Bool.and_true], by simp only [List.map_cons, PyData.hasDictAll, h1.2, h2.2, Bool.or_false]⟩
/-- the text of the states -/
theorem repr_st {K : PySem.W.Frag} {H : Hp} {a : Addr} {us : List V} {ts : List Tr} {l w n : Nat} {Q : VK} (h : H a = some (.tup us)) (KK : Kids true H us ts) (hw : w ≤ 8) (hn : n ≤ 64) (hok : ∀ t ∈ ts, t.ok l w n) (hd : ∀ t ∈ ts, t.depth ≤ 31) (hs : TR.total ts ≤ 10000)
    (q : Q (.str (sdata ts).shown) H) : RP K [.ref a] H Q := by
  have h1 := sd_shown hw hn hok
  have h2 := sd_shows hw hn hok
  have h3 := sd_deep hd
  refine ⟨⟨a, sdata ts, rfl, .tup (st_of h) KK.dp, ?_, ?_, ?_, Nat.le_trans (show (sdata ts).shown.length ≤ 1000000 by omega) (by decide), q⟩⟩
  · unfold sdata
    simp only [PyData.showable]
    exact h2.1
  · unfold sdata
    simp only [PyData.hasDict]
    exact h2.2
  · unfold sdata
    simp only [PyData.depth]
    omega
end TR
namespace Law
open PySem PySem.Spec PyProof.Rows L2 Evl TR EK
/-! reads, windows and pairs as data -/
def rdata (x : Nat × Nat) : PyData := .tuple [.int (x.1 : Nat), .str (sg x.2)]
def wdata (x : Win) : PyData := .tuple [.int (x.1 : Nat), .int (x.2.1 : Nat), .tuple (x.2.2.map rdata)]
def pdata (x : Nat × Nat) : PyData := .tuple [.int (x.1 : Nat), .int (x.2 : Nat)]
theorem RdA.dp {K : PySem.W.Frag} {H : Hp} : ∀ {us : List V} {rs : List (Nat × Nat)}, RdA H us rs → DpAll K H us (rs.map rdata)
  | _, _, .nil => .nil
  | _, _, .cons h r => .cons (.tup (st_of h) (.cons (.int _) (.cons (.str _) .nil))) (RdA.dp r)
theorem WnA.dp {K : PySem.W.Frag} {H : Hp} : ∀ {us : List V} {rs : List Win}, WnA H us rs → DpAll K H us (rs.map wdata)
  | _, _, .nil => .nil
  | _, _, .cons h1 h2 h3 r => .cons (.tup (st_of h1) (.cons (.int _) (.cons (.int _) (.cons (.tup (st_of h2) h3.dp) .nil)))) (WnA.dp r)
theorem PrA.dp {K : PySem.W.Frag} {H : Hp} : ∀ {us : List V} {rs : List (Nat × Nat)}, PrA H us rs → DpAll K H us (rs.map pdata)
  | _, _, .nil => .nil
  | _, _, .cons h r => .cons (.tup (st_of h) (.cons (.int _) (.cons (.int _) .nil))) (PrA.dp r)
end Law

/-! texts of trees, their words -/
namespace TT
open PySem PySem.Spec PyProof.Rows L2 TR
def S (l : List Nat) : Str := ⟨l.toArray⟩
theorem tl_S (l : List Nat) : TL.tl (S l) = l := by simp [S, TL.tl]
theorem S_app (a b : List Nat) : S a ++ S b = S (a ++ b) := TL.ext_tl (by rw [TL.tl_append, tl_S, tl_S, tl_S])
theorem S_len (a : List Nat) : (S a).length = a.length := by rw [TL.len_tl, tl_S]
/-! ### words: cut at blanks, then without the signs at both ends -/
theorem tw_le (p : Nat → Bool) (l : List Nat) : (l.takeWhile p).length ≤ l.length := (List.takeWhile_sublist p).length_le
def cut : List Nat → List (List Nat)
  | [] => [[]]
  | c :: r => if c = 32 then [] :: cut r else match cut r with
    | [] => [[c]]
    | w :: ws => (c :: w) :: ws
theorem cut_ne : ∀ l, cut l ≠ []
  | [], h => by cases h
  | c :: r, h => by
    unfold cut at h
    split at h
    · cases h
    · split at h <;> cases h
theorem cut_miss {c : Nat} {r : List Nat} (h : c ≠ 32) : ∃ w ws, cut r = w :: ws ∧ cut (c :: r) = (c :: w) :: ws := by
  cases e : cut r with
  | nil => exact absurd e (cut_ne r)
  | cons w ws =>
    refine ⟨w, ws, rfl, ?_⟩
    show (if c = 32 then [] :: cut r else match cut r with | [] => [[c]] | w :: ws => (c :: w) :: ws) = _
    rw [if_neg h, e]
theorem cut_hit (r : List Nat) : cut (32 :: r) = [] :: cut r := rfl
theorem spl_cut : ∀ (l acc : List Nat), TL.spl [32] 0 acc l = match cut l with | [] => [] | w :: ws => (acc ++ w) :: ws
  | [], acc => by
    show [acc] = [acc ++ []]
    rw [List.append_nil]
  | c :: r, acc => by
    by_cases h : c = 32
    · subst h
      rw [TL.spl_hit (show TL.pre [32] (32 :: r) = true from TL.pre_self [32] r), cut_hit]
      show acc :: TL.spl [32] 0 [] r = _
      rw [spl_cut r []]
      show _ = (acc ++ []) :: cut r
      rw [List.append_nil]
      cases e : cut r with
      | nil => exact absurd e (cut_ne r)
      | cons w ws => rfl
    · rw [TL.spl_miss (TL.pre_of_head [] r h), spl_cut r (acc ++ [c])]
      obtain ⟨w, ws, e1, e2⟩ := cut_miss (r := r) h
      rw [e1, e2]
      show (acc ++ [c] ++ w) :: ws = (acc ++ c :: w) :: ws
      rw [List.append_assoc]
      rfl
theorem split_cut (l : List Nat) : Txt.split (S l) (S [32]) = (cut l).map S := by
  refine TL.map_tl_inj ?_
  rw [TL.split_spl _ _ (by rw [tl_S]; simp) (TL.kind_ok (by decide +kernel)), tl_S, tl_S, spl_cut, List.map_map]
  cases e : cut l with
  | nil => exact absurd e (cut_ne l)
  | cons w ws =>
    have e2 : (TL.tl ∘ S) = id := funext fun x => tl_S x
    rw [e2, List.map_id]
    rfl
theorem cut_app : ∀ a b : List Nat, cut (a ++ 32 :: b) = cut a ++ cut b
  | [], b => rfl
  | c :: r, b => by
    rw [List.cons_append]
    by_cases h : c = 32
    · subst h
      rw [cut_hit, cut_hit, cut_app r b]
      rfl
    · obtain ⟨w, ws, e1, e2⟩ := cut_miss (r := r) h
      obtain ⟨w', ws', e3, e4⟩ := cut_miss (r := r ++ 32 :: b) h
      rw [cut_app r b, e1] at e3
      rw [List.cons_append] at e3
      injection e3 with q1 q2
      rw [e4, e2, ← q1, ← q2]
      rfl
/-- the signs at both ends left out -/
def goes (c : Nat) : Bool := [91, 93, 44, 58].contains c
def strip (l : List Nat) : List Nat := ((l.dropWhile goes).reverse.dropWhile goes).reverse
theorem drop_tw (p : Nat → Bool) : ∀ l : List Nat, l.drop (l.takeWhile p).length = l.dropWhile p
  | [] => rfl
  | c :: r => by
    rw [List.takeWhile_cons, List.dropWhile_cons]
    by_cases h : p c = true
    · rw [if_pos h, if_pos h, List.length_cons, List.drop_succ_cons, drop_tw p r]
    · rw [if_neg h, if_neg h]
      rfl
theorem strip_S (l : List Nat) : Txt.stripChars (S l) (S [91, 93, 44, 58]) = S (strip l) := by
  unfold Txt.stripChars
  have eg : (S [91, 93, 44, 58]).cps.contains = goes := by
    funext c
    show (#[91, 93, 44, 58] : Array Nat).contains c = [91, 93, 44, 58].contains c
    simp
  rw [eg, stripBy_eq]
  have e1 : stripLo goes true (S l) = (l.takeWhile goes).length := by
    unfold stripLo
    rw [if_pos rfl]
    show ((TL.tl (S l)).takeWhile goes).length = _
    rw [tl_S]
  have e2 : stripHi goes true (S l) (l.takeWhile goes).length = l.length - ((l.dropWhile goes).reverse.takeWhile goes).length := by
    unfold stripHi
    rw [if_pos rfl, S_len]
    show l.length - (((TL.tl (S l)).drop _).reverse.takeWhile goes).length = _
    rw [tl_S, drop_tw]
  rw [e1, e2]
  refine TL.ext_tl ?_
  rw [TL.tl_strSub, tl_S, tl_S, drop_tw]
  unfold strip
  have h1 := congrArg List.length (drop_tw goes l)
  rw [List.length_drop] at h1
  have h2 := drop_tw goes (l.dropWhile goes).reverse
  rw [← h2]
  have h3 : ((l.dropWhile goes).reverse.takeWhile goes).length ≤ (l.dropWhile goes).length := by
    have := tw_le goes (l.dropWhile goes).reverse
    rw [List.length_reverse] at this
    exact this
  have h4 : (l.takeWhile goes).length ≤ l.length := tw_le goes l
  have e3 : l.length - ((l.dropWhile goes).reverse.takeWhile goes).length - (l.takeWhile goes).length = (l.dropWhile goes).length - ((l.dropWhile goes).reverse.takeWhile goes).length := by omega
  rw [e3]
  generalize l.dropWhile goes = m
  generalize (m.reverse.takeWhile goes).length = k
  rw [List.drop_reverse, List.reverse_reverse]
theorem strip_cons {c : Nat} (h : goes c = true) (l : List Nat) : strip (c :: l) = strip l := by
  unfold strip
  rw [List.dropWhile_cons, if_pos h]
theorem dw_snoc {p : Nat → Bool} {c : Nat} (h : p c = true) : ∀ l : List Nat, (l ++ [c]).dropWhile p = if l.all p = true then [] else l.dropWhile p ++ [c]
  | [] => by
    rw [List.nil_append, List.dropWhile_cons, if_pos h]
    rfl
  | d :: r => by
    rw [List.cons_append, List.dropWhile_cons, List.dropWhile_cons, List.all_cons]
    by_cases hd : p d = true
    · rw [if_pos hd, if_pos hd, hd, Bool.true_and, dw_snoc h r]
    · have hd' : p d = false := by simpa using hd
      rw [if_neg hd, if_neg hd, hd', Bool.false_and, if_neg (by simp)]
      rfl
theorem dw_all {p : Nat → Bool} : ∀ {l : List Nat}, l.all p = true → l.dropWhile p = []
  | [], _ => rfl
  | d :: r, h => by
    rw [List.all_cons, Bool.and_eq_true] at h
    rw [List.dropWhile_cons, if_pos h.1]
    exact dw_all h.2
theorem strip_snoc {c : Nat} (h : goes c = true) (l : List Nat) : strip (l ++ [c]) = strip l := by
  unfold strip
  rw [dw_snoc h]
  by_cases ha : l.all goes = true
  · rw [if_pos ha, dw_all ha]
  · rw [if_neg ha, List.reverse_append, List.reverse_singleton, List.singleton_append, List.dropWhile_cons, if_pos h]
def tok (l : List Nat) : List (List Nat) := (cut l).map strip
theorem tok_app (a b : List Nat) : tok (a ++ 32 :: b) = tok a ++ tok b := by
  unfold tok
  rw [cut_app, List.map_append]
theorem goes_ne {c : Nat} (h : goes c = true) : c ≠ 32 := by
  intro e
  subst e
  revert h
  decide
theorem tok_cons {c : Nat} (h : goes c = true) (l : List Nat) : tok (c :: l) = tok l := by
  unfold tok
  obtain ⟨w, ws, e1, e2⟩ := cut_miss (r := l) (goes_ne h)
  rw [e1, e2, List.map_cons, List.map_cons, strip_cons h]
theorem tok_snoc {c : Nat} (h : goes c = true) : ∀ l : List Nat, tok (l ++ [c]) = tok l := by
  have hc := goes_ne h
  have key : ∀ l : List Nat, ∃ ws w, cut l = ws ++ [w] ∧ cut (l ++ [c]) = ws ++ [w ++ [c]] := by
    intro l
    induction l with
    | nil =>
      refine ⟨[], [], rfl, ?_⟩
      obtain ⟨w, ws, e1, e2⟩ := cut_miss (r := []) hc
      have e3 : w = [] ∧ ws = [] := by
        have : [[]] = w :: ws := e1
        injection this with q1 q2
        exact ⟨q1.symm, q2.symm⟩
      rw [List.nil_append, e2, e3.1, e3.2]
      rfl
    | cons d r ih =>
      obtain ⟨ws, w, e1, e2⟩ := ih
      by_cases hd : d = 32
      · subst hd
        refine ⟨[] :: ws, w, ?_, ?_⟩
        · rw [cut_hit, e1]
          rfl
        · rw [List.cons_append, cut_hit, e2]
          rfl
      · obtain ⟨u, us, f1, f2⟩ := cut_miss (r := r) hd
        obtain ⟨u', us', g1, g2⟩ := cut_miss (r := r ++ [c]) hd
        rw [List.cons_append, f2, g2]
        rw [e1] at f1
        rw [e2] at g1
        cases ws with
        | nil =>
          injection f1 with p1 p2
          injection g1 with q1 q2
          subst p1 p2 q1 q2
          exact ⟨[], d :: w, rfl, rfl⟩
        | cons x xs =>
          injection f1 with p1 p2
          injection g1 with q1 q2
          rw [← p1, ← p2, ← q1, ← q2]
          exact ⟨(d :: x) :: xs, w, rfl, rfl⟩
  intro l
  obtain ⟨ws, w, e1, e2⟩ := key l
  unfold tok
  rw [e1, e2, List.map_append, List.map_append, List.map_singleton, List.map_singleton, strip_snoc h]
theorem cut_one : ∀ {l : List Nat}, 32 ∉ l → cut l = [l]
  | [], _ => rfl
  | c :: r, h => by
    obtain ⟨w, ws, e1, e2⟩ := cut_miss (c := c) (r := r) (fun z => h (by rw [z]; exact List.mem_cons_self))
    rw [cut_one (fun z => h (List.mem_cons_of_mem _ z))] at e1
    injection e1 with q1 q2
    rw [e2, ← q1, ← q2]
theorem dw_none {p : Nat → Bool} {l : List Nat} (h : ∀ c ∈ l, p c = false) : l.dropWhile p = l := by
  cases l with
  | nil => rfl
  | cons c r => rw [List.dropWhile_cons, if_neg (by rw [h c List.mem_cons_self]; simp)]
theorem strip_none {l : List Nat} (h : ∀ c ∈ l, goes c = false) : strip l = l := by
  unfold strip
  rw [dw_none h, dw_none fun c hc => h c (List.mem_reverse.mp hc), List.reverse_reverse]
/-- a word alone -/
def plain (l : List Nat) : Bool := l.all fun c => c != 32 && !goes c
theorem tok_one {l : List Nat} (h : plain l = true) : tok l = [l] := by
  have h2 := List.all_eq_true.mp h
  unfold tok
  rw [cut_one (fun z => by have := h2 _ z; simp at this), List.map_singleton, strip_none fun c hc => ?_]
  have := h2 c hc
  rw [Bool.and_eq_true] at this
  simpa using this.2
/-! ### the texts of trees -/
def wGo : List Nat := [103, 111]
def wTell : List Nat := [116, 101, 108, 108]
def wRead : List Nat := [114, 101, 97, 100]
def num (n : Nat) : List Nat := TL.numL n
mutual
def txt (L : List Nat) : Tr → List Nat
  | .go s q => wGo ++ 32 :: (num s ++ 32 :: num q)
  | .tell n t => wTell ++ 32 :: (num n ++ 32 :: txt L t)
  | .read p ts => wRead ++ 32 :: (num p ++ 32 :: (91 :: (TL.joinL [44, 32] (txts L L ts) ++ [93])))
def txts (L : List Nat) : List Nat → Trs → List (List Nat)
  | c :: l, .cons t r => (c :: 58 :: 32 :: txt L t) :: txts L l r
  | _, _ => []
end
mutual
def toks : List Nat → Tr → List (List Nat)
  | _, .go s q => [wGo, num s, num q]
  | L, .tell n t => wTell :: num n :: toks L t
  | L, .read p ts => wRead :: num p :: tokss L L ts
def tokss : List Nat → List Nat → Trs → List (List Nat)
  | L, c :: l, .cons t r => [c] :: (toks L t ++ tokss L l r)
  | _, _, _ => []
end
theorem num_plain {n : Nat} (h : n < 100) : plain (num n) = true := by
  have : ∀ n < 100, plain (num n) = true := by decide +kernel
  exact this n h
theorem sign_plain {c : Nat} (h : 97 ≤ c) (h2 : c ≤ 122) : plain [c] = true := by
  have : ∀ c < 123, 97 ≤ c → plain [c] = true := by decide +kernel
  exact this c (by omega) h
mutual
/-- numbers of two digits at most -/
def small : Tr → Prop
  | .go s q => s < 100 ∧ q < 100
  | .tell n t => n < 100 ∧ small t
  | .read p ts => p < 100 ∧ smalls ts
def smalls : Trs → Prop
  | .nil => True
  | .cons t r => small t ∧ smalls r
end
mutual
theorem small_of {l w n : Nat} (hw : w ≤ 8) (hn : n ≤ 64) : ∀ {t : Tr}, t.ok l w n → small t
  | .go s q, h => ⟨by have := h.2.1; omega, by have := h.2.2; omega⟩
  | .tell k t, h => ⟨by have := h.1; omega, small_of hw hn h.2⟩
  | .read p ts, h => ⟨by have := h.1; omega, smalls_of hw hn h.2.2⟩
theorem smalls_of {l w n : Nat} (hw : w ≤ 8) (hn : n ≤ 64) : ∀ {ts : Trs}, ts.ok l w n → smalls ts
  | .nil, _ => True.intro
  | .cons t r, h => ⟨small_of hw hn h.1, smalls_of hw hn h.2⟩
end
theorem tok_join : ∀ {ps : List (List Nat)}, ps ≠ [] → tok (TL.joinL [44, 32] ps) = (ps.map tok).flatten
  | [], h => absurd rfl h
  | [p], _ => by
    show tok p = tok p ++ []
    rw [List.append_nil]
  | p :: q :: r, _ => by
    show tok (p ++ ([44, 32] ++ TL.joinL [44, 32] (q :: r))) = tok p ++ ((q :: r).map tok).flatten
    rw [← tok_join (ps := q :: r) (by simp), show p ++ ([44, 32] ++ TL.joinL [44, 32] (q :: r)) = (p ++ [44]) ++ 32 :: TL.joinL [44, 32] (q :: r) by simp, tok_app, tok_snoc (by decide)]
def Low (L : List Nat) : Prop := ∀ c ∈ L, 97 ≤ c ∧ c ≤ 122
theorem txts_ne {L l : List Nat} {ts : Trs} (h1 : l ≠ []) (h2 : ts.list.length = l.length) : txts L l ts ≠ [] := by
  cases l with
  | nil => exact absurd rfl h1
  | cons c l =>
    cases ts with
    | nil => simp [Trs.list] at h2
    | cons t r =>
      intro z
      unfold txts at z
      cases z
mutual
theorem tok_txt {L : List Nat} (hL : Low L) (hne : L ≠ []) {w n : Nat} : ∀ {t : Tr}, t.ok L.length w n → small t → tok (txt L t) = toks L t
  | .go s q, _, h => by
    unfold txt toks
    rw [tok_app, tok_app, tok_one (num_plain h.1), tok_one (num_plain h.2), tok_one (by decide)]
    rfl
  | .tell k t, ho, h => by
    unfold txt toks
    rw [tok_app, tok_app, tok_one (num_plain h.1), tok_txt hL hne ho.2 h.2, tok_one (by decide)]
    rfl
  | .read p ts, ho, h => by
    unfold txt toks
    rw [tok_app, tok_app, tok_one (num_plain h.1), tok_one (by decide), tok_cons (by decide), tok_snoc (by decide), tok_join (txts_ne hne ho.2.1), tok_txts hL hne hL ho.2.1 ho.2.2 h.2]
    rfl
theorem tok_txts {L : List Nat} (hL : Low L) (hne : L ≠ []) {w n : Nat} : ∀ {l : List Nat} {ts : Trs}, Low l → ts.list.length = l.length → ts.ok L.length w n → smalls ts → ((txts L l ts).map tok).flatten = tokss L l ts
  | [], .nil, _, _, _, _ => by
    unfold txts tokss
    rfl
  | [], .cons _ _, _, h, _, _ => by simp [Trs.list] at h
  | _ :: _, .nil, _, h, _, _ => by simp [Trs.list] at h
  | c :: l, .cons t r, hl, hn, ho, hs => by
    have hc := hl c List.mem_cons_self
    have ih := tok_txts hL hne (l := l) (ts := r) (fun d hd => hl d (List.mem_cons_of_mem _ hd)) (by simpa [Trs.list] using hn) ho.2 hs.2
    unfold txts tokss
    rw [List.map_cons, List.flatten_cons, ih, show c :: 58 :: 32 :: txt L t = ([c] ++ [58]) ++ 32 :: txt L t from rfl, tok_app, tok_snoc (by decide), tok_one (sign_plain hc.1 hc.2), tok_txt hL hne ho.1 hs.1]
    simp
end
/-! ### lengths -/
theorem num_len {n : Nat} (h : n < 100) : (num n).length ≤ 2 := by
  have : ∀ n < 100, (num n).length ≤ 2 := by decide +kernel
  exact this n h
theorem num_log {n : Nat} (h : n < 100) : ((n : Nat) : Int).natAbs.log2 < 1920 := by
  have : ∀ n < 100, ((n : Nat) : Int).natAbs.log2 < 1920 := by decide +kernel
  exact this n h
theorem num_S (n : Nat) : Str.ofString (toString ((n : Nat) : Int)) = S (num n) := TL.ext_tl (by rw [tl_S]; exact TL.tl_num n)
theorem numS_len {n : Nat} (h : n < 100) : (Str.ofString (toString ((n : Nat) : Int))).length ≤ 2 := by
  rw [num_S, S_len]
  exact num_len h
theorem app_len (a b : Str) : (a ++ b).length = a.length + b.length := by
  rw [TL.len_tl, TL.len_tl a, TL.len_tl b, TL.tl_append, List.length_append]
def sum2 (ps : List (List Nat)) : Nat := (ps.map fun p => p.length + 2).sum
theorem join_len : ∀ ps : List (List Nat), (TL.joinL [44, 32] ps).length ≤ sum2 ps
  | [] => Nat.le_refl _
  | [p] => by
    show p.length ≤ p.length + 2 + 0
    omega
  | p :: q :: r => by
    have := join_len (q :: r)
    show (p ++ ([44, 32] ++ TL.joinL [44, 32] (q :: r))).length ≤ p.length + 2 + sum2 (q :: r)
    rw [List.length_append, List.length_append]
    show p.length + (2 + _) ≤ _
    omega
mutual
theorem txt_len (L : List Nat) : ∀ {t : Tr}, small t → (txt L t).length + 20 ≤ 40 * t.size
  | .go s q, h => by
    have h1 := num_len h.1
    have h2 := num_len h.2
    unfold txt
    rw [List.length_append, List.length_cons, List.length_append, List.length_cons]
    show 2 + ((num s).length + ((num q).length + 1) + 1) + 20 ≤ 40 * 1
    omega
  | .tell n t, h => by
    have h1 := num_len h.1
    have h2 := txt_len L h.2
    unfold txt
    rw [List.length_append, List.length_cons, List.length_append, List.length_cons]
    show 4 + ((num n).length + ((txt L t).length + 1) + 1) + 20 ≤ 40 * (t.size + 1)
    omega
  | .read p ts, h => by
    have h1 := num_len h.1
    have h2 := txts_len L L h.2
    have h3 := join_len (txts L L ts)
    unfold txt
    rw [List.length_append, List.length_cons, List.length_append, List.length_cons, List.length_cons, List.length_append]
    show 4 + ((num p).length + ((TL.joinL [44, 32] (txts L L ts)).length + 1 + 1 + 1) + 1) + 20 ≤ 40 * (ts.size + 1)
    omega
theorem txts_len (L l : List Nat) : ∀ {ts : Trs}, smalls ts → sum2 (txts L l ts) ≤ 40 * ts.size
  | .nil, _ => by
    unfold txts
    cases l <;> exact Nat.zero_le _
  | .cons t r, h => by
    cases l with
    | nil =>
      unfold txts
      exact Nat.zero_le _
    | cons c l =>
      have h1 := txt_len L h.1
      have h2 := txts_len L l h.2
      unfold txts
      show (c :: 58 :: 32 :: txt L t).length + 2 + sum2 (txts L l r) ≤ 40 * (t.size + r.size)
      rw [List.length_cons, List.length_cons, List.length_cons]
      omega
end
theorem txts_get {L : List Nat} : ∀ {l : List Nat} {ts : Trs} {i c : Nat} {t : Tr}, l[i]? = some c → ts.list[i]? = some t → (txts L l ts)[i]? = some (c :: 58 :: 32 :: txt L t)
  | [], _, _, _, _, h, _ => by simp at h
  | _ :: _, .nil, _, _, _, _, h => by simp [Trs.list] at h
  | d :: l, .cons u r, 0, c, t, h1, h2 => by
    have e1 : d = c := Option.some.inj h1
    have e2 : u = t := Option.some.inj h2
    subst e1 e2
    unfold txts
    rfl
  | d :: l, .cons u r, i + 1, c, t, h1, h2 => by
    unfold txts
    exact txts_get (l := l) (ts := r) (i := i) h1 h2
theorem txts_count {L : List Nat} : ∀ {l : List Nat} {ts : Trs}, ts.list.length = l.length → (txts L l ts).length = l.length
  | [], _, _ => by
    unfold txts
    rfl
  | _ :: _, .nil, h => by simp [Trs.list] at h
  | d :: l, .cons u r, h => by
    unfold txts
    rw [List.length_cons, List.length_cons, txts_count (l := l) (ts := r) (by simpa [Trs.list] using h)]
theorem smalls_mem : ∀ {ts : Trs}, smalls ts → ∀ t ∈ ts.list, small t
  | .nil, _, _, h => nomatch h
  | .cons t r, h, x, hx => by
    rcases List.mem_cons.mp hx with q | q
    · rw [q]
      exact h.1
    · exact smalls_mem h.2 x q
theorem join_S (ps : List (List Nat)) : Txt.join (Str.ofString ", ") (ps.map S) = S (TL.joinL [44, 32] ps) := by
  refine TL.ext_tl ?_
  rw [TL.join_eq, TL.tl_join, tl_S, List.map_map, show TL.tl (Str.ofString ", ") = [44, 32] by decide +kernel, show (TL.tl ∘ S) = id from funext fun x => tl_S x, List.map_id]
theorem sum_len (ps : List (List Nat)) : ((ps.map S).map (·.length)).sum + (ps.map S).length * 2 = sum2 ps := by
  induction ps with
  | nil => rfl
  | cons p r ih =>
    show (S p).length + ((r.map S).map (·.length)).sum + ((r.map S).length + 1) * 2 = p.length + 2 + sum2 r
    rw [S_len]
    omega
theorem go_out (L : List Nat) (s q : Nat) : Str.empty ++ Str.ofString "go " ++ Str.ofString (toString ((s : Nat) : Int)) ++ Str.ofString " " ++ Str.ofString (toString ((q : Nat) : Int)) = S (txt L (.go s q)) := by
  refine TL.ext_tl ?_
  simp only [TL.tl_append, TL.tl_num, tl_S]
  rw [show TL.tl Str.empty = [] from rfl, show TL.tl (Str.ofString "go ") = [103, 111, 32] by decide +kernel, show TL.tl (Str.ofString " ") = [32] by decide +kernel]
  unfold txt num wGo
  simp
theorem tell_out (L : List Nat) (n : Nat) (t : Tr) : Str.empty ++ Str.ofString "tell " ++ Str.ofString (toString ((n : Nat) : Int)) ++ Str.ofString " " ++ S (txt L t) = S (txt L (.tell n t)) := by
  refine TL.ext_tl ?_
  simp only [TL.tl_append, TL.tl_num, tl_S]
  rw [show TL.tl Str.empty = [] from rfl, show TL.tl (Str.ofString "tell ") = [116, 101, 108, 108, 32] by decide +kernel, show TL.tl (Str.ofString " ") = [32] by decide +kernel]
  show _ = txt L (.tell n t)
  conv => rhs; unfold txt
  unfold num wTell
  simp
theorem read_out (L : List Nat) (p : Nat) (ts : Trs) : Str.empty ++ Str.ofString "read " ++ Str.ofString (toString ((p : Nat) : Int)) ++ Str.ofString " [" ++ S (TL.joinL [44, 32] (txts L L ts)) ++ Str.ofString "]" = S (txt L (.read p ts)) := by
  refine TL.ext_tl ?_
  simp only [TL.tl_append, TL.tl_num, tl_S]
  rw [show TL.tl Str.empty = [] from rfl, show TL.tl (Str.ofString "read ") = [114, 101, 97, 100, 32] by decide +kernel, show TL.tl (Str.ofString " [") = [32, 91] by decide +kernel, show TL.tl (Str.ofString "]") = [93] by decide +kernel]
  show _ = txt L (.read p ts)
  conv => rhs; unfold txt
  unfold num wRead
  simp
theorem part_out (c : Nat) (x : List Nat) : Str.empty ++ ⟨#[c]⟩ ++ Str.ofString ": " ++ S x = S (c :: 58 :: 32 :: x) := by
  refine TL.ext_tl ?_
  simp only [TL.tl_append, tl_S]
  rw [show TL.tl Str.empty = [] from rfl, show TL.tl (Str.ofString ": ") = [58, 32] by decide +kernel]
  rfl
theorem emp_l (x : Str) : Str.empty ++ x = x := TL.ext_tl (by rw [TL.tl_append]; rfl)
end TT

/-! zip of a text and a tuple -/
namespace ZT
open PySem PySem.Spec PyProof.Rows L2
def ItzX (K : PySem.W.Frag) (x : Str) (b : Addr) (ys : List V) : It :=
  ⟨fun i H => SqT K H b ys ∧ i < x.cps.size ∧ i < ys.length,
   fun i H v H' => ∃ T c y, v = .ref T ∧ H T = none ∧ H' = upd H T (.tup [.str ⟨#[c]⟩, y]) ∧ x.cps[i]? = some c ∧ ys[i]? = some y,
   fun i H => SqT K H b ys ∧ i = min x.cps.size ys.length⟩
def StX (x : Str) (t : Tok) (b z TI TO i1 i2 : Addr) (i : Nat) (h : Heap) : Prop :=
  IsZip h z TI TO .none ∧ IsTupOf2 h TI (.ref i1) (.ref i2) ∧ (∃ a1 a2, IsTupOf2 h TO a1 a2) ∧ h.IsStrIter i1 (strIterType x) x t i ∧ h.IsTupleIter i2 b i
theorem walkX {prog : Program} {w : World} {A : Around} (hh : A.handled = none) {z TI TO i1 i2 b : Addr} (S : ZipSep2 z TI TO i1 i2 [i1] [i2, b]) (hne : b ≠ i2) (x : Str) (t : Tok) (items : Array Value) :
    WalksT prog w A z (z :: TI :: TO :: ([i1] ++ [i2, b])) [z, TO, i1, i2] (min x.cps.size items.size)
      (fun i vals => ∃ v1 v2, (∃ c u, x.cps[i]? = some c ∧ v1 = .str ⟨#[c]⟩ u) ∧ items[i]? = some v2 ∧ vals = #[v1, v2])
      (fun i h => IsZip h z TI TO .none ∧ IsTupOf2 h TI (.ref i1) (.ref i2) ∧ (∃ a1 a2, IsTupOf2 h TO a1 a2) ∧ h.IsStrIter i1 (strIterType x) x t i ∧ (h.IsTupleIter i2 b i ∧ h.IsTuple b items))
      (fun i T h => IsZip h z TI TO (rawInt T) ∧ IsTupOf2 h TI (.ref i1) (.ref i2) ∧ (∃ a1 a2, IsTupOf2 h TO a1 a2) ∧ h.IsStrIter i1 (strIterType x) x t (i + 1) ∧ (h.IsTupleIter i2 b (i + 1) ∧ h.IsTuple b items) ∧ T ≠ z ∧ T ≠ TO ∧ T ≠ i1 ∧ T ≠ i2) :=
  WalksT.zipD2 S (ZS.drawsS (A := A.in1) hh i1 x t) (Draws.tuple (A := A.in1) hh i2 b hne items)
theorem turnX {P : Program} {w : World} {K : PySem.W.Frag} {elts : List Expr} {kk : Nat} {tpos : Pos} {z TI TO i1 i2 b : Addr} (S : ZipSep2 z TI TO i1 i2 [i1] [i2, b]) (hne : b ≠ i2) (x : Str) (t : Tok) (ys : List V) :
    Turn P w K (.Tuple elts kk tpos) (ItzX K x b ys) [z, TI, TO, i1, i2] z (StX x t b z TI TO i1 i2) where
  mem := List.mem_cons_self
  obj := fun i h st c hc => by
    obtain ⟨q1, q2, ⟨a1, a2, q3⟩, ⟨o1, e1, _, d1⟩, ⟨o2, e2, _, d2⟩⟩ := st
    rcases ZS.fp5 hc with q | q | q | q | q
    all_goals subst q
    · exact ⟨_, q1, fun v q => nomatch q⟩
    · exact ⟨_, q2, fun v q => nomatch q⟩
    · exact ⟨_, q3, fun v q => nomatch q⟩
    · exact ⟨o1, e1, fun v q => by rw [d1] at q; cases q⟩
    · exact ⟨o2, e2, fun v q => by rw [d2] at q; cases q⟩
  keep := fun i h h' st k => by
    obtain ⟨q1, q2, ⟨a1, a2, q3⟩, ⟨o1, e1, r1⟩, ⟨o2, e2, r2⟩⟩ := st
    exact ⟨k z (by simp) _ q1, k TI (by simp) _ q2, ⟨a1, a2, k TO (by simp) _ q3⟩, ⟨o1, k i1 (by simp) _ e1, r1⟩, ⟨o2, k i2 (by simp) _ e2, r2⟩⟩
  item := by
    intro X hP hw hK hc i pins s σ H E I hf st hg
    subst hP hw hK
    obtain ⟨hq, hx1, hx2⟩ := hg
    obtain ⟨its, rv, p, _⟩ := I.tuple hq
    have ln := rv.length
    have W := walkX (prog := X.prog) (w := X.w) (A := X.A) (I.ok.hd hc) S hne x t its.toArray
    have hlt : i < min x.cps.size its.toArray.size := by
      have : i < its.toArray.size := by
        simp
        omega
      omega
    obtain ⟨q1, q2, q3, q4, q5⟩ := st
    refine W.item i s _ _ hlt ⟨q1, q2, q3, q4, q5, p⟩ fun T vals h' tk hv hT hIs hm hk => ?_
    refine ⟨.ref T, rfl, ?_⟩
    refine W.go elts kk tpos i T { s with heap := h', toks := tk } _ _ hm fun h2 st2 hk2 => ?_
    obtain ⟨v1, v2, ⟨c, u1, hc1, rfl⟩, hd1, rfl⟩ := hv
    obtain ⟨y, hy, ry⟩ : ∃ y, ys[i]? = some y ∧ RelV y v2 := by
      have e1 : its[i]? = some v2 := by simpa using hd1
      obtain ⟨y, hy⟩ : ∃ y, ys[i]? = some y := ⟨_, List.getElem?_eq_getElem hx2⟩
      obtain ⟨v3, e3, r3⟩ := rv.get hy
      rw [e1] at e3
      cases e3
      exact ⟨y, hy, r3⟩
    have ap : T ∉ [z, TO, i1, i2] := W.apart i T h' hm
    have up : ∀ b o, b ∉ [z, TO, i1, i2] → s.heap.get? b = some o → h2.get? b = some o := fun b o hb e => hk2 b o hb (hk b o hb e)
    have hT2 : h2.IsTuple T #[.str ⟨#[c]⟩ u1, v2] := hIs.at fun o e => hk2 T o ap e
    obtain ⟨oT, eT, cT, nT, dT⟩ := hT2
    have new : ObjOk X.prog X.w (upd H T (.tup [.str ⟨#[c]⟩, y])) h2 T (.tup [.str ⟨#[c]⟩, y]) :=
      ⟨by show 2 ≤ sizeLine; decide, [.str ⟨#[c]⟩ u1, v2], .cons ⟨u1, rfl⟩ (.cons ry .nil), ⟨oT, eT, cT, nT, dT⟩⟩
    have sub : ∀ b, b ∉ [z, TI, TO, i1, i2] → b ∉ [z, TO, i1, i2] := fun b hb hb2 => hb (by
      have q : b = z ∨ b = TO ∨ b = i1 ∨ b = i2 := by simpa using hb2
      rcases q with q | q | q | q <;> simp [q])
    have I1 := I.turnedNew (t' := tk) (ch := [z, TI, TO, i1, i2]) (fun b o hb e => up b o (sub b hb) e) hf hT new
    obtain ⟨s1, s2, s3, s4, s5, s6⟩ := st2
    refine ⟨.ref T, _, I1, rfl, ⟨T, c, y, rfl, I.hok.fresh hT, rfl, hc1, hy⟩, ⟨s1, s2, s3, s4, s5⟩, fun b hb => ?_⟩
    have hlb : b < s.heap.objs.size := by
      obtain ⟨a1, a2, r3⟩ := q3
      obtain ⟨o1, e1, r1⟩ := q4
      obtain ⟨o2, e2, r2⟩ := q5
      rcases ZS.fp5 hb with q | q | q | q | q
      · rw [q]; exact Heap.lt_size q1
      · rw [q]; exact Heap.lt_size q2
      · rw [q]; exact Heap.lt_size r3
      · rw [q]; exact Heap.lt_size e1
      · rw [q]; exact Heap.lt_size e2
    rw [upd_ne (show b ≠ T from fun e => absurd hT (by rw [← e]; exact Nat.not_le.mpr hlb))]
    exact (hf b hb).1
  done := by
    intro X hP hw hK hc i pins s σ H E I hf st hg
    subst hP hw hK
    obtain ⟨hq, hi⟩ := hg
    obtain ⟨its, rv, p, _⟩ := I.tuple hq
    have ln := rv.length
    have W := walkX (prog := X.prog) (w := X.w) (A := X.A) (I.ok.hd hc) S hne x t its.toArray
    have e : i = min x.cps.size its.toArray.size := by
      rw [hi, ln]
      rfl
    subst e
    obtain ⟨q1, q2, q3, q4, q5⟩ := st
    refine W.done s _ _ ⟨q1, q2, q3, q4, q5, p⟩ fun h' tk hk => ⟨rfl, ?_⟩
    refine I.turnedL (t' := tk) (ch := [z, TI, TO, i1, i2]) (fun b o hb e => hk b o (fun hb2 => hb ?_) e) hf
    have q : b = z ∨ b = TO ∨ b = i1 ∨ b = i2 := by simpa using hb2
    rcases q with q | q | q | q <;> simp [q]
  self := fun A i s Q E st h => wpAny_pyIter_zip st.1 h
abbrev g1 (h : Heap) (x : Str) (t : Tok) : Heap := h.push { cls := .type (strIterType x), data := .fields #[.str x t, .int 0 0] }
abbrev g2 (h : Heap) (x : Str) (t : Tok) (b : Addr) : Heap := (g1 h x t).push { cls := .type "tuple_iterator", data := .fields #[.ref b, .int 0 0] }
abbrev g3 (h : Heap) (x : Str) (t : Tok) (b : Addr) : Heap := (g2 h x t b).push { cls := .type "tuple", data := .seq #[.ref h.objs.size, .ref (g1 h x t).objs.size] }
abbrev g4 (h : Heap) (x : Str) (t : Tok) (b : Addr) : Heap := (g3 h x t b).push { cls := .type "tuple", data := .seq #[.none, .none] }
abbrev g5 (h : Heap) (x : Str) (t : Tok) (b : Addr) : Heap := (g4 h x t b).push { cls := .type "zip", data := .fields #[.none, .bool false, .bool false, .ref (g2 h x t b).objs.size, .ref (g3 h x t b).objs.size] }
theorem meetsX (x : Str) (t : Tok) (b : Addr) (ys : Array Value) :
    Meets (Builtin.«zip.__new__» ⟨[.type "zip", .str x t, .ref b], []⟩) (fun _ R s => s.heap.IsTuple b ys ∧ R (.ok (.ret (.ref (g4 s.heap x t b).objs.size))) { s with heap := g5 s.heap x t b }) :=
  .of_wp fun prog w A R s h => by
    obtain ⟨hp, gg, d, tk, os⟩ := s
    obtain ⟨hl, h⟩ := h
    have hsub := sub_zip
    have hL2 : Heap.IsTuple (Shared.heap ⟨hp.push { cls := .type (strIterType x), data := .fields #[.str x t, .int 0 0] }, gg, d, tk, os⟩) b ys := Heap.IsTuple.push hl _
    wp_walk using wpAny_pyIter_strU, wpAny_pyIter_tuple hL2
    exact ⟨_, rfl, h⟩
theorem callX {prog : Program} {w : World} {A : Around} {E : Value → Shared → Prop} {s : Shared} {x : Str} {t : Tok} {b : Addr} {ys : Array Value} {Q : Value → Shared → Prop} (hb : s.heap.IsTuple b ys)
    (h : ∀ h', StX x t b (s.heap.objs.size + 4) (s.heap.objs.size + 2) (s.heap.objs.size + 3) s.heap.objs.size (s.heap.objs.size + 1) 0 h' → (∀ c o, s.heap.get? c = some o → h'.get? c = some o) → Q (.ref (s.heap.objs.size + 4)) { s with heap := h' }) :
    wpAny (model prog w) A (call (.type "zip") [.str x t, .ref b]) Q E s := by
  refine callType_new F.called_zip (by decide) (F.typeCall_zip_2 _ _) (F.newCall_zip_2 _ _) (fun obj => F.args_object_init_3 obj _ _) F.entry_zip_new (meetsX x t b ys) ⟨hb, ?_⟩
  have n1 : (g1 s.heap x t).objs.size = s.heap.objs.size + 1 := Heap.size_push ..
  have n2 : (g2 s.heap x t b).objs.size = s.heap.objs.size + 2 := by rw [Heap.size_push, n1]
  have n3 : (g3 s.heap x t b).objs.size = s.heap.objs.size + 3 := by rw [Heap.size_push, n2]
  have n4 : (g4 s.heap x t b).objs.size = s.heap.objs.size + 4 := by rw [Heap.size_push, n3]
  have k5 : (g5 s.heap x t b).get? (g4 s.heap x t b).objs.size = some _ := Heap.get?_push_size _ rfl
  have k4 : (g5 s.heap x t b).get? (g3 s.heap x t b).objs.size = some _ := Heap.get?_push_of_some _ (Heap.get?_push_size _ rfl)
  have k3 : (g5 s.heap x t b).get? (g2 s.heap x t b).objs.size = some _ := Heap.get?_push_of_some _ (Heap.get?_push_of_some _ (Heap.get?_push_size _ rfl))
  have k2 : (g5 s.heap x t b).get? (g1 s.heap x t).objs.size = some _ := Heap.get?_push_of_some _ (Heap.get?_push_of_some _ (Heap.get?_push_of_some _ (Heap.get?_push_size _ rfl)))
  have k1 : (g5 s.heap x t b).get? s.heap.objs.size = some _ := Heap.get?_push_of_some _ (Heap.get?_push_of_some _ (Heap.get?_push_of_some _ (Heap.get?_push_of_some _ (Heap.get?_push_size _ rfl))))
  show _ ∧ _
  rw [n2, n3, n4] at k5
  rw [n1, n2] at k3
  rw [n3] at k4
  rw [n1] at k2
  rw [n4]
  exact ⟨⟨_, k5, rfl⟩, h _ ⟨k5, k3, ⟨_, _, k4⟩, ⟨_, k1, rfl, rfl⟩, ⟨_, k2, rfl, rfl⟩⟩ fun c o e =>
    Heap.get?_push_of_some _ (Heap.get?_push_of_some _ (Heap.get?_push_of_some _ (Heap.get?_push_of_some _ (Heap.get?_push_of_some _ e))))⟩
theorem sepX {n b : Nat} (h : b < n) : ZipSep2 (n + 4) (n + 2) (n + 3) n (n + 1) [n] [n + 1, b] := by
  have k1 : ∀ k : Nat, n + k ≠ b := fun k e => by omega
  constructor <;> first | omega | (simp; done) | (simp; exact k1 _) | (simp; exact k1 0)
def iZipX (K : PySem.W.Frag) (ta : TA) : TI := fun σ H R => ta σ H fun vs H1 => ∃ x b ys, vs = [.str x, .ref b] ∧ SqT K H1 b ys ∧ R (ItzX K x b ys) H1
theorem pi_zipX {X : Cx} {e e2 : Expr} {ta : TA} {p pos tpos : Pos} {elts : List Expr} {kk : Nat} (hg : Gl X "zip") (hm : X.mg "zip" = none) (ha : PA X [e, e2] ta)
    (hs : starEach [e, e2] X.env = (false, eval e X.env) :: starEach [e2] X.env := by rfl) (hpl : (backTo pos (starEach [e2] X.env)).any (·.1) = false := by rfl) :
    PI X (.Tuple elts kk tpos) (.Call (.Name "zip" p) [e, e2] [] pos) (iZipX X.K ta) := by
  refine ⟨fun pins s σ H R I h => ?_⟩
  refine Call_ (ld_blt I hg hm boot_zip (callWith_type1 (thn (ha.run pos pins s σ H _ I h) fun us s1 ⟨vs, H1, I1, r1, q1⟩ => ?_) hs hpl))
  obtain ⟨x, b, ys, ex, hq, q⟩ := q1
  subst ex
  cases r1 with
  | cons r rr =>
    cases rr with
    | cons r' rr =>
      cases rr
      obtain ⟨t, rfl⟩ := r
      cases r'
      obtain ⟨its, rv, p1, _⟩ := I1.tuple hq
      obtain ⟨o1, ho1, _⟩ := id p1
      have hb := Heap.lt_size ho1
      refine callX (show s1.heap.IsTuple b its.toArray from p1) fun h' st hk => wpAny_pyIter_zip st.1 ?_
      have I2 : Inv X pins σ H1 { s1 with heap := h' } := I1.kept (t' := s1.toks) hk
      refine ⟨s1.heap.objs.size + 4, _, _, _, H1, rfl, I2, turnX (sepX hb) (Nat.ne_of_lt (Nat.lt_succ_of_lt hb)) x t ys, st, fun c hcm => ?_, q⟩
      have hle : s1.heap.objs.size ≤ c := by
        rcases ZS.fp5 hcm with z | z | z | z | z <;> rw [z] <;> first | exact Nat.le_add_right _ _ | exact Nat.le_refl _
      exact I1.fpOk hle (I1.hok.fresh hle)
/-- a comprehension over it -/
theorem lc_zipX {K : PySem.W.Frag} {x : Str} {b : Addr} {ys : List V} {g : TG} {tt : TT} {te : TE} {vs : List Nat} {σ : L2.St} {H1 : Hp} {D : Addr} {Qd : Hp → Prop} (hl : x.cps.size = ys.length) (Pv : Nat → Hp → Prop) (h0 : Pv 0 (upd H1 D (.lst []))) (hq : ∀ i H, Pv i H → H b = some (.tup ys))
    (hs : ∀ i c y T H, x.cps[i]? = some c → ys[i]? = some y → Pv i H → H T = none → g (.ref T) (wipe σ vs) (upd H T (.tup [.str ⟨#[c]⟩, y])) fun σ2 H2 => wipe σ2 vs = wipe σ vs ∧ tt σ2 H2 fun b H3 =>
      if b = true then te σ2 H3 fun z H4 => ∃ acc, H4 D = some (.lst acc) ∧ acc.length < sizeLine ∧ Pv (i + 1) (upd H4 D (.lst (acc ++ [z]))) else Pv (i + 1) H3) (hd : ∀ H, Pv ys.length H → Qd H) :
    ∃ W : Nat → Nat → Hp → Prop, (∃ m, W 0 m (upd H1 D (.lst []))) ∧ ∀ i m H, W i m H →
      ((ItzX K x b ys).stop i H ∧ Qd H) ∨ ((ItzX K x b ys).go i H ∧ ∃ Nx : Hp → Prop, (∀ H', Nx H' → ∃ m', m' < m ∧ W (i + 1) m' H') ∧ ∀ v H', (ItzX K x b ys).yld i H v H' → g v (wipe σ vs) H' fun σ2 H2 => wipe σ2 vs = wipe σ vs ∧ tt σ2 H2 fun b H3 =>
        if b = true then te σ2 H3 fun z H4 => ∃ acc, H4 D = some (.lst acc) ∧ acc.length < sizeLine ∧ Nx (upd H4 D (.lst (acc ++ [z]))) else Nx H3) := by
  refine ⟨fun i m H => i + m = ys.length ∧ Pv i H, ⟨_, Nat.zero_add _, h0⟩, ?_⟩
  rintro i m H ⟨e, p⟩
  have hb := hq i H p
  by_cases hm : m = 0
  · have e2 : i = ys.length := by omega
    refine .inl ⟨⟨Evl.st_of hb, by omega⟩, hd H ?_⟩
    rw [← e2]
    exact p
  · refine .inr ⟨⟨Evl.st_of hb, by omega, by omega⟩, Pv (i + 1), fun H' p' => ⟨m - 1, by omega, by omega, p'⟩, ?_⟩
    rintro v H' ⟨T, c, y, rfl, hT, rfl, hc, hy⟩
    exact hs i c y T H hc hy p hT
end ZT

namespace Law
open PySem PySem.Spec PyProof.Rows L2 Evl TR
/-! ### a tree written -/
def spTxt (d : Nat) : Sp := fun vs H Q _ => ∃ (t : Tr) (v : V) (L : List Nat) (w n : Nat), vs = [.str (tx L), v] ∧ TR.TA true H v t ∧ t.ok L.length w n ∧ TT.small t ∧ L.length ≤ 4 ∧ t.depth ≤ d ∧ t.size ≤ 2000 ∧ ∀ H', Ex H H' → Q (.str (tx (TT.txt L t))) H'
theorem lit_go : (Str.ofString "go ").length = 3 := by decide +kernel
theorem lit_tell : (Str.ofString "tell ").length = 5 := by decide +kernel
theorem lit_read : (Str.ofString "read ").length = 5 := by decide +kernel
theorem lit_sp : (Str.ofString " ").length = 1 := by decide +kernel
theorem lit_br : (Str.ofString " [").length = 2 := by decide +kernel
theorem lit_rb : (Str.ofString "]").length = 1 := by decide +kernel
theorem lit_co : (Str.ofString ": ").length = 2 := by decide +kernel
theorem emp_len : Str.empty.length = 0 := rfl
section
variable {P : Program} {w : World} {K : PySem.W.Frag} {mg : Str → Option Value} {base : Heap}
theorem ok_txt {f : Addr} {fd : FuncData} (F : Fun K "tree_text" "tree_text" s_tree_text f fd) (T : Tx mg) (g : mg "tree_text" = some (.ref f)) (b : Binds K fd ["letters", "tree"] []) : ∀ d : Nat, FnOk P w K mg base CX0 (d + 1) f fd ["letters", "tree"] (spTxt d)
  | 0 => by
    refine F.ok sc_tree_text (fun vs H Q E h => ?_) (fun cdv A outer s H vs Q E hr h => ?_)
    · obtain ⟨t, v, L, wd, n, rfl, _⟩ := h
      rfl
    · obtain ⟨t, v, L, wd, n, rfl, hT, hok, hsm, hL, hd, hsz, q⟩ := h
      exfalso
      cases t
      · exact absurd hd (by show ¬ (1 ≤ 0); omega)
      · exact absurd hd (by show ¬ (_ + 1 ≤ 0); omega)
      · exact absurd hd (by show ¬ (_ + 1 ≤ 0); omega)
  | d + 1 => by
    have c_tree_text : Kn P w K mg base "tree_text" ["letters", "tree"] (d + 1) (spTxt d) := ⟨f, fd, ok_txt F T g b d, g, F.kp, b⟩
    refine F.ok sc_tree_text (fun vs H Q E h => ?_) (fun cdv A outer s H vs Q E hr h => ?_)
    · obtain ⟨t, v, L, wd, n, rfl, _⟩ := h
      rfl
    · obtain ⟨t, v, L, wd, n, rfl, hT, hok, hsm, hL, hd, hsz, q⟩ := h
      have hlen := TT.txt_len L hsm
      refine ⟨_, (pss_cons (ps_asg (pv 1) (TR.pg_seq (by rfl) (pgs_cons (pg_name (i := 2) sc_tree_text.nd rfl (Or.inl rfl)) (pgs_cons (pg_name (i := 3) sc_tree_text.nd rfl (Or.inl rfl)) (pgs_cons (pg_name (i := 4) sc_tree_text.nd rfl (Or.inl rfl)) pgs_nil)))))
      (pss_cons (ps_if (pt_cmpR op_eq (pv 2) pe_str (nomark _)) (pss_one (ps_ret (pe_joined (PJ.cons pe_str (PJ.cons (pe_fmt (pv 3)) (PJ.cons pe_str (PJ.cons (pe_fmt (pv 4)) PJ.nil))))))) pss_nil)
      (pss_cons (ps_if (pt_cmpR op_eq (pv 2) pe_str (nomark _)) (pss_one (ps_ret (pe_joined (PJ.cons pe_str (PJ.cons (pe_fmt (pv 3)) (PJ.cons pe_str (PJ.cons (pe_fmt (pe_call c_tree_text.ok (hr.mono (by omega)) (by rfl) c_tree_text.g c_tree_text.kp c_tree_text.b .nil pass0 (pa_cons (pv 0) (pa_cons (pv 4) pa_nil)))) PJ.nil))))))) pss_nil)
      (pss_cons (ps_setLc (i := 5) (own := [("letter", 6), ("inner", 7)]) (g := gTup K 2 (gCons (gName 6) (gCons (gName 7) gNil))) (tt := tYes) rfl sc_tree_text.nd rfl rfl (sw_true rfl rfl rfl (by decide +kernel)) (ZT.pi_zipX (by rfl) T.zip (pa_cons (pv 0) (pa_cons (pv 4) pa_nil))) (blkOk_by (N := N_tree_text) (sc := defScope s_tree_text) (by decide +kernel)) (fun _ _ _ _ _ => (pg_tup (by rfl) (pgs_cons (pg_name (i := 6) sc_tree_text.nd rfl (Or.inl rfl)) (pgs_cons (pg_name (i := 7) sc_tree_text.nd rfl (Or.inl rfl)) pgs_nil)))) (fun _ _ _ _ _ => pts_nil) (fun _ _ _ _ _ => (pe_joined (PJ.cons (pe_fmt (pv 6)) (PJ.cons pe_str (PJ.cons (pe_fmt (pe_call c_tree_text.ok (hr.mono (by omega)) (by rfl) c_tree_text.g c_tree_text.kp c_tree_text.b .nil pass0 (pa_cons (pv 0) (pa_cons (pv 7) pa_nil)))) PJ.nil))))))
      (pss_cons (ps_set (i := 8) sc_tree_text.nd rfl (Or.inl rfl) (pe_join pe_str (pv 5)))
      (pss_one (ps_ret (pe_joined (PJ.cons pe_str (PJ.cons (pe_fmt (pv 3)) (PJ.cons pe_str (PJ.cons (pe_fmt (pv 8)) (PJ.cons pe_str PJ.nil))))))))))))), ?_⟩
      cases hT with
      | @go a s' q' h =>
        have l1 := TT.numS_len hsm.1
        have l2 := TT.numS_len hsm.2
        refine ⟨_, rfl, gSeq_of h rfl ⟨_, _, rfl, _, _, rfl, _, _, rfl, rfl, ?_⟩⟩
        refine ⟨_, rfl, rfl, _, rfl, iteD rfl ?_⟩
        refine ⟨_, rfl, by refine sz_of ?_; simp only [TT.app_len, lit_go, lit_tell, lit_read, lit_sp, lit_br, lit_rb, lit_co, emp_len]; omega, _, rfl, .inr ⟨_, rfl, TT.num_log hsm.1, _, rfl, by refine sz_of ?_; simp only [TT.app_len, lit_go, lit_tell, lit_read, lit_sp, lit_br, lit_rb, lit_co, emp_len]; omega, _, rfl, by refine sz_of ?_; simp only [TT.app_len, lit_go, lit_tell, lit_read, lit_sp, lit_br, lit_rb, lit_co, emp_len]; omega, _, rfl, .inr ⟨_, rfl, TT.num_log hsm.2, _, rfl, by refine sz_of ?_; simp only [TT.app_len, lit_go, lit_tell, lit_read, lit_sp, lit_br, lit_rb, lit_co, emp_len]; omega, ?_⟩⟩⟩
        have q2 := q H (Ex.refl _)
        rw [show tx (TT.txt L (.go s' q')) = _ from (TT.go_out L s' q').symm] at q2
        exact q2
      | @tell a n' v' t' h r0 =>
        have hd' : t'.depth ≤ d := by
          have : t'.depth + 1 ≤ d + 1 := hd
          omega
        have hs' : t'.size ≤ 1999 := by
          have : t'.size + 1 ≤ 2000 := hsz
          omega
        have l1 := TT.numS_len hsm.1
        have l2 := TT.txt_len L hsm.2
        refine ⟨_, rfl, gSeq_of h rfl ⟨_, _, rfl, _, _, rfl, _, _, rfl, rfl, ?_⟩⟩
        refine ⟨_, rfl, rfl, _, rfl, iteDn tell_ne_go ?_⟩
        refine ⟨_, rfl, rfl, _, rfl, iteD rfl ?_⟩
        refine ⟨_, rfl, by refine sz_of ?_; simp only [TT.app_len, lit_go, lit_tell, lit_read, lit_sp, lit_br, lit_rb, lit_co, emp_len]; omega, _, rfl, .inr ⟨_, rfl, TT.num_log hsm.1, _, rfl, by refine sz_of ?_; simp only [TT.app_len, lit_go, lit_tell, lit_read, lit_sp, lit_br, lit_rb, lit_co, emp_len]; omega, _, rfl, by refine sz_of ?_; simp only [TT.app_len, lit_go, lit_tell, lit_read, lit_sp, lit_br, lit_rb, lit_co, emp_len]; omega, _, rfl, _, rfl, t', v', L, wd, n, rfl, r0, hok.2, hsm.2, hL, hd', by omega, fun H1 e1 => ?_⟩⟩
        have l3 : (tx (TT.txt L t')).length ≤ 80000 := by
          rw [tx_len]
          omega
        refine .inl ⟨_, rfl, sz_of (by omega), _, rfl, by refine sz_of ?_; simp only [TT.app_len, lit_go, lit_tell, lit_read, lit_sp, lit_br, lit_rb, lit_co, emp_len]; omega, ?_⟩
        have q2 := q H1 e1
        rw [show tx (TT.txt L (.tell n' t')) = _ from (TT.tell_out L n' t').symm] at q2
        exact q2
      | @read a b' p' us ts h hb r0 =>
        have hd' : ts.depth ≤ d := by
          have : ts.depth + 1 ≤ d + 1 := hd
          omega
        have hs' : ts.size ≤ 1999 := by
          have : ts.size + 1 ≤ 2000 := hsz
          omega
        have KK := r0.kids
        have lks := KK.len
        have l1 := TT.numS_len hsm.1
        have l2 := TT.txts_len L L hsm.2
        have lcount := TT.txts_count (L := L) (l := L) hok.2.1
        refine ⟨_, rfl, gSeq_of h rfl ⟨_, _, rfl, _, _, rfl, _, _, rfl, rfl, ?_⟩⟩
        refine ⟨_, rfl, rfl, _, rfl, iteDn read_ne_go ?_⟩
        refine ⟨_, rfl, rfl, _, rfl, iteDn read_ne_tell ?_⟩
        refine ⟨_, rfl, _, rfl, _, _, _, rfl, st_of hb, fun D hD => ?_⟩
        refine ZT.lc_zipX (g := gTup K 2 (gCons (gName 6) (gCons (gName 7) gNil))) (tt := tYes) (te := fun σ H Q => tJs [tFmt (tVar 6), tC (V.str (Str.ofString ": ")), tFmt (tCall (spTxt d) [] E0 (tCons (tVar 0) (tCons (tVar 7) tNil)))] Str.empty σ H fun out H1 => Q (V.str out) H1) (vs := [6, 7]) (x := tx L) (b := b') (ys := us) (by rw [tx_size, lks, hok.2.1]) (fun i H' => Ex H H' ∧ H' D = some (.lst (((((TT.txts L L ts).take i).map TT.S).map V.str)))) ⟨Ex.new hD, upd_same⟩ (fun i H' p => p.1 _ _ hb) (fun i c y T' H' hc hy p hT => ?_) (fun H' p => ?_)
        · obtain ⟨e6, hz⟩ := p
          have e7 := e6.trans (Ex.new (o := .tup [.str ⟨#[c]⟩, y]) hT)
          obtain ⟨kt, hkt, hka⟩ := KK.get hy
          have mem := List.mem_of_getElem? hkt
          have dk := Trs.depth_mem kt mem
          have sk : kt.size ≤ ts.size := by
            have h1 := size_mem mem
            rw [Trs.total] at h1
            exact h1
          have l4 := TT.txt_len L (TT.smalls_mem hsm.2 kt mem)
          have hg := TT.txts_get (L := L) (tx_at hc) hkt
          refine ⟨T', _, rfl, st_of upd_same, rfl, _, _, rfl, _, _, rfl, rfl, rfl, ?_⟩
          refine ⟨_, rfl, .inl ⟨_, rfl, by show 1 ≤ sizeLine; decide, _, rfl, ?_⟩⟩
          refine ⟨by show 1 ≤ sizeLine; decide, _, rfl, by show 3 ≤ sizeLine; decide, _, rfl, _, rfl, kt, y, L, wd, n, rfl, hka.ex e7, Trs.ok_mem hok.2.2 kt mem, TT.smalls_mem hsm.2 kt mem, hL, by omega, by omega, fun H8 e8 => ?_⟩
          have l5 : (tx (TT.txt L kt)).length ≤ 80000 := by
            rw [tx_len]
            omega
          refine .inl ⟨_, rfl, sz_of (by omega), _, rfl, ?_, ?_⟩
          · refine sz_of ?_
            rw [TT.app_len, TT.app_len, TT.app_len, lit_co, emp_len, show (⟨#[c]⟩ : Str).length = 1 from rfl]
            omega
          refine ⟨_, e8 _ _ ((Ex.new (o := .tup [.str ⟨#[c]⟩, y]) hT) _ _ hz), ?_, (e7.trans e8).mut hD, ?_⟩
          · rw [List.length_map, List.length_map, List.length_take]
            exact sz_lt (by omega)
          · rw [upd_same, take_next' hg, List.map_append, List.map_append]
            exact congrArg (fun z => some (HO.lst (_ ++ [V.str z]))) (TT.part_out c (TT.txt L kt))
        · obtain ⟨e6, hz⟩ := p
          rw [show us.length = (TT.txts L L ts).length by rw [lks, hok.2.1, lcount], List.take_length] at hz
          have l6 := TT.sum_len (TT.txts L L ts)
          have l7 := TT.join_len (TT.txts L L ts)
          have l8 : (TT.S (TL.joinL [44, 32] (TT.txts L L ts))).length ≤ 79960 := by
            rw [TT.S_len]
            omega
          refine ⟨⟨_, rfl⟩, _, rfl, _, D, (TT.txts L L ts).map TT.S, rfl, rfl, .inl (sq_of hz), ?_, ?_⟩
          · rw [show (Str.ofString ", ").length = 2 by decide +kernel, l6]
            omega
          rw [TT.join_S]
          refine ⟨_, rfl, by refine sz_of ?_; simp only [TT.app_len, lit_go, lit_tell, lit_read, lit_sp, lit_br, lit_rb, lit_co, emp_len]; omega, _, rfl, .inr ⟨_, rfl, TT.num_log hsm.1, _, rfl, by refine sz_of ?_; simp only [TT.app_len, lit_go, lit_tell, lit_read, lit_sp, lit_br, lit_rb, lit_co, emp_len]; omega, _, rfl, by refine sz_of ?_; simp only [TT.app_len, lit_go, lit_tell, lit_read, lit_sp, lit_br, lit_rb, lit_co, emp_len]; omega, _, rfl, .inl ⟨_, rfl, sz_of (by omega), _, rfl, by refine sz_of ?_; simp only [TT.app_len, lit_go, lit_tell, lit_read, lit_sp, lit_br, lit_rb, lit_co, emp_len]; omega, _, rfl, by refine sz_of ?_; simp only [TT.app_len, lit_go, lit_tell, lit_read, lit_sp, lit_br, lit_rb, lit_co, emp_len]; omega, ?_⟩⟩⟩
          have q2 := q H' e6
          rw [show tx (TT.txt L (.read p' ts)) = _ from (TT.read_out L p' ts).symm] at q2
          exact q2
end
end Law

namespace Law
open PySem PySem.Spec PyProof.Rows L2 Evl TR
/-! these three rows stand in the head, too, once it is printed anew: leave them out then -/
/-- what == asks of the class -/
structure SE (K : PySem.W.Frag) (C : Addr) : Prop where
  ins : C8.InsC K C
  tn : PySem.W.kitOne K (.type "tuple") (.ref C) = some false
theorem tx_inj' {l m : List Nat} (h : tx l = tx m) : l = m := by
  have h2 := congrArg (fun s : Str => s.cps.toList) h
  simpa [tx] using h2
def spEqO (C : Addr) : Sp := fun vs H Q _ =>
  (∃ (o o' : Addr) (L L' : List Nat) (w w' : Nat) (ts us : List Tr) (d : Bool), vs = [.ref o, .ref o'] ∧ SObj C H o L w ts ∧ SObj C H o' L' w' us ∧ (∀ t ∈ ts, t.depth ≤ 31) ∧ (∀ t ∈ us, t.depth ≤ 31) ∧ (d = true ↔ L = L' ∧ w = w' ∧ ts = us) ∧ ∀ H', Ex H H' → Q (.bl d) H') ∨
  (∃ (o b : Addr) (L : List Nat) (w : Nat) (ts : List Tr) (xs : List V), vs = [.ref o, .ref b] ∧ SObj C H o L w ts ∧ H b = some (.tup xs) ∧ ∀ H', Ex H H' → Q (.bl false) H')
section
variable {P : Program} {w : World} {K : PySem.W.Frag} {mg : Str → Option Value} {base : Heap}
theorem ok_eq {f C_Searcher : Addr} {fd : FuncData} (F : Fun K "__eq__" "Searcher.__eq__" s_Searcher_eq f fd) (T : Tx mg) (g_Searcher : mg "Searcher" = some (.ref C_Searcher)) (S : SC K C_Searcher) (S2 : SE K C_Searcher) :
    FnOk P w K mg base CX0 1 f fd ["self", "other"] (spEqO C_Searcher) := by
  refine F.ok sc_Searcher_eq (fun vs H Q E h => ?_) (fun cdv A outer s H vs Q E hr h => ?_)
  · rcases h with ⟨_, _, _, _, _, _, _, _, _, rfl, _⟩ | ⟨_, _, _, _, _, _, rfl, _⟩ <;> rfl
  · refine ⟨_, (pss_one (ps_ret (pe_and (pe_callB call_isi (by rfl) T.isinstance PyProof.Rows.boot_isinstance (pa_cons (pv 1) (pa_cons (pe_glob (v := .ref C_Searcher) rfl g_Searcher rfl) pa_nil))) (pe_and (pe_cmpR op_eq (pe_fld (pv 0) rfl) (pe_fld (pv 1) rfl) (nomark _)) (pe_and (pe_cmpR op_eq (pe_fld (pv 0) rfl) (pe_fld (pv 1) rfl) (nomark _)) (pe_one (pe_cmpR (op_eqD hr.units) (pe_fld (pv 0) rfl) (pe_fld (pv 1) rfl) (nomark _)))))))), ?_⟩
    have I := S2.ins
    rcases h with ⟨o, o', L, L', wd, wd', ts, us, d, rfl, ho, ho', dt, du, hd, q⟩ | ⟨o, b, L, wd, ts, xs, rfl, ho, hb, q⟩
    · obtain ⟨dx, st, vs, e1, e2, e3⟩ := ho.ex
      obtain ⟨dx', st', vs', f1, f2, f3⟩ := ho'.ex
      have q2 := q H (Ex.refl _)
      refine ⟨_, rfl, _, _, _, _, true, rfl, .own _, .base (TyOf.ins f1 I.cl I.ha I.hn I.htk I.hm), I.me, true, rfl, ?_⟩
      refine ⟨_, rfl, o, _, dx, _, _, rfl, e1, S.cl, S.nl, sFs_l _ _ _ _, _, rfl, o', _, dx', _, _, rfl, f1, S.cl, S.nl, sFs_l _ _ _ _, rfl, ?_⟩
      by_cases hL : L = L'
      · rw [decide_eq_true (show V.str (tx L) = V.str (tx L') by rw [hL])]
        refine ⟨true, rfl, ?_⟩
        refine ⟨_, rfl, o, _, dx, _, _, rfl, e1, S.cl, S.nw, sFs_w _ _ _ _, _, rfl, o', _, dx', _, _, rfl, f1, S.cl, S.nw, sFs_w _ _ _ _, rfl, ?_⟩
        by_cases hw : wd = wd'
        · rw [decide_eq_true (show V.int (wd : Int) = V.int (wd' : Int) by rw [hw])]
          refine ⟨true, rfl, ?_⟩
          refine ⟨_, rfl, o, _, dx, _, _, rfl, e1, S.cl, S.ns, sFs_s _ _ _ _, _, rfl, o', _, dx', _, _, rfl, f1, S.cl, S.ns, sFs_s _ _ _ _, ?_⟩
          refine ⟨sdata ts, sdata us, .tup (st_of e2) e3.dp, .tup (st_of f2) f3.dp, sd_shaped dt, sd_shaped du, ?_⟩
          rw [sd_eqv d ⟨fun z => (hd.mp z).2.2, fun z => hd.mpr ⟨hL, hw, z⟩⟩]
          exact q2
        · rw [decide_eq_false (fun z => hw (by have := V.int.inj z; omega))]
          refine ⟨false, rfl, ?_⟩
          have hdf : d = false := by
            cases d
            · rfl
            · exact absurd (hd.mp rfl).2.1 hw
          rw [hdf] at q2
          exact q2
      · rw [decide_eq_false (fun z => hL (tx_inj' (V.str.inj z)))]
        refine ⟨false, rfl, ?_⟩
        have hdf : d = false := by
          cases d
          · rfl
          · exact absurd (hd.mp rfl).1 hL
        rw [hdf] at q2
        exact q2
    · obtain ⟨dx, st, vs, e1, e2, e3⟩ := ho.ex
      exact ⟨_, rfl, _, _, _, _, false, rfl, .own _, .base (.tup hb), S2.tn, false, rfl, q H (Ex.refl _)⟩
end
end Law

namespace OE
open PySem PySem.Spec PyProof.Rows L2 Evl
/-! ### == and != by an own __eq__ with both answers -/
section
variable {M : Model} {prog : Program} {w : World} {A : Around} {E : Value → Shared → Prop} {s : Shared} {K : PySem.W.Frag} {x C f : Addr} {ox : Obj} {od : Option Obj} {b tb : Value}
theorem sub_tup : PySem.W.subIn K (.type "tuple") (.ref C) = some false := by
  have e : fastBuiltinMro "tuple" = some [.type "tuple", .type "object"] := by decide +kernel
  show (fastBuiltinMro "tuple").map (·.contains (.ref C)) = some false
  rw [e]
  first
    | rfl
    | simp
theorem entry_ne {Q : Fin → Shared → Prop} (X : K.In s.heap) (I : PySem.W.InstAt s.heap x ox C od) (hu : A.units < cLine) (hs : PySem.W.findIn K (.ref C) "__eq__" = some (some (.ref f))) (hf : PySem.W.isFn K (.ref f) = true)
    (h : wpAny M A (call (.ref f) [.ref x, b]) (fun v s' => ∃ r, v = .bool r ∧ Q (.done (.ret (.bool (!r)))) s') E s) : wpAny M A (Builtin.«object.__ne__» ⟨[.ref x, b], []⟩) Q E s := by
  unfold Builtin.«object.__ne__»
  have done : ∀ v s', (∃ r, v = Value.bool r ∧ Q (.done (.ret (.bool (!r)))) s') → wpAny M A (match (some v : Option Value) with
      | some .notImplemented | none => ret .notImplemented
      | some r => do ret (.bool (!(← truthy r)))) Q E s' := fun v s' z => by
    obtain ⟨r, rfl, hq⟩ := z
    exact wpAny_bind (wpAny_truthy_bool (wpAny_pure hq))
  repeat (first | with_reducible refine wpAny_cRoomFor hu ?_ | exact PySem.W.ifBound_K X I hs hf (wpAny_mono h done fun _ _ e => e) | wp_step)
theorem ne_K {Q : Value → Shared → Prop} {h₀ : Heap} {L : Addr} {m : Str → Option Value} (hu : A.units + 1 < cLine) (Fx : Fr h₀ L s.heap m) (X₀ : K.In h₀) (I : PySem.W.InstAt s.heap x ox C od) (hb : PySem.W.Looks (model prog w) s.heap (typeOf b) tb) (hn : PySem.W.notFirst K C tb = true)
    (hm : PySem.W.mroIn K C (.type "object") = some true) (hne : PySem.W.findIn K (.ref C) "__ne__" = some (some (.builtin "object.__ne__"))) (hs : PySem.W.findIn K (.ref C) "__eq__" = some (some (.ref f))) (hf : PySem.W.isFn K (.ref f) = true)
    (h : wpAny (model prog w) A.in1 (call (.ref f) [.ref x, b]) (fun v s' => ∃ r, v = .bool r ∧ Q (.bool (!r)) s') E s) : wpAny (model prog w) A (richCompare .NotEq (.ref x) b) Q E s := by
  have X := X₀.keeps Fx.keep
  have callne : wpAny (model prog w) A (call (.builtin "object.__ne__") [.ref x, b]) (fun v s' => ∃ r : Bool, v = .bool r ∧ Q v s') E s :=
    wpAny_call (codeAny_call_builtin F.cmp_object.ne.plain F.cmpEntry_ne (PySem.W.check_slot F.cmpKind_ne F.cmpSplit_ne (I.type.andThen (PySem.W.looks_mroIn X hm)) (F.cmpArgs_ne _ _)
      (entry_ne X I (by show A.units + 1 < cLine; exact hu) hs hf (wpAny_mono h (fun v s' z => by
        obtain ⟨r, hv, q⟩ := z
        exact ⟨r, hv, !r, rfl, q⟩) fun _ _ e => e))))
  have bound : wpAny (model prog w) A (callSpecialIfBound? (.ref x) "__ne__" [b]) (fun o s' => ∃ r : Bool, o = some (.bool r) ∧ Q (.bool r) s') E s := by
    simp only [callSpecialIfBound?, bindSpecialIfBound?]
    refine wpAny_holding (wpAny_bind (wpAny_bind (wpAny_bind (I.type.here ((PySem.W.looks_findIn X hne).here ?_)))))
    refine wpAny_bind (wpAny_askSetting (wpAny_ite ?_))
    have fin : wpAny (model prog w) A (call (.builtin "object.__ne__") ([.ref x] ++ [b]) >>= fun v => pure (some v)) (fun o s' => ∃ r : Bool, o = some (.bool r) ∧ Q (.bool r) s') E s :=
      wpAny_bind (wpAny_mono callne (fun v s' z => by
        obtain ⟨r, rfl, q⟩ := z
        exact wpAny_pure ⟨r, rfl, q⟩) fun _ _ e => e)
    split
    · exact wpAny_bind (wpAny_of_eq (F.cmp_object.ne.bind _) (wpAny_pure (by exact fin)))
    · exact wpAny_tryCatch (wpAny_bind (wpAny_of_eq (F.cmp_object.ne.bind _) (wpAny_pure (by exact fin))))
  have one : wpAny (model prog w) A (tryCompare (.ref x) (cmpInfo .NotEq).2.1 b) (fun r s' => ∃ v, r = some v ∧ Q v s') E s := by
    unfold tryCompare
    refine wpAny_bind (wpAny_mono bound (fun o s' z => ?_) fun _ _ e => e)
    obtain ⟨r, rfl, q⟩ := z
    exact wpAny_pure ⟨.bool r, rfl, q⟩
  unfold richCompare
  simp only [oneThing_ref]
  refine wpAny_holding (wpAny_bind (wpAny_cRoomFor (by omega) ?_))
  refine wpAny_bind (I.type.here (wpAny_bind (hb.here ?_)))
  split
  · rename_i q
    have e : PySem.W.subIn K tb (.ref C) = some false := by
      rcases Bool.or_eq_true_iff.mp hn with e | e
      · rw [beq_iff_eq.mp e] at q
        simp at q
      · exact beq_iff_eq.mp e
    refine wpAny_bind ((PySem.W.looks_subIn X e).here ?_)
    simp only [Bool.false_eq_true, if_false]
    refine wpAny_bind (wpAny_mono one (fun r s' z => ?_) fun _ _ e => e)
    obtain ⟨v, rfl, hq⟩ := z
    exact wpAny_pure hq
  · refine wpAny_bind (wpAny_pure ?_)
    simp only [Bool.false_eq_true, if_false]
    refine wpAny_bind (wpAny_mono one (fun r s' z => ?_) fun _ _ e => e)
    obtain ⟨v, rfl, hq⟩ := z
    exact wpAny_pure hq
end
end OE

namespace OE
open PySem PySem.Spec PyProof.Rows L2 Evl
section
variable {X : Cx} {k : Nat} {f C : Addr} {fd : FuncData} {ps : List Str} {sp : Sp}
/-- what is asked of the class for == and != -/
structure Own (K : PySem.W.Frag) (C f : Addr) : Prop where
  eq : PySem.W.findIn K (.ref C) "__eq__" = some (some (.ref f))
  fn : PySem.W.isFn K (.ref f) = true
  ne : PySem.W.findIn K (.ref C) "__ne__" = some (some (.builtin "object.__ne__"))
  mo : PySem.W.mroIn K C (.type "object") = some true
/-- the other one: of the same class, or a tuple -/
def Oth (C : Addr) (H : Hp) (b : Addr) : Prop := (∃ dy gs, H b = some (.ins C dy gs)) ∨ ∃ ys, H b = some (.tup ys)
theorem looks {pins : List (Addr × Obj)} {s : Shared} {σ : L2.St} {H : Hp} {b : Addr} (I : Inv X pins σ H s) (h : Oth C H b) : ∃ tb, PySem.W.Looks (model X.prog X.w) s.heap (typeOf (.ref b)) tb ∧ PySem.W.notFirst X.K C tb = true := by
  rcases h with ⟨dy, gs, hb⟩ | ⟨ys, hb⟩
  · obtain ⟨m, J, _⟩ := ins_get I.hok hb
    obtain ⟨od, J, _⟩ := J.look
    exact ⟨_, J.type, by simp [PySem.W.notFirst]⟩
  · obtain ⟨its, _, ⟨o, ho, hc, _⟩, _⟩ := I.tuple (st_of hb)
    refine ⟨.type "tuple", hc ▸ (PySem.W.Looks.ld ho).andThen .now, ?_⟩
    unfold PySem.W.notFirst
    rw [sub_tup]
    simp
theorem run_own {pins : List (Addr × Obj)} {s : Shared} {σ : L2.St} {H : Hp} {A : Around} {a b : Addr} {R : Bool → Hp → Prop} (F : FnOk X.prog X.w X.K X.mg X.base CX0 k f fd ps sp) (hb : Binds X.K fd ps []) (hr : Room k A) (hfr : A.frames = X.A.frames) (I : Inv X pins σ H s)
    (h : sp [.ref a, .ref b] H (fun v H' => ∃ r, v = .bl r ∧ R r H') E0) :
    wpAny (model X.prog X.w) A (call (.ref f) [.ref a, .ref b]) (fun u s' => ∃ r H', u = .bool r ∧ Inv X pins σ H' s' ∧ R r H') X.xe s := by
  have e0 : Env0 X.prog X.w X.K X.mg X.base A X.stack s H := by
    have e := I.env0
    exact ⟨by rw [hfr]; exact e.frames, e.mod, e.bs, e.bsz, e.funs, e.frf, e.hok, e.bare⟩
  have hl := F.len _ _ _ _ h
  have r2 : Vals [V.ref a, V.ref b] [Value.ref a, Value.ref b] := .cons rfl (.cons rfl .nil)
  refine wpAny_call (codeAny_mono (F.run A X.stack s H ⟨[.ref a, .ref b], []⟩ [.ref a, .ref b] [.ref a, .ref b] _ E0 hr e0 (by
    have := hb s [.ref a, .ref b] I.kIn (by simpa using hl)
    simpa using this) r2 h) fun r s' hq => ?_)
  cases r with
  | error e => exact pass0 pins σ H s e s' I hq
  | ok fl =>
    cases fl with
    | ret w =>
      obtain ⟨z, H', I', rz, y, ez, q⟩ := I.after hq
      subst ez
      cases rz
      exact ⟨y, H', rfl, I', q⟩
    | next => exact False.elim hq
    | brk => exact False.elim hq
    | cont => exact False.elim hq
/-- o == p, o of the own class -/
def rOwn (C : Addr) (sp : Sp) (g : Bool → Bool) : R2 := fun x y H Q => ∃ a b dx fs, x = .ref a ∧ y = .ref b ∧ H a = some (.ins C dx fs) ∧ Oth C H b ∧ sp [.ref a, .ref b] H (fun v H' => ∃ r, v = .bl r ∧ Q (.bl (g r)) H') E0
theorem op_own (O : Own X.K C f) (F : FnOk X.prog X.w X.K X.mg X.base CX0 k f fd ps sp) (hb : Binds X.K fd ps []) (hr : Room k X.A) : OpR X (compareOp .Eq) (rOwn C sp id) := by
  intro pins s σ H x y v u Q I rx ry h
  obtain ⟨a, b, dx, fs, rfl, rfl, ha, ho, q⟩ := h
  cases rx
  cases ry
  obtain ⟨m1, J, _⟩ := ins_get I.hok ha
  obtain ⟨od, J, _⟩ := J.look
  obtain ⟨tb, hl, hn⟩ := looks I ho
  obtain ⟨m, hF⟩ := I.fr
  show wpAny (model X.prog X.w) X.A (richCompare .Eq (.ref a) (.ref b)) (EP X pins σ Q) X.xe s
  refine PySem.W.cmp_K (op := .Eq) hr.units0 hF I.ok.mod.kin J hl hn O.eq O.fn (wpAny_mono (run_own F hb hr rfl I q) (fun v s' z => ?_) fun _ _ e => e)
  obtain ⟨r, H', rfl, I', q'⟩ := z
  exact ⟨.bl r, H', I', rfl, q'⟩
/-- o != p -/
theorem op_ownN (O : Own X.K C f) (F : FnOk X.prog X.w X.K X.mg X.base CX0 k f fd ps sp) (hb : Binds X.K fd ps []) (hr : Room (k + 1) X.A) : OpR X (compareOp .NotEq) (rOwn C sp not) := by
  intro pins s σ H x y v u Q I rx ry h
  obtain ⟨a, b, dx, fs, rfl, rfl, ha, ho, q⟩ := h
  cases rx
  cases ry
  obtain ⟨m1, J, _⟩ := ins_get I.hok ha
  obtain ⟨od, J, _⟩ := J.look
  obtain ⟨tb, hl, hn⟩ := looks I ho
  obtain ⟨m, hF⟩ := I.fr
  show wpAny (model X.prog X.w) X.A (richCompare .NotEq (.ref a) (.ref b)) (EP X pins σ Q) X.xe s
  refine ne_K hr.in1.units0 hF I.ok.mod.kin J hl hn O.mo O.ne O.eq O.fn (wpAny_mono (run_own F hb hr.in1 rfl I q) (fun v s' z => ?_) fun _ _ e => e)
  obtain ⟨r, H', rfl, I', q'⟩ := z
  exact ⟨r, rfl, .bl (!r), H', I', rfl, q'⟩
end
end OE

/-! searchers in one form: classes of states, their numbers (no program here) -/
namespace LM
open TR
/-! ### the different ones, in the order in which they come -/
section
variable {α β : Type} [DecidableEq α] [DecidableEq β]
def dd : List α → List α → List α
  | acc, [] => acc
  | acc, x :: r => if x ∈ acc then dd acc r else dd (acc ++ [x]) r
theorem dd_app : ∀ (a b acc : List α), dd acc (a ++ b) = dd (dd acc a) b
  | [], _, _ => rfl
  | x :: r, b, acc => by
    show (if x ∈ acc then dd acc (r ++ b) else dd (acc ++ [x]) (r ++ b)) = dd (if x ∈ acc then dd acc r else dd (acc ++ [x]) r) b
    split
    · exact dd_app r b acc
    · exact dd_app r b _
theorem dd_mem : ∀ (xs acc : List α) (y : α), y ∈ dd acc xs ↔ y ∈ acc ∨ y ∈ xs
  | [], acc, y => by
    show y ∈ acc ↔ _
    simp
  | x :: r, acc, y => by
    show y ∈ (if x ∈ acc then dd acc r else dd (acc ++ [x]) r) ↔ _
    split
    · rename_i h
      rw [dd_mem r acc y, List.mem_cons]
      constructor
      · rintro (q | q)
        · exact .inl q
        · exact .inr (.inr q)
      · rintro (q | q | q)
        · exact .inl q
        · rw [q]; exact .inl h
        · exact .inr q
    · rw [dd_mem r _ y, List.mem_append, List.mem_singleton, List.mem_cons]
      constructor
      · rintro ((q | q) | q)
        · exact .inl q
        · exact .inr (.inl q)
        · exact .inr (.inr q)
      · rintro (q | q | q)
        · exact .inl (.inl q)
        · exact .inl (.inr q)
        · exact .inr q
theorem dd_nodup : ∀ (xs acc : List α), acc.Nodup → (dd acc xs).Nodup
  | [], _, h => h
  | x :: r, acc, h => by
    show (if x ∈ acc then dd acc r else dd (acc ++ [x]) r).Nodup
    split
    · exact dd_nodup r acc h
    · rename_i hx
      refine dd_nodup r _ ?_
      rw [List.nodup_append]
      refine ⟨h, by simp, fun a ha b hb => ?_⟩
      rw [List.mem_singleton.mp hb]
      exact fun e => hx (e ▸ ha)
theorem dd_pre : ∀ (xs acc : List α), ∃ r, dd acc xs = acc ++ r
  | [], acc => ⟨[], by rw [List.append_nil]; rfl⟩
  | x :: r, acc => by
    show ∃ r', (if x ∈ acc then dd acc r else dd (acc ++ [x]) r) = acc ++ r'
    split
    · exact dd_pre r acc
    · obtain ⟨r', e⟩ := dd_pre r (acc ++ [x])
      exact ⟨[x] ++ r', by rw [e, List.append_assoc]⟩
theorem dd_len : ∀ (xs acc : List α), (dd acc xs).length ≤ acc.length + xs.length
  | [], acc => Nat.le_refl _
  | x :: r, acc => by
    show (if x ∈ acc then dd acc r else dd (acc ++ [x]) r).length ≤ acc.length + (r.length + 1)
    split
    · have := dd_len r acc
      omega
    · have := dd_len r (acc ++ [x])
      rw [List.length_append] at this
      simp only [List.length_singleton] at this
      omega
theorem dd_full : ∀ (xs acc : List α), (dd acc xs).length = acc.length + xs.length → xs.Nodup ∧ ∀ x ∈ xs, x ∉ acc
  | [], acc, _ => ⟨List.nodup_nil, fun x hx => nomatch hx⟩
  | x :: r, acc, h => by
    have h2 : (if x ∈ acc then dd acc r else dd (acc ++ [x]) r).length = acc.length + (r.length + 1) := h
    split at h2
    · have := dd_len r acc
      omega
    · rename_i hx
      obtain ⟨k1, k2⟩ := dd_full r (acc ++ [x]) (by rw [h2, List.length_append]; simp only [List.length_singleton]; omega)
      refine ⟨List.nodup_cons.mpr ⟨fun q => k2 x q (by simp), k1⟩, fun y hy => ?_⟩
      rcases List.mem_cons.mp hy with q | q
      · rw [q]; exact hx
      · exact fun z => k2 y q (List.mem_append_left _ z)
theorem dd_inj {f : α → β} : ∀ (xs acc : List α), (∀ a b, (a ∈ acc ∨ a ∈ xs) → (b ∈ acc ∨ b ∈ xs) → f a = f b → a = b) → dd (acc.map f) (xs.map f) = (dd acc xs).map f
  | [], acc, _ => rfl
  | x :: r, acc, h => by
    show (if f x ∈ acc.map f then dd (acc.map f) (r.map f) else dd (acc.map f ++ [f x]) (r.map f)) = (if x ∈ acc then dd acc r else dd (acc ++ [x]) r).map f
    have e : f x ∈ acc.map f ↔ x ∈ acc := by
      rw [List.mem_map]
      constructor
      · rintro ⟨y, hy, e⟩
        rw [← h y x (.inl hy) (.inr (List.mem_cons_self ..)) e]
        exact hy
      · exact fun q => ⟨x, q, rfl⟩
    by_cases q : x ∈ acc
    · rw [if_pos (e.mpr q), if_pos q]
      exact dd_inj r acc fun a b ha hb => h a b (ha.imp id (List.mem_cons_of_mem _)) (hb.imp id (List.mem_cons_of_mem _))
    · rw [if_neg (fun z => q (e.mp z)), if_neg q]
      have := dd_inj r (acc ++ [x]) (f := f) fun a b ha hb => h a b ?_ ?_
      · rw [List.map_append] at this
        exact this
      · rcases ha with ha | ha
        · rcases List.mem_append.mp ha with z | z
          · exact .inl z
          · rw [List.mem_singleton.mp z]; exact .inr (List.mem_cons_self ..)
        · exact .inr (List.mem_cons_of_mem _ ha)
      · rcases hb with ha | ha
        · rcases List.mem_append.mp ha with z | z
          · exact .inl z
          · rw [List.mem_singleton.mp z]; exact .inr (List.mem_cons_self ..)
        · exact .inr (List.mem_cons_of_mem _ ha)
theorem dd_map {f : α → β} : ∀ (xs acc : List α), dd [] ((dd acc xs).map f) = dd (dd [] (acc.map f)) (xs.map f)
  | [], acc => rfl
  | x :: r, acc => by
    show dd [] ((if x ∈ acc then dd acc r else dd (acc ++ [x]) r).map f) = dd (dd [] (acc.map f)) (f x :: r.map f)
    by_cases q : x ∈ acc
    · rw [if_pos q, dd_map r acc]
      show _ = if f x ∈ dd [] (acc.map f) then _ else _
      rw [if_pos ((dd_mem _ _ _).mpr (.inr (List.mem_map.mpr ⟨x, q, rfl⟩)))]
    · rw [if_neg q, dd_map r, List.map_append, dd_app]
      show dd (dd (dd [] (acc.map f)) [f x]) _ = dd (dd [] (acc.map f)) ([f x] ++ r.map f)
      rw [dd_app]
/-! ### numbers by the order in which they come -/
def numb (xs : List α) : List Nat := xs.map fun x => (dd [] xs).idxOf x
theorem numb_len (xs : List α) : (numb xs).length = xs.length := List.length_map ..
theorem idx_inj {l : List α} {x y : α} (hx : x ∈ l) (hy : y ∈ l) (h : l.idxOf x = l.idxOf y) : x = y := by
  have hx2 := List.idxOf_lt_length_of_mem hx
  have hy2 := List.idxOf_lt_length_of_mem hy
  have e1 := List.getElem_idxOf hx2
  have e2 := List.getElem_idxOf hy2
  rw [← e1, ← e2]
  congr 1
theorem numb_eq {xs : List α} {x y : α} (hx : x ∈ xs) (hy : y ∈ xs) : (dd [] xs).idxOf x = (dd [] xs).idxOf y ↔ x = y :=
  ⟨idx_inj ((dd_mem _ _ _).mpr (.inr hx)) ((dd_mem _ _ _).mpr (.inr hy)), fun e => by rw [e]⟩
theorem idx_map {f : α → β} : ∀ {l : List α} {x : α}, (∀ y ∈ l, f x = f y → x = y) → (l.map f).idxOf (f x) = l.idxOf x
  | [], _, _ => rfl
  | y :: r, x, h => by
    rw [List.map_cons, List.idxOf_cons, List.idxOf_cons]
    by_cases q : y = x
    · rw [q]
      simp
    · have q2 : ¬ f y = f x := fun z => q (h y (List.mem_cons_self ..) z.symm).symm
      rw [show (f y == f x) = false from beq_false_of_ne q2, show (y == x) = false from beq_false_of_ne q]
      simp only [cond_false]
      rw [idx_map fun z hz => h z (List.mem_cons_of_mem _ hz)]
theorem numb_map {f : α → β} {xs : List α} (h : ∀ a ∈ xs, ∀ b ∈ xs, f a = f b → a = b) : numb (xs.map f) = numb xs := by
  have e : dd [] (xs.map f) = (dd [] xs).map f := dd_inj xs [] fun a b ha hb => h a (ha.resolve_left (by simp)) b (hb.resolve_left (by simp))
  unfold numb
  rw [e, List.map_map]
  refine List.map_congr_left fun x hx => ?_
  show ((dd [] xs).map f).idxOf (f x) = _
  refine idx_map fun y hy => h x hx y ?_
  exact ((dd_mem _ _ _).mp hy).resolve_left (by simp)
end
/-- how many there are -/
def card (c : List Nat) : Nat := (dd [] c).length
/-- numbered as they come -/
def Can (c : List Nat) : Prop := dd [] c = List.range (card c)
theorem idx_nodup {α : Type} [DecidableEq α] {l : List α} (h : l.Nodup) : l.map (fun x => l.idxOf x) = List.range l.length := by
  refine List.ext_getElem (by simp) fun i h1 h2 => ?_
  rw [List.getElem_map, List.getElem_range]
  rw [List.length_map] at h1
  exact h.idxOf_getElem i h1
theorem can_numb {α : Type} [DecidableEq α] (xs : List α) : Can (numb xs) ∧ card (numb xs) = (dd [] xs).length := by
  have e : dd [] (numb xs) = (dd [] xs).map fun x => (dd [] xs).idxOf x := by
    unfold numb
    exact dd_inj xs [] fun a b ha hb => (numb_eq (ha.resolve_left (by simp)) (hb.resolve_left (by simp))).mp
  have e2 : card (numb xs) = (dd [] xs).length := by
    unfold card
    rw [e, List.length_map]
  refine ⟨?_, e2⟩
  unfold Can
  rw [e2, e]
  exact idx_nodup (dd_nodup xs [] List.nodup_nil)
theorem dd_rep : ∀ n : Nat, dd [0] (List.replicate n 0) = [0]
  | 0 => rfl
  | n + 1 => dd_rep n
theorem can_zero {n : Nat} (h : 0 < n) : Can (List.replicate n 0) ∧ card (List.replicate n 0) = 1 := by
  obtain ⟨m, rfl⟩ : ∃ m, n = m + 1 := ⟨n - 1, by omega⟩
  have e : dd [] (List.replicate (m + 1) 0) = [0] := by
    show dd ([] ++ [0]) (List.replicate m 0) = [0]
    exact dd_rep m
  refine ⟨?_, ?_⟩
  · unfold Can card
    rw [e]
    rfl
  · unfold card
    rw [e]
    rfl
theorem can_max {c : List Nat} {m : Nat} (h : Can c) (hm : m ∈ c) (hl : ∀ x ∈ c, x ≤ m) : card c = m + 1 := by
  unfold Can at h
  have h1 : m ∈ dd [] c := (dd_mem _ _ _).mpr (.inr hm)
  rw [h, List.mem_range] at h1
  have h2 : card c - 1 ∈ dd [] c := by
    rw [h, List.mem_range]
    omega
  have h3 := hl _ (((dd_mem _ _ _).mp h2).resolve_left (by simp))
  omega
theorem card_le (c : List Nat) : card c ≤ c.length := by
  have := dd_len c []
  unfold card
  simpa using this
theorem card_pos {c : List Nat} (h : c ≠ []) : 0 < card c := by
  cases c with
  | nil => exact absurd rfl h
  | cons x r =>
    have : x ∈ dd [] (x :: r) := (dd_mem _ _ _).mpr (.inr (List.mem_cons_self ..))
    exact List.length_pos_of_mem this
/-! ### finer and as many: the same -/
def at0 (c : List Nat) (q : Nat) : Nat := c.getD q 0
theorem at0_of {c : List Nat} {i x : Nat} (h : c[i]? = some x) : at0 c i = x := by
  unfold at0
  rw [List.getD_eq_getElem?_getD, h]
  rfl
theorem at0_get {c : List Nat} {i : Nat} (h : i < c.length) : c[i]? = some (at0 c i) := by
  unfold at0
  rw [List.getD_eq_getElem?_getD, List.getElem?_eq_getElem h]
  rfl
theorem at0_mem {c : List Nat} {i : Nat} (h : i < c.length) : at0 c i ∈ c := List.mem_of_getElem? (at0_get h)
theorem mem_at0 {c : List Nat} {x : Nat} (h : x ∈ c) : ∃ i, i < c.length ∧ at0 c i = x := by
  obtain ⟨i, hi, e⟩ := List.mem_iff_getElem.mp h
  exact ⟨i, hi, at0_of (by rw [List.getElem?_eq_getElem hi, e])⟩
theorem ext_at0 {c d : List Nat} (hl : c.length = d.length) (h : ∀ i, i < c.length → at0 c i = at0 d i) : c = d := by
  refine List.ext_getElem? fun i => ?_
  by_cases hi : i < c.length
  · rw [at0_get hi, at0_get (by omega), h i hi]
  · rw [List.getElem?_eq_none (by omega), List.getElem?_eq_none (by omega)]
/-- c as a function of p -/
theorem as_map {p c : List Nat} (hl : p.length = c.length) (h : ∀ i j, i < p.length → j < p.length → at0 p i = at0 p j → at0 c i = at0 c j) : ∃ g : Nat → Nat, c = p.map g := by
  refine ⟨fun m => at0 c (p.idxOf m), ext_at0 (by rw [List.length_map, hl]) fun i hi => ?_⟩
  rw [← hl] at hi
  have hm := at0_mem hi
  have hx := List.idxOf_lt_length_of_mem hm
  have e1 : at0 p (p.idxOf (at0 p i)) = at0 p i := at0_of (by rw [List.getElem?_eq_getElem hx, List.getElem_idxOf hx])
  have e2 : (p.map fun m => at0 c (p.idxOf m))[i]? = some (at0 c (p.idxOf (at0 p i))) := by
    rw [List.getElem?_map, at0_get hi]
    rfl
  rw [at0_of e2]
  exact h i _ hi hx e1.symm
theorem nd_inj {l : List Nat} (h : l.Nodup) {a b : Nat} (ha : a < l.length) (hb : b < l.length) (e : l[a] = l[b]) : a = b := by
  rcases Nat.lt_trichotomy a b with q | q | q
  · exact absurd e (List.pairwise_iff_getElem.mp h a b ha hb q)
  · exact q
  · exact absurd e.symm (List.pairwise_iff_getElem.mp h b a hb ha q)
theorem same_of_card {p c : List Nat} (hl : p.length = c.length) (h : ∀ i j, i < p.length → j < p.length → at0 p i = at0 p j → at0 c i = at0 c j) (hc : card p = card c) :
    ∀ i j, i < p.length → j < p.length → at0 c i = at0 c j → at0 p i = at0 p j := by
  obtain ⟨g, rfl⟩ := as_map hl h
  intro i j hi hj e
  have e1 : dd [] (p.map g) = dd [] ((dd [] p).map g) := (dd_map p []).symm
  have e2 : (dd [] ((dd [] p).map g)).length = ([] : List Nat).length + ((dd [] p).map g).length := by
    rw [← e1, List.length_map]
    unfold card at hc
    rw [← hc]
    simp
  obtain ⟨nd, _⟩ := dd_full _ _ e2
  have ga : ∀ k, k < p.length → at0 (p.map g) k = g (at0 p k) := fun k hk => at0_of (by rw [List.getElem?_map, at0_get hk]; rfl)
  rw [ga i hi, ga j hj] at e
  have mi : at0 p i ∈ dd [] p := (dd_mem _ _ _).mpr (.inr (at0_mem hi))
  have mj : at0 p j ∈ dd [] p := (dd_mem _ _ _).mpr (.inr (at0_mem hj))
  obtain ⟨a, ha, ea⟩ := List.mem_iff_getElem.mp mi
  obtain ⟨b, hb, eb⟩ := List.mem_iff_getElem.mp mj
  have : a = b := by
    refine nd_inj nd (by rw [List.length_map]; exact ha) (by rw [List.length_map]; exact hb) ?_
    rw [List.getElem_map, List.getElem_map, ea, eb, e]
  subst this
  rw [← ea, ← eb]
theorem can_same {p c : List Nat} (hl : p.length = c.length) (h : ∀ i j, i < p.length → j < p.length → (at0 p i = at0 p j ↔ at0 c i = at0 c j)) (hp : Can p) (hc : Can c) : p = c := by
  obtain ⟨g, rfl⟩ := as_map hl fun i j hi hj => (h i j hi hj).mp
  have gi : ∀ a ∈ p, ∀ b ∈ p, g a = g b → a = b := fun a ha b hb e => by
    obtain ⟨i, hi, rfl⟩ := mem_at0 ha
    obtain ⟨j, hj, rfl⟩ := mem_at0 hb
    refine (h i j hi hj).mpr ?_
    have ga : ∀ k, k < p.length → at0 (p.map g) k = g (at0 p k) := fun k hk => at0_of (by rw [List.getElem?_map, at0_get hk]; rfl)
    rw [ga i hi, ga j hj, e]
  have e : dd [] (p.map g) = (dd [] p).map g := dd_inj p [] fun a b ha hb => gi a (ha.resolve_left (by simp)) b (hb.resolve_left (by simp))
  have ec : card (p.map g) = card p := by
    unfold card
    rw [e, List.length_map]
  unfold Can at hp hc
  rw [ec, e, hp] at hc
  have : ∀ a ∈ p, g a = a := fun a ha => by
    have h1 : a ∈ dd [] p := (dd_mem _ _ _).mpr (.inr ha)
    rw [hp, List.mem_range] at h1
    have h2 := congrArg (fun l => l[a]?) hc
    simp only [List.getElem?_map, List.getElem?_range h1] at h2
    exact Option.some.inj h2
  conv => lhs; rw [← List.map_id p]
  exact List.map_congr_left fun a ha => (this a ha).symm
end LM

/-! searchers in one form: trees with other names, classes, the form, two searchers that do the same -/
namespace LM
open TR
noncomputable instance : DecidableEq TR.Tr := fun _ _ => Classical.propDecidable _
mutual
def ren (f : Nat → Nat) : Tr → Tr
  | .go s q => .go s (f q)
  | .tell n t => .tell n (ren f t)
  | .read p ts => .read p (rens f ts)
def rens (f : Nat → Nat) : Trs → Trs
  | .nil => .nil
  | .cons t r => .cons (ren f t) (rens f r)
end
mutual
def lv : Tr → List Nat
  | .go _ q => [q]
  | .tell _ t => lv t
  | .read _ ts => lvs ts
def lvs : Trs → List Nat
  | .nil => []
  | .cons t r => lv t ++ lvs r
end
mutual
theorem lv_ren (f : Nat → Nat) : ∀ t : Tr, lv (ren f t) = (lv t).map f
  | .go _ _ => by simp only [ren, lv, List.map_cons, List.map_nil]
  | .tell _ t => by simp only [ren, lv]; exact lv_ren f t
  | .read _ ts => by simp only [ren, lv]; exact lvs_ren f ts
theorem lvs_ren (f : Nat → Nat) : ∀ ts : Trs, lvs (rens f ts) = (lvs ts).map f
  | .nil => by simp only [rens, lvs, List.map_nil]
  | .cons t r => by simp only [rens, lvs, List.map_append]; rw [lv_ren f t, lvs_ren f r]
end
mutual
theorem ren_of {f g : Nat → Nat} : ∀ t : Tr, (∀ q ∈ lv t, f q = g q) → ren f t = ren g t
  | .go s q, h => by simp only [ren]; rw [h q (by simp [lv])]
  | .tell n t, h => by simp only [ren]; rw [ren_of t (by simpa [lv] using h)]
  | .read p ts, h => by simp only [ren]; rw [rens_of ts (by simpa [lv] using h)]
theorem rens_of {f g : Nat → Nat} : ∀ ts : Trs, (∀ q ∈ lvs ts, f q = g q) → rens f ts = rens g ts
  | .nil, _ => by simp only [rens]
  | .cons t r, h => by
    simp only [rens]
    rw [ren_of t fun q hq => h q (by simp only [lvs]; exact List.mem_append_left _ hq), rens_of r fun q hq => h q (by simp only [lvs]; exact List.mem_append_right _ hq)]
end
mutual
/-- two trees with other names that are one, under names that tell less -/
theorem ren_less {f f' g g' : Nat → Nat} : ∀ {t u : Tr}, ren f t = ren f' u → (∀ a ∈ lv t, ∀ b ∈ lv u, f a = f' b → g a = g' b) → ren g t = ren g' u
  | .go s q, .go s' q', h, k => by
    simp only [ren, Tr.go.injEq] at h ⊢
    exact ⟨h.1, k q (by simp [lv]) q' (by simp [lv]) h.2⟩
  | .go _ _, .tell _ _, h, _ => by simp [ren] at h
  | .go _ _, .read _ _, h, _ => by simp [ren] at h
  | .tell _ _, .go _ _, h, _ => by simp [ren] at h
  | .tell n t, .tell n' u, h, k => by
    simp only [ren, Tr.tell.injEq] at h ⊢
    exact ⟨h.1, ren_less h.2 (by simpa [lv] using k)⟩
  | .tell _ _, .read _ _, h, _ => by simp [ren] at h
  | .read _ _, .go _ _, h, _ => by simp [ren] at h
  | .read _ _, .tell _ _, h, _ => by simp [ren] at h
  | .read p ts, .read p' us, h, k => by
    simp only [ren, Tr.read.injEq] at h ⊢
    exact ⟨h.1, rens_less h.2 (by simpa [lv] using k)⟩
theorem rens_less {f f' g g' : Nat → Nat} : ∀ {t u : Trs}, rens f t = rens f' u → (∀ a ∈ lvs t, ∀ b ∈ lvs u, f a = f' b → g a = g' b) → rens g t = rens g' u
  | .nil, .nil, _, _ => by simp only [rens]
  | .nil, .cons _ _, h, _ => by simp [rens] at h
  | .cons _ _, .nil, h, _ => by simp [rens] at h
  | .cons t r, .cons u s, h, k => by
    simp only [rens, Trs.cons.injEq] at h ⊢
    refine ⟨ren_less h.1 fun a ha b hb => k a ?_ b ?_, rens_less h.2 fun a ha b hb => k a ?_ b ?_⟩
    · simp only [lvs]; exact List.mem_append_left _ ha
    · simp only [lvs]; exact List.mem_append_left _ hb
    · simp only [lvs]; exact List.mem_append_right _ ha
    · simp only [lvs]; exact List.mem_append_right _ hb
end
/-! ### classes -/
def tr0 (ts : List Tr) (i : Nat) : Tr := ts.getD i (.go 0 0)
theorem tr0_get {ts : List Tr} {i : Nat} (h : i < ts.length) : ts[i]? = some (tr0 ts i) := by
  unfold tr0
  rw [List.getD_eq_getElem?_getD, List.getElem?_eq_getElem h]
  rfl
theorem tr0_of {ts : List Tr} {i : Nat} {t : Tr} (h : ts[i]? = some t) : tr0 ts i = t := by
  unfold tr0
  rw [List.getD_eq_getElem?_getD, h]
  rfl
theorem tr0_mem {ts : List Tr} {i : Nat} (h : i < ts.length) : tr0 ts i ∈ ts := List.mem_of_getElem? (tr0_get h)
def Val (ts : List Tr) : Prop := ∀ t ∈ ts, ∀ q ∈ lv t, q < ts.length
noncomputable def step (ts : List Tr) (c : List Nat) : List Nat := numb (ts.map (ren (at0 c)))
noncomputable def Pk (ts : List Tr) : Nat → List Nat
  | 0 => List.replicate ts.length 0
  | k + 1 => step ts (Pk ts k)
theorem step_len (ts : List Tr) (c : List Nat) : (step ts c).length = ts.length := by
  unfold step
  rw [numb_len, List.length_map]
theorem Pk_len (ts : List Tr) : ∀ k, (Pk ts k).length = ts.length
  | 0 => List.length_replicate ..
  | k + 1 => step_len ts _
theorem step_eq {ts : List Tr} {c : List Nat} {i j : Nat} (hi : i < ts.length) (hj : j < ts.length) : at0 (step ts c) i = at0 (step ts c) j ↔ ren (at0 c) (tr0 ts i) = ren (at0 c) (tr0 ts j) := by
  have e : ∀ k, k < ts.length → at0 (step ts c) k = (dd [] (ts.map (ren (at0 c)))).idxOf (ren (at0 c) (tr0 ts k)) := fun k hk => at0_of (by
    unfold step numb
    rw [List.getElem?_map, List.getElem?_map, tr0_get hk]
    rfl)
  rw [e i hi, e j hj]
  exact numb_eq (List.mem_map.mpr ⟨_, tr0_mem hi, rfl⟩) (List.mem_map.mpr ⟨_, tr0_mem hj, rfl⟩)
theorem at0_rep {n i : Nat} : at0 (List.replicate n 0) i = 0 := by
  unfold at0
  rw [List.getD_eq_getElem?_getD, List.getElem?_replicate]
  split <;> rfl
theorem finer {ts : List Tr} (V : Val ts) : ∀ {k i j : Nat}, i < ts.length → j < ts.length → at0 (Pk ts (k + 1)) i = at0 (Pk ts (k + 1)) j → at0 (Pk ts k) i = at0 (Pk ts k) j
  | 0, i, j, _, _, _ => by
    show at0 (List.replicate _ 0) i = at0 (List.replicate _ 0) j
    rw [at0_rep, at0_rep]
  | k + 1, i, j, hi, hj, h => by
    have h1 := (step_eq hi hj).mp h
    refine (step_eq (c := Pk ts k) hi hj).mpr (ren_less h1 fun a ha b hb e => ?_)
    exact finer V (V _ (tr0_mem hi) a ha) (V _ (tr0_mem hj) b hb) e
theorem Pk_can {ts : List Tr} (h : 0 < ts.length) : ∀ k, Can (Pk ts k)
  | 0 => (can_zero h).1
  | k + 1 => (can_numb _).1
theorem step_card {ts : List Tr} (h : 0 < ts.length) (V : Val ts) (k : Nat) : card (Pk ts k) ≤ card (Pk ts (k + 1)) := by
  obtain ⟨g, e⟩ := as_map (p := Pk ts (k + 1)) (c := Pk ts k) (by rw [Pk_len, Pk_len]) fun i j hi hj => by
    rw [Pk_len] at hi hj
    exact finer V hi hj
  have : card (Pk ts k) ≤ (dd [] (Pk ts (k + 1))).length := by
    have e1 : dd [] (Pk ts k) = dd [] ((dd [] (Pk ts (k + 1))).map g) := by
      rw [e]
      exact (dd_map _ []).symm
    unfold card
    rw [e1]
    have := dd_len ((dd [] (Pk ts (k + 1))).map g) []
    rw [List.length_map] at this
    simpa using this
  exact this
/-- the coarsest classes -/
def IsS (ts : List Tr) (S : List Nat) : Prop := ∃ k, S = Pk ts (k + 1) ∧ card (Pk ts (k + 1)) = card (Pk ts k)
theorem IsS.same {ts : List Tr} {k : Nat} (V : Val ts) (hc : card (Pk ts (k + 1)) = card (Pk ts k)) {i j : Nat} (hi : i < ts.length) (hj : j < ts.length) : at0 (Pk ts (k + 1)) i = at0 (Pk ts (k + 1)) j ↔ at0 (Pk ts k) i = at0 (Pk ts k) j :=
  ⟨finer V hi hj, fun e => same_of_card (p := Pk ts (k + 1)) (c := Pk ts k) (by rw [Pk_len, Pk_len]) (fun i j hi hj => by
    rw [Pk_len] at hi hj
    exact finer V hi hj) hc i j (by rw [Pk_len]; exact hi) (by rw [Pk_len]; exact hj) e⟩
theorem Pk_stop {ts : List Tr} {k : Nat} (h : 0 < ts.length) (V : Val ts) (hc : card (Pk ts (k + 1)) = card (Pk ts k)) : Pk ts (k + 1) = Pk ts k :=
  can_same (by rw [Pk_len, Pk_len]) (fun i j hi hj => by
    rw [Pk_len] at hi hj
    exact IsS.same V hc hi hj) (Pk_can h _) (Pk_can h _)
theorem Pk_rest {ts : List Tr} {k : Nat} (e : Pk ts (k + 1) = Pk ts k) : ∀ d, Pk ts (k + d) = Pk ts k
  | 0 => rfl
  | d + 1 => by
    show step ts (Pk ts (k + d)) = _
    rw [Pk_rest e d]
    exact e
theorem IsS.late {ts : List Tr} {S : List Nat} (h : 0 < ts.length) (V : Val ts) (hS : IsS ts S) : ∃ k, ∀ j, k ≤ j → Pk ts j = S := by
  obtain ⟨k, rfl, hc⟩ := hS
  have e := Pk_stop h V hc
  refine ⟨k, fun j hj => ?_⟩
  obtain ⟨d, rfl⟩ : ∃ d, j = k + d := ⟨j - k, by omega⟩
  rw [Pk_rest e d, e]
theorem IsS.uniq {ts : List Tr} {S S' : List Nat} (h : 0 < ts.length) (V : Val ts) (h1 : IsS ts S) (h2 : IsS ts S') : S = S' := by
  obtain ⟨k, e⟩ := h1.late h V
  obtain ⟨k', e'⟩ := h2.late h V
  rw [← e (k + k') (by omega), ← e' (k + k') (by omega)]
theorem IsS.len {ts : List Tr} {S : List Nat} (hS : IsS ts S) : S.length = ts.length := by
  obtain ⟨k, rfl, _⟩ := hS
  exact Pk_len ts _
theorem IsS.stable {ts : List Tr} {S : List Nat} (h : 0 < ts.length) (V : Val ts) (hS : IsS ts S) {i j : Nat} (hi : i < ts.length) (hj : j < ts.length) : at0 S i = at0 S j ↔ ren (at0 S) (tr0 ts i) = ren (at0 S) (tr0 ts j) := by
  obtain ⟨k, e⟩ := hS.late h V
  have e1 := e (k + 1) (by omega)
  have e0 := e k (by omega)
  have := step_eq (ts := ts) (c := Pk ts k) hi hj
  rw [show step ts (Pk ts k) = S from e1, e0] at this
  exact this
/-! ### the form -/
/-- the first tree of a class -/
def rep (ts : List Tr) (S : List Nat) (c : Nat) : Tr := tr0 ts (S.idxOf c)
theorem rep_ren {ts : List Tr} {S : List Nat} (h : 0 < ts.length) (V : Val ts) (hS : IsS ts S) {i : Nat} (hi : i < ts.length) : ren (at0 S) (rep ts S (at0 S i)) = ren (at0 S) (tr0 ts i) := by
  have l := hS.len
  have hm := at0_mem (c := S) (by rw [l]; exact hi)
  have hx := List.idxOf_lt_length_of_mem hm
  refine (hS.stable h V (i := S.idxOf (at0 S i)) (by rw [← l]; exact hx) hi).mp ?_
  exact at0_of (by rw [List.getElem?_eq_getElem hx, List.getElem_idxOf hx])
def metF (ts : List Tr) (S : List Nat) : Nat → List Nat → Nat → List Nat
  | 0, m, _ => m
  | f + 1, m, a => if a < m.length then metF ts S f (dd m ((lv (rep ts S (at0 m a))).map (at0 S))) (a + 1) else m
def met (ts : List Tr) (S : List Nat) : List Nat := metF ts S (ts.length + 1) [at0 S 0] 0
def nm (S M : List Nat) (q : Nat) : Nat := if at0 S q ∈ M then M.idxOf (at0 S q) else 0
def least (ts : List Tr) (S : List Nat) : List Tr := (met ts S).map fun c => ren (nm S (met ts S)) (rep ts S c)
end LM

namespace LM
open TR
/-! ### lists that go together -/
inductive F2 (R : Nat → Nat → Prop) : List Nat → List Nat → Prop
  | nil : F2 R [] []
  | cons {a b : Nat} {l m : List Nat} : R a b → F2 R l m → F2 R (a :: l) (b :: m)
section
variable {R : Nat → Nat → Prop}
theorem F2.app {a b c d : List Nat} (h : F2 R a b) (k : F2 R c d) : F2 R (a ++ c) (b ++ d) := by
  induction h with
  | nil => exact k
  | cons r _ ih => exact .cons r ih
theorem F2.len {a b : List Nat} (h : F2 R a b) : a.length = b.length := by
  induction h with
  | nil => rfl
  | cons _ _ ih => rw [List.length_cons, List.length_cons, ih]
theorem F2.map {R' : Nat → Nat → Prop} {f g : Nat → Nat} {a b : List Nat} (h : F2 R a b) (k : ∀ x y, R x y → R' (f x) (g y)) : F2 R' (a.map f) (b.map g) := by
  induction h with
  | nil => exact .nil
  | cons r _ ih => exact .cons (k _ _ r) ih
theorem F2.at_ {a b : List Nat} (h : F2 R a b) : ∀ {i : Nat}, i < a.length → R (at0 a i) (at0 b i) := by
  induction h with
  | nil => intro i hi; exact absurd hi (Nat.not_lt_zero _)
  | cons r _ ih =>
    intro i hi
    cases i with
    | zero => exact r
    | succ i => exact ih (i := i) (by simpa using hi)
theorem F2.mem {a b : List Nat} (h : F2 R a b) {x y : Nat} (bij : ∀ c d, R c d → (c = x ↔ d = y)) : x ∈ a ↔ y ∈ b := by
  induction h with
  | nil => simp
  | cons r _ ih =>
    rw [List.mem_cons, List.mem_cons, ih]
    have := bij _ _ r
    constructor
    · rintro (q | q)
      · exact .inl (this.mp q.symm).symm
      · exact .inr q
    · rintro (q | q)
      · exact .inl (this.mpr q.symm).symm
      · exact .inr q
theorem F2.idx {a b : List Nat} (h : F2 R a b) {x y : Nat} (bij : ∀ c d, R c d → (c = x ↔ d = y)) : a.idxOf x = b.idxOf y := by
  induction h with
  | nil => rfl
  | @cons c d _ _ r _ ih =>
    rw [List.idxOf_cons, List.idxOf_cons]
    have := bij _ _ r
    by_cases q : c = x
    · have q2 := this.mp q
      rw [q, q2]
      simp
    · have q2 : ¬ d = y := fun z => q (this.mpr z)
      rw [show (c == x) = false from beq_false_of_ne q, show (d == y) = false from beq_false_of_ne q2]
      simp only [cond_false]
      rw [ih]
theorem F2.dd {m n : List Nat} {cs ds : List Nat} (bij : ∀ c d c' d', R c d → R c' d' → (c = c' ↔ d = d')) (h : F2 R cs ds) : F2 R m n → F2 R (dd m cs) (dd n ds) := by
  induction h generalizing m n with
  | nil => exact id
  | @cons c d cs ds r _ ih =>
    intro hm
    show F2 R (if c ∈ m then LM.dd m cs else LM.dd (m ++ [c]) cs) (if d ∈ n then LM.dd n ds else LM.dd (n ++ [d]) ds)
    have e := hm.mem (x := c) (y := d) fun a b q => bij a b c d q r
    by_cases q : c ∈ m
    · rw [if_pos q, if_pos (e.mp q)]
      exact ih hm
    · rw [if_neg q, if_neg (fun z => q (e.mpr z))]
      exact ih (hm.app (.cons r .nil))
end
/-! ### trees that go together -/
mutual
inductive TrR (R : Nat → Nat → Prop) : Tr → Tr → Prop
  | go {s q q' : Nat} : R q q' → TrR R (.go s q) (.go s q')
  | tell {n : Nat} {t u : Tr} : TrR R t u → TrR R (.tell n t) (.tell n u)
  | read {p : Nat} {ts us : Trs} : TrsR R ts us → TrR R (.read p ts) (.read p us)
inductive TrsR (R : Nat → Nat → Prop) : Trs → Trs → Prop
  | nil : TrsR R .nil .nil
  | cons {t u : Tr} {ts us : Trs} : TrR R t u → TrsR R ts us → TrsR R (.cons t ts) (.cons u us)
end
section
variable {R : Nat → Nat → Prop} {f g : Nat → Nat}
mutual
theorem TrR.ren (k : ∀ a b, R a b → f a = g b) : ∀ {t u : Tr}, TrR R t u → LM.ren f t = LM.ren g u
  | _, _, .go h => by simp only [LM.ren]; rw [k _ _ h]
  | _, _, .tell h => by simp only [LM.ren]; rw [TrR.ren k h]
  | _, _, .read h => by simp only [LM.ren]; rw [TrsR.ren k h]
theorem TrsR.ren (k : ∀ a b, R a b → f a = g b) : ∀ {t u : Trs}, TrsR R t u → rens f t = rens g u
  | _, _, .nil => by simp only [rens]
  | _, _, .cons h r => by simp only [rens]; rw [TrR.ren k h, TrsR.ren k r]
end
mutual
theorem TrR.lv : ∀ {t u : Tr}, TrR R t u → F2 R (LM.lv t) (LM.lv u)
  | _, _, .go h => by simp only [LM.lv]; exact .cons h .nil
  | _, _, .tell h => by simp only [LM.lv]; exact TrR.lv h
  | _, _, .read h => by simp only [LM.lv]; exact TrsR.lv h
theorem TrsR.lv : ∀ {t u : Trs}, TrsR R t u → F2 R (lvs t) (lvs u)
  | _, _, .nil => by simp only [lvs]; exact .nil
  | _, _, .cons h r => by simp only [lvs]; exact (TrR.lv h).app (TrsR.lv r)
end
mutual
theorem TrR.ker (k : ∀ a b a' b', R a b → R a' b' → (f a = f a' ↔ g b = g b')) : ∀ {t u t' u' : Tr}, TrR R t u → TrR R t' u' → (LM.ren f t = LM.ren f t' ↔ LM.ren g u = LM.ren g u')
  | _, _, _, _, .go h, .go h' => by
    simp only [LM.ren, Tr.go.injEq]
    rw [k _ _ _ _ h h']
  | _, _, _, _, .go _, .tell _ => by simp [LM.ren]
  | _, _, _, _, .go _, .read _ => by simp [LM.ren]
  | _, _, _, _, .tell _, .go _ => by simp [LM.ren]
  | _, _, _, _, .tell h, .tell h' => by
    simp only [LM.ren, Tr.tell.injEq]
    rw [TrR.ker k h h']
  | _, _, _, _, .tell _, .read _ => by simp [LM.ren]
  | _, _, _, _, .read _, .go _ => by simp [LM.ren]
  | _, _, _, _, .read _, .tell _ => by simp [LM.ren]
  | _, _, _, _, .read h, .read h' => by
    simp only [LM.ren, Tr.read.injEq]
    rw [TrsR.ker k h h']
theorem TrsR.ker (k : ∀ a b a' b', R a b → R a' b' → (f a = f a' ↔ g b = g b')) : ∀ {t u t' u' : Trs}, TrsR R t u → TrsR R t' u' → (rens f t = rens f t' ↔ rens g u = rens g u')
  | _, _, _, _, .nil, .nil => by simp [rens]
  | _, _, _, _, .nil, .cons _ _ => by simp [rens]
  | _, _, _, _, .cons _ _, .nil => by simp [rens]
  | _, _, _, _, .cons h r, .cons h' r' => by
    simp only [rens, Trs.cons.injEq]
    rw [TrR.ker k h h', TrsR.ker k r r']
end
end
mutual
theorem trR_of {R : Nat → Nat → Prop} {f f' g : Nat → Nat} : ∀ {t u : Tr}, ren f t = ren f' u → (∀ a ∈ lv t, ∀ b ∈ lv u, f a = f' b → R (g a) b) → TrR R (ren g t) u
  | .go s q, .go s' q', h, k => by
    simp only [ren, Tr.go.injEq] at h ⊢
    rw [h.1]
    exact .go (k q (by simp [lv]) q' (by simp [lv]) h.2)
  | .go _ _, .tell _ _, h, _ => by simp [ren] at h
  | .go _ _, .read _ _, h, _ => by simp [ren] at h
  | .tell _ _, .go _ _, h, _ => by simp [ren] at h
  | .tell n t, .tell n' u, h, k => by
    simp only [ren, Tr.tell.injEq] at h ⊢
    rw [h.1]
    exact .tell (trR_of h.2 (by simpa [lv] using k))
  | .tell _ _, .read _ _, h, _ => by simp [ren] at h
  | .read _ _, .go _ _, h, _ => by simp [ren] at h
  | .read _ _, .tell _ _, h, _ => by simp [ren] at h
  | .read p ts, .read p' us, h, k => by
    simp only [ren, Tr.read.injEq] at h ⊢
    rw [h.1]
    exact .read (trsR_of h.2 (by simpa [lv] using k))
theorem trsR_of {R : Nat → Nat → Prop} {f f' g : Nat → Nat} : ∀ {t u : Trs}, rens f t = rens f' u → (∀ a ∈ lvs t, ∀ b ∈ lvs u, f a = f' b → R (g a) b) → TrsR R (rens g t) u
  | .nil, .nil, _, _ => by simp only [rens]; exact .nil
  | .nil, .cons _ _, h, _ => by simp [rens] at h
  | .cons _ _, .nil, h, _ => by simp [rens] at h
  | .cons t r, .cons u s, h, k => by
    simp only [rens, Trs.cons.injEq] at h ⊢
    refine .cons (trR_of h.1 fun a ha b hb => k a ?_ b ?_) (trsR_of h.2 fun a ha b hb => k a ?_ b ?_)
    · simp only [lvs]; exact List.mem_append_left _ ha
    · simp only [lvs]; exact List.mem_append_left _ hb
    · simp only [lvs]; exact List.mem_append_right _ ha
    · simp only [lvs]; exact List.mem_append_right _ hb
end
/-! ### what is met -/
theorem nd_le : ∀ (N : Nat) (l : List Nat), l.Nodup → (∀ x ∈ l, x < N) → l.length ≤ N
  | 0, l, _, h => by
    cases l with
    | nil => exact Nat.le_refl _
    | cons x r => exact absurd (h x (List.mem_cons_self ..)) (Nat.not_lt_zero _)
  | N + 1, l, nd, h => by
    have h1 := nd_le N (l.erase N) (nd.erase N) fun x hx => by
      have hx2 := (nd.mem_erase_iff).mp hx
      have := h x hx2.2
      have := hx2.1
      omega
    rw [List.length_erase] at h1
    split at h1 <;> omega
def Good (S m : List Nat) : Prop := m.Nodup ∧ ∀ x ∈ m, x ∈ S
section
variable {ts : List Tr} {S : List Nat}
theorem IsS.can (h : 0 < ts.length) (hS : IsS ts S) : Can S := by
  obtain ⟨k, rfl, _⟩ := hS
  exact Pk_can h _
theorem Good.le (h : 0 < ts.length) (hS : IsS ts S) {m : List Nat} (g : Good S m) : m.length ≤ ts.length := by
  have hc := hS.can h
  have hl := card_le S
  rw [hS.len] at hl
  refine Nat.le_trans (nd_le (card S) m g.1 fun x hx => ?_) hl
  have h1 : x ∈ dd [] S := (dd_mem _ _ _).mpr (.inr (g.2 x hx))
  unfold Can at hc
  rw [hc, List.mem_range] at h1
  exact h1
theorem rep_lv (h : 0 < ts.length) (V : Val ts) (hS : IsS ts S) {c : Nat} (hc : c ∈ S) : ∀ q ∈ lv (rep ts S c), q < ts.length := by
  have hx := List.idxOf_lt_length_of_mem hc
  rw [hS.len] at hx
  exact V _ (tr0_mem hx)
theorem Good.dd (h : 0 < ts.length) (V : Val ts) (hS : IsS ts S) {m : List Nat} (g : Good S m) {a : Nat} (ha : a < m.length) : Good S (dd m ((lv (rep ts S (at0 m a))).map (at0 S))) := by
  refine ⟨dd_nodup _ _ g.1, fun x hx => ?_⟩
  rcases (dd_mem _ _ _).mp hx with q | q
  · exact g.2 x q
  · obtain ⟨y, hy, rfl⟩ := List.mem_map.mp q
    have := rep_lv h V hS (g.2 _ (at0_mem ha)) y hy
    exact at0_mem (by rw [hS.len]; exact this)
theorem Good.one (h : 0 < ts.length) (hS : IsS ts S) : Good S [at0 S 0] :=
  ⟨by simp, fun x hx => by rw [List.mem_singleton.mp hx]; exact at0_mem (by rw [hS.len]; exact h)⟩
theorem metF_fuel (h : 0 < ts.length) (V : Val ts) (hS : IsS ts S) : ∀ (f f' : Nat) (m : List Nat) (a : Nat), Good S m → ts.length ≤ a + f → ts.length ≤ a + f' → metF ts S f m a = metF ts S f' m a
  | 0, f', m, a, g, h1, _ => by
    have := g.le h hS
    cases f' with
    | zero => rfl
    | succ f' =>
      show m = if a < m.length then _ else m
      rw [if_neg (by omega)]
  | f + 1, 0, m, a, g, _, h2 => by
    have := g.le h hS
    show (if a < m.length then _ else m) = m
    rw [if_neg (by omega)]
  | f + 1, f' + 1, m, a, g, h1, h2 => by
    show (if a < m.length then metF ts S f _ (a + 1) else m) = if a < m.length then metF ts S f' _ (a + 1) else m
    split
    · rename_i ha
      exact metF_fuel h V hS f f' _ (a + 1) (g.dd h V hS ha) (by omega) (by omega)
    · rfl
theorem met_eq (h : 0 < ts.length) (V : Val ts) (hS : IsS ts S) {N : Nat} (hN : ts.length ≤ N) : met ts S = metF ts S N [at0 S 0] 0 :=
  metF_fuel h V hS _ _ _ _ (Good.one h hS) (by omega) (by omega)
theorem metF_all (h : 0 < ts.length) (V : Val ts) (hS : IsS ts S) : ∀ (f : Nat) (m : List Nat) (a : Nat), Good S m → ts.length ≤ a + f → (∀ i, i < a → i < m.length → ∀ q ∈ lv (rep ts S (at0 m i)), at0 S q ∈ m) →
    Good S (metF ts S f m a) ∧ (∃ r, metF ts S f m a = m ++ r) ∧ ∀ c ∈ metF ts S f m a, ∀ q ∈ lv (rep ts S c), at0 S q ∈ metF ts S f m a
  | 0, m, a, g, h1, k => by
    have := g.le h hS
    refine ⟨g, ⟨[], (List.append_nil m).symm⟩, fun c hc q hq => ?_⟩
    have hc' : c ∈ m := hc
    obtain ⟨i, hi, rfl⟩ := mem_at0 hc'
    exact k i (by omega) hi q hq
  | f + 1, m, a, g, h1, k => by
    show Good S (if a < m.length then metF ts S f _ (a + 1) else m) ∧ (∃ r, (if a < m.length then metF ts S f _ (a + 1) else m) = m ++ r) ∧ _
    by_cases ha : a < m.length
    · obtain ⟨r0, e0⟩ := dd_pre ((lv (rep ts S (at0 m a))).map (at0 S)) m
      have := metF_all h V hS f (dd m ((lv (rep ts S (at0 m a))).map (at0 S))) (a + 1) (g.dd h V hS ha) (by omega) fun i hi hi2 q hq => by
        have hm : i < m.length := by omega
        have e1 : at0 (dd m ((lv (rep ts S (at0 m a))).map (at0 S))) i = at0 m i := by
          rw [e0]
          exact at0_of (by rw [List.getElem?_append_left hm, at0_get hm])
        rw [e1] at hq
        by_cases hia : i = a
        · rw [hia] at hq
          exact (dd_mem _ _ _).mpr (.inr (List.mem_map.mpr ⟨q, hq, rfl⟩))
        · exact (dd_mem _ _ _).mpr (.inl (k i (by omega) hm q hq))
      obtain ⟨t1, ⟨r, t2⟩, t3⟩ := this
      have e2 : metF ts S (f + 1) m a = metF ts S f (dd m ((lv (rep ts S (at0 m a))).map (at0 S))) (a + 1) := by
        show (if a < m.length then _ else m) = _
        rw [if_pos ha]
      rw [if_pos ha, e2]
      exact ⟨t1, ⟨r0 ++ r, by rw [t2, e0, List.append_assoc]⟩, t3⟩
    · have e2 : metF ts S (f + 1) m a = m := by
        show (if a < m.length then _ else m) = _
        rw [if_neg ha]
      rw [if_neg ha, e2]
      refine ⟨g, ⟨[], (List.append_nil m).symm⟩, fun c hc q hq => ?_⟩
      obtain ⟨i, hi, rfl⟩ := mem_at0 hc
      exact k i (by omega) hi q hq
theorem met_all (h : 0 < ts.length) (V : Val ts) (hS : IsS ts S) : Good S (met ts S) ∧ (∃ r, met ts S = [at0 S 0] ++ r) ∧ ∀ c ∈ met ts S, ∀ q ∈ lv (rep ts S c), at0 S q ∈ met ts S :=
  metF_all h V hS _ _ _ (Good.one h hS) (by omega) fun i hi => absurd hi (Nat.not_lt_zero _)
end
/-! ### two searchers that do the same have one form -/
structure Bis (A B : List Tr) (R : Nat → Nat → Prop) : Prop where
  z : R 0 0
  l : ∀ a b, R a b → a < A.length ∧ b < B.length
  t : ∀ a b, R a b → TrR R (tr0 A a) (tr0 B b)
section
variable {A B : List Tr} {R : Nat → Nat → Prop} {SA SB : List Nat}
theorem Bis.ker (b : Bis A B R) : ∀ (k : Nat) {a c a' c' : Nat}, R a c → R a' c' → (at0 (Pk A k) a = at0 (Pk A k) a' ↔ at0 (Pk B k) c = at0 (Pk B k) c')
  | 0, a, c, a', c', _, _ => by
    show at0 (List.replicate _ 0) a = at0 (List.replicate _ 0) a' ↔ at0 (List.replicate _ 0) c = at0 (List.replicate _ 0) c'
    rw [at0_rep, at0_rep, at0_rep, at0_rep]
  | k + 1, a, c, a', c', h, h' => by
    have l := b.l _ _ h
    have l' := b.l _ _ h'
    show at0 (step A (Pk A k)) a = at0 (step A (Pk A k)) a' ↔ at0 (step B (Pk B k)) c = at0 (step B (Pk B k)) c'
    rw [step_eq l.1 l'.1, step_eq l.2 l'.2]
    exact TrR.ker (fun _ _ _ _ q q' => b.ker k q q') (b.t _ _ h) (b.t _ _ h')
theorem Bis.kerS (b : Bis A B R) (hA : 0 < A.length) (hB : 0 < B.length) (VA : Val A) (VB : Val B) (sA : IsS A SA) (sB : IsS B SB) {a c a' c' : Nat} (h : R a c) (h' : R a' c') : at0 SA a = at0 SA a' ↔ at0 SB c = at0 SB c' := by
  obtain ⟨k, e⟩ := sA.late hA VA
  obtain ⟨k', e'⟩ := sB.late hB VB
  rw [← e (k + k') (by omega), ← e' (k + k') (by omega)]
  exact b.ker _ h h'
theorem map_F2 {ρ : Nat → Nat → Prop} {f g : Nat → Tr} {a b : List Nat} (h : F2 ρ a b) (k : ∀ x y, ρ x y → f x = g y) : a.map f = b.map g := by
  induction h with
  | nil => rfl
  | cons r _ ih => rw [List.map_cons, List.map_cons, k _ _ r, ih]
theorem metF_F2 {ρ : Nat → Nat → Prop} (bij : ∀ c d c' d', ρ c d → ρ c' d' → (c = c' ↔ d = d')) (k : ∀ c d, ρ c d → F2 ρ ((lv (rep A SA c)).map (at0 SA)) ((lv (rep B SB d)).map (at0 SB))) : ∀ (f : Nat) (m n : List Nat) (a : Nat), F2 ρ m n → F2 ρ (metF A SA f m a) (metF B SB f n a)
  | 0, m, n, a, h => h
  | f + 1, m, n, a, h => by
    show F2 ρ (if a < m.length then metF A SA f _ (a + 1) else m) (if a < n.length then metF B SB f _ (a + 1) else n)
    have l := h.len
    by_cases ha : a < m.length
    · rw [if_pos ha, if_pos (by omega)]
      exact metF_F2 bij k f _ _ (a + 1) (F2.dd bij (k _ _ (h.at_ ha)) h)
    · rw [if_neg ha, if_neg (by omega)]
      exact h
theorem Bis.least (b : Bis A B R) (hA : 0 < A.length) (hB : 0 < B.length) (VA : Val A) (VB : Val B) (sA : IsS A SA) (sB : IsS B SB) : least A SA = least B SB := by
  have bij : ∀ c d c' d', (∃ x y, R x y ∧ at0 SA x = c ∧ at0 SB y = d) → (∃ x y, R x y ∧ at0 SA x = c' ∧ at0 SB y = d') → (c = c' ↔ d = d') := by
    rintro _ _ _ _ ⟨x, y, r, rfl, rfl⟩ ⟨x', y', r', rfl, rfl⟩
    exact b.kerS hA hB VA VB sA sB r r'
  have kid : ∀ c d, (∃ x y, R x y ∧ at0 SA x = c ∧ at0 SB y = d) → F2 (fun c d => ∃ x y, R x y ∧ at0 SA x = c ∧ at0 SB y = d) ((lv (rep A SA c)).map (at0 SA)) ((lv (rep B SB d)).map (at0 SB)) := by
    rintro _ _ ⟨x, y, r, rfl, rfl⟩
    have l := b.l _ _ r
    rw [← lv_ren, ← lv_ren, rep_ren hA VA sA l.1, rep_ren hB VB sB l.2, lv_ren, lv_ren]
    exact (b.t _ _ r).lv.map fun q q' h => ⟨q, q', h, rfl, rfl⟩
  have hM : F2 (fun c d => ∃ x y, R x y ∧ at0 SA x = c ∧ at0 SB y = d) (met A SA) (met B SB) := by
    rw [met_eq hA VA sA (N := A.length + B.length) (by omega), met_eq hB VB sB (N := A.length + B.length) (by omega)]
    exact metF_F2 bij kid _ _ _ _ (.cons ⟨0, 0, b.z, rfl, rfl⟩ .nil)
  have hn : ∀ q q', R q q' → nm SA (met A SA) q = nm SB (met B SB) q' := fun q q' r => by
    have bj : ∀ c d, (∃ x y, R x y ∧ at0 SA x = c ∧ at0 SB y = d) → (c = at0 SA q ↔ d = at0 SB q') := fun c d h => bij c d _ _ h ⟨q, q', r, rfl, rfl⟩
    unfold nm
    have e := hM.mem bj
    by_cases m : at0 SA q ∈ met A SA
    · rw [if_pos m, if_pos (e.mp m), hM.idx bj]
    · rw [if_neg m, if_neg (fun z => m (e.mpr z))]
  unfold LM.least
  refine map_F2 hM ?_
  rintro _ _ ⟨x, y, r, rfl, rfl⟩
  have l := b.l _ _ r
  have e1 : ren (nm SA (met A SA)) (rep A SA (at0 SA x)) = ren (nm SA (met A SA)) (tr0 A x) := ren_less (rep_ren hA VA sA l.1) fun p _ q _ e => by unfold nm; rw [e]
  have e2 : ren (nm SB (met B SB)) (rep B SB (at0 SB y)) = ren (nm SB (met B SB)) (tr0 B y) := ren_less (rep_ren hB VB sB l.2) fun p _ q _ e => by unfold nm; rw [e]
  rw [e1, e2]
  exact TrR.ren hn (b.t _ _ r)
end
section
variable {ts : List Tr} {S : List Nat}
theorem least_len : (least ts S).length = (met ts S).length := List.length_map ..
theorem least_at {j : Nat} (h : j < (met ts S).length) : tr0 (least ts S) j = ren (nm S (met ts S)) (rep ts S (at0 (met ts S) j)) := tr0_of (by
  unfold least
  rw [List.getElem?_map, at0_get h]
  rfl)
/-- the form does the same -/
theorem bis_least (h : 0 < ts.length) (V : Val ts) (hS : IsS ts S) : Bis (least ts S) ts (fun j s => j < (met ts S).length ∧ s < ts.length ∧ at0 S s = at0 (met ts S) j) := by
  obtain ⟨g, ⟨r, e⟩, cl⟩ := met_all h V hS
  refine ⟨⟨?_, h, ?_⟩, fun a b q => ⟨by rw [least_len]; exact q.1, q.2.1⟩, fun j s q => ?_⟩
  · rw [e]
    simp
  · rw [e]
    rfl
  · obtain ⟨hj, hs, es⟩ := q
    rw [least_at hj]
    have e1 := rep_ren h V hS hs
    rw [es] at e1
    have hm := at0_mem hj
    refine trR_of e1 fun a ha b hb eab => ?_
    have ma := cl _ hm a ha
    have hx := List.idxOf_lt_length_of_mem ma
    have en : nm S (met ts S) a = (met ts S).idxOf (at0 S a) := by
      unfold nm
      rw [if_pos ma]
    refine ⟨by rw [en]; exact hx, V _ (tr0_mem hs) b hb, ?_⟩
    rw [en, ← eab]
    exact (at0_of (by rw [List.getElem?_eq_getElem hx, List.getElem_idxOf hx])).symm
theorem least_val (h : 0 < ts.length) (V : Val ts) (hS : IsS ts S) : 0 < (least ts S).length ∧ Val (least ts S) := by
  obtain ⟨g, ⟨r, e⟩, cl⟩ := met_all h V hS
  have l0 : 0 < (met ts S).length := by
    rw [e]
    simp
  rw [least_len]
  refine ⟨l0, fun t ht q hq => ?_⟩
  obtain ⟨c, hc, rfl⟩ := List.mem_map.mp ht
  rw [lv_ren] at hq
  obtain ⟨a, ha, rfl⟩ := List.mem_map.mp hq
  rw [least_len]
  have ma := cl c hc a ha
  unfold nm
  rw [if_pos ma]
  exact List.idxOf_lt_length_of_mem ma
/-- the form's form is the form -/
theorem least_least (h : 0 < ts.length) (V : Val ts) (hS : IsS ts S) {S' : List Nat} (hS' : IsS (least ts S) S') : least (least ts S) S' = least ts S :=
  (bis_least h V hS).least (least_val h V hS).1 h (least_val h V hS).2 V hS' hS
end
end LM

namespace LM
open TR
mutual
/-- the trees of a tree, each ahead of those within it -/
def parts : Tr → List Tr
  | .go s q => [.go s q]
  | .tell n t => .tell n t :: parts t
  | .read p ts => .read p ts :: partss ts
def partss : Trs → List Tr
  | .nil => []
  | .cons t r => parts t ++ partss r
end
theorem partss_list : ∀ ts : Trs, partss ts = ts.list.flatMap parts
  | .nil => by simp only [partss, Trs.list, List.flatMap_nil]
  | .cons t r => by simp only [partss, Trs.list, List.flatMap_cons]; rw [partss_list r]
theorem parts_kids : ∀ t : Tr, parts t = t :: t.kids.flatMap parts
  | .go _ _ => by simp [parts, Tr.kids]
  | .tell _ t => by simp [parts, Tr.kids]
  | .read _ ts => by simp only [parts, Tr.kids]; rw [partss_list ts]
mutual
theorem parts_len : ∀ t : Tr, (parts t).length = t.size
  | .go _ _ => by simp [parts, Tr.size]
  | .tell _ t => by simp only [parts, Tr.size, List.length_cons]; rw [parts_len t]
  | .read _ ts => by simp only [parts, Tr.size, List.length_cons]; rw [partss_len ts]
theorem partss_len : ∀ ts : Trs, (partss ts).length = ts.size
  | .nil => by simp [partss, Trs.size]
  | .cons t r => by simp only [partss, Trs.size, List.length_append]; rw [parts_len t, partss_len r]
end
def goOf : Tr → Option Nat
  | .go _ q => some q
  | _ => none
mutual
theorem lv_parts : ∀ t : Tr, lv t = (parts t).filterMap goOf
  | .go _ _ => by simp [parts, lv, goOf]
  | .tell _ t => by simp only [parts, lv, List.filterMap_cons, goOf]; exact lv_parts t
  | .read _ ts => by simp only [parts, lv, List.filterMap_cons, goOf]; exact lvs_parts ts
theorem lvs_parts : ∀ ts : Trs, lvs ts = (partss ts).filterMap goOf
  | .nil => by simp [partss, lvs]
  | .cons t r => by simp only [partss, lvs, List.filterMap_append]; rw [lv_parts t, lvs_parts r]
end
theorem fm_len (ts : List Tr) : (ts.flatMap parts).length = total ts := by
  induction ts with
  | nil => rfl
  | cons t r ih =>
    rw [List.flatMap_cons, List.length_append, parts_len, ih]
    rfl
mutual
theorem lv_ok {L w n : Nat} : ∀ {t : Tr}, t.ok L w n → ∀ q ∈ lv t, q < n
  | .go _ q', h, q, hq => by
    simp only [lv, List.mem_singleton] at hq
    rw [hq]; exact h.2.2
  | .tell _ t, h, q, hq => lv_ok (t := t) h.2 q (by simpa [lv] using hq)
  | .read _ ts, h, q, hq => lvs_ok (ts := ts) h.2.2 q (by simpa [lv] using hq)
theorem lvs_ok {L w n : Nat} : ∀ {ts : Trs}, ts.ok L w n → ∀ q ∈ lvs ts, q < n
  | .nil, _, q, hq => by simp [lvs] at hq
  | .cons t r, h, q, hq => by
    simp only [lvs, List.mem_append] at hq
    exact hq.elim (lv_ok h.1 q) (lvs_ok h.2 q)
end
theorem lvs_mem {ts : Trs} {t : Tr} (h : t ∈ ts.list) {q : Nat} (hq : q ∈ lv t) : q ∈ lvs ts := by
  match ts, h with
  | .cons x r, h =>
    simp only [lvs, List.mem_append]
    simp only [Trs.list, List.mem_cons] at h
    rcases h with e | h
    · rw [← e]; exact .inl hq
    · exact .inr (lvs_mem h hq)
theorem rens_list (f : Nat → Nat) : ∀ ts : Trs, (rens f ts).list = ts.list.map (ren f)
  | .nil => by simp [rens, Trs.list]
  | .cons t r => by simp only [rens, Trs.list, List.map_cons]; rw [rens_list f r]
end LM
namespace Law
open PySem PySem.Spec PyProof.Rows L2 Evl TR
/-- whole numbers as values -/
def nV (ns : List Nat) : List V := ns.map fun q => .int (q : Nat)
theorem nV_len (ns : List Nat) : (nV ns).length = ns.length := List.length_map ..
theorem nV_get {ns : List Nat} {i : Nat} : (nV ns)[i]? = (ns[i]?).map fun q => V.int (q : Nat) := List.getElem?_map ..
theorem nV_at {ns : List Nat} {q : Nat} (h : q < ns.length) : atI (nV ns) (q : Int) = some (.int (LM.at0 ns q : Nat)) := by
  refine atI_nat ?_
  rw [nV_get, LM.at0_get h]
  rfl
def spAllG : Sp := fun vs H Q _ => ∃ (t : Tr) (v : V), vs = [v] ∧ TA true H v t ∧ t.size ≤ 10000 ∧ ∀ r H' us, Ex H H' → H r = none → H' r = some (.lst us) → Kids true H' us (LM.parts t) → Q (.ref r) H'
def spRenG (d : Nat) : Sp := fun vs H Q _ => ∃ (t : Tr) (v : V) (k : Bool) (an : Addr) (ns : List Nat), vs = [v, .ref an] ∧ TA k H v t ∧ H an = some (.lst (nV ns)) ∧ (∀ q ∈ LM.lv t, q < ns.length) ∧ t.depth ≤ d ∧ t.size ≤ 10000 ∧ ∀ H' v', Ex H H' → TA true H' v' (LM.ren (LM.at0 ns) t) → Q v' H'
section
variable {P : Program} {w : World} {K : PySem.W.Frag} {mg : Str → Option Value} {base : Heap}
theorem ok_allG {f : Addr} {fd : FuncData} (F : Fun K "all_parts" "all_parts" s_all_parts f fd) (T : Tx mg) (c_within : Kn P w K mg base "_within" ["part"] 1 spWithin) : FnOk P w K mg base CX0 2 f fd ["tree"] spAllG := by
  refine F.ok sc_all_parts (fun vs H Q E h => ?_) (fun cdv A outer s H vs Q E hr h => ?_)
  · obtain ⟨t, v, rfl, _⟩ := h
    rfl
  · obtain ⟨t, v, rfl, hT, hsz, q⟩ := h
    refine ⟨_, (pss_cons (ps_set (i := 1) sc_all_parts.nd rfl (Or.inl rfl) (pe_lst (pa_cons (pv 0) pa_nil)))
      (pss_cons (ps_set (i := 2) sc_all_parts.nd rfl (Or.inl rfl) (pe_lst pa_nil))
      (pss_cons (ps_while PassesOwn.never (pt_truth (pv 1) (by intro _; rfl)) (pss_cons (ps_set (i := 3) sc_all_parts.nd rfl (Or.inl rfl) (pe_bm0 PySem.F.plainAttrs_list PySem.F.slot_list_pop PySem.F.type_list_pop mt_pop (pv 1)))
      (pss_cons (ps_expr (pe_bm PySem.F.plainAttrs_list PySem.F.slot_list_append PySem.F.type_list_append mt_append (pv 2) (pa_cons (pv 3) pa_nil)))
      (pss_one (ps_expr (pe_bm PySem.F.plainAttrs_list PySem.F.slot_list_extend PySem.F.type_list_extend mt_extend (pv 1) (pa_cons (pe_lc (own := [("inner", 4)]) (g := gName 4) (tt := tYes) rfl sc_all_parts.nd (pi_reversed (by rfl) T.reversed (pa_cons (pe_call c_within.ok (hr.mono (by decide)) (by rfl) c_within.g c_within.kp c_within.b .nil pass0 (pa_cons (pv 3) pa_nil)) pa_nil)) (blkOk_by (N := N_all_parts) (sc := defScope s_all_parts) (by decide +kernel)) (fun _ _ _ _ _ => (pg_name (i := 4) sc_all_parts.nd rfl (Or.inl rfl))) (fun _ _ _ _ _ => pts_nil) (fun _ _ _ _ _ => (pv 4))) pa_nil)))))))
      (pss_one (ps_ret (pv 2)))))), ?_⟩
    refine ⟨_, rfl, by show 1 ≤ sizeLine; decide, fun l1 hl1 => ?_⟩
    have e0 := Ex.new (o := .lst [v]) hl1
    refine ⟨Nat.zero_le _, fun l2 hl2 => ?_⟩
    have hl20 : H l2 = none := fresh_back e0 hl2
    have e1 := e0.trans (Ex.new (o := .lst []) hl2)
    have n12 : l1 ≠ l2 := fun z => by
      rw [← z, upd_same] at hl2
      cases hl2
    refine ⟨fun m σ H' => ∃ (st : List V) (ts : List Tr) (fs : List V) (ps : List Tr) (y3 y4 : Option V), σ = [some v, some (.ref l1), some (.ref l2), y3, y4] ∧ Ex H H' ∧ H' l1 = some (.lst st) ∧ Kids true H st ts ∧ H' l2 = some (.lst fs) ∧ Kids true H fs ps ∧ ps ++ ts.reverse.flatMap LM.parts = LM.parts t ∧ m = total ts,
      ⟨t.size, [v], [t], [], [], none, none, rfl, e1, Ex.new hl2 _ _ upd_same, .cons hT .nil, upd_same, .nil, by simp, rfl⟩, fun m σ H' hw => ?_⟩
    obtain ⟨st, ts, fs, ps, y3, y4, rfl, e2, hst, KK, hfs, KF, hps, hm⟩ := hw
    have hsum : fs.length + total ts = t.size := by
      rw [← LM.parts_len, ← hps, List.length_append, LM.fm_len, total_rev, KF.len]
    refine ⟨_, rfl, !st.isEmpty, .inl ⟨st, sq_of hst, rfl⟩, ?_⟩
    cases st with
    | nil =>
      refine iteF ?_
      cases KK
      rw [List.reverse_nil, List.flatMap_nil, List.append_nil] at hps
      exact ⟨_, rfl, q l2 _ fs e2 hl20 hfs (by rw [← hps]; exact KF.ex e2)⟩
    | cons s0 srest =>
      refine iteT ?_
      obtain ⟨us, x, rs, pt, eS, eP, K', hTA⟩ := KK.last (by intro z; cases z)
      rw [eS] at hst
      subst eP
      rw [total_app, show total [pt] = pt.size from Nat.add_zero _] at hsum hm
      have hk := size_kids pt
      refine ⟨fun σ2 H2 => ∃ m', m' < m ∧ ∃ (st : List V) (ts : List Tr) (fs : List V) (ps : List Tr) (y3 y4 : Option V), σ2 = [some v, some (.ref l1), some (.ref l2), y3, y4] ∧ Ex H H2 ∧ H2 l1 = some (.lst st) ∧ Kids true H st ts ∧ H2 l2 = some (.lst fs) ∧ Kids true H fs ps ∧ ps ++ ts.reverse.flatMap LM.parts = LM.parts t ∧ m' = total ts, fun σ2 H2 h => h, ?_⟩
      refine ⟨_, rfl, .inl ⟨rfl, _, sq_of hst⟩, l1, _, _, rfl, rfl, hst, pop_last _ _, ?_⟩
      rw [List.dropLast_concat]
      have e3 : Ex H (L2.upd H' l1 (.lst us)) := e2.mut hl1
      have hl3 : (L2.upd H' l1 (.lst us)) l1 = some (.lst us) := upd_same
      have hf3 : (L2.upd H' l1 (.lst us)) l2 = some (.lst fs) := by
        rw [upd_ne n12.symm]
        exact hfs
      generalize (L2.upd H' l1 (.lst us)) = H3 at e3 hl3 hf3 ⊢
      refine ⟨_, rfl, .inl ⟨rfl, _, sq_of hf3⟩, _, rfl, l2, _, _, rfl, rfl, hf3, sz_lt (by omega), ?_⟩
      have e4 : Ex H (L2.upd H3 l2 (.lst (fs ++ [x]))) := e3.mut hl20
      have hl4 : (L2.upd H3 l2 (.lst (fs ++ [x]))) l1 = some (.lst us) := by
        rw [upd_ne n12]
        exact hl3
      have hf4 : (L2.upd H3 l2 (.lst (fs ++ [x]))) l2 = some (.lst (fs ++ [x])) := upd_same
      generalize (L2.upd H3 l2 (.lst (fs ++ [x]))) = H4 at e4 hl4 hf4 ⊢
      refine ⟨_, rfl, .inl ⟨rfl, _, sq_of hl4⟩, ?_⟩
      refine ⟨_, rfl, pt, x, true, H, rfl, hTA, e4, fun r2 H5 ks e5 hr2 hks KX => ?_⟩
      have lks := KX.len
      have ltk := len_total pt.kids
      refine ⟨r2, ks, rfl, sq_of hks, fun D hD => ?_⟩
      refine lc_it (walk_rev (K := K) (a := r2) (xs := ks)) (fun i H6 => Ex H5 H6 ∧ H6 D = some (.lst (ks.reverse.take i))) ⟨Ex.new hD, upd_same⟩ (fun i H6 _ hw => sq_of (hw.1 _ _ hks)) (fun i z H6 H7 hi hw hy => ?_) (fun H6 hw => ?_)
      · obtain ⟨e6, hz⟩ := hw
        obtain ⟨rfl, hx⟩ := hy
        refine ⟨rfl, _, rfl, _, hz, ?_, e6.mut hD, ?_⟩
        · rw [List.length_take]
          exact sz_lt (by omega)
        · rw [upd_same, take_next' (rev_get hx hi)]
      · obtain ⟨e6, hz⟩ := hw
        rw [← List.length_reverse, List.take_length] at hz
        have hl6 := e6 _ _ (e5 _ _ hl4)
        have lu := K'.len
        have ltr := len_total rs
        refine ⟨l1, D, us, ks.reverse, rfl, rfl, hl6, hz, sz_of (by rw [List.length_reverse]; omega), ?_⟩
        refine ⟨total (rs ++ pt.kids.reverse), by rw [total_app, total_rev]; omega, us ++ ks.reverse, rs ++ pt.kids.reverse, fs ++ [x], ps ++ [pt], _, _, rfl, ((e4.trans e5).trans e6).mut hl1, upd_same, K'.app KX.rev, ?_, KF.snoc hTA, ?_, rfl⟩
        · rw [upd_ne n12.symm]
          exact e6 _ _ (e5 _ _ hf4)
        · rw [← hps, List.reverse_append, List.reverse_reverse, List.flatMap_append, List.reverse_append, List.flatMap_append, List.append_assoc]
          simp only [List.reverse_singleton, List.flatMap_cons, List.flatMap_nil, List.append_nil]
          rw [LM.parts_kids pt]
          rfl
theorem ok_renG {f : Addr} {fd : FuncData} (F : Fun K "renamed" "renamed" s_renamed f fd) (T : Tx mg) (g : mg "renamed" = some (.ref f)) (b : Binds K fd ["tree", "names"] []) : ∀ d : Nat, FnOk P w K mg base CX0 (d + 1) f fd ["tree", "names"] (spRenG d)
  | 0 => by
    refine F.ok sc_renamed (fun vs H Q E h => ?_) (fun cdv A outer s H vs Q E hr h => ?_)
    · obtain ⟨t, v, k, an, ns, rfl, _⟩ := h
      rfl
    · obtain ⟨t, v, k, an, ns, rfl, hT, han, hS, hd, hsz, q⟩ := h
      exfalso
      cases t
      · exact absurd hd (by show ¬ (1 ≤ 0); omega)
      · exact absurd hd (by show ¬ (_ + 1 ≤ 0); omega)
      · exact absurd hd (by show ¬ (_ + 1 ≤ 0); omega)
  | d + 1 => by
    have c_renamed : Kn P w K mg base "renamed" ["tree", "names"] (d + 1) (spRenG d) := ⟨f, fd, ok_renG F T g b d, g, F.kp, b⟩
    refine F.ok sc_renamed (fun vs H Q E h => ?_) (fun cdv A outer s H vs Q E hr h => ?_)
    · obtain ⟨t, v, k, an, ns, rfl, _⟩ := h
      rfl
    · obtain ⟨t, v, k, an, ns, rfl, hT, han, hS, hd, hsz, q⟩ := h
      refine ⟨_, (pss_cons (ps_asg (pv 0) (TR.pg_seq (by rfl) (pgs_cons (pg_name (i := 2) sc_renamed.nd rfl (Or.inl rfl)) (pgs_cons (pg_name (i := 3) sc_renamed.nd rfl (Or.inl rfl)) (pgs_cons (pg_name (i := 4) sc_renamed.nd rfl (Or.inl rfl)) pgs_nil)))))
      (pss_cons (ps_if (pt_cmpR op_eq (pv 2) pe_str (nomark _)) (pss_one (ps_ret (pe_tup (pa_cons (pv 2) (pa_cons (pv 3) (pa_cons (pe_ix ix_list (pv 1) (pv 4) (fun _ _ => rfl)) pa_nil)))))) pss_nil)
      (pss_cons (ps_if (pt_cmpR op_eq (pv 2) pe_str (nomark _)) (pss_one (ps_ret (pe_tup (pa_cons (pv 2) (pa_cons (pv 3) (pa_cons (pe_call c_renamed.ok (hr.mono (by omega)) (by rfl) c_renamed.g c_renamed.kp c_renamed.b .nil pass0 (pa_cons (pv 4) (pa_cons (pv 1) pa_nil))) pa_nil)))))) pss_nil)
      (pss_one (ps_ret (pe_tup (pa_cons (pv 2) (pa_cons (pv 3) (pa_cons (pe_callTy call_tuple_of (by rfl) T.tuple PyProof.Rows.boot_tuple (pa_cons (pe_lc (own := [("inner", 5)]) (g := gName 5) (tt := tYes) rfl sc_renamed.nd (TR.pi_seq (pv 4)) (blkOk_by (N := N_renamed) (sc := defScope s_renamed) (by decide +kernel)) (fun _ _ _ _ _ => (pg_name (i := 5) sc_renamed.nd rfl (Or.inl rfl))) (fun _ _ _ _ _ => pts_nil) (fun _ _ _ _ _ => (pe_call c_renamed.ok (hr.mono (by omega)) (by rfl) c_renamed.g c_renamed.kp c_renamed.b .nil pass0 (pa_cons (pv 5) (pa_cons (pv 1) pa_nil))))) pa_nil)) pa_nil))))))))), ?_⟩
      cases hT with
      | @go a s' q' h =>
        refine ⟨_, rfl, gSeq_of h rfl ⟨_, _, rfl, _, _, rfl, _, _, rfl, rfl, ?_⟩⟩
        refine ⟨_, rfl, rfl, _, rfl, iteD rfl ?_⟩
        exact ⟨_, rfl, _, rfl, _, rfl, _, rfl, an, _, _, _, rfl, rfl, sq_of han, nV_at (hS _ (by simp [LM.lv])), by show 3 ≤ sizeLine; decide, fun r hr2 => q _ _ (Ex.new hr2) (by simp only [LM.ren]; exact .go upd_same)⟩
      | @tell a n' v' t' h r0 =>
        have hd' : t'.depth ≤ d := by
          have : t'.depth + 1 ≤ d + 1 := hd
          omega
        have hs' : t'.size ≤ 10000 := by
          have : t'.size + 1 ≤ 10000 := hsz
          omega
        refine ⟨_, rfl, gSeq_of h rfl ⟨_, _, rfl, _, _, rfl, _, _, rfl, rfl, ?_⟩⟩
        refine ⟨_, rfl, rfl, _, rfl, iteDn tell_ne_go ?_⟩
        refine ⟨_, rfl, rfl, _, rfl, iteD rfl ?_⟩
        refine ⟨_, rfl, _, rfl, _, rfl, _, rfl, t', v', k, an, ns, rfl, r0, han, (fun z hz => hS z (by simpa [LM.lv] using hz)), hd', hs', fun H1 v1 e1 hv1 => ⟨by show 3 ≤ sizeLine; decide, fun r hr2 => ?_⟩⟩
        exact q _ _ (e1.trans (Ex.new hr2)) (by simp only [LM.ren]; exact .tell upd_same (hv1.ex (Ex.new hr2)))
      | @read a b' p' us ts h hb r0 =>
        have hd' : ts.depth ≤ d := by
          have : ts.depth + 1 ≤ d + 1 := hd
          omega
        have hs' : ts.size ≤ 9999 := by
          have : ts.size + 1 ≤ 10000 := hsz
          omega
        have KK := r0.kids
        have lks := KK.len
        have ltk := len_total ts.list
        rw [Trs.total] at ltk
        refine ⟨_, rfl, gSeq_of h rfl ⟨_, _, rfl, _, _, rfl, _, _, rfl, rfl, ?_⟩⟩
        refine ⟨_, rfl, rfl, _, rfl, iteDn read_ne_go ?_⟩
        refine ⟨_, rfl, rfl, _, rfl, iteDn read_ne_tell ?_⟩
        refine ⟨_, rfl, _, rfl, ?_⟩
        cases k
        · refine .inl ⟨_, rfl, b', rfl, ⟨us, sq_of hb⟩, fun D hD => lc_it (walk_list (K := K) (a := b') (xs := us)) (fun i H6 => Ex H H6 ∧ ∃ zs, H6 D = some (.lst zs) ∧ Kids true H6 zs ((ts.list.take i).map (LM.ren (LM.at0 ns)))) ⟨Ex.new hD, [], upd_same, .nil⟩ (fun i H6 _ hw => sq_of (hw.1 _ _ hb)) (fun i x H6 H7 hi hw hy => ?_) (fun H6 hw => ?_)⟩
          · obtain ⟨e6, zs, hz, Z⟩ := hw
            obtain ⟨rfl, hx⟩ := hy
            obtain ⟨kt, hkt, hka⟩ := KK.get hx
            have mem := List.mem_of_getElem? hkt
            have dk := Trs.depth_mem kt mem
            have sk : kt.size ≤ ts.size := by
              have h1 := size_mem mem
              rw [Trs.total] at h1
              exact h1
            have lz := Z.len
            rw [List.length_map, List.length_take] at lz
            refine ⟨rfl, _, rfl, _, rfl, kt, x, _, an, ns, rfl, hka.ex e6, e6 _ _ han, (fun z hz => hS z (by simp only [LM.lv]; exact LM.lvs_mem mem hz)), by omega, by omega, fun H8 v8 e8 hv8 => ?_⟩
            refine ⟨zs, e8 _ _ hz, sz_lt (by omega), (e6.trans e8).mut hD, zs ++ [v8], upd_same, ?_⟩
            rw [take_next' hkt, List.map_append]
            refine Kids.upd (fun ys hh => ?_) ((Z.ex e8).snoc hv8)
            rw [e8 _ _ hz] at hh
            cases hh
          · obtain ⟨e6, zs, hz, Z⟩ := hw
            rw [lks, List.take_length, ← LM.rens_list] at Z
            refine ⟨D, zs, rfl, .inl ⟨sq_of hz, fun t2 ht2 => ⟨by show 3 ≤ sizeLine; decide, fun r hr2 => ?_⟩⟩⟩
            exact q _ _ ((e6.trans (Ex.new ht2)).trans (Ex.new hr2)) (by simp only [LM.ren]; exact .read upd_same (Ex.new hr2 _ _ upd_same) ((Z.ex ((Ex.new ht2).trans (Ex.new hr2))).tas))
        · refine .inr ⟨_, rfl, b', rfl, ⟨us, st_of hb⟩, fun D hD => lc_it (walk_tup (K := K) (a := b') (xs := us)) (fun i H6 => Ex H H6 ∧ ∃ zs, H6 D = some (.lst zs) ∧ Kids true H6 zs ((ts.list.take i).map (LM.ren (LM.at0 ns)))) ⟨Ex.new hD, [], upd_same, .nil⟩ (fun i H6 _ hw => st_of (hw.1 _ _ hb)) (fun i x H6 H7 hi hw hy => ?_) (fun H6 hw => ?_)⟩
          · obtain ⟨e6, zs, hz, Z⟩ := hw
            obtain ⟨rfl, hx⟩ := hy
            obtain ⟨kt, hkt, hka⟩ := KK.get hx
            have mem := List.mem_of_getElem? hkt
            have dk := Trs.depth_mem kt mem
            have sk : kt.size ≤ ts.size := by
              have h1 := size_mem mem
              rw [Trs.total] at h1
              exact h1
            have lz := Z.len
            rw [List.length_map, List.length_take] at lz
            refine ⟨rfl, _, rfl, _, rfl, kt, x, _, an, ns, rfl, hka.ex e6, e6 _ _ han, (fun z hz => hS z (by simp only [LM.lv]; exact LM.lvs_mem mem hz)), by omega, by omega, fun H8 v8 e8 hv8 => ?_⟩
            refine ⟨zs, e8 _ _ hz, sz_lt (by omega), (e6.trans e8).mut hD, zs ++ [v8], upd_same, ?_⟩
            rw [take_next' hkt, List.map_append]
            refine Kids.upd (fun ys hh => ?_) ((Z.ex e8).snoc hv8)
            rw [e8 _ _ hz] at hh
            cases hh
          · obtain ⟨e6, zs, hz, Z⟩ := hw
            rw [lks, List.take_length, ← LM.rens_list] at Z
            refine ⟨D, zs, rfl, .inl ⟨sq_of hz, fun t2 ht2 => ⟨by show 3 ≤ sizeLine; decide, fun r hr2 => ?_⟩⟩⟩
            exact q _ _ ((e6.trans (Ex.new ht2)).trans (Ex.new hr2)) (by simp only [LM.ren]; exact .read upd_same (Ex.new hr2 _ _ upd_same) ((Z.ex ((Ex.new ht2).trans (Ex.new hr2))).tas))
end
end Law

namespace TT
open PySem PySem.Spec L2 Evl TR
theorem num_inj {a b : Nat} (ha : a < 100) (hb : b < 100) (h : num a = num b) : a = b := by
  have : ∀ a < 100, ∀ b < 100, num a = num b → a = b := by decide +kernel
  exact this a ha b hb h
mutual
theorem toks_inj {L : List Nat} {w n : Nat} : ∀ {t u : Tr} {r r' : List (List Nat)}, t.ok L.length w n → small t → u.ok L.length w n → small u → toks L t ++ r = toks L u ++ r' → t = u ∧ r = r'
  | .go s q, .go s' q', r, r', _, st, _, su, h => by
    simp only [toks, List.cons_append, List.nil_append, List.cons.injEq] at h
    exact ⟨by rw [num_inj st.1 su.1 h.2.1, num_inj st.2 su.2 h.2.2.1], h.2.2.2⟩
  | .go _ _, .tell _ _, _, _, _, _, _, _, h => by
    simp only [toks, List.cons_append, List.cons.injEq] at h
    exact absurd h.1 (by decide)
  | .go _ _, .read _ _, _, _, _, _, _, _, h => by
    simp only [toks, List.cons_append, List.cons.injEq] at h
    exact absurd h.1 (by decide)
  | .tell _ _, .go _ _, _, _, _, _, _, _, h => by
    simp only [toks, List.cons_append, List.cons.injEq] at h
    exact absurd h.1 (by decide)
  | .tell k t, .tell k' u, r, r', ot, st, ou, su, h => by
    simp only [toks, List.cons_append, List.cons.injEq] at h
    obtain ⟨e1, e2⟩ := toks_inj ot.2 st.2 ou.2 su.2 h.2.2
    exact ⟨by rw [num_inj st.1 su.1 h.2.1, e1], e2⟩
  | .tell _ _, .read _ _, _, _, _, _, _, _, h => by
    simp only [toks, List.cons_append, List.cons.injEq] at h
    exact absurd h.1 (by decide)
  | .read _ _, .go _ _, _, _, _, _, _, _, h => by
    simp only [toks, List.cons_append, List.cons.injEq] at h
    exact absurd h.1 (by decide)
  | .read _ _, .tell _ _, _, _, _, _, _, _, h => by
    simp only [toks, List.cons_append, List.cons.injEq] at h
    exact absurd h.1 (by decide)
  | .read p ts, .read p' us, r, r', ot, st, ou, su, h => by
    simp only [toks, List.cons_append, List.cons.injEq] at h
    obtain ⟨e1, e2⟩ := tokss_inj ot.2.1 ou.2.1 ot.2.2 st.2 ou.2.2 su.2 h.2.2
    exact ⟨by rw [num_inj st.1 su.1 h.2.1, e1], e2⟩
theorem tokss_inj {L : List Nat} {w n : Nat} : ∀ {l : List Nat} {ts us : Trs} {r r' : List (List Nat)}, ts.list.length = l.length → us.list.length = l.length → ts.ok L.length w n → smalls ts → us.ok L.length w n → smalls us → tokss L l ts ++ r = tokss L l us ++ r' → ts = us ∧ r = r'
  | [], .nil, .nil, r, r', _, _, _, _, _, _, h => ⟨rfl, by simpa [tokss] using h⟩
  | [], .cons _ _, _, _, _, h, _, _, _, _, _, _ => by simp [Trs.list] at h
  | [], .nil, .cons _ _, _, _, _, h, _, _, _, _, _ => by simp [Trs.list] at h
  | _ :: _, .nil, _, _, _, h, _, _, _, _, _, _ => by simp [Trs.list] at h
  | _ :: _, .cons _ _, .nil, _, _, _, h, _, _, _, _, _ => by simp [Trs.list] at h
  | c :: l, .cons t ts, .cons u us, r, r', h1, h2, ot, st, ou, su, h => by
    simp only [tokss, List.cons_append, List.append_assoc, List.cons.injEq] at h
    obtain ⟨e1, e2⟩ := toks_inj ot.1 st.1 ou.1 su.1 h.2
    obtain ⟨e3, e4⟩ := tokss_inj (by simpa [Trs.list] using h1) (by simpa [Trs.list] using h2) ot.2 st.2 ou.2 su.2 e2
    exact ⟨by rw [e1, e3], e4⟩
end
theorem txt_inj {L : List Nat} (hL : Low L) (hne : L ≠ []) {w n : Nat} {t u : Tr} (ot : t.ok L.length w n) (st : small t) (ou : u.ok L.length w n) (su : small u) (h : txt L t = txt L u) : t = u := by
  have e := congrArg tok h
  rw [tok_txt hL hne ot st, tok_txt hL hne ou su] at e
  exact (toks_inj (r := []) (r' := []) ot st ou su (by rw [e])).1
end TT
namespace LM
open TR
mutual
theorem ren_ok {f : Nat → Nat} {L w n m : Nat} : ∀ {t : Tr}, t.ok L w n → (∀ q ∈ lv t, f q < m) → (ren f t).ok L w m
  | .go s q, h, k => by
    simp only [ren]
    exact ⟨h.1, h.2.1, k q (by simp [lv])⟩
  | .tell _ t, h, k => by
    simp only [ren]
    exact ⟨h.1, ren_ok (t := t) h.2 (by simpa [lv] using k)⟩
  | .read _ ts, h, k => by
    simp only [ren]
    exact ⟨h.1, by rw [rens_list, List.length_map]; exact h.2.1, rens_ok (ts := ts) h.2.2 (by simpa [lv] using k)⟩
theorem rens_ok {f : Nat → Nat} {L w n m : Nat} : ∀ {ts : Trs}, ts.ok L w n → (∀ q ∈ lvs ts, f q < m) → (rens f ts).ok L w m
  | .nil, _, _ => by simp only [rens]; exact True.intro
  | .cons t r, h, k => by
    simp only [rens]
    exact ⟨ren_ok h.1 fun q hq => k q (by simp only [lvs]; exact List.mem_append_left _ hq), rens_ok h.2 fun q hq => k q (by simp only [lvs]; exact List.mem_append_right _ hq)⟩
end
mutual
theorem ren_size (f : Nat → Nat) : ∀ t : Tr, (ren f t).size = t.size
  | .go _ _ => by simp [ren, Tr.size]
  | .tell _ t => by simp only [ren, Tr.size]; rw [ren_size f t]
  | .read _ ts => by simp only [ren, Tr.size]; rw [rens_size f ts]
theorem rens_size (f : Nat → Nat) : ∀ ts : Trs, (rens f ts).size = ts.size
  | .nil => by simp [rens, Trs.size]
  | .cons t r => by simp only [rens, Trs.size]; rw [ren_size f t, rens_size f r]
end
mutual
theorem ren_depth (f : Nat → Nat) : ∀ t : Tr, (ren f t).depth = t.depth
  | .go _ _ => by simp [ren, Tr.depth]
  | .tell _ t => by simp only [ren, Tr.depth]; rw [ren_depth f t]
  | .read _ ts => by simp only [ren, Tr.depth]; rw [rens_depth f ts]
theorem rens_depth (f : Nat → Nat) : ∀ ts : Trs, (rens f ts).depth = ts.depth
  | .nil => by simp [rens, Trs.depth]
  | .cons t r => by simp only [rens, Trs.depth]; rw [ren_depth f t, rens_depth f r]
end
theorem can_lt {c : List Nat} (h : Can c) {x : Nat} (hx : x ∈ c) : x < card c := by
  have : x ∈ dd [] c := (dd_mem _ _ _).mpr (.inr hx)
  rw [show dd [] c = List.range (card c) from h] at this
  exact List.mem_range.mp this
theorem Pk_lt {ts : List Tr} (h : 0 < ts.length) (k : Nat) {q : Nat} (hq : q < ts.length) : at0 (Pk ts k) q < ts.length := by
  have h1 := can_lt (Pk_can h k) (at0_mem (by rw [Pk_len]; exact hq))
  have h2 := card_le (Pk ts k)
  rw [Pk_len] at h2
  omega
end LM
namespace Law
open PySem PySem.Spec PyProof.Rows L2 Evl TR
/-! ### tables of places -/
def TabI {α : Type} [DecidableEq α] (f : α → Key) (kvs : List (Key × V)) (m : List α) : Prop := kvs.length = m.length ∧ ∀ z, valV kvs (f z) = if z ∈ m then some (.int (m.idxOf z : Nat)) else none
theorem TabI.nil {α : Type} [DecidableEq α] {f : α → Key} : TabI f [] [] := ⟨rfl, fun z => rfl⟩
theorem TabI.snoc {α : Type} [DecidableEq α] {f : α → Key} (inj : ∀ a b, f a = f b → a = b) {kvs : List (Key × V)} {m : List α} {z : α} (h : TabI f kvs m) (hz : z ∉ m) : TabI f (putK kvs (f z) (.int (m.length : Nat))) (m ++ [z]) := by
  have hn : valV kvs (f z) = none := by rw [h.2 z, if_neg hz]
  refine ⟨by rw [putK_new _ hn, List.length_append, List.length_append, h.1]; rfl, fun y => ?_⟩
  rw [valV_put]
  by_cases e : f y = f z
  · have e2 := inj _ _ e
    rw [if_pos e, if_pos (by rw [e2]; simp), e2, List.idxOf_append, if_neg hz]
    simp
  · rw [if_neg e, h.2 y]
    have ne : y ≠ z := fun q => e (by rw [q])
    by_cases hy : y ∈ m
    · rw [if_pos hy, if_pos (List.mem_append_left _ hy), List.idxOf_append, if_pos hy]
    · rw [if_neg hy, if_neg (by simp [hy, ne])]
theorem TabI.look {α : Type} [DecidableEq α] {f : α → Key} {kvs : List (Key × V)} {m : List α} (h : TabI f kvs m) {H : Hp} {a : Addr} (e : H a = some (.dK kvs)) (z : α) : DGet H a (kV (f z)) (if z ∈ m then some (.int (m.idxOf z : Nat)) else none) := by
  have := DGet.k (k := f z) e
  rw [h.2 z] at this
  exact this
theorem TabI.get {α : Type} [DecidableEq α] {f : α → Key} {kvs : List (Key × V)} {m : List α} (h : TabI f kvs m) {H : Hp} {a : Addr} (e : H a = some (.dK kvs)) {z : α} (hz : z ∈ m) : DGet H a (kV (f z)) (some (.int (m.idxOf z : Nat))) := by
  have := h.look e z
  rw [if_pos hz] at this
  exact this
def kS (z : Str) : Key := .inr z
def kN (q : Nat) : Key := .inl (q : Int)
theorem kS_inj : ∀ a b, kS a = kS b → a = b := fun a b h => by
  injection h
theorem kN_inj : ∀ a b, kN a = kN b → a = b := fun a b h => by
  have : (a : Int) = b := by injection h
  omega
theorem dd_step {α : Type} [DecidableEq α] {zs : List α} {i : Nat} {x : α} (h : zs[i]? = some x) : LM.dd [] (zs.take (i + 1)) = if x ∈ LM.dd [] (zs.take i) then LM.dd [] (zs.take i) else LM.dd [] (zs.take i) ++ [x] := by
  rw [take_next' h, LM.dd_app]
  show (if _ then _ else _) = _
  rfl
def spNum : Sp := fun vs H Q _ => ∃ (a : Addr) (zs : List Str), vs = [.ref a] ∧ H a = some (.lst (zs.map V.str)) ∧ zs.length ≤ 1000 ∧ ∀ r H', Ex H H' → H r = none → H' r = some (.lst (nV (LM.numb zs))) → Q (.ref r) H'
section
variable {P : Program} {w : World} {K : PySem.W.Frag} {mg : Str → Option Value} {base : Heap}
theorem ok_num {f : Addr} {fd : FuncData} (F : Fun K "_numbered" "_numbered" s_numbered f fd) (T : Tx mg) : FnOk P w K mg base CX0 1 f fd ["texts"] spNum := by
  refine F.ok sc_numbered (fun vs H Q E h => ?_) (fun cdv A outer s H vs Q E hr h => ?_)
  · obtain ⟨a, zs, rfl, _⟩ := h
    rfl
  · obtain ⟨a, zs, rfl, ha, hz, q⟩ := h
    refine ⟨_, (pss_cons (ps_set (i := 1) sc_numbered.nd rfl (Or.inr rfl) pe_dnewK)
      (pss_cons (ps_for PassesOwn.never rfl (pi_list (pv 0)) (pg_name (i := 2) sc_numbered.nd rfl (Or.inl rfl)) (pss_one (ps_if (pt_cmp (pc_dnotin (hu_of hr) (pv 2) (pv 1))) (pss_one (ps_dput (hu_of hr) (pv 1) (pv 2) (pe_callB call_lenD (by rfl) T.len PySem.boot_len (pa_cons (pv 1) pa_nil)) rfl)) pss_nil)))
      (pss_one (ps_ret (pe_lc (own := [("text", 2)]) (g := gName 2) (tt := tYes) rfl sc_numbered.nd (pi_list (pv 0)) (blkOk_by (N := N_numbered) (sc := defScope s_numbered) (by decide +kernel)) (fun _ _ _ _ _ => (pg_name (i := 2) sc_numbered.nd rfl (Or.inl rfl))) (fun _ _ _ _ _ => pts_nil) (fun _ _ _ _ _ => (pe_dget (hu_of hr) (pv 1) (pv 2) (fun _ _ => rfl)))))))), ?_⟩
    refine fun p hp => ?_
    have e1 : Ex H (L2.upd H p (.dK [])) := Ex.new hp
    refine ⟨_, rfl, a, rfl, ⟨_, sq_of (e1 _ _ ha)⟩, for_list (xs := zs.map V.str) (fun i σ H' => Ex H H' ∧ (∃ y2, σ = [some (.ref a), some (.ref p), y2]) ∧ ∃ kvs, H' p = some (.dK kvs) ∧ TabI kS kvs (LM.dd [] (zs.take i))) ⟨e1, ⟨none, rfl⟩, [], upd_same, TabI.nil⟩ (fun i σ H' _ hw => sq_of (hw.1 _ _ ha)) (fun i x σ H' hx hw => ?_) (fun σ H' hw => ?_)⟩
    · obtain ⟨e2, ⟨y2, rfl⟩, kvs, hk, tab⟩ := hw
      rw [List.getElem?_map, Option.map_eq_some_iff] at hx
      obtain ⟨z, hx, rfl⟩ := hx
      have hi : i < zs.length := (List.getElem?_eq_some_iff.mp hx).1
      have ll := LM.dd_len (zs.take i) []
      rw [List.length_take] at ll
      simp only [List.length_nil] at ll
      refine ⟨_, rfl, _, rfl, p, _, rfl, tab.look hk z, ?_⟩
      by_cases hm : z ∈ LM.dd [] (zs.take i)
      · rw [if_pos hm]
        refine ⟨_, rfl, iteF ?_⟩
        exact ⟨e2, ⟨_, rfl⟩, kvs, hk, by rw [dd_step hx, if_pos hm]; exact tab⟩
      · rw [if_neg hm]
        refine ⟨_, rfl, iteT ?_⟩
        refine ⟨_, rfl, p, _, rfl, hk, ?_⟩
        refine ⟨_, rfl, _, rfl, p, _, rfl, DPut.k (k := kS z) hk (sz_lt (by rw [tab.1]; omega)), ?_⟩
        rw [tab.1]
        refine ⟨e2.mut hp, ⟨_, rfl⟩, _, upd_same, ?_⟩
        rw [dd_step hx, if_neg hm]
        exact tab.snoc kS_inj hm
    · obtain ⟨e2, ⟨y2, rfl⟩, kvs, hk, tab⟩ := hw
      rw [List.length_map, List.take_length] at tab
      refine ⟨_, rfl, a, rfl, ⟨_, sq_of (e2 _ _ ha)⟩, fun D hD => lc_list (xs := zs.map V.str) (fun i H6 => Ex H' H6 ∧ H6 D = some (.lst (nV ((LM.numb zs).take i)))) ⟨Ex.new hD, upd_same⟩ (fun i H6 _ hw => sq_of (hw.1 _ _ (e2 _ _ ha))) (fun i x H6 hx hw => ?_) (fun H6 hw => ?_)⟩
      · obtain ⟨e6, hd⟩ := hw
        rw [List.getElem?_map, Option.map_eq_some_iff] at hx
        obtain ⟨z, hx, rfl⟩ := hx
        have hn : (LM.numb zs)[i]? = some ((LM.dd [] zs).idxOf z) := by
          unfold LM.numb
          rw [List.getElem?_map, hx]
          rfl
        refine ⟨rfl, _, rfl, _, rfl, p, _, rfl, tab.get (e6 _ _ hk) (z := z) ((LM.dd_mem _ _ _).mpr (.inr (List.mem_of_getElem? hx))), ?_⟩
        refine ⟨_, hd, ?_, e6.mut hD, ?_⟩
        · rw [nV_len, List.length_take]
          exact sz_lt (by rw [LM.numb_len]; omega)
        · rw [upd_same, take_next' hn]
          unfold nV
          rw [List.map_append]
          rfl
      · obtain ⟨e6, hd⟩ := hw
        rw [List.length_map, ← LM.numb_len zs, List.take_length] at hd
        exact q D H6 (e2.trans e6) (fresh_back e2 hD) hd
end
end Law

namespace Law
open PySem PySem.Spec PyProof.Rows L2 Evl TR
/-- what the trees of a searcher keep to -/
structure RT (L : List Nat) (wd d m : Nat) (ts : List Tr) : Prop where
  l : LG L
  l4 : L.length ≤ 4
  w8 : wd ≤ 8
  n1 : 1 ≤ ts.length
  n64 : ts.length ≤ 64
  ok : ∀ t ∈ ts, t.ok L.length wd ts.length
  dp : ∀ t ∈ ts, t.depth ≤ d
  sz : ∀ t ∈ ts, t.size ≤ m
theorem RT.val {L : List Nat} {wd d m : Nat} {ts : List Tr} (r : RT L wd d m ts) : LM.Val ts := fun t ht q hq => LM.lv_ok (r.ok t ht) q hq
theorem RT.low {L : List Nat} {wd d m : Nat} {ts : List Tr} (r : RT L wd d m ts) : TT.Low L := r.l.az
theorem RT.ne {L : List Nat} {wd d m : Nat} {ts : List Tr} (r : RT L wd d m ts) : L ≠ [] := fun h => by
  have := r.l.lo
  rw [h] at this
  exact absurd this (by decide)
theorem tx_inj {a b : List Nat} (h : tx a = tx b) : a = b := by
  have := congrArg (fun z : Str => z.cps.toList) h
  rwa [tx_list, tx_list] at this
theorem RT.num {L : List Nat} {wd d m : Nat} {ts : List Tr} (r : RT L wd d m ts) (k : Nat) : LM.numb (ts.map fun t => tx (TT.txt L (LM.ren (LM.at0 (LM.Pk ts k)) t))) = LM.Pk ts (k + 1) := by
  show _ = LM.numb (ts.map (LM.ren (LM.at0 (LM.Pk ts k))))
  have e : (ts.map fun t => tx (TT.txt L (LM.ren (LM.at0 (LM.Pk ts k)) t))) = (ts.map (LM.ren (LM.at0 (LM.Pk ts k)))).map fun u => tx (TT.txt L u) := by
    rw [List.map_map]
    rfl
  rw [e]
  have ok : ∀ u ∈ ts.map (LM.ren (LM.at0 (LM.Pk ts k))), u.ok L.length wd ts.length := by
    intro u hu
    obtain ⟨t, ht, rfl⟩ := List.mem_map.mp hu
    exact LM.ren_ok (r.ok t ht) fun q hq => LM.Pk_lt r.n1 k (LM.lv_ok (r.ok t ht) q hq)
  refine LM.numb_map fun a ha b hb h => ?_
  exact TT.txt_inj r.low r.ne (ok a ha) (TT.small_of r.w8 r.n64 (ok a ha)) (ok b hb) (TT.small_of r.w8 r.n64 (ok b hb)) (tx_inj h)
def iN (c : List Nat) : List Int := c.map fun q : Nat => (q : Int)
theorem nV_iN (c : List Nat) : nV c = (iN c).map V.int := by
  unfold nV iN
  rw [List.map_map]
  rfl
theorem iN_max {c : List Nat} (h : LM.Can c) {m : Int} (hm : m ∈ iN c) (hl : ∀ y, y ∈ iN c → y ≤ m) : (LM.card c : Int) = m + 1 := by
  obtain ⟨n, hn, rfl⟩ := List.mem_map.mp hm
  have := LM.can_max h hn fun x hx => by
    have := hl (x : Int) (List.mem_map.mpr ⟨x, hx, rfl⟩)
    exact Int.ofNat_le.mp this
  omega
def spCls : Sp := fun vs H Q _ => ∃ (L : List Nat) (wd : Nat) (st : Addr) (us : List V) (ts : List Tr), vs = [.str (tx L), .ref st] ∧ H st = some (.tup us) ∧ Kids true H us ts ∧ RT L wd 31 2000 ts ∧ ∀ r H' S, Ex H H' → H' r = some (.lst (nV S)) → LM.IsS ts S → Q (.ref r) H'
section
variable {P : Program} {w : World} {K : PySem.W.Frag} {mg : Str → Option Value} {base : Heap}
theorem ok_cls {f : Addr} {fd : FuncData} (F : Fun K "_classes" "_classes" s_classes f fd) (T : Tx mg) (c_renamed : Kn P w K mg base "renamed" ["tree", "names"] 41 (spRenG 40)) (c_tree_text : Kn P w K mg base "tree_text" ["letters", "tree"] 32 (spTxt 31)) (c_numbered : Kn P w K mg base "_numbered" ["texts"] 1 spNum) : FnOk P w K mg base CX0 42 f fd ["letters", "states"] spCls := by
  refine F.ok sc_classes (fun vs H Q E h => ?_) (fun cdv A outer s H vs Q E hr h => ?_)
  · obtain ⟨L, wd, st, us, ts, rfl, _⟩ := h
    rfl
  · obtain ⟨L, wd, st, us, ts, rfl, hst, KK, rt, q⟩ := h
    have n1 := rt.n1
    have n64 := rt.n64
    have lks := KK.len
    refine ⟨_, (pss_cons (ps_set (i := 2) sc_classes.nd rfl (Or.inr rfl) (pe_lc (own := [("_", 3)]) (g := gName 3) (tt := tYes) rfl sc_classes.nd (pi_tup (pv 1)) (blkOk_by (N := N_classes) (sc := defScope s_classes) (by decide +kernel)) (fun _ _ _ _ _ => (pg_name (i := 3) sc_classes.nd rfl (Or.inl rfl))) (fun _ _ _ _ _ => pts_nil) (fun _ _ _ _ _ => pe_int)))
      (pss_one (ps_while PassesOwn.never (pt_val pe_bl) (pss_cons (ps_set (i := 4) sc_classes.nd rfl (Or.inl rfl) (pe_call c_numbered.ok (hr.mono (by decide)) (by rfl) c_numbered.g c_numbered.kp c_numbered.b .nil pass0 (pa_cons (pe_lc (own := [("tree", 5)]) (g := gName 5) (tt := tYes) rfl sc_classes.nd (pi_tup (pv 1)) (blkOk_by (N := N_classes) (sc := defScope s_classes) (by decide +kernel)) (fun _ _ _ _ _ => (pg_name (i := 5) sc_classes.nd rfl (Or.inl rfl))) (fun _ _ _ _ _ => pts_nil) (fun _ _ _ _ _ => (pe_call c_tree_text.ok (hr.mono (by decide)) (by rfl) c_tree_text.g c_tree_text.kp c_tree_text.b .nil pass0 (pa_cons (pv 0) (pa_cons (pe_call c_renamed.ok (hr.mono (by decide)) (by rfl) c_renamed.g c_renamed.kp c_renamed.b .nil pass0 (pa_cons (pv 5) (pa_cons (pv 2) pa_nil))) pa_nil))))) pa_nil)))
      (pss_cons (ps_if (pt_cmpR op_eq (pe_callB (cr_max rfl) (by rfl) T.max (by decide +kernel) (pa_cons (pv 4) pa_nil)) (pe_callB (cr_max rfl) (by rfl) T.max (by decide +kernel) (pa_cons (pv 2) pa_nil)) (nomark _)) (pss_one (ps_ret (pv 4))) pss_nil)
      (pss_one (ps_set (i := 2) sc_classes.nd rfl (Or.inr rfl) (pv 4)))))))), ?_⟩
    refine ⟨_, rfl, st, rfl, ⟨us, st_of hst⟩, fun D hD => lc_it (walk_tup (K := K) (a := st) (xs := us)) (fun i H6 => Ex H H6 ∧ H6 D = some (.lst (nV (List.replicate i 0)))) ⟨Ex.new hD, upd_same⟩ (fun i H6 _ hw => st_of (hw.1 _ _ hst)) (fun i x H6 H7 hi hw hy => ?_) (fun H6 hw => ?_)⟩
    · obtain ⟨e6, hz⟩ := hw
      obtain ⟨rfl, hx⟩ := hy
      refine ⟨rfl, _, hz, ?_, e6.mut hD, ?_⟩
      · rw [nV_len, List.length_replicate]
        exact sz_lt (by omega)
      · rw [upd_same, List.replicate_succ']
        unfold nV
        rw [List.map_append]
        rfl
    · obtain ⟨e6, hz⟩ := hw
      refine ⟨fun m σ H' => ∃ (k : Nat) (ca : Addr) (y3 y4 y5 : Option V), σ = [some (.str (tx L)), some (.ref st), some (.ref ca), y3, y4, y5] ∧ Ex H H' ∧ H' ca = some (.lst (nV (LM.Pk ts k))) ∧ m + LM.card (LM.Pk ts k) = ts.length + 1,
        ⟨ts.length + 1 - LM.card (LM.Pk ts 0), 0, D, none, none, none, rfl, e6, by rw [hz, lks]; rfl, ?_⟩, fun m σ H' hw => ?_⟩
      · have := LM.card_le (LM.Pk ts 0)
        rw [LM.Pk_len] at this
        omega
      obtain ⟨k, ca, y3, y4, y5, rfl, e7, hca, hm⟩ := hw
      have c1 := LM.Pk_can (ts := ts) (by omega) k
      have c2 := LM.Pk_can (ts := ts) (by omega) (k + 1)
      have l1 := LM.Pk_len ts k
      have l2 := LM.Pk_len ts (k + 1)
      have lt := fun q hq => LM.Pk_lt (ts := ts) (by omega) k (q := q) hq
      refine ⟨true, rfl, iteT ⟨fun σ2 H2 => ∃ m', m' < m ∧ ∃ (k : Nat) (ca : Addr) (y3 y4 y5 : Option V), σ2 = [some (.str (tx L)), some (.ref st), some (.ref ca), y3, y4, y5] ∧ Ex H H2 ∧ H2 ca = some (.lst (nV (LM.Pk ts k))) ∧ m' + LM.card (LM.Pk ts k) = ts.length + 1, fun σ2 H2 h => h, ?_⟩⟩
      refine ⟨_, rfl, st, rfl, ⟨us, st_of (e7 _ _ hst)⟩, fun B hB => lc_it (walk_tup (K := K) (a := st) (xs := us)) (fun i H8 => Ex H' H8 ∧ H8 B = some (.lst (((ts.map fun t => tx (TT.txt L (LM.ren (LM.at0 (LM.Pk ts k)) t))).take i).map V.str))) ⟨Ex.new hB, upd_same⟩ (fun i H8 _ hw => st_of (hw.1 _ _ (e7 _ _ hst))) (fun i x H8 H9 hi hw hy => ?_) (fun H8 hw => ?_)⟩
      · obtain ⟨e8, hb⟩ := hw
        obtain ⟨rfl, hx⟩ := hy
        obtain ⟨t, ht, hT⟩ := KK.get hx
        have mem := List.mem_of_getElem? ht
        have ot := rt.ok t mem
        have dt := rt.dp t mem
        have zt := rt.sz t mem
        have hlv := LM.lv_ok ot
        have hi' : i < ts.length := by rw [← lks]; exact hi
        have ok2 : (LM.ren (LM.at0 (LM.Pk ts k)) t).ok L.length wd ts.length := LM.ren_ok ot fun q hq => lt q (hlv q hq)
        refine ⟨rfl, _, rfl, _, rfl, _, rfl, t, x, true, ca, _, rfl, hT.ex (e7.trans e8), e8 _ _ hca, (fun q hq => by rw [l1]; exact hlv q hq), by omega, by omega, fun H9 v9 e9 hv9 => ?_⟩
        refine ⟨_, _, L, wd, ts.length, rfl, hv9, ok2, TT.small_of rt.w8 n64 ok2, rt.l4, by rw [LM.ren_depth]; exact dt, by rw [LM.ren_size]; exact zt, fun H10 e10 => ?_⟩
        refine ⟨_, e10 _ _ (e9 _ _ hb), ?_, ((e8.trans e9).trans e10).mut hB, ?_⟩
        · rw [List.length_map, List.length_take]
          exact sz_lt (by omega)
        · rw [upd_same, take_next' (x := tx (TT.txt L (LM.ren (LM.at0 (LM.Pk ts k)) t))) (by rw [List.getElem?_map, ht]; rfl), List.map_append]
          rfl
      · obtain ⟨e8, hb⟩ := hw
        rw [List.take_of_length_le (by rw [List.length_map, lks]; exact Nat.le_refl _)] at hb
        refine ⟨B, _, rfl, hb, by rw [List.length_map]; omega, fun r H9 e9 hr9 hn => ?_⟩
        rw [rt.num k] at hn
        have hca9 := e9 _ _ (e8 _ _ hca)
        have e10 := (e7.trans e8).trans e9
        refine ⟨_, rfl, r, iN (LM.Pk ts (k + 1)), rfl, by rw [← nV_iN]; exact sq_of hn, by unfold iN; rw [List.length_map, l2]; omega, fun m1 hm1 hl1 => ?_⟩
        refine ⟨_, rfl, ca, iN (LM.Pk ts k), rfl, by rw [← nV_iN]; exact sq_of hca9, by unfold iN; rw [List.length_map, l1]; omega, fun m2 hm2 hl2 => ?_⟩
        have d1 := iN_max c2 hm1 hl1
        have d2 := iN_max c1 hm2 hl2
        have mono := LM.step_card (ts := ts) (by omega) rt.val k
        have cl := LM.card_le (LM.Pk ts (k + 1))
        by_cases e : m1 = m2
        · refine ⟨rfl, _, rfl, iteD (by rw [e]) ?_⟩
          exact ⟨_, rfl, q r H9 _ e10 hn ⟨k, rfl, by omega⟩⟩
        · refine ⟨rfl, _, rfl, iteDn (fun z => e (by injection z)) ?_⟩
          exact ⟨_, rfl, ts.length + 1 - LM.card (LM.Pk ts (k + 1)), by omega, k + 1, r, _, _, _, rfl, e10, hn, by have := LM.card_le (LM.Pk ts (k + 1)); omega⟩
end
end Law

namespace LM
open TR
variable {ts : List Tr} {S : List Nat}
theorem Good.more {m l : List Nat} (g : Good S m) (h : ∀ x ∈ l, x ∈ S) : Good S (LM.dd m l) := by
  refine ⟨dd_nodup _ _ g.1, fun x hx => ?_⟩
  rcases (dd_mem _ _ _).mp hx with q | q
  · exact g.2 x q
  · exact h x q
theorem rep_lvs (h : 0 < ts.length) (V : Val ts) (hS : IsS ts S) {i : Nat} (hi : i < ts.length) : (lv (rep ts S (at0 S i))).map (at0 S) = (lv (tr0 ts i)).map (at0 S) := by
  rw [← lv_ren, ← lv_ren, rep_ren h V hS hi]
theorem fm_take {ps : List Tr} {i : Nat} {t : Tr} (h : ps[i]? = some t) : (ps.take (i + 1)).filterMap goOf = (ps.take i).filterMap goOf ++ (goOf t).toList := by
  rw [Law.take_next' h, List.filterMap_append]
  cases e : goOf t <;> simp [e]
theorem go_lv {t : Tr} {i s q : Nat} (h : (parts t)[i]? = some (.go s q)) : q ∈ lv t := by
  rw [lv_parts]
  exact List.mem_filterMap.mpr ⟨_, List.mem_of_getElem? h, rfl⟩
end LM
namespace Law
open PySem PySem.Spec PyProof.Rows L2 Evl TR
def TabB (kvs : List (Key × V)) (m : List Nat) : Prop := kvs.length = m.length ∧ ∀ c : Nat, (valV kvs (kN c)).isSome = decide (c ∈ m)
theorem TabB.snoc {kvs : List (Key × V)} {m : List Nat} {c : Nat} {y : V} (h : TabB kvs m) (hz : c ∉ m) : TabB (putK kvs (kN c) y) (m ++ [c]) := by
  have hn : valV kvs (kN c) = none := by
    have := h.2 c
    rw [decide_eq_false hz] at this
    exact Option.not_isSome_iff_eq_none.mp (by rw [this]; simp)
  refine ⟨by rw [putK_new _ hn, List.length_append, List.length_append, h.1]; rfl, fun d => ?_⟩
  rw [valV_put]
  by_cases e : kN d = kN c
  · have e2 := kN_inj _ _ e
    rw [if_pos e, e2]
    simp
  · rw [if_neg e, h.2 d]
    have ne : d ≠ c := fun q => e (by rw [q])
    simp [ne]
def spMet : Sp := fun vs H Q _ => ∃ (st ca : Addr) (us : List V) (ts : List Tr) (S : List Nat) (L : List Nat) (wd : Nat), vs = [.ref st, .ref ca] ∧ H st = some (.tup us) ∧ Kids true H us ts ∧ RT L wd 31 2000 ts ∧ H ca = some (.lst (nV S)) ∧ LM.IsS ts S ∧ ∀ r H' o, Ex H H' → H' r = some (.lst (nV o)) → o.map (LM.at0 S) = LM.met ts S → (∀ x ∈ o, x < ts.length) → Q (.ref r) H'
section
variable {P : Program} {w : World} {K : PySem.W.Frag} {mg : Str → Option Value} {base : Heap}
theorem ok_met {f : Addr} {fd : FuncData} (F : Fun K "_met" "_met" s_met f fd) (T : Tx mg) (c_all_parts : Kn P w K mg base "all_parts" ["tree"] 2 spAllG) : FnOk P w K mg base CX0 3 f fd ["states", "classes"] spMet := by
  refine F.ok sc_met (fun vs H Q E h => ?_) (fun cdv A outer s H vs Q E hr h => ?_)
  · obtain ⟨st, ca, us, ts, S, L, wd, rfl, _⟩ := h
    rfl
  · obtain ⟨st, ca, us, ts, S, L, wd, rfl, hst, KK, rt, hca, hS, q⟩ := h
    have n1 := rt.n1
    have n64 := rt.n64
    have vl := rt.val
    have lS := hS.len
    have lks := KK.len
    refine ⟨_, (pss_cons (ps_set (i := 2) sc_met.nd rfl (Or.inl rfl) (pe_lst (pa_cons pe_int pa_nil)))
      (pss_cons (ps_set (i := 3) sc_met.nd rfl (Or.inl rfl) (pe_disp (pps_cons (pe_ix ix_list (pv 1) pe_int (fun _ _ => rfl)) pe_bl pps_nil) (by rfl) (by rfl) (fun z => by cases z) (by decide)))
      (pss_cons (ps_set (i := 4) sc_met.nd rfl (Or.inl rfl) pe_int)
      (pss_cons (ps_while PassesOwn.never (pt_cmpR op_lt (pv 4) (pe_callB call_len_seq (by rfl) T.len PySem.boot_len (pa_cons (pv 2) pa_nil)) (nomark _)) (pss_cons (ps_for PassesOwn.never rfl (pi_list (pe_call c_all_parts.ok (hr.mono (by decide)) (by rfl) c_all_parts.g c_all_parts.kp c_all_parts.b .nil pass0 (pa_cons (pe_ix ix_tup (pv 0) (pe_ix ix_list (pv 2) (pv 4) (fun _ _ => rfl)) (fun _ _ => rfl)) pa_nil))) (pg_name (i := 5) sc_met.nd rfl (Or.inl rfl)) (pss_one (ps_if (PW.pt (pw_and (pt_cmpR op_eq (pe_ix ix_seq (pv 5) pe_int (fun _ _ => rfl)) pe_str (nomark _)) (pw_and1 (pt_cmp (pc_dnotin (hu_of hr) (pe_ix ix_list (pv 1) (pe_ix ix_seq (pv 5) pe_int (fun _ _ => rfl)) (fun _ _ => rfl)) (pv 3)))))) (pss_cons (ps_dput (hu_of hr) (pv 3) (pe_ix ix_list (pv 1) (pe_ix ix_seq (pv 5) pe_int (fun _ _ => rfl)) (fun _ _ => rfl)) pe_bl rfl)
      (pss_one (ps_expr (pe_bm PySem.F.plainAttrs_list PySem.F.slot_list_append PySem.F.type_list_append mt_append (pv 2) (pa_cons (pe_ix ix_seq (pv 5) pe_int (fun _ _ => rfl)) pa_nil))))) pss_nil)))
      (pss_one (ps_aug (i := 4) sc_met.nd rfl (Or.inl rfl) pe_int ip_add))))
      (pss_one (ps_ret (pv 2))))))), ?_⟩
    refine ⟨by show 1 ≤ sizeLine; decide, fun o ho => ?_⟩
    have e1 : Ex H (L2.upd H o (.lst [.int 0])) := Ex.new ho
    have ho1 : (L2.upd H o (.lst [.int 0])) o = some (.lst (nV [0])) := upd_same
    generalize (L2.upd H o (.lst [.int 0])) = H1 at e1 ho1 ⊢
    refine fun p hp => ?_
    have hp0 := fresh_back e1 hp
    have e2 : Ex H (L2.upd H1 p (.dK [])) := e1.trans (Ex.new hp)
    refine ⟨_, rfl, ca, _, _, _, rfl, rfl, sq_of (e2 _ _ hca), nV_at (q := 0) (by omega), ?_⟩
    refine ⟨upd_same, [(kN (LM.at0 S 0), .bl true)], rfl, (by show 1 ≤ 15; omega), ?_⟩
    have ep : Ex H (L2.upd (L2.upd H1 p (.dK [])) p (.dK (mergeK [] [(kN (LM.at0 S 0), .bl true)]))) := e2.mut hp0
    have hp3 : (L2.upd (L2.upd H1 p (.dK [])) p (.dK (mergeK [] [(kN (LM.at0 S 0), .bl true)]))) p = some (.dK (putK [] (kN (LM.at0 S 0)) (.bl true))) := upd_same
    have npo : o ≠ p := fun z => by
      rw [z, hp] at ho1
      cases ho1
    have ho3 : (L2.upd (L2.upd H1 p (.dK [])) p (.dK (mergeK [] [(kN (LM.at0 S 0), .bl true)]))) o = some (.lst (nV [0])) := by
      rw [upd_ne npo, upd_ne npo]
      exact ho1
    generalize (L2.upd (L2.upd H1 p (.dK [])) p (.dK (mergeK [] [(kN (LM.at0 S 0), .bl true)]))) = H3 at ep hp3 ho3 ⊢
    have tab0 : TabB [] [] := ⟨rfl, fun c => rfl⟩
    refine ⟨fun m σ H' => ∃ (od : List Nat) (a : Nat) (kvs : List (Key × V)) (y5 : Option V), σ = [some (.ref st), some (.ref ca), some (.ref o), some (.ref p), some (.int (a : Nat)), y5] ∧ Ex H H' ∧ H' o = some (.lst (nV od)) ∧ H' p = some (.dK kvs) ∧ TabB kvs (od.map (LM.at0 S)) ∧ LM.Good S (od.map (LM.at0 S)) ∧ (∀ x ∈ od, x < ts.length) ∧ ts.length ≤ a + m ∧ LM.metF ts S m (od.map (LM.at0 S)) a = LM.met ts S,
      ⟨ts.length + 1, [0], 0, _, none, rfl, ep, ho3, hp3, tab0.snoc (by simp), LM.Good.one (by omega) hS, by intro x hx; rw [List.mem_singleton.mp hx]; omega, by omega, rfl⟩, fun m σ H' hw => ?_⟩
    obtain ⟨od, a, kvs, y5, rfl, e3, hod, hk, tab, good, hlt, hfu, hmet⟩ := hw
    have gle := good.le (by omega) hS
    rw [List.length_map] at gle
    refine ⟨_, rfl, _, rfl, o, _, rfl, .inl (sq_of hod), ?_⟩
    refine ⟨_, _, rfl, rfl, ?_⟩
    rw [nV_len]
    by_cases ha : a < od.length
    · refine ⟨_, rfl, iteD (Int.ofNat_lt.mpr ha) ?_⟩
      obtain ⟨f, rfl⟩ : ∃ f, m = f + 1 := ⟨m - 1, by omega⟩
      have hoa := hlt _ (LM.at0_mem ha)
      obtain ⟨v, hv⟩ : ∃ v, us[LM.at0 od a]? = some v := ⟨_, List.getElem?_eq_getElem (by omega)⟩
      obtain ⟨t, ht, hT⟩ := KK.get hv
      have ht0 := LM.tr0_of ht
      have mem := List.mem_of_getElem? ht
      have hsz := rt.sz t mem
      have hlv := LM.lv_ok (rt.ok t mem)
      refine ⟨fun σ2 H2 => ∃ m', m' < f + 1 ∧ ∃ (od : List Nat) (a : Nat) (kvs : List (Key × V)) (y5 : Option V), σ2 = [some (.ref st), some (.ref ca), some (.ref o), some (.ref p), some (.int (a : Nat)), y5] ∧ Ex H H2 ∧ H2 o = some (.lst (nV od)) ∧ H2 p = some (.dK kvs) ∧ TabB kvs (od.map (LM.at0 S)) ∧ LM.Good S (od.map (LM.at0 S)) ∧ (∀ x ∈ od, x < ts.length) ∧ ts.length ≤ a + m' ∧ LM.metF ts S m' (od.map (LM.at0 S)) a = LM.met ts S, fun σ2 H2 h => h, ?_⟩
      refine ⟨_, rfl, _, rfl, _, rfl, o, _, _, _, rfl, rfl, sq_of hod, nV_at ha, st, _, _, _, rfl, rfl, st_of (e3 _ _ hst), atI_nat hv, t, v, rfl, hT.ex e3, by omega, fun r H4 ps e4 hr4 hps KP => ?_⟩
      have nro : r ≠ o := fun z => by
        rw [z, hod] at hr4
        cases hr4
      have nrp : r ≠ p := fun z => by
        rw [z, hk] at hr4
        cases hr4
      refine ⟨r, rfl, ⟨ps, sq_of hps⟩, for_list (xs := ps) (fun i σ H' => ∃ (od' : List Nat) (kvs : List (Key × V)) (y5 : Option V), σ = [some (.ref st), some (.ref ca), some (.ref o), some (.ref p), some (.int (a : Nat)), y5] ∧ Ex H H' ∧ H' o = some (.lst (nV od')) ∧ H' p = some (.dK kvs) ∧ TabB kvs (od'.map (LM.at0 S)) ∧
        od'.map (LM.at0 S) = LM.dd (od.map (LM.at0 S)) ((((LM.parts t).take i).filterMap LM.goOf).map (LM.at0 S)) ∧ (∀ x ∈ od', x < ts.length) ∧ LM.Good S (od'.map (LM.at0 S)) ∧ H' r = some (.lst ps) ∧ Kids true H' ps (LM.parts t)) ⟨od, kvs, y5, rfl, e3.trans e4, e4 _ _ hod, e4 _ _ hk, tab, rfl, hlt, good, hps, KP⟩ (fun i σ H' _ hw => by
          obtain ⟨_, _, _, _, _, _, _, _, _, _, _, h, _⟩ := hw
          exact sq_of h) (fun i x σ H' hx hw => ?_) (fun σ H' hw => ?_)⟩
      · obtain ⟨od', kvs', y5', rfl, e5, hod5, hk5, tab5, hd5, hlt5, good5, hr5, KP5⟩ := hw
        obtain ⟨pt, hpt, hPT⟩ := KP5.get hx
        have hstep := LM.fm_take hpt
        have gle5 := good5.le (by omega) hS
        rw [List.length_map] at gle5
        cases hPT with
        | @go g s' q' h =>
          have hq' := hlv _ (LM.go_lv hpt)
          have hcq : atI (nV S) (q' : Int) = some (.int (LM.at0 S q' : Nat)) := nV_at (by omega)
          refine ⟨_, rfl, .inr (.inl ⟨g, _, _, _, rfl, rfl, st_of h, rfl, ?_⟩)⟩
          refine ⟨rfl, _, rfl, iteD rfl ?_⟩
          have ho0 : H o = none := ho
          refine ⟨_, rfl, _, rfl, .inr (.inl ⟨g, _, _, _, rfl, rfl, st_of h, rfl, ca, _, _, _, rfl, rfl, sq_of (e5 _ _ hca), hcq, _, rfl, p, _, rfl, DGet.k (k := kN (LM.at0 S q')) hk5, ?_⟩)⟩
          have tq := tab5.2 (LM.at0 S q')
          by_cases hm : LM.at0 S q' ∈ od'.map (LM.at0 S)
          · rw [decide_eq_true hm] at tq
            rw [tq]
            refine ⟨_, rfl, iteF ?_⟩
            refine ⟨od', kvs', _, rfl, e5, hod5, hk5, tab5, ?_, hlt5, good5, hr5, KP5⟩
            rw [hstep, List.map_append, LM.dd_app, ← hd5]
            show _ = if LM.at0 S q' ∈ _ then _ else _
            rw [if_pos hm]
            rfl
          · rw [decide_eq_false hm] at tq
            rw [tq]
            refine ⟨_, rfl, iteT ?_⟩
            refine ⟨_, rfl, _, rfl, _, rfl, .inr (.inl ⟨g, _, _, _, rfl, rfl, st_of h, rfl, ca, _, _, _, rfl, rfl, sq_of (e5 _ _ hca), hcq, p, _, rfl, DPut.k (k := kN (LM.at0 S q')) hk5 (sz_lt (by rw [tab5.1, List.length_map]; omega)), ?_⟩)⟩
            have e7 : Ex H (L2.upd H' p (.dK (putK kvs' (kN (LM.at0 S q')) (.bl true)))) := e5.mut hp0
            have k7 : (L2.upd H' p (.dK (putK kvs' (kN (LM.at0 S q')) (.bl true)))) p = some (.dK (putK kvs' (kN (LM.at0 S q')) (.bl true))) := upd_same
            have o7 : (L2.upd H' p (.dK (putK kvs' (kN (LM.at0 S q')) (.bl true)))) o = some (.lst (nV od')) := by
              rw [upd_ne npo]
              exact hod5
            have r7 : (L2.upd H' p (.dK (putK kvs' (kN (LM.at0 S q')) (.bl true)))) r = some (.lst ps) := by
              rw [upd_ne nrp]
              exact hr5
            have K7 := Kids.upd (o := .dK (putK kvs' (kN (LM.at0 S q')) (.bl true))) (a := p) (fun xs hh => by rw [hk5] at hh; cases hh) KP5
            have h7 : (L2.upd H' p (.dK (putK kvs' (kN (LM.at0 S q')) (.bl true)))) g = some (.tup [.str "go", .int (s' : Nat), .int (q' : Nat)]) := by
              rw [upd_ne (fun z => by rw [z, hk5] at h; cases h)]
              exact h
            generalize (L2.upd H' p (.dK (putK kvs' (kN (LM.at0 S q')) (.bl true)))) = H7 at e7 k7 o7 r7 K7 h7 ⊢
            refine ⟨_, rfl, .inl ⟨rfl, _, sq_of o7⟩, _, rfl, .inr (.inl ⟨g, _, _, _, rfl, rfl, st_of h7, rfl, o, _, _, rfl, rfl, o7, sz_lt (by rw [nV_len]; omega), ?_⟩)⟩
            refine ⟨od' ++ [q'], putK kvs' (kN (LM.at0 S q')) (.bl true), some (.ref g), rfl, e7.mut ho0, ?_, ?_, ?_, ?_, ?_, ?_, ?_, Kids.upd (fun xs hh => by rw [o7] at hh; cases hh) K7⟩
            · rw [upd_same]
              unfold nV
              rw [List.map_append]
              rfl
            · rw [upd_ne npo.symm]
              exact k7
            · rw [List.map_append]
              exact tab5.snoc hm
            · rw [hstep, List.map_append, List.map_append, LM.dd_app, ← hd5]
              show _ = if LM.at0 S q' ∈ _ then _ else _
              rw [if_neg hm]
              rfl
            · intro x hx
              rcases List.mem_append.mp hx with z | z
              · exact hlt5 x z
              · rw [List.mem_singleton.mp z]; exact hq'
            · have := good5.more (l := [LM.at0 S q']) (fun x hx => by rw [List.mem_singleton.mp hx]; exact LM.at0_mem (by omega))
              rw [List.map_append]
              have e9 : LM.dd (od'.map (LM.at0 S)) [LM.at0 S q'] = od'.map (LM.at0 S) ++ [LM.at0 S q'] := by
                show (if _ then _ else _) = _
                rw [if_neg hm]
                rfl
              rw [e9] at this
              exact this
            · rw [upd_ne nro]
              exact r7
        | @tell g n' v' t' h r0 =>
          refine ⟨_, rfl, .inr (.inl ⟨g, _, _, _, rfl, rfl, st_of h, rfl, ?_⟩)⟩
          refine ⟨rfl, _, rfl, iteDn tell_ne_go ?_⟩
          refine ⟨od', kvs', _, rfl, e5, hod5, hk5, tab5, ?_, hlt5, good5, hr5, KP5⟩
          rw [hd5, hstep]
          simp [LM.goOf]
        | @read g b' p' us' ts' h hb r0 =>
          refine ⟨_, rfl, .inr (.inl ⟨g, _, _, _, rfl, rfl, st_of h, rfl, ?_⟩)⟩
          refine ⟨rfl, _, rfl, iteDn read_ne_go ?_⟩
          refine ⟨od', kvs', _, rfl, e5, hod5, hk5, tab5, ?_, hlt5, good5, hr5, KP5⟩
          rw [hd5, hstep]
          simp [LM.goOf]
      · obtain ⟨od', kvs', y5', rfl, e5, hod5, hk5, tab5, hd5, hlt5, good5, hr5, KP5⟩ := hw
        have lp : ps.length = (LM.parts t).length := KP5.len
        rw [lp, List.take_length, ← LM.lv_parts] at hd5
        refine ⟨_, rfl, _, _, rfl, rfl, ?_⟩
        refine ⟨f, by omega, od', a + 1, kvs', _, rfl, e5, hod5, hk5, tab5, good5, hlt5, by omega, ?_⟩
        rw [← hmet, hd5, ← ht0, ← LM.rep_lvs (by omega) vl hS hoa]
        show _ = if _ then _ else _
        rw [if_pos (by rw [List.length_map]; exact ha)]
        congr 3
        rw [show LM.at0 (od.map (LM.at0 S)) a = LM.at0 S (LM.at0 od a) from LM.at0_of (by rw [List.getElem?_map, LM.at0_get ha]; rfl)]
    · refine ⟨_, rfl, iteDn (fun z => ha (Int.ofNat_lt.mp z)) ?_⟩
      refine ⟨_, rfl, q o H' od e3 hod ?_ hlt⟩
      rw [← hmet]
      cases m with
      | zero => rfl
      | succ f =>
        show _ = if _ then _ else _
        rw [if_neg (by rw [List.length_map]; exact ha)]
end
end Law

namespace LM
open TR
variable {ts : List Tr} {S : List Nat}
/-- the names of the form, as a list -/
def nms (ts : List Tr) (S : List Nat) : List Nat := S.map fun c => if c ∈ met ts S then (met ts S).idxOf c else 0
theorem nms_at {q : Nat} (h : q < S.length) : at0 (nms ts S) q = nm S (met ts S) q := by
  unfold nms
  refine at0_of ?_
  rw [List.getElem?_map, at0_get h]
  rfl
theorem nm_of {M : List Nat} {a b : Nat} (h : at0 S a = at0 S b) : nm S M a = nm S M b := by
  unfold nm
  rw [h]
theorem least_of (h : 0 < ts.length) (V : Val ts) (hS : IsS ts S) {o : List Nat} (ho : o.map (at0 S) = met ts S) (hl : ∀ x ∈ o, x < ts.length) : o.map (fun i => ren (at0 (nms ts S)) (tr0 ts i)) = least ts S := by
  unfold least
  rw [← ho, List.map_map, ho]
  refine List.map_congr_left fun i hi => ?_
  have hi' := hl i hi
  show _ = ren (nm S (met ts S)) (rep ts S (at0 S i))
  have e1 : ren (nm S (met ts S)) (rep ts S (at0 S i)) = ren (nm S (met ts S)) (tr0 ts i) := ren_less (rep_ren h V hS hi') fun a _ b _ e => nm_of e
  rw [e1]
  exact ren_of _ fun q hq => nms_at (by rw [hS.len]; exact V _ (tr0_mem hi') q hq)
theorem nm_lt (h : 0 < ts.length) (hS : IsS ts S) (V : Val ts) (q : Nat) : nm S (met ts S) q < (met ts S).length := by
  obtain ⟨_, ⟨r, e⟩, _⟩ := met_all h V hS
  unfold nm
  split
  · rename_i hm
    exact List.idxOf_lt_length_of_mem hm
  · rw [e]
    simp
end LM
namespace Law
open PySem PySem.Spec PyProof.Rows L2 Evl TR
theorem RT.least {L : List Nat} {wd d m : Nat} {ts : List Tr} {S : List Nat} (r : RT L wd d m ts) (hS : LM.IsS ts S) : RT L wd d m (LM.least ts S) := by
  have n1 := r.n1
  obtain ⟨g, ⟨r0, e0⟩, _⟩ := LM.met_all (by omega) r.val hS
  have gl := g.le (by omega) hS
  have ll := LM.least_len (ts := ts) (S := S)
  have n64 := r.n64
  have form : ∀ t ∈ LM.least ts S, ∃ u ∈ ts, t = LM.ren (LM.nm S (LM.met ts S)) u := by
    intro t ht
    unfold LM.least at ht
    obtain ⟨c, hc, rfl⟩ := List.mem_map.mp ht
    have hx := List.idxOf_lt_length_of_mem (g.2 c hc)
    rw [hS.len] at hx
    exact ⟨_, LM.tr0_mem hx, rfl⟩
  refine ⟨r.l, r.l4, r.w8, by rw [ll, e0]; simp, by omega, fun t ht => ?_, fun t ht => ?_, fun t ht => ?_⟩
  · obtain ⟨u, hu, rfl⟩ := form t ht
    rw [ll]
    exact LM.ren_ok (r.ok u hu) fun q _ => LM.nm_lt (by omega) hS r.val q
  · obtain ⟨u, hu, rfl⟩ := form t ht
    rw [LM.ren_depth]
    exact r.dp u hu
  · obtain ⟨u, hu, rfl⟩ := form t ht
    rw [LM.ren_size]
    exact r.sz u hu
theorem RT.total {L : List Nat} {wd d m : Nat} {ts : List Tr} (r : RT L wd d m ts) : TR.total ts ≤ 64 * m := by
  have h : ∀ us : List Tr, (∀ t ∈ us, t.size ≤ m) → TR.total us ≤ us.length * m := by
    intro us
    induction us with
    | nil => intro _; exact Nat.zero_le _
    | cons u rest ih =>
      intro hu
      have h1 := hu u List.mem_cons_self
      have h2 := ih fun t ht => hu t (List.mem_cons_of_mem _ ht)
      show u.size + TR.total rest ≤ (rest.length + 1) * m
      rw [Nat.add_mul]
      omega
  have := h ts r.sz
  have h2 : ts.length * m ≤ 64 * m := Nat.mul_le_mul_right _ r.n64
  omega
/-- a dict made by a walk: Pv by the turn and the heap -/
theorem dc_walk {J : It} {n : Nat} {G : Hp → Prop} {Y : Nat → Hp → V → Hp → Prop} (wk : Walk J n G Y) {g : TG} {tt : TT} {tk tv : TE} {vs : List Nat} {σ : L2.St} {H1 : Hp} {D : Addr} {Qd : Hp → Prop} (Pv : Nat → Hp → Prop) (h0 : Pv 0 (L2.upd H1 D (.dK [])))
    (hG : ∀ i H, i ≤ n → Pv i H → G H)
    (hs : ∀ i x H H', i < n → Pv i H → Y i H x H' → g x (wipe σ vs) H' fun σ2 H2 => wipe σ2 vs = wipe σ vs ∧ tt σ2 H2 fun b H3 =>
      if b = true then tk σ2 H3 fun y H4 => tv σ2 H4 fun z H5 => ∃ kvs k, y = kV k ∧ H5 D = some (.dK kvs) ∧ kvs.length < sizeLine ∧ Pv (i + 1) (L2.upd H5 D (.dK (putK kvs k z))) else Pv (i + 1) H3)
    (hd : ∀ H, Pv n H → Qd H) :
    ∃ W : Nat → Nat → Hp → Prop, (∃ m, W 0 m (L2.upd H1 D (.dK []))) ∧ ∀ i m H, W i m H →
      (J.stop i H ∧ Qd H) ∨ (J.go i H ∧ ∃ Nx : Hp → Prop, (∀ H', Nx H' → ∃ m', m' < m ∧ W (i + 1) m' H') ∧ ∀ x H', J.yld i H x H' → g x (wipe σ vs) H' fun σ2 H2 => wipe σ2 vs = wipe σ vs ∧ tt σ2 H2 fun b H3 =>
        if b = true then tk σ2 H3 fun y H4 => tv σ2 H4 fun z H5 => ∃ kvs k, y = kV k ∧ H5 D = some (.dK kvs) ∧ kvs.length < sizeLine ∧ Nx (L2.upd H5 D (.dK (putK kvs k z))) else Nx H3) :=
  ⟨fun i m H => i ≤ n ∧ m + i = n ∧ Pv i H, ⟨n, Nat.zero_le _, rfl, h0⟩, fun i m H h => by
    obtain ⟨h1, h2, h3⟩ := h
    rcases Nat.lt_or_ge i n with hlt | hge
    · exact .inr ⟨wk.goes i H hlt (hG i H h1 h3), Pv (i + 1), fun H' p => ⟨m - 1, by omega, by omega, by omega, p⟩, fun x H' y => hs i x H H' hlt h3 (wk.yields i H x H' hlt (hG i H h1 h3) y)⟩
    · obtain rfl : i = n := by omega
      exact .inl ⟨wk.stops H (hG i H h1 h3), hd H h3⟩⟩
def spLeast (C : Addr) : Sp := fun vs H Q _ => ∃ (o : Addr) (L : List Nat) (wd : Nat) (ts : List Tr), vs = [.ref o] ∧ SObj C H o L wd ts ∧ RT L wd 31 46 ts ∧ 1 ≤ wd ∧ ∀ o' H' S, Ex H H' → H o' = none → LM.IsS ts S → SObj C H' o' L wd (LM.least ts S) → Q (.ref o') H'
section
variable {P : Program} {w : World} {K : PySem.W.Frag} {mg : Str → Option Value} {base : Heap}
theorem ok_least {f C_Searcher fi : Addr} {fd fdi : FuncData} (F : Fun K "least" "Searcher.least" s_Searcher_least f fd) (T : Tx mg) (M_Searcher : Mk K C_Searcher fi) (F_Searcher : FnOk P w K mg base CX0 42 fi fdi ["self", "letters", "width", "states"] (spInit C_Searcher)) (g_Searcher : mg "Searcher" = some (.ref C_Searcher))
    (b_Searcher : Binds K fdi ["self", "letters", "width", "states"] []) (S0 : SC K C_Searcher) (c_classes : Kn P w K mg base "_classes" ["letters", "states"] 42 spCls) (c_met : Kn P w K mg base "_met" ["states", "classes"] 3 spMet) (c_renamed : Kn P w K mg base "renamed" ["tree", "names"] 41 (spRenG 40)) :
    FnOk P w K mg base CX0 44 f fd ["self"] (spLeast C_Searcher) := by
  refine F.ok sc_Searcher_least (fun vs H Q E h => ?_) (fun cdv A outer s H vs Q E hr h => ?_)
  · obtain ⟨o, L, wd, ts, rfl, _⟩ := h
    rfl
  · obtain ⟨o, L, wd, ts, rfl, ⟨⟨dx, st, us, ho, hst, KK⟩⟩, rt, w1, q⟩ := h
    have n1 := rt.n1
    have n64 := rt.n64
    have vl := rt.val
    have lks := KK.len
    have rt2 : RT L wd 31 2000 ts := ⟨rt.l, rt.l4, rt.w8, rt.n1, rt.n64, rt.ok, rt.dp, fun t ht => by have := rt.sz t ht; omega⟩
    refine ⟨_, (pss_cons (ps_set (i := 1) sc_Searcher_least.nd rfl (Or.inr rfl) (pe_call c_classes.ok (hr.mono (by decide)) (by rfl) c_classes.g c_classes.kp c_classes.b .nil pass0 (pa_cons (pe_fld (pv 0) rfl) (pa_cons (pe_fld (pv 0) rfl) pa_nil))))
      (pss_cons (ps_set (i := 2) sc_Searcher_least.nd rfl (Or.inl rfl) (pe_call c_met.ok (hr.mono (by decide)) (by rfl) c_met.g c_met.kp c_met.b .nil pass0 (pa_cons (pe_fld (pv 0) rfl) (pa_cons (pv 1) pa_nil))))
      (pss_cons (ps_set (i := 3) sc_Searcher_least.nd rfl (Or.inr rfl) (pe_dc (own := [("number", 4), ("state", 5)]) (g := gTup K 2 (gCons (gName 4) (gCons (gName 5) gNil))) (tt := tYes) rfl sc_Searcher_least.nd (pi_enum (by rfl) T.enumerate (pa_cons (pv 2) pa_nil)) (blkOk_by (N := N_Searcher_least) (sc := defScope s_Searcher_least) (by decide +kernel)) (fun _ _ _ _ _ => (pg_tup (by rfl) (pgs_cons (pg_name (i := 4) sc_Searcher_least.nd rfl (Or.inl rfl)) (pgs_cons (pg_name (i := 5) sc_Searcher_least.nd rfl (Or.inl rfl)) pgs_nil)))) (fun _ _ _ _ _ => pts_nil) (fun _ _ _ _ _ => (pe_ix (show IxR _ (rIxL K) from ix_list) (pv 1) (pv 5) (fun _ _ => rfl))) (fun _ _ _ _ _ => (pv 4))))
      (pss_cons (ps_set (i := 6) sc_Searcher_least.nd rfl (Or.inr rfl) (pe_lc (own := [("place", 7)]) (g := gName 7) (tt := tYes) rfl sc_Searcher_least.nd (pi_list (pv 1)) (blkOk_by (N := N_Searcher_least) (sc := defScope s_Searcher_least) (by decide +kernel)) (fun _ _ _ _ _ => (pg_name (i := 7) sc_Searcher_least.nd rfl (Or.inl rfl))) (fun _ _ _ _ _ => pts_nil) (fun _ _ _ _ _ => (pe_dget2 (hu_of hr) (pv 3) (pv 7) pe_int ⟨rfl, rfl, rfl, rfl⟩))))
      (pss_one (ps_ret (pe_make M_Searcher F_Searcher (hr.mono (by decide)) (by rfl) g_Searcher b_Searcher .nil pass0 (pa_cons (pe_fld (pv 0) rfl) (pa_cons (pe_fld (pv 0) rfl) (pa_cons (pe_lc (own := [("state", 5)]) (g := gName 5) (tt := tYes) rfl sc_Searcher_least.nd (pi_list (pv 2)) (blkOk_by (N := N_Searcher_least) (sc := defScope s_Searcher_least) (by decide +kernel)) (fun _ _ _ _ _ => (pg_name (i := 5) sc_Searcher_least.nd rfl (Or.inl rfl))) (fun _ _ _ _ _ => pts_nil) (fun _ _ _ _ _ => (pe_call c_renamed.ok (hr.mono (by decide)) (by rfl) c_renamed.g c_renamed.kp c_renamed.b .nil pass0 (pa_cons (pe_ix (show IxR _ (rIxT K) from ix_tup) (EK.pe_fldK (K := K) rfl (pv 0) rfl) (pv 5) (fun _ _ => rfl)) (pa_cons (pv 6) pa_nil))))) pa_nil)))))))))), ?_⟩
    refine ⟨_, rfl, o, C_Searcher, dx, _, _, rfl, ho, S0.cl, S0.nl, rfl, _, rfl, o, C_Searcher, dx, _, _, rfl, ho, S0.cl, S0.ns, rfl, ?_⟩
    refine ⟨L, wd, st, us, ts, rfl, hst, KK, rt2, fun ca H1 S e1 hca hS => ?_⟩
    have lS := hS.len
    refine ⟨_, rfl, o, C_Searcher, dx, _, _, rfl, e1 _ _ ho, S0.cl, S0.ns, rfl, _, rfl, ?_⟩
    refine ⟨st, ca, us, ts, S, L, wd, rfl, e1 _ _ hst, KK.ex e1, rt2, hca, hS, fun od H2 os e2 hod hom hol => ?_⟩
    obtain ⟨g, _, _⟩ := LM.met_all (by omega) vl hS
    have gl := g.le (by omega) hS
    have los : os.length = (LM.met ts S).length := by rw [← hom, List.length_map]
    have e12 := e1.trans e2
    refine ⟨_, rfl, od, _, rfl, sq_of hod, fun D hD => dc_walk (walk_enum (K := K) (a := od) (xs := nV os)) (fun i H6 => Ex H2 H6 ∧ ∃ kvs, H6 D = some (.dK kvs) ∧ TabI kN kvs ((LM.met ts S).take i)) ⟨Ex.new hD, [], upd_same, TabI.nil⟩ (fun i H6 _ hw => sq_of (hw.1 _ _ hod)) (fun i x H6 H7 hi hw hy => ?_) (fun H6 hw => ?_)⟩
    · obtain ⟨e6, kvs, hk, tab⟩ := hw
      obtain ⟨T', x1, x2, rfl, hT', rfl, hx1, hx2⟩ := hy
      have hi' : i < os.length := by rw [← nV_len os]; exact hi
      have hx2' : (nV os)[i]? = some x2 := hx2
      rw [nV_get, LM.at0_get hi'] at hx2'
      cases hx2'
      cases (show some (V.int (i : Nat)) = some x1 from hx1)
      have hoi := hol _ (LM.at0_mem hi')
      have hmi : (LM.met ts S)[i]? = some (LM.at0 S (LM.at0 os i)) := by
        rw [← hom, List.getElem?_map, LM.at0_get hi']
        rfl
      refine ⟨T', _, rfl, st_of upd_same, rfl, _, _, rfl, _, _, rfl, rfl, ?_⟩
      refine ⟨rfl, _, rfl, _, rfl, ca, _, _, _, rfl, rfl, sq_of ?_, nV_at (ns := S) (q := LM.at0 os i) (by omega), _, rfl, ?_⟩
      · exact Ex.new hT' _ _ (e6 _ _ (e2 _ _ hca))
      have e7 : Ex H2 (L2.upd H6 T' (.tup [.int (i : Nat), .int (LM.at0 os i : Nat)])) := e6.trans (Ex.new hT')
      have hk7 : (L2.upd H6 T' (.tup [.int (i : Nat), .int (LM.at0 os i : Nat)])) D = some (.dK kvs) := Ex.new hT' _ _ hk
      refine ⟨kvs, kN (LM.at0 S (LM.at0 os i)), rfl, hk7, sz_lt (by rw [tab.1, List.length_take]; omega), e7.mut hD, _, upd_same, ?_⟩
      rw [take_next' hmi]
      have hni : LM.at0 S (LM.at0 os i) ∉ (LM.met ts S).take i := fun hm => by
        obtain ⟨j, hj, ej⟩ := List.mem_iff_getElem.mp hm
        have hj2 : j < i := by rw [List.length_take] at hj; omega
        rw [List.getElem_take] at ej
        obtain ⟨hi3, ei⟩ := List.getElem?_eq_some_iff.mp hmi
        have := LM.nd_inj g.1 (a := j) (b := i) (by omega) hi3 (by rw [ej, ei])
        omega
      have := tab.snoc kN_inj hni
      rw [show ((LM.met ts S).take i).length = i by rw [List.length_take]; omega] at this
      exact this
    · obtain ⟨e6, kvs, hk, tab⟩ := hw
      rw [nV_len, los, List.take_length] at tab
      have hca6 := e6 _ _ (e2 _ _ hca)
      refine ⟨_, rfl, ca, rfl, ⟨_, sq_of hca6⟩, fun B hB => lc_it (walk_list (K := K) (a := ca) (xs := nV S)) (fun i H8 => Ex H6 H8 ∧ H8 B = some (.lst (nV ((LM.nms ts S).take i)))) ⟨Ex.new hB, upd_same⟩ (fun i H8 _ hw => sq_of (hw.1 _ _ hca6)) (fun i x H8 H9 hi hw hy => ?_) (fun H8 hw => ?_)⟩
      · obtain ⟨e8, hb⟩ := hw
        obtain ⟨rfl, hx⟩ := hy
        have hi' : i < S.length := by rw [← nV_len S]; exact hi
        rw [nV_get, LM.at0_get hi'] at hx
        cases hx
        refine ⟨rfl, _, rfl, D, rfl, .inl ⟨kvs, .inl (e8 _ _ hk)⟩, _, rfl, _, tab.look (e8 _ _ hk) (LM.at0 S i), ?_⟩
        have ev : (if LM.at0 S i ∈ LM.met ts S then some (V.int ((LM.met ts S).idxOf (LM.at0 S i) : Nat)) else none).getD (V.int 0) = V.int ((if LM.at0 S i ∈ LM.met ts S then (LM.met ts S).idxOf (LM.at0 S i) else 0 : Nat)) := by
          split <;> rfl
        rw [ev]
        refine ⟨_, hb, ?_, e8.mut hB, ?_⟩
        · rw [nV_len, List.length_take]
          exact sz_lt (by omega)
        · rw [upd_same, take_next' (x := if LM.at0 S i ∈ LM.met ts S then (LM.met ts S).idxOf (LM.at0 S i) else 0) (by unfold LM.nms; rw [List.getElem?_map, LM.at0_get hi']; rfl)]
          unfold nV
          rw [List.map_append]
          rfl
      · obtain ⟨e8, hb⟩ := hw
        rw [nV_len, List.take_of_length_le (by unfold LM.nms; rw [List.length_map]; exact Nat.le_refl _)] at hb
        have e18 := (e12.trans e6).trans e8
        have ho8 := e18 _ _ ho
        have hst8 := e18 _ _ hst
        have hod8 := e8 _ _ (e6 _ _ hod)
        have lnm : (LM.nms ts S).length = ts.length := by unfold LM.nms; rw [List.length_map, lS]
        refine ⟨_, rfl, o, C_Searcher, dx, _, _, rfl, ho8, S0.cl, S0.nl, rfl, _, rfl, o, C_Searcher, dx, _, _, rfl, ho8, S0.cl, S0.nw, rfl, ?_⟩
        refine ⟨_, rfl, od, rfl, ⟨_, sq_of hod8⟩, fun R hR => lc_it (walk_list (K := K) (a := od) (xs := nV os)) (fun i H9 => Ex H8 H9 ∧ ∃ zs, H9 R = some (.lst zs) ∧ Kids true H9 zs ((os.map fun i => LM.ren (LM.at0 (LM.nms ts S)) (LM.tr0 ts i)).take i)) ⟨Ex.new hR, [], upd_same, .nil⟩ (fun i H9 _ hw => sq_of (hw.1 _ _ hod8)) (fun i x H9 H10 hi hw hy => ?_) (fun H9 hw => ?_)⟩
        · obtain ⟨e9, zs, hz, Z⟩ := hw
          obtain ⟨rfl, hx⟩ := hy
          have hi' : i < os.length := by rw [← nV_len os]; exact hi
          rw [nV_get, LM.at0_get hi'] at hx
          cases hx
          have hoi := hol _ (LM.at0_mem hi')
          obtain ⟨v, hv⟩ : ∃ v, us[LM.at0 os i]? = some v := ⟨_, List.getElem?_eq_getElem (by omega)⟩
          obtain ⟨t, ht, hT⟩ := KK.get hv
          have ht0 := LM.tr0_of ht
          have mem := List.mem_of_getElem? ht
          have hlv := LM.lv_ok (rt.ok t mem)
          have lz := Z.len
          rw [List.length_take, List.length_map] at lz
          have dt := rt.dp t mem
          have zt := rt.sz t mem
          refine ⟨rfl, _, rfl, o, C_Searcher, dx, _, _, rfl, e9 _ _ ho8, S0.cl, S0.ns, rfl, _, rfl, st, _, _, _, rfl, rfl, st_of (e9 _ _ hst8), atI_nat hv, _, rfl, ?_⟩
          refine ⟨t, v, true, B, LM.nms ts S, rfl, hT.ex (e18.trans e9), e9 _ _ hb, (fun q hq => by rw [lnm]; exact hlv q hq), by omega, by omega, fun H11 v11 e11 hv11 => ?_⟩
          refine ⟨zs, e11 _ _ hz, sz_lt (by omega), (e9.trans e11).mut hR, zs ++ [v11], upd_same, ?_⟩
          rw [take_next' (x := LM.ren (LM.at0 (LM.nms ts S)) t) (by rw [List.getElem?_map, LM.at0_get hi']; show some (LM.ren _ (LM.tr0 ts (LM.at0 os i))) = _; rw [ht0])]
          refine Kids.upd (fun ys hh => ?_) ((Z.ex e11).snoc hv11)
          rw [e11 _ _ hz] at hh
          cases hh
        · obtain ⟨e9, zs, hz, Z⟩ := hw
          rw [nV_len, List.take_of_length_le (by rw [List.length_map]; exact Nat.le_refl _), LM.least_of (by omega) vl hS hom hol] at Z
          have rl := rt.least hS
          have tot := rl.total
          refine fun x dx' hx hdx ne => ?_
          refine mk_sp (kt := false) (k := true) hx hdx ne hz Z rt.l w1 rt.w8 rl.n1 rl.n64 (fun t ht => ⟨rl.ok t ht, by have := rl.dp t ht; omega⟩) (by omega) fun H12 e12 SO => ?_
          exact ⟨rfl, q x H12 S ((e18.trans e9).trans e12) (fresh_back (e18.trans e9) hx) hS SO⟩
end
end Law

/-! len(set(xs)), xs a list of ints, the same one maybe often -/
namespace LX
open PySem PySem.Spec PyProof.Rows L2
theorem dd_snoc {α : Type} [DecidableEq α] (l acc : List α) (x : α) : LM.dd acc (l ++ [x]) = if x ∈ LM.dd acc l then LM.dd acc l else LM.dd acc l ++ [x] := by
  rw [LM.dd_app]
  rfl
theorem firstMet_dd (ns : List Int) : ∀ i, i ≤ ns.length → PyProof.Rows.firstMet (fun i => ns.getD i 0) i = LM.dd [] (ns.take i)
  | 0, _ => rfl
  | i + 1, hi => by
    have hlt : i < ns.length := hi
    have e1 : ns.getD i 0 = ns[i] := by
      rw [List.getD_eq_getElem?_getD, List.getElem?_eq_getElem hlt] <;> rfl
    have e2 : ns.take (i + 1) = ns.take i ++ [ns[i]] := by
      rw [List.take_add_one, List.getElem?_eq_getElem hlt] <;> rfl
    have ih := firstMet_dd ns i (Nat.le_of_lt hlt)
    rw [PyProof.Rows.firstMet_succ, ih, e2, dd_snoc]
    show (if (LM.dd [] (ns.take i)).any (· == ns.getD i 0) then _ else LM.dd [] (ns.take i) ++ [ns.getD i 0]) = _
    rw [e1]
    by_cases q : ns[i] ∈ LM.dd [] (ns.take i)
    · rw [if_pos q, if_pos (List.any_eq_true.mpr ⟨_, q, by simp⟩)]
    · rw [if_neg q, if_neg (fun z => ?_)]
      obtain ⟨y, hy, ey⟩ := List.any_eq_true.mp z
      rw [eq_of_beq ey] at hy
      exact q hy
def tLenSetA (K : PySem.W.Frag) (ta : TE) : TE := fun σ H Q => ta σ H fun x H1 => ∃ (l : Addr) (ns : List Int), x = .ref l ∧ SqL K H1 l (ns.map V.int) ∧ ns.length ≤ 4000 ∧ Q (.int ((LM.dd [] ns).length : Nat)) H1
theorem pe_lenSetA {X : Cx} {a : Expr} {ta : TE} {p p2 q pos : Pos} (hg : Gl X "len") (hm : X.mg "len" = none) (hg2 : Gl X "set") (hm2 : X.mg "set" = none) (ha : PE X a ta) (hc : X.calm = true := by rfl)
    (na : starEach [a] X.env = (false, eval a X.env) :: starEach [] X.env := by rfl) : PE X (.Call (.Name "len" p) [.Call (.Name "set" p2) [a] [] q] [] pos) (tLenSetA X.K ta) := by
  refine ⟨fun pins s σ H Q I h => ?_⟩
  refine Call_ (ld_blt I hg hm boot_len ?_)
  refine PyProof.Rows.callWith_builtin1 (PyProof.Rows.args_cons ?_ rfl) rfl rfl
  refine Call_ (ld_blt I hg2 hm2 boot_set ?_)
  refine PyProof.Rows.callWith_type1 (PyProof.Rows.args_cons (thn (ha.run pins s σ H _ I h) fun v s1 ⟨x, H1, I1, r1, q1⟩ => PyProof.Rows.args_nil ?_) na) na rfl
  obtain ⟨l, ns, rfl, hq, hl, q1⟩ := q1
  cases r1
  obtain ⟨its, r, pl, hz⟩ := I1.list hq
  have hlen : its.toArray.size = ns.length := by rw [List.size_toArray, ← r.length, List.length_map]
  refine call_set_list (I1.ok.hd hc) pl.isList (by simpa using RZ.intsAre_vals r) (by rw [hlen]; unfold scanBound; omega) fun h' tk hS hk => ?_
  refine PyProof.Rows.args_nil ?_
  rw [hlen, firstMet_dd ns ns.length (Nat.le_refl _), List.take_length] at hS
  obtain ⟨o, es, ep, t, ho, hex, hd, _, _, _, hf, hn⟩ := hS
  have I2 : Inv X pins σ H1 { s1 with heap := h', toks := tk } := I1.kept fun b o e => hk b o (Heap.lt_size e) e
  have hdl := LM.dd_len ns []
  exact call_len_set ho hex hd hf (by rw [hn]; simp at hdl; omega) ⟨.int (LM.dd [] ns).length, H1, I2.tok _, ⟨_, by rw [hn]⟩, q1⟩
/-- of numbers that are natural -/
theorem dd_nat (c : List Nat) : (LM.dd [] (c.map (fun x : Nat => (x : Int)))).length = LM.card c := by
  unfold LM.card
  have e : LM.dd [] (c.map (fun x : Nat => (x : Int))) = (LM.dd [] c).map (fun x : Nat => (x : Int)) := LM.dd_inj c [] (fun a b _ _ e => by have e' : (a : Int) = (b : Int) := e; omega)
  rw [e, List.length_map]
end LX

namespace Law
open PySem PySem.Spec PyProof.Rows L2 Evl TR
def spTrn (d : Nat) : Sp := fun vs H Q _ => ∃ (t : Tr) (v : V) (an : Addr) (ns : List Nat), vs = [v, .ref an] ∧ TA true H v t ∧ H an = some (.lst (nV ns)) ∧ (∀ q ∈ LM.lv t, q < ns.length) ∧ t.depth ≤ d ∧ t.size ≤ 2000 ∧ ∀ H' v', Ex H H' → TA true H' v' (LM.ren (LM.at0 ns) t) → Q v' H'
def spLvs (d : Nat) : Sp := fun vs H Q _ => ∃ (t : Tr) (v : V), vs = [v] ∧ TA true H v t ∧ t.depth ≤ d ∧ t.size ≤ 2000 ∧ ∀ H' r, Ex H H' → H r = none → H' r = some (.lst (nV (LM.lv t))) → Q (.ref r) H'
theorem lv_len : ∀ t : Tr, (LM.lv t).length ≤ t.size := fun t => by
  rw [LM.lv_parts, ← LM.parts_len]
  exact List.length_filterMap_le _ _
theorem lvs_flat : ∀ ts : Trs, LM.lvs ts = ts.list.flatMap LM.lv
  | .nil => by simp only [LM.lvs, Trs.list, List.flatMap_nil]
  | .cons t r => by simp only [LM.lvs, Trs.list, List.flatMap_cons]; rw [lvs_flat r]
theorem flat_len : ∀ us : List Tr, (us.flatMap LM.lv).length ≤ TR.total us
  | [] => Nat.le_refl _
  | t :: r => by
    rw [List.flatMap_cons, List.length_append]
    have h1 := lv_len t
    have h2 := flat_len r
    show _ ≤ t.size + TR.total r
    omega
theorem tot_take (us : List Tr) (i : Nat) : TR.total (us.take i) ≤ TR.total us := by
  have := total_app (us.take i) (us.drop i)
  rw [List.take_append_drop] at this
  omega
section
variable {P : Program} {w : World} {K : PySem.W.Frag} {mg : Str → Option Value} {base : Heap}
theorem ok_turned {f : Addr} {fd : FuncData} (F : Fun K "_law_turned" "_law_turned" s_lturned f fd) (T : Tx mg) (g : mg "_law_turned" = some (.ref f)) (b : Binds K fd ["_law_tree_here", "_law_numbers"] []) : ∀ d : Nat, FnOk P w K mg base CX0 (d + 1) f fd ["_law_tree_here", "_law_numbers"] (spTrn d)
  | 0 => by
    refine F.ok sc_lturned (fun vs H Q E h => ?_) (fun cdv A outer s H vs Q E hr h => ?_)
    · obtain ⟨t, v, an, ns, rfl, _⟩ := h
      rfl
    · obtain ⟨t, v, an, ns, rfl, hT, han, hS, hd, hsz, q⟩ := h
      exfalso
      cases t
      · exact absurd hd (by show ¬ (1 ≤ 0); omega)
      · exact absurd hd (by show ¬ (_ + 1 ≤ 0); omega)
      · exact absurd hd (by show ¬ (_ + 1 ≤ 0); omega)
  | d + 1 => by
    have c_lturned : Kn P w K mg base "_law_turned" ["_law_tree_here", "_law_numbers"] (d + 1) (spTrn d) := ⟨f, fd, ok_turned F T g b d, g, F.kp, b⟩
    refine F.ok sc_lturned (fun vs H Q E h => ?_) (fun cdv A outer s H vs Q E hr h => ?_)
    · obtain ⟨t, v, an, ns, rfl, _⟩ := h
      rfl
    · obtain ⟨t, v, an, ns, rfl, hT, han, hS, hd, hsz, q⟩ := h
      refine ⟨_, (pss_cons (ps_if (pt_cmpR op_eq (pe_ix ix_seq (pv 0) pe_int (fun _ _ => rfl)) pe_str (nomark _)) (pss_one (ps_ret (pe_tup (pa_cons pe_str (pa_cons (pe_ix ix_seq (pv 0) pe_int (fun _ _ => rfl)) (pa_cons (pe_ix ix_list (pv 1) (pe_ix ix_seq (pv 0) pe_int (fun _ _ => rfl)) (fun _ _ => rfl)) pa_nil)))))) pss_nil)
      (pss_cons (ps_if (pt_cmpR op_eq (pe_ix ix_seq (pv 0) pe_int (fun _ _ => rfl)) pe_str (nomark _)) (pss_one (ps_ret (pe_tup (pa_cons pe_str (pa_cons (pe_ix ix_seq (pv 0) pe_int (fun _ _ => rfl)) (pa_cons (pe_call c_lturned.ok (hr.mono (by omega)) (by rfl) c_lturned.g c_lturned.kp c_lturned.b .nil pass0 (pa_cons (pe_ix ix_seq (pv 0) pe_int (fun _ _ => rfl)) (pa_cons (pv 1) pa_nil))) pa_nil)))))) pss_nil)
      (pss_one (ps_ret (pe_tup (pa_cons pe_str (pa_cons (pe_ix ix_seq (pv 0) pe_int (fun _ _ => rfl)) (pa_cons (pe_callTy call_tuple_of (by rfl) T.tuple PyProof.Rows.boot_tuple (pa_cons (pe_lc (own := [("_law_part", 2)]) (g := gName 2) (tt := tYes) rfl sc_lturned.nd (TR.pi_seq (pe_ix ix_seq (pv 0) pe_int (fun _ _ => rfl))) (blkOk_by (N := N_lturned) (sc := defScope s_lturned) (by decide +kernel)) (fun _ _ _ _ _ => (pg_name (i := 2) sc_lturned.nd rfl (Or.inl rfl))) (fun _ _ _ _ _ => pts_nil) (fun _ _ _ _ _ => (pe_call c_lturned.ok (hr.mono (by omega)) (by rfl) c_lturned.g c_lturned.kp c_lturned.b .nil pass0 (pa_cons (pv 2) (pa_cons (pv 1) pa_nil))))) pa_nil)) pa_nil)))))))), ?_⟩
      cases hT with
      | @go a s' q' h =>
        refine ⟨_, rfl, .inr (.inl ⟨a, _, _, _, rfl, rfl, st_of h, rfl, ?_⟩)⟩
        refine ⟨rfl, _, rfl, iteD rfl ?_⟩
        exact ⟨_, rfl, .inr (.inl ⟨a, _, _, _, rfl, rfl, st_of h, rfl, _, rfl, _, rfl, .inr (.inl ⟨a, _, _, _, rfl, rfl, st_of h, rfl, an, _, _, _, rfl, rfl, sq_of han, nV_at (hS _ (by simp [LM.lv])), by show 3 ≤ sizeLine; decide, fun r hr2 => q _ _ (Ex.new hr2) (by simp only [LM.ren]; exact .go upd_same)⟩)⟩)⟩
      | @tell a n' v' t' h r0 =>
        have hd' : t'.depth ≤ d := by
          have : t'.depth + 1 ≤ d + 1 := hd
          omega
        have hs' : t'.size ≤ 2000 := by
          have : t'.size + 1 ≤ 2000 := hsz
          omega
        refine ⟨_, rfl, .inr (.inl ⟨a, _, _, _, rfl, rfl, st_of h, rfl, ?_⟩)⟩
        refine ⟨rfl, _, rfl, iteDn tell_ne_go ?_⟩
        refine ⟨_, rfl, .inr (.inl ⟨a, _, _, _, rfl, rfl, st_of h, rfl, ?_⟩)⟩
        refine ⟨rfl, _, rfl, iteD rfl ?_⟩
        refine ⟨_, rfl, .inr (.inl ⟨a, _, _, _, rfl, rfl, st_of h, rfl, _, rfl, .inr (.inl ⟨a, _, _, _, rfl, rfl, st_of h, rfl, _, rfl, ?_⟩)⟩)⟩
        refine ⟨t', v', an, ns, rfl, r0, han, (fun z hz => hS z (by simpa [LM.lv] using hz)), hd', hs', fun H1 v1 e1 hv1 => ⟨by show 3 ≤ sizeLine; decide, fun r hr2 => ?_⟩⟩
        exact q _ _ (e1.trans (Ex.new hr2)) (by simp only [LM.ren]; exact .tell upd_same (hv1.ex (Ex.new hr2)))
      | @read a b' p' us ts h hb r0 =>
        have hd' : ts.depth ≤ d := by
          have : ts.depth + 1 ≤ d + 1 := hd
          omega
        have hs' : ts.size ≤ 1999 := by
          have : ts.size + 1 ≤ 2000 := hsz
          omega
        have KK := r0.kids
        have lks := KK.len
        have ltk := len_total ts.list
        rw [Trs.total] at ltk
        refine ⟨_, rfl, .inr (.inl ⟨a, _, _, _, rfl, rfl, st_of h, rfl, ?_⟩)⟩
        refine ⟨rfl, _, rfl, iteDn read_ne_go ?_⟩
        refine ⟨_, rfl, .inr (.inl ⟨a, _, _, _, rfl, rfl, st_of h, rfl, ?_⟩)⟩
        refine ⟨rfl, _, rfl, iteDn read_ne_tell ?_⟩
        refine ⟨_, rfl, .inr (.inl ⟨a, _, _, _, rfl, rfl, st_of h, rfl, ?_⟩)⟩
        refine .inr ⟨_, rfl, .inr (.inl ⟨a, _, _, _, rfl, rfl, st_of h, rfl, b', rfl, ⟨us, st_of hb⟩, fun D hD => lc_it (walk_tup (K := K) (a := b') (xs := us)) (fun i H6 => Ex H H6 ∧ ∃ zs, H6 D = some (.lst zs) ∧ Kids true H6 zs ((ts.list.take i).map (LM.ren (LM.at0 ns)))) ⟨Ex.new hD, [], upd_same, .nil⟩ (fun i H6 _ hw => st_of (hw.1 _ _ hb)) (fun i x H6 H7 hi hw hy => ?_) (fun H6 hw => ?_)⟩)⟩
        · obtain ⟨e6, zs, hz, Z⟩ := hw
          obtain ⟨rfl, hx⟩ := hy
          obtain ⟨kt, hkt, hka⟩ := KK.get hx
          have mem := List.mem_of_getElem? hkt
          have dk := Trs.depth_mem kt mem
          have sk : kt.size ≤ ts.size := by
            have h1 := size_mem mem
            rw [Trs.total] at h1
            exact h1
          have lz := Z.len
          rw [List.length_map, List.length_take] at lz
          refine ⟨rfl, _, rfl, _, rfl, kt, x, an, ns, rfl, hka.ex e6, e6 _ _ han, (fun z hz => hS z (by simp only [LM.lv]; exact LM.lvs_mem mem hz)), by omega, by omega, fun H8 v8 e8 hv8 => ?_⟩
          refine ⟨zs, e8 _ _ hz, sz_lt (by omega), (e6.trans e8).mut hD, zs ++ [v8], upd_same, ?_⟩
          rw [take_next' hkt, List.map_append]
          refine Kids.upd (fun ys hh => ?_) ((Z.ex e8).snoc hv8)
          rw [e8 _ _ hz] at hh
          cases hh
        · obtain ⟨e6, zs, hz, Z⟩ := hw
          rw [lks, List.take_length, ← LM.rens_list] at Z
          refine ⟨D, zs, rfl, .inl ⟨sq_of hz, fun t2 ht2 => ⟨by show 3 ≤ sizeLine; decide, fun r hr2 => ?_⟩⟩⟩
          exact q _ _ ((e6.trans (Ex.new ht2)).trans (Ex.new hr2)) (by simp only [LM.ren]; exact .read upd_same (Ex.new hr2 _ _ upd_same) ((Z.ex ((Ex.new ht2).trans (Ex.new hr2))).tas))
theorem ok_leaves {f : Addr} {fd : FuncData} (F : Fun K "_law_leaves" "_law_leaves" s_lleaves f fd) (T : Tx mg) (g : mg "_law_leaves" = some (.ref f)) (b : Binds K fd ["_law_tree_here"] []) : ∀ d : Nat, FnOk P w K mg base CX0 (d + 1) f fd ["_law_tree_here"] (spLvs d)
  | 0 => by
    refine F.ok sc_lleaves (fun vs H Q E h => ?_) (fun cdv A outer s H vs Q E hr h => ?_)
    · obtain ⟨t, v, rfl, _⟩ := h
      rfl
    · obtain ⟨t, v, rfl, hT, hd, hsz, q⟩ := h
      exfalso
      cases t
      · exact absurd hd (by show ¬ (1 ≤ 0); omega)
      · exact absurd hd (by show ¬ (_ + 1 ≤ 0); omega)
      · exact absurd hd (by show ¬ (_ + 1 ≤ 0); omega)
  | d + 1 => by
    have c_lleaves : Kn P w K mg base "_law_leaves" ["_law_tree_here"] (d + 1) (spLvs d) := ⟨f, fd, ok_leaves F T g b d, g, F.kp, b⟩
    refine F.ok sc_lleaves (fun vs H Q E h => ?_) (fun cdv A outer s H vs Q E hr h => ?_)
    · obtain ⟨t, v, rfl, _⟩ := h
      rfl
    · obtain ⟨t, v, rfl, hT, hd, hsz, q⟩ := h
      refine ⟨_, (pss_cons (ps_if (pt_cmpR op_eq (pe_ix ix_seq (pv 0) pe_int (fun _ _ => rfl)) pe_str (nomark _)) (pss_one (ps_ret (pe_lst (pa_cons (pe_ix ix_seq (pv 0) pe_int (fun _ _ => rfl)) pa_nil)))) pss_nil)
      (pss_cons (ps_if (pt_cmpR op_eq (pe_ix ix_seq (pv 0) pe_int (fun _ _ => rfl)) pe_str (nomark _)) (pss_one (ps_ret (pe_call c_lleaves.ok (hr.mono (by omega)) (by rfl) c_lleaves.g c_lleaves.kp c_lleaves.b .nil pass0 (pa_cons (pe_ix ix_seq (pv 0) pe_int (fun _ _ => rfl)) pa_nil)))) pss_nil)
      (pss_cons (ps_set (i := 1) sc_lleaves.nd rfl (Or.inl rfl) (pe_lst pa_nil))
      (pss_cons (ps_for PassesOwn.never rfl (TR.pi_seq (pe_ix ix_seq (pv 0) pe_int (fun _ _ => rfl))) (pg_name (i := 2) sc_lleaves.nd rfl (Or.inl rfl)) (pss_one (ps_set (i := 1) sc_lleaves.nd rfl (Or.inl rfl) (pe_op op_cat (pv 1) (pe_call c_lleaves.ok (hr.mono (by omega)) (by rfl) c_lleaves.g c_lleaves.kp c_lleaves.b .nil pass0 (pa_cons (pv 2) pa_nil))))))
      (pss_one (ps_ret (pv 1))))))), ?_⟩
      cases hT with
      | @go a s' q' h =>
        refine ⟨_, rfl, .inr (.inl ⟨a, _, _, _, rfl, rfl, st_of h, rfl, ?_⟩)⟩
        refine ⟨rfl, _, rfl, iteD rfl ?_⟩
        exact ⟨_, rfl, .inr (.inl ⟨a, _, _, _, rfl, rfl, st_of h, rfl, by show 1 ≤ sizeLine; decide, fun r hr2 => q _ _ (Ex.new hr2) hr2 (by simp only [LM.lv]; exact upd_same)⟩)⟩
      | @tell a n' v' t' h r0 =>
        have hd' : t'.depth ≤ d := by
          have : t'.depth + 1 ≤ d + 1 := hd
          omega
        have hs' : t'.size ≤ 2000 := by
          have : t'.size + 1 ≤ 2000 := hsz
          omega
        refine ⟨_, rfl, .inr (.inl ⟨a, _, _, _, rfl, rfl, st_of h, rfl, ?_⟩)⟩
        refine ⟨rfl, _, rfl, iteDn tell_ne_go ?_⟩
        refine ⟨_, rfl, .inr (.inl ⟨a, _, _, _, rfl, rfl, st_of h, rfl, ?_⟩)⟩
        refine ⟨rfl, _, rfl, iteD rfl ?_⟩
        refine ⟨_, rfl, .inr (.inl ⟨a, _, _, _, rfl, rfl, st_of h, rfl, ?_⟩)⟩
        exact ⟨t', v', rfl, r0, hd', hs', fun H1 r e1 hf1 hr1 => q _ _ e1 hf1 (by simp only [LM.lv]; exact hr1)⟩
      | @read a b' p' us ts h hb r0 =>
        have hd' : ts.depth ≤ d := by
          have : ts.depth + 1 ≤ d + 1 := hd
          omega
        have hs' : ts.size ≤ 1999 := by
          have : ts.size + 1 ≤ 2000 := hsz
          omega
        have KK := r0.kids
        have lks := KK.len
        refine ⟨_, rfl, .inr (.inl ⟨a, _, _, _, rfl, rfl, st_of h, rfl, ?_⟩)⟩
        refine ⟨rfl, _, rfl, iteDn read_ne_go ?_⟩
        refine ⟨_, rfl, .inr (.inl ⟨a, _, _, _, rfl, rfl, st_of h, rfl, ?_⟩)⟩
        refine ⟨rfl, _, rfl, iteDn read_ne_tell ?_⟩
        refine ⟨by show 0 ≤ sizeLine; decide, fun l0 hl0 => ?_⟩
        have e0 : Ex H (L2.upd H l0 (.lst [])) := Ex.new hl0
        refine .inr ⟨_, rfl, .inr (.inl ⟨a, _, _, _, rfl, rfl, st_of (e0 _ _ h), rfl, b', rfl, ⟨us, st_of (e0 _ _ hb)⟩, for_it (walk_tup (K := K) (a := b') (xs := us)) (fun i σ H' => ∃ (l : Addr) (y2 : Option V), σ = [some (.ref a), some (.ref l), y2] ∧ Ex H H' ∧ H l = none ∧ H' l = some (.lst (nV ((ts.list.take i).flatMap LM.lv)))) ⟨l0, none, rfl, e0, hl0, upd_same⟩ (fun i σ H' _ hw => by
          obtain ⟨_, _, _, e, _⟩ := hw
          exact st_of (e _ _ hb)) (fun i x σ H' H'' hi hw hy => ?_) (fun σ H' hw => ?_)⟩)⟩
        · obtain ⟨l, y2, rfl, e1, hf, hl⟩ := hw
          obtain ⟨rfl, hx⟩ := hy
          obtain ⟨kt, hkt, hka⟩ := KK.get hx
          have mem := List.mem_of_getElem? hkt
          have dk := Trs.depth_mem kt mem
          have sk : kt.size ≤ ts.size := by
            have h1 := size_mem mem
            rw [Trs.total] at h1
            exact h1
          have ll := flat_len (ts.list.take i)
          have lt := tot_take ts.list i
          rw [Trs.total] at lt
          have lk := lv_len kt
          refine ⟨_, rfl, _, rfl, kt, x, rfl, hka.ex e1, by omega, by omega, fun H2 r2 e2 _ hr2 => ?_⟩
          refine ⟨l, r2, _, _, rfl, rfl, e2 _ _ hl, hr2, sz_of (by rw [nV_len, nV_len]; omega), fun p hp => ?_⟩
          refine ⟨p, _, rfl, (e1.trans e2).trans (Ex.new hp), fresh_back (e1.trans e2) hp, ?_⟩
          rw [upd_same, take_next' hkt, List.flatMap_append]
          unfold nV
          rw [List.map_append]
          simp
        · obtain ⟨l, y2, rfl, e1, hf, hl⟩ := hw
          rw [lks, List.take_length, ← lvs_flat] at hl
          exact ⟨_, rfl, q H' l e1 hf (by simp only [LM.lv]; exact hl)⟩
end
end Law

namespace LM
open TR
section
variable {α : Type} [DecidableEq α]
def ixo (l : List α) (x : α) : Nat := l.idxOf x
theorem ixo_lt {l : List α} {x : α} (h : x ∈ l) : ixo l x < l.length := List.idxOf_lt_length_of_mem h
theorem ixo_get {l : List α} {x : α} (h : x ∈ l) : l[ixo l x]? = some x := by
  have h2 := ixo_lt h
  rw [List.getElem?_eq_getElem h2]
  exact congrArg some (List.getElem_idxOf h2)
theorem ixo_first : ∀ {l : List α} {x : α} {m : Nat}, l[m]? = some x → ixo l x ≤ m
  | y :: r, x, m, h => by
    unfold ixo
    rw [List.idxOf_cons]
    by_cases e : y = x
    · rw [show (y == x) = true by rw [e]; exact beq_self_eq_true x]
      exact Nat.zero_le _
    · rw [show (y == x) = false by rw [beq_eq_false_iff_ne]; exact e]
      cases m with
      | zero => cases h; exact absurd rfl e
      | succ m => exact Nat.succ_le_succ (ixo_first (l := r) h)
theorem numb_get {xs : List α} {i : Nat} {x : α} (h : xs[i]? = some x) : (numb xs)[i]? = some (ixo (dd [] xs) x) := by
  unfold numb ixo
  rw [List.getElem?_map, h]
  rfl
end
/-- rows: the mark of a state beside its tree with marks -/
def pr (ts : List Tr) (c : List Nat) : List (Nat × Tr) := (List.range ts.length).map fun i => (at0 c i, ren (at0 c) (tr0 ts i))
theorem pr_len (ts : List Tr) (c : List Nat) : (pr ts c).length = ts.length := by
  unfold pr
  rw [List.length_map, List.length_range]
theorem pr_get {ts : List Tr} {c : List Nat} {i : Nat} (h : i < ts.length) : (pr ts c)[i]? = some (at0 c i, ren (at0 c) (tr0 ts i)) := by
  unfold pr
  rw [List.getElem?_map, List.getElem?_range h]
  rfl
theorem pr_snd (ts : List Tr) (c : List Nat) : (pr ts c).map Prod.snd = ts.map (ren (at0 c)) := by
  refine List.ext_getElem? fun i => ?_
  rw [List.getElem?_map, List.getElem?_map]
  by_cases h : i < ts.length
  · rw [pr_get h, tr0_get h]
    rfl
  · rw [List.getElem?_eq_none (by rw [pr_len]; omega), List.getElem?_eq_none (by omega)]
    rfl
theorem numb_pr {ts : List Tr} (V : Val ts) (k : Nat) : numb (pr ts (Pk ts k)) = Pk ts (k + 1) := by
  show _ = numb (ts.map (ren (at0 (Pk ts k))))
  rw [← pr_snd]
  refine (numb_map fun a ha b hb e => ?_).symm
  obtain ⟨i, hi, rfl⟩ := List.mem_map.mp ha
  obtain ⟨j, hj, rfl⟩ := List.mem_map.mp hb
  rw [List.mem_range] at hi hj
  have e2 : at0 (Pk ts (k + 1)) i = at0 (Pk ts (k + 1)) j := (step_eq (ts := ts) (c := Pk ts k) hi hj).mpr e
  have e1 := finer V hi hj e2
  exact Prod.ext e1 e
/-- how many there were before -/
noncomputable def cm (ts : List Tr) : Nat → Nat
  | 0 => 0
  | k + 1 => card (Pk ts k)
theorem cm_le (ts : List Tr) : ∀ k, cm ts k ≤ ts.length
  | 0 => Nat.zero_le _
  | k + 1 => by
    have := card_le (Pk ts k)
    rw [Pk_len] at this
    exact this
theorem cm_lt {ts : List Tr} (h : 0 < ts.length) (V : Val ts) : ∀ k, cm ts k ≠ card (Pk ts k) → cm ts k < cm ts (k + 1)
  | 0, _ => card_pos (by intro e; have := Pk_len ts 0; rw [e] at this; simp at this; omega)
  | k + 1, hk => by
    have := step_card h V k
    show card (Pk ts k) < card (Pk ts (k + 1))
    have h2 : card (Pk ts k) ≠ card (Pk ts (k + 1)) := hk
    omega
theorem cm_stop {ts : List Tr} (h : 0 < ts.length) : ∀ k, cm ts k = card (Pk ts k) → IsS ts (Pk ts k)
  | 0, hk => by
    have : 0 < card (Pk ts 0) := card_pos (by intro e; have := Pk_len ts 0; rw [e] at this; simp at this; omega)
    have h2 : (0 : Nat) = card (Pk ts 0) := hk
    omega
  | k + 1, hk => ⟨k, rfl, hk.symm⟩
end LM
namespace TR
open PySem PySem.Spec L2 Evl
inductive RwA (H : Hp) : List V → List (Nat × Tr) → Prop
  | nil : RwA H [] []
  | cons {a : Addr} {c : Nat} {v : V} {t : Tr} {vs : List V} {rs : List (Nat × Tr)} : H a = some (.tup [.int (c : Nat), v]) → TA true H v t → RwA H vs rs → RwA H (.ref a :: vs) ((c, t) :: rs)
theorem RwA.ex {H H' : Hp} (e : Ex H H') {vs : List V} {rs : List (Nat × Tr)} (h : RwA H vs rs) : RwA H' vs rs := by
  induction h with
  | nil => exact .nil
  | cons h1 h2 _ ih => exact .cons (e _ _ h1) (h2.ex e) ih
theorem RwA.snoc {H : Hp} {vs : List V} {rs : List (Nat × Tr)} (h : RwA H vs rs) {a : Addr} {c : Nat} {v : V} {t : Tr} (h1 : H a = some (.tup [.int (c : Nat), v])) (h2 : TA true H v t) : RwA H (vs ++ [.ref a]) (rs ++ [(c, t)]) := by
  induction h with
  | nil => exact .cons h1 h2 .nil
  | cons k1 k2 _ ih => exact .cons k1 k2 ih
theorem RwA.len {H : Hp} {vs : List V} {rs : List (Nat × Tr)} (h : RwA H vs rs) : vs.length = rs.length := by
  induction h with
  | nil => rfl
  | cons _ _ _ ih => rw [List.length_cons, List.length_cons, ih]
theorem RwA.upd {H : Hp} {a : Addr} {o : HO} (hn : ∀ xs, H a ≠ some (.tup xs)) {vs : List V} {rs : List (Nat × Tr)} (h : RwA H vs rs) : RwA (L2.upd H a o) vs rs := by
  induction h with
  | nil => exact .nil
  | @cons b c v t vs rs h1 h2 _ ih => exact .cons (by rw [upd_ne (fun q : b = a => hn _ (by rw [← q]; exact h1))]; exact h1) (h2.upd hn) ih
def rwd (x : Nat × Tr) : PyData := .tuple [.int (x.1 : Nat), x.2.data]
theorem RwA.dp {K : PySem.W.Frag} {H : Hp} {vs : List V} {rs : List (Nat × Tr)} (h : RwA H vs rs) : DpAll K H vs (rs.map rwd) := by
  induction h with
  | nil => exact .nil
  | cons h1 h2 _ ih => exact .cons (.tup (st_of h1) (.cons (.int _) (.cons h2.dp .nil))) ih
theorem rwd_eqv (x y : Nat × Tr) : PyData.eqv (rwd x) (rwd y) = decide (x = y) := by
  unfold rwd
  rw [eqvT]
  simp only [PyData.eqvAll, Bool.and_true]
  by_cases e : x = y
  · rw [decide_eq_true e, e, Tr.same]
    simp [PyData.eqv]
  · rw [decide_eq_false e]
    cases h : (PyData.eqv (.int (x.1 : Nat)) (.int (y.1 : Nat)) && PyData.eqv x.2.data y.2.data) with
    | false => rfl
    | true =>
      rw [Bool.and_eq_true] at h
      exact absurd (Prod.ext (eqvI h.1) (Tr.inj _ _ h.2)) e
theorem rwd_shaped {x : Nat × Tr} (h : x.2.depth ≤ 30) : SeqAt.shaped (rwd x) = true := by
  have h1 := Tr.deep x.2
  unfold SeqAt.shaped rwd
  rw [Bool.and_eq_true]
  refine ⟨by simp only [PyData.canLay0, PyData.canLayAll0, Tr.lays, Bool.and_true, Bool.true_and], decide_eq_true ?_⟩
  simp only [PyData.depth, PyData.depthAll]
  omega
theorem rwl_shaped {rs : List (Nat × Tr)} (h : ∀ x ∈ rs, x.2.depth ≤ 30) : SeqAt.shaped (.list (rs.map rwd)) = true := by
  have h1 : ∀ rs : List (Nat × Tr), (∀ x ∈ rs, x.2.depth ≤ 30) → PyData.canLayAll0 (rs.map rwd) = true ∧ PyData.depthAll (rs.map rwd) ≤ 61 := by
    intro rs
    induction rs with
    | nil => intro _; exact ⟨by simp only [List.map_nil, PyData.canLayAll0], by simp only [List.map_nil, PyData.depthAll]; omega⟩
    | cons x r ih =>
      intro hx
      obtain ⟨a1, a2⟩ := ih fun y hy => hx y (List.mem_cons_of_mem _ hy)
      have a3 := Tr.deep x.2
      have a4 := hx x List.mem_cons_self
      refine ⟨?_, ?_⟩
      · simp only [List.map_cons, PyData.canLayAll0, a1, Bool.and_true]
        unfold rwd
        simp only [PyData.canLay0, PyData.canLayAll0, Tr.lays, Bool.and_true, Bool.true_and]
      · simp only [List.map_cons, PyData.depthAll]
        unfold rwd at a2 ⊢
        simp only [PyData.depth, PyData.depthAll]
        omega
  obtain ⟨a1, a2⟩ := h1 rs h
  unfold SeqAt.shaped
  rw [Bool.and_eq_true]
  refine ⟨by simp only [PyData.canLay0, a1], decide_eq_true ?_⟩
  simp only [PyData.depth]
  omega
theorem rw_any (rs : List (Nat × Tr)) (x : Nat × Tr) : ((rs.map rwd).any fun z => PyData.eqv z (rwd x)) = decide (x ∈ rs) := by
  rw [Bool.eq_iff_iff, List.any_eq_true, decide_eq_true_eq]
  constructor
  · rintro ⟨z, hz, e⟩
    obtain ⟨y, hy, rfl⟩ := List.mem_map.mp hz
    rw [rwd_eqv, decide_eq_true_eq] at e
    rw [← e]
    exact hy
  · intro h
    exact ⟨rwd x, List.mem_map.mpr ⟨x, h, rfl⟩, by rw [rwd_eqv]; simp⟩
end TR
namespace L2
open PySem PySem.Spec PyProof.Rows
theorem u65 {k : Nat} {A : Around} (r : Room k A) : A.units + 65 < cLine := by
  have := r.un
  omega
end L2
namespace EK
open PySem PySem.Spec PyProof.Rows L2
theorem pe_bmK {X : Cx} {K : PySem.W.Frag} {o e : Expr} {es : List Expr} {to : TE} {t : TA} {name : Str} {apos cpos : Pos} {T id : String} {r : V → List V → Hp → VK → Prop} (hk : X.K = K) (pa : PlainAttrs T) (slot : Slot T name id) (hty : typeOf (.builtin id) = pure (.type "method_descriptor")) (hm : MtR X id r) (ho : PE X o to) (ha : PA X (e :: es) t)
    (hbase : attributeBase o name X.env (eval o X.env) = eval o X.env := by rfl)
    (hfew : ((backTo cpos (starEach (e :: es) X.env)).all (fun x => !x.1) && (backToKw cpos (keywordEach [] X.env)).all (fun x => x.1.isSome)
      && decide ((e :: es).length + ([] : List Keyword).length + (if ([] : List Keyword).isEmpty then 0 else 1) < 30)) = true := by rfl)
    (hline : (apos.endLine == cpos.line) = true := by rfl) (hs : starEach (e :: es) X.env = (false, eval e X.env) :: starEach es X.env := by rfl) (hplain : (backTo cpos (starEach es X.env)).any (·.1) = false := by rfl) :
    PE X (.Call (.Attribute o name apos) (e :: es) [] cpos) (tBM K T r to t) := by
  subst hk
  exact pe_bm pa slot hty hm ho ha hbase hfew hline hs hplain
end EK
namespace Law
open PySem PySem.Spec PyProof.Rows L2 Evl TR
theorem rep_flat (n : Nat) : (List.replicate n [V.int 0]).flatten = nV (List.replicate n 0) := by
  induction n with
  | zero => rfl
  | succ n ih =>
    rw [List.replicate_succ, List.flatten_cons, ih, List.replicate_succ]
    rfl
theorem nV_flat (m : List Nat) : (nV m).all flatV = true := by
  unfold nV
  rw [List.all_map, List.all_eq_true]
  intro x _
  rfl
theorem nV_eqV {a b : Nat} : eqV (.int (a : Nat)) (.int (b : Nat)) = decide (a = b) := by
  show ((a : Int) == (b : Int)) = _
  rw [Bool.eq_iff_iff, beq_iff_eq, decide_eq_true_eq]
  exact Int.ofNat_inj
theorem nV_in (m : List Nat) (c : Nat) : inV (.int (c : Nat)) (nV m) = decide (c ∈ m) := by
  unfold inV nV
  rw [List.any_map, Bool.eq_iff_iff, List.any_eq_true, decide_eq_true_eq]
  constructor
  · rintro ⟨x, hx, e⟩
    have e2 : eqV (.int (x : Nat)) (.int (c : Nat)) = true := e
    rw [nV_eqV, decide_eq_true_eq] at e2
    rw [← e2]
    exact hx
  · intro h
    refine ⟨c, h, ?_⟩
    show eqV (.int (c : Nat)) (.int (c : Nat)) = true
    rw [nV_eqV]
    simp
/-- where each mark comes first -/
def TabF (kvs : List (Key × V)) (S : List Nat) (i : Nat) : Prop := kvs.length ≤ i ∧ ∀ c : Nat, valV kvs (kN c) = if c ∈ S.take i then some (.int (S.idxOf c : Nat)) else none
theorem idx_new {S : List Nat} {i : Nat} (hi : i < S.length) (h : LM.at0 S i ∉ S.take i) : S.idxOf (LM.at0 S i) = i := by
  have e := LM.at0_get hi
  have h1 : S.idxOf (LM.at0 S i) ≤ i := LM.ixo_first e
  refine Nat.le_antisymm h1 (Nat.le_of_not_lt fun hlt => h ?_)
  have hx := List.idxOf_lt_length_of_mem (LM.at0_mem hi)
  have h2 : S[S.idxOf (LM.at0 S i)]? = some (LM.at0 S i) := LM.ixo_get (LM.at0_mem hi)
  have h3 : (S.take i)[S.idxOf (LM.at0 S i)]? = some (LM.at0 S i) := by
    rw [List.getElem?_take_of_lt hlt]
    exact h2
  exact List.mem_of_getElem? h3
theorem TabF.put {kvs : List (Key × V)} {S : List Nat} {i : Nat} (hi : i < S.length) (h : TabF kvs S i) : TabF (putK kvs (kN (LM.at0 S i)) (.int (S.idxOf (LM.at0 S i) : Nat))) S (i + 1) := by
  have ll := length_putK kvs (kN (LM.at0 S i)) (.int (S.idxOf (LM.at0 S i) : Nat))
  refine ⟨by have := h.1; omega, fun c => ?_⟩
  rw [valV_put, take_next' (LM.at0_get hi)]
  by_cases e : kN c = kN (LM.at0 S i)
  · have e2 := kN_inj _ _ e
    rw [if_pos e, e2, if_pos (by simp)]
  · have e2 : c ≠ LM.at0 S i := fun z => e (by rw [z])
    rw [if_neg e, h.2 c]
    by_cases hm : c ∈ S.take i
    · rw [if_pos hm, if_pos (List.mem_append_left _ hm)]
    · rw [if_neg hm, if_neg (by simp [hm, e2])]
theorem TabF.val {kvs : List (Key × V)} {S : List Nat} {i : Nat} (hi : i < S.length) (h : TabF kvs S i) : (valV kvs (kN (LM.at0 S i))).getD (.int (i : Nat)) = .int (S.idxOf (LM.at0 S i) : Nat) := by
  rw [h.2]
  by_cases hm : LM.at0 S i ∈ S.take i
  · rw [if_pos hm]
    rfl
  · rw [if_neg hm, idx_new hi hm]
    rfl
theorem TabF.get {kvs : List (Key × V)} {S : List Nat} (h : TabF kvs S S.length) {H : Hp} {a : Addr} (e : H a = some (.dK kvs)) {c : Nat} (hc : c ∈ S) : DGet H a (.int (c : Nat)) (some (.int (S.idxOf c : Nat))) := by
  have := DGet.k (k := kN c) e
  rw [h.2 c, List.take_length, if_pos hc] at this
  exact this
def spLL : Sp := fun vs H Q _ => ∃ (sa : Addr) (us : List V) (ts : List Tr) (L : List Nat) (wd : Nat), vs = [.ref sa] ∧ H sa = some (.lst us) ∧ Kids true H us ts ∧ RT L wd 3 46 ts ∧ ∀ r H' S zs, Ex H H' → H r = none → H' r = some (.lst zs) → Kids true H' zs (LM.least ts S) → LM.IsS ts S → Q (.ref r) H'
section
variable {P : Program} {w : World} {K : PySem.W.Frag} {mg : Str → Option Value} {base : Heap}
theorem ok_ll {f : Addr} {fd : FuncData} (F : Fun K "_law_least" "_law_least" s_lleast f fd) (T : Tx mg) (c_lturned : Kn P w K mg base "_law_turned" ["_law_tree_here", "_law_numbers"] 4 (spTrn 3)) (c_lleaves : Kn P w K mg base "_law_leaves" ["_law_tree_here"] 4 (spLvs 3)) : FnOk P w K mg base CX0 5 f fd ["_law_states"] spLL := by
  refine F.ok sc_lleast (fun vs H Q E h => ?_) (fun cdv A outer s H vs Q E hr h => ?_)
  · obtain ⟨sa, us, ts, L, wd, rfl, _⟩ := h
    rfl
  · obtain ⟨sa, us, ts, L, wd, rfl, hsa, KK, rt, q⟩ := h
    have n1 := rt.n1
    have n64 := rt.n64
    have vl := rt.val
    have lks := KK.len
    refine ⟨_, (pss_cons (ps_asg (pe_tup (pa_cons (pe_op op_rep (pe_lst (pa_cons pe_int pa_nil)) (pe_callB call_len_seq (by rfl) T.len PySem.boot_len (pa_cons (pv 0) pa_nil))) (pa_cons pe_int pa_nil))) (pg_tup (by rfl) (pgs_cons (pg_name (i := 1) sc_lleast.nd rfl (Or.inr rfl)) (pgs_cons (pg_name (i := 2) sc_lleast.nd rfl (Or.inl rfl)) pgs_nil))))
      (pss_cons (ps_while PassesOwn.never (pt_cmpR op_ne (pv 2) (LX.pe_lenSetA (by rfl) T.len (by rfl) T.set (pv 1)) (nomark _)) (pss_cons (ps_asg (pe_tup (pa_cons (LX.pe_lenSetA (by rfl) T.len (by rfl) T.set (pv 1)) (pa_cons (pe_lst pa_nil) pa_nil))) (pg_tup (by rfl) (pgs_cons (pg_name (i := 2) sc_lleast.nd rfl (Or.inl rfl)) (pgs_cons (pg_name (i := 3) sc_lleast.nd rfl (Or.inr rfl)) pgs_nil))))
      (pss_cons (ps_for PassesOwn.never rfl (pi_range1 (by rfl) T.range (pa_cons (pe_callB call_len_seq (by rfl) T.len PySem.boot_len (pa_cons (pv 0) pa_nil)) pa_nil)) (pg_name (i := 4) sc_lleast.nd rfl (Or.inl rfl)) (pss_cons (ps_set (i := 5) sc_lleast.nd rfl (Or.inl rfl) (pe_tup (pa_cons (pe_ix ix_list (pv 1) (pv 4) (fun _ _ => rfl)) (pa_cons (pe_call c_lturned.ok (hr.mono (by decide)) (by rfl) c_lturned.g c_lturned.kp c_lturned.b .nil pass0 (pa_cons (pe_ix ix_list (pv 0) (pv 4) (fun _ _ => rfl)) (pa_cons (pv 1) pa_nil))) pa_nil))))
      (pss_one (ps_if (pt_cmpR (op_notInD (u65 hr)) (pv 5) (pv 3) rfl) (pss_one (ps_expr (pe_bm PySem.F.plainAttrs_list PySem.F.slot_list_append PySem.F.type_list_append mt_append (pv 3) (pa_cons (pv 5) pa_nil)))) pss_nil))))
      (pss_one (ps_set (i := 1) sc_lleast.nd rfl (Or.inr rfl) (pe_lc (own := [("_law_k", 4)]) (g := gName 4) (tt := tYes) rfl sc_lleast.nd (pi_range1 (by rfl) T.range (pa_cons (pe_callB call_len_seq (by rfl) T.len PySem.boot_len (pa_cons (pv 0) pa_nil)) pa_nil)) (blkOk_by (N := N_lleast) (sc := defScope s_lleast) (by decide +kernel)) (fun _ _ _ _ _ => (pg_name (i := 4) sc_lleast.nd rfl (Or.inl rfl))) (fun _ _ _ _ _ => pts_nil) (fun _ _ _ _ _ => (EK.pe_bmK (K := K) rfl PySem.F.plainAttrs_list PySem.F.slot_list_index PySem.F.type_list_index (show MtR _ _ (rIndexD K) from (mt_indexD (u65 hr))) (pv 3) (pa_cons (pe_tup (pa_cons (pe_ix (show IxR _ (rIxL K) from ix_list) (pv 1) (pv 4) (fun _ _ => rfl)) (pa_cons (pe_call c_lturned.ok (hr.mono (by decide)) (by rfl) c_lturned.g c_lturned.kp c_lturned.b .nil pass0 (pa_cons (pe_ix (show IxR _ (rIxL K) from ix_list) (pv 0) (pv 4) (fun _ _ => rfl)) (pa_cons (pv 1) pa_nil))) pa_nil))) pa_nil)))))))))
      (pss_cons (ps_set (i := 6) sc_lleast.nd rfl (Or.inr rfl) pe_dnewK)
      (pss_cons (ps_for PassesOwn.never rfl (pi_range1 (by rfl) T.range (pa_cons (pe_callB call_len_seq (by rfl) T.len PySem.boot_len (pa_cons (pv 0) pa_nil)) pa_nil)) (pg_name (i := 4) sc_lleast.nd rfl (Or.inl rfl)) (pss_one (ps_dput (hu_of hr) (pv 6) (pe_ix ix_list (pv 1) (pv 4) (fun _ _ => rfl)) (pe_dget2 (hu_of hr) (pv 6) (pe_ix ix_list (pv 1) (pv 4) (fun _ _ => rfl)) (pv 4) ⟨rfl, rfl, rfl, rfl⟩) rfl)))
      (pss_cons (ps_asg (pe_tup (pa_cons (pe_lst (pa_cons (pe_ix ix_list (pv 1) pe_int (fun _ _ => rfl)) pa_nil)) (pa_cons pe_int pa_nil))) (pg_tup (by rfl) (pgs_cons (pg_name (i := 7) sc_lleast.nd rfl (Or.inr rfl)) (pgs_cons (pg_name (i := 8) sc_lleast.nd rfl (Or.inl rfl)) pgs_nil))))
      (pss_cons (ps_while PassesOwn.never (pt_cmpR op_lt (pv 8) (pe_callB call_len_seq (by rfl) T.len PySem.boot_len (pa_cons (pv 7) pa_nil)) (nomark _)) (pss_cons (ps_for PassesOwn.never rfl (pi_list (pe_call c_lleaves.ok (hr.mono (by decide)) (by rfl) c_lleaves.g c_lleaves.kp c_lleaves.b .nil pass0 (pa_cons (pe_ix ix_list (pv 0) (pe_dget (hu_of hr) (pv 6) (pe_ix ix_list (pv 7) (pv 8) (fun _ _ => rfl)) (fun _ _ => rfl)) (fun _ _ => rfl)) pa_nil))) (pg_name (i := 9) sc_lleast.nd rfl (Or.inl rfl)) (pss_one (ps_if (pt_cmpR op_notIn_seq (pe_ix ix_list (pv 1) (pv 9) (fun _ _ => rfl)) (pv 7) rfl) (pss_one (ps_expr (pe_bm PySem.F.plainAttrs_list PySem.F.slot_list_append PySem.F.type_list_append mt_append (pv 7) (pa_cons (pe_ix ix_list (pv 1) (pv 9) (fun _ _ => rfl)) pa_nil)))) pss_nil)))
      (pss_one (ps_set (i := 8) sc_lleast.nd rfl (Or.inl rfl) (pe_op op_add (pv 8) pe_int)))))
      (pss_cons (ps_set (i := 10) sc_lleast.nd rfl (Or.inr rfl) (pe_lc (own := [("_law_mark", 11)]) (g := gName 11) (tt := tYes) rfl sc_lleast.nd (pi_list (pv 1)) (blkOk_by (N := N_lleast) (sc := defScope s_lleast) (by decide +kernel)) (fun _ _ _ _ _ => (pg_name (i := 11) sc_lleast.nd rfl (Or.inl rfl))) (fun _ _ _ _ _ => pts_nil) (fun _ _ _ _ _ => (pe_ifExp (pt_cmpR (show OpR _ _ (rIn K false) from op_in_seq) (pv 11) (pv 7) rfl) (EK.pe_bmK (K := K) rfl PySem.F.plainAttrs_list PySem.F.slot_list_index PySem.F.type_list_index (show MtR _ _ (rIndex K) from mt_index) (pv 7) (pa_cons (pv 11) pa_nil)) pe_int))))
      (pss_one (ps_ret (pe_lc (own := [("_law_mark", 11)]) (g := gName 11) (tt := tYes) rfl sc_lleast.nd (pi_list (pv 7)) (blkOk_by (N := N_lleast) (sc := defScope s_lleast) (by decide +kernel)) (fun _ _ _ _ _ => (pg_name (i := 11) sc_lleast.nd rfl (Or.inl rfl))) (fun _ _ _ _ _ => pts_nil) (fun _ _ _ _ _ => (pe_call c_lturned.ok (hr.mono (by decide)) (by rfl) c_lturned.g c_lturned.kp c_lturned.b .nil pass0 (pa_cons (pe_ix (show IxR _ (rIxL K) from ix_list) (pv 0) (pe_dget (hu_of hr) (pv 6) (pv 11) (fun _ _ => rfl)) (fun _ _ => rfl)) (pa_cons (pv 10) pa_nil)))))))))))))), ?_⟩
    refine ⟨by show 1 ≤ sizeLine; decide, fun l1 hl1 => ?_⟩
    have e1 : Ex H (L2.upd H l1 (.lst [.int 0])) := Ex.new hl1
    refine ⟨_, rfl, sa, _, rfl, .inl (sq_of (e1 _ _ hsa)), l1, _, _, rfl, rfl, upd_same, by omega, by omega, sz_of (by rw [Int.toNat_natCast]; simp only [List.length_singleton]; omega), fun ma hma => ?_⟩
    have e2 := e1.trans (Ex.new (o := .lst (List.replicate ((us.length : Int)).toNat [V.int 0]).flatten) hma)
    have hm2 : (L2.upd (L2.upd H l1 (.lst [.int 0])) ma (.lst (List.replicate ((us.length : Int)).toNat [V.int 0]).flatten)) ma = some (.lst (nV (LM.Pk ts 0))) := by
      rw [upd_same, Int.toNat_natCast, rep_flat, lks]
      rfl
    generalize (L2.upd (L2.upd H l1 (.lst [.int 0])) ma (.lst (List.replicate ((us.length : Int)).toNat [V.int 0]).flatten)) = H2 at e2 hm2 ⊢
    refine ⟨by show 2 ≤ sizeLine; decide, fun T1 hT1 => ?_⟩
    refine ⟨T1, _, rfl, st_of upd_same, rfl, _, _, rfl, _, _, rfl, rfl, ?_⟩
    have e3 := e2.trans (Ex.new (o := .tup [.ref ma, .int 0]) hT1)
    have hm3 : (L2.upd H2 T1 (.tup [.ref ma, .int 0])) ma = some (.lst (nV (LM.Pk ts 0))) := Ex.new hT1 _ _ hm2
    generalize (L2.upd H2 T1 (.tup [.ref ma, .int 0])) = H3 at e3 hm3 ⊢
    refine ⟨fun m σ H' => ∃ (k : Nat) (ma : Addr) (y3 y4 y5 y6 y7 y8 y9 y10 y11 : Option V), σ = [some (.ref sa), some (.ref ma), some (.int (LM.cm ts k : Nat)), y3, y4, y5, y6, y7, y8, y9, y10, y11] ∧ Ex H H' ∧ H' ma = some (.lst (nV (LM.Pk ts k))) ∧ m + LM.cm ts k = ts.length + 1,
      ⟨ts.length + 1, 0, ma, none, none, none, none, none, none, none, none, none, rfl, e3, hm3, rfl⟩, fun m σ H' hw => ?_⟩
    obtain ⟨k, ma, y3, y4, y5, y6, y7, y8, y9, y10, y11, rfl, e4, hma, hm⟩ := hw
    have l1' := LM.Pk_len ts k
    have cle := LM.cm_le ts (k + 1)
    refine ⟨_, rfl, _, rfl, ma, iN (LM.Pk ts k), rfl, by rw [← nV_iN]; exact sq_of hma, by unfold iN; rw [List.length_map, l1']; omega, ?_⟩
    rw [show iN (LM.Pk ts k) = (LM.Pk ts k).map (fun x : Nat => (x : Int)) from rfl, LX.dd_nat]
    by_cases hc : LM.cm ts k = LM.card (LM.Pk ts k)
    · have hS := LM.cm_stop (by omega) k hc
      refine ⟨rfl, _, rfl, ?_⟩
      rw [decide_eq_true (by rw [hc])]
      refine iteF ?_
      obtain ⟨S, hSe⟩ : ∃ S, LM.Pk ts k = S := ⟨_, rfl⟩
      rw [hSe] at hS hma l1'
      clear hSe cle hm
      have n0 : 0 < ts.length := by omega
      obtain ⟨mg0, _, _⟩ := LM.met_all n0 vl hS
      have hsa' := e4 _ _ hsa
      have KK' := KK.ex e4
      refine fun p hp => ?_
      have e5 : Ex H' (L2.upd H' p (.dK [])) := Ex.new hp
      have hp5 : (L2.upd H' p (.dK [])) p = some (.dK []) := upd_same
      generalize (L2.upd H' p (.dK [])) = H5 at e5 hp5 ⊢
      refine ⟨_, rfl, sa, _, rfl, .inl (sq_of (e5 _ _ hsa')), _, rfl, by omega, by omega, ?_⟩
      rw [Int.toNat_natCast]
      refine for_range (lo := 0) (n := us.length) (fun i σ H6 => ∃ (kvs : List (Key × V)) (y4 : Option V), σ = [some (.ref sa), some (.ref ma), some (.int (LM.cm ts k : Nat)), y3, y4, y5, some (.ref p), y7, y8, y9, y10, y11] ∧ Ex H' H6 ∧ H6 p = some (.dK kvs) ∧ TabF kvs S i) ⟨[], y4, rfl, e5, hp5, Nat.zero_le _, fun c => rfl⟩ (fun i σ H6 hi hw => ?_) (fun σ H6 hw => ?_)
      · obtain ⟨kvs, y4, rfl, e6, hk, tab⟩ := hw
        rw [Int.zero_add]
        have hi' : i < S.length := by omega
        have hma6 := e6 _ _ hma
        refine ⟨_, rfl, p, rfl, .inl ⟨kvs, .inl hk⟩, _, rfl, _, rfl, ma, _, _, _, rfl, rfl, sq_of hma6, nV_at hi', _, rfl, _, DGet.k (k := kN (LM.at0 S i)) hk, ?_⟩
        rw [tab.val hi']
        refine ⟨_, rfl, _, rfl, _, rfl, ma, _, _, _, rfl, rfl, sq_of hma6, nV_at hi', p, _, rfl, DPut.k (k := kN (LM.at0 S i)) hk (sz_lt (by have := tab.1; omega)), ?_⟩
        exact ⟨_, _, rfl, e6.mut hp, upd_same, tab.put hi'⟩
      obtain ⟨kvs, y4, rfl, e6, hk, tab⟩ := hw
      rw [show us.length = S.length by omega] at tab
      have hma6 := e6 _ _ hma
      refine ⟨_, rfl, ma, _, _, _, rfl, rfl, sq_of hma6, nV_at (q := 0) (by omega), by show 1 ≤ sizeLine; decide, fun om hom => ?_⟩
      refine ⟨by show 2 ≤ sizeLine; decide, fun T3 hT3 => ?_⟩
      refine ⟨T3, _, rfl, st_of upd_same, rfl, _, _, rfl, _, _, rfl, rfl, ?_⟩
      have e7 := (Ex.new (o := .lst [.int (LM.at0 S 0 : Nat)]) hom).trans (Ex.new (o := .tup [.ref om, .int 0]) hT3)
      have ho7 : (L2.upd (L2.upd H6 om (.lst [.int (LM.at0 S 0 : Nat)])) T3 (.tup [.ref om, .int 0])) om = some (.lst (nV [LM.at0 S 0])) := Ex.new hT3 _ _ upd_same
      generalize (L2.upd (L2.upd H6 om (.lst [.int (LM.at0 S 0 : Nat)])) T3 (.tup [.ref om, .int 0])) = H7 at e7 ho7 ⊢
      have hsa6 := e6 _ _ hsa'
      have KK6 := KK'.ex e6
      -- the tree of a class
      have row : ∀ c, c ∈ S → ∃ v, us[S.idxOf c]? = some v ∧ TA true H6 v (LM.rep ts S c) ∧ LM.rep ts S c ∈ ts := by
        intro c hc
        have hx := List.idxOf_lt_length_of_mem hc
        obtain ⟨v, hv⟩ : ∃ v, us[S.idxOf c]? = some v := ⟨_, List.getElem?_eq_getElem (by omega)⟩
        obtain ⟨t, ht, hT⟩ := KK6.get hv
        have e : LM.rep ts S c = t := LM.tr0_of ht
        exact ⟨v, hv, by rw [e]; exact hT, by rw [e]; exact List.mem_of_getElem? ht⟩
      refine ⟨fun m σ H8 => ∃ (M : List Nat) (a : Nat) (y4 y9 : Option V), σ = [some (.ref sa), some (.ref ma), some (.int (LM.cm ts k : Nat)), y3, y4, y5, some (.ref p), some (.ref om), some (.int (a : Nat)), y9, y10, y11] ∧ Ex H6 H8 ∧ H8 om = some (.lst (nV M)) ∧ LM.Good S M ∧ ts.length ≤ a + m ∧ LM.metF ts S m M a = LM.met ts S,
        ⟨ts.length + 1, [LM.at0 S 0], 0, _, y9, rfl, e7, ho7, LM.Good.one n0 hS, by omega, rfl⟩, fun m σ H8 hw => ?_⟩
      obtain ⟨M, a, y4, y9, rfl, e8, hM, good, hfu, hmet⟩ := hw
      have gle := good.le n0 hS
      refine ⟨_, rfl, _, rfl, om, _, rfl, .inl (sq_of hM), ?_⟩
      refine ⟨_, _, rfl, rfl, ?_⟩
      rw [nV_len]
      by_cases ha : a < M.length
      · refine ⟨_, rfl, iteD (Int.ofNat_lt.mpr ha) ?_⟩
        obtain ⟨f, rfl⟩ : ∃ f, m = f + 1 := ⟨m - 1, by omega⟩
        have hcS := good.2 _ (LM.at0_mem ha)
        obtain ⟨v, hv, hT, mem⟩ := row _ hcS
        have dt := rt.dp _ mem
        have zt := rt.sz _ mem
        have hlv := LM.lv_ok (rt.ok _ mem)
        refine ⟨fun σ2 H2 => ∃ m', m' < f + 1 ∧ ∃ (M : List Nat) (a : Nat) (y4 y9 : Option V), σ2 = [some (.ref sa), some (.ref ma), some (.int (LM.cm ts k : Nat)), y3, y4, y5, some (.ref p), some (.ref om), some (.int (a : Nat)), y9, y10, y11] ∧ Ex H6 H2 ∧ H2 om = some (.lst (nV M)) ∧ LM.Good S M ∧ ts.length ≤ a + m' ∧ LM.metF ts S m' M a = LM.met ts S, fun σ2 H2 h => h, ?_⟩
        refine ⟨_, rfl, _, rfl, _, rfl, _, rfl, om, _, _, _, rfl, rfl, sq_of hM, nV_at ha, p, _, rfl, tab.get (e8 _ _ hk) hcS, sa, _, _, _, rfl, rfl, sq_of (e8 _ _ hsa6), atI_nat hv, LM.rep ts S (LM.at0 M a), v, rfl, hT.ex e8, dt, by omega, fun H9 r e9 hr9f hr9 => ?_⟩
        refine ⟨r, rfl, ⟨_, sq_of hr9⟩, for_list (xs := nV (LM.lv (LM.rep ts S (LM.at0 M a)))) (fun i σ H2 => ∃ (M2 : List Nat) (y9 : Option V), σ = [some (.ref sa), some (.ref ma), some (.int (LM.cm ts k : Nat)), y3, y4, y5, some (.ref p), some (.ref om), some (.int (a : Nat)), y9, y10, y11] ∧ Ex H6 H2 ∧ H2 om = some (.lst (nV M2)) ∧ LM.Good S M2 ∧ M2 = LM.dd M (((LM.lv (LM.rep ts S (LM.at0 M a))).take i).map (LM.at0 S)) ∧ H2 r = some (.lst (nV (LM.lv (LM.rep ts S (LM.at0 M a)))))) ⟨M, y9, rfl, e8.trans e9, e9 _ _ hM, good, rfl, hr9⟩ (fun i σ H2 _ hw => by
          obtain ⟨_, _, _, _, _, _, _, h⟩ := hw
          exact sq_of h) (fun i x σ H2 hx hw => ?_) (fun σ H2 hw => ?_)⟩
        · obtain ⟨M2, y9, rfl, e10, hM2, good2, hd2, hr2⟩ := hw
          rw [nV_get, Option.map_eq_some_iff] at hx
          obtain ⟨q0, hq0, rfl⟩ := hx
          have hq1 := hlv _ (List.mem_of_getElem? hq0)
          have gle2 := good2.le n0 hS
          have hstep : M2 = LM.dd M (((LM.lv (LM.rep ts S (LM.at0 M a))).take i).map (LM.at0 S)) := hd2
          have hma10 := e10 _ _ hma6
          refine ⟨_, rfl, _, rfl, ma, _, _, _, rfl, rfl, sq_of hma10, nV_at (ns := S) (q := q0) (by omega), _, rfl, om, _, rfl, .inl (sq_of hM2), rfl, nV_flat _, _, rfl, ?_⟩
          rw [nV_in]
          by_cases hm : LM.at0 S q0 ∈ M2
          · rw [decide_eq_true hm]
            refine iteF ?_
            refine ⟨M2, _, rfl, e10, hM2, good2, ?_, hr2⟩
            rw [take_next' hq0, List.map_append, LM.dd_app, ← hstep]
            show _ = if LM.at0 S q0 ∈ _ then _ else _
            rw [if_pos hm]
            rfl
          · rw [decide_eq_false hm]
            refine iteT ?_
            refine ⟨_, rfl, .inl ⟨rfl, _, sq_of hM2⟩, _, rfl, _, rfl, ma, _, _, _, rfl, rfl, sq_of hma10, nV_at (ns := S) (q := q0) (by omega), om, _, _, rfl, rfl, hM2, sz_lt (by rw [nV_len]; omega), ?_⟩
            refine ⟨M2 ++ [LM.at0 S q0], _, rfl, e10.mut hom, ?_, ?_, ?_, ?_⟩
            · rw [upd_same]
              unfold nV
              rw [List.map_append]
              rfl
            · have := good2.more (l := [LM.at0 S q0]) (fun x hx => by rw [List.mem_singleton.mp hx]; exact LM.at0_mem (by omega))
              have e9 : LM.dd M2 [LM.at0 S q0] = M2 ++ [LM.at0 S q0] := by
                show (if _ then _ else _) = _
                rw [if_neg hm]
                rfl
              rw [e9] at this
              exact this
            · rw [take_next' hq0, List.map_append, LM.dd_app, ← hstep]
              show _ = if LM.at0 S q0 ∈ _ then _ else _
              rw [if_neg hm]
              rfl
            · rw [upd_ne (fun z => by rw [z, hM] at hr9f; cases hr9f)]
              exact hr2
        · obtain ⟨M2, y9, rfl, e10, hM2, good2, hd2, hr2⟩ := hw
          rw [nV_len, List.take_length] at hd2
          refine ⟨_, rfl, _, _, rfl, rfl, ?_⟩
          refine ⟨f, by omega, M2, a + 1, _, _, rfl, e10, hM2, good2, by omega, ?_⟩
          rw [← hmet, hd2]
          show _ = if _ then _ else _
          rw [if_pos ha]
      · refine ⟨_, rfl, iteDn (fun z => ha (Int.ofNat_lt.mp z)) ?_⟩
        have hmm : M = LM.met ts S := by
          rw [← hmet]
          cases m with
          | zero => rfl
          | succ f =>
            show _ = if _ then _ else _
            rw [if_neg ha]
        rw [hmm] at hM
        have e68 := e6.trans e8
        have hma8 := e8 _ _ hma6
        refine ⟨_, rfl, ma, rfl, ⟨_, sq_of hma8⟩, fun B hB => lc_it (walk_list (K := K) (a := ma) (xs := nV S)) (fun i H9 => Ex H8 H9 ∧ H9 B = some (.lst (nV ((LM.nms ts S).take i)))) ⟨Ex.new hB, upd_same⟩ (fun i H9 _ hw => sq_of (hw.1 _ _ hma8)) (fun i x H9 H10 hi hw hy => ?_) (fun H9 hw => ?_)⟩
        · obtain ⟨e9, hb⟩ := hw
          obtain ⟨rfl, hx⟩ := hy
          have hi' : i < S.length := by rw [← nV_len S]; exact hi
          rw [nV_get, LM.at0_get hi'] at hx
          cases hx
          have hM9 := e9 _ _ hM
          have hnx : (LM.nms ts S)[i]? = some (if LM.at0 S i ∈ LM.met ts S then (LM.met ts S).idxOf (LM.at0 S i) else 0) := by
            unfold LM.nms
            rw [List.getElem?_map, LM.at0_get hi']
            rfl
          have done : ∀ c : Nat, (if LM.at0 S i ∈ LM.met ts S then (LM.met ts S).idxOf (LM.at0 S i) else 0) = c → ∃ acc, H10 B = some (.lst acc) ∧ acc.length < sizeLine ∧ Ex H8 (L2.upd H10 B (.lst (acc ++ [.int (c : Nat)]))) ∧ (L2.upd H10 B (.lst (acc ++ [.int (c : Nat)]))) B = some (.lst (nV ((LM.nms ts S).take (i + 1)))) := by
            intro c hc
            refine ⟨_, hb, ?_, e9.mut hB, ?_⟩
            · rw [nV_len, List.length_take]
              exact sz_lt (by omega)
            · rw [upd_same, take_next' hnx, hc]
              unfold nV
              rw [List.map_append]
              rfl
          refine ⟨rfl, _, rfl, _, rfl, om, _, rfl, .inl (sq_of hM9), rfl, nV_flat _, _, rfl, ?_⟩
          rw [nV_in]
          by_cases hm : LM.at0 S i ∈ LM.met ts S
          · rw [decide_eq_true hm]
            refine iteT ?_
            refine ⟨_, rfl, .inl ⟨rfl, _, sq_of hM9⟩, _, rfl, om, _, _, (LM.met ts S).idxOf (LM.at0 S i), .int (LM.at0 S i : Nat), rfl, rfl, sq_of hM9, rfl, nV_flat _, ?_, ?_, ?_, done _ (if_pos hm)⟩
            · rw [nV_get, show (LM.met ts S)[(LM.met ts S).idxOf (LM.at0 S i)]? = some (LM.at0 S i) from LM.ixo_get hm]
              rfl
            · rw [nV_eqV]
              simp
            · intro m2 z' hm2 hz'
              rw [nV_get, Option.map_eq_some_iff] at hz'
              obtain ⟨y, hy, rfl⟩ := hz'
              rw [nV_eqV]
              refine decide_eq_false fun z => ?_
              rw [z] at hy
              have h3 : (LM.met ts S).idxOf (LM.at0 S i) ≤ m2 := LM.ixo_first hy
              omega
          · rw [decide_eq_false hm]
            refine iteF ?_
            exact done 0 (if_neg hm)
        · obtain ⟨e9, hb⟩ := hw
          rw [nV_len, List.take_of_length_le (by unfold LM.nms; rw [List.length_map]; exact Nat.le_refl _)] at hb
          have hM9 := e9 _ _ hM
          have lnm : (LM.nms ts S).length = ts.length := by unfold LM.nms; rw [List.length_map, l1']
          refine ⟨_, rfl, om, rfl, ⟨_, sq_of hM9⟩, fun R hR => lc_it (walk_list (K := K) (a := om) (xs := nV (LM.met ts S))) (fun i H10 => Ex H9 H10 ∧ ∃ zs, H10 R = some (.lst zs) ∧ Kids true H10 zs ((LM.least ts S).take i)) ⟨Ex.new hR, [], upd_same, .nil⟩ (fun i H10 _ hw => sq_of (hw.1 _ _ hM9)) (fun i x H10 H11 hi hw hy => ?_) (fun H10 hw => ?_)⟩
          · obtain ⟨e10, zs, hz, Z⟩ := hw
            obtain ⟨rfl, hx⟩ := hy
            have hi' : i < (LM.met ts S).length := by rw [← nV_len (LM.met ts S)]; exact hi
            rw [nV_get, LM.at0_get hi'] at hx
            cases hx
            have hcS := mg0.2 _ (LM.at0_mem hi')
            obtain ⟨v, hv, hT, mem⟩ := row _ hcS
            have dt := rt.dp _ mem
            have zt := rt.sz _ mem
            have hlv := LM.lv_ok (rt.ok _ mem)
            have lz := Z.len
            rw [List.length_take, LM.least_len] at lz
            have gl0 := mg0.le n0 hS
            have e810 := (e8.trans e9).trans e10
            refine ⟨rfl, _, rfl, _, rfl, _, rfl, p, _, rfl, tab.get (e810 _ _ hk) hcS, sa, _, _, _, rfl, rfl, sq_of (e810 _ _ hsa6), atI_nat hv, _, rfl, ?_⟩
            refine ⟨_, v, B, LM.nms ts S, rfl, hT.ex e810, e10 _ _ hb, (fun q hq => by rw [lnm]; exact hlv q hq), dt, by omega, fun H12 v12 e12 hv12 => ?_⟩
            have hlt : (LM.least ts S)[i]? = some (LM.ren (LM.at0 (LM.nms ts S)) (LM.rep ts S (LM.at0 (LM.met ts S) i))) := by
              unfold LM.least
              rw [List.getElem?_map, LM.at0_get hi']
              show some (LM.ren (LM.nm S (LM.met ts S)) _) = _
              rw [LM.ren_of (f := LM.at0 (LM.nms ts S)) (g := LM.nm S (LM.met ts S)) _ fun q hq => LM.nms_at (by rw [l1']; exact hlv q hq)]
            refine ⟨zs, e12 _ _ hz, sz_lt (by omega), (e10.trans e12).mut hR, zs ++ [v12], upd_same, ?_⟩
            rw [take_next' hlt]
            refine Kids.upd (fun ys hh => ?_) ((Z.ex e12).snoc hv12)
            rw [e12 _ _ hz] at hh
            cases hh
          · obtain ⟨e10, zs, hz, Z⟩ := hw
            rw [nV_len, List.take_of_length_le (by rw [LM.least_len]; exact Nat.le_refl _)] at Z
            exact q R H10 S zs ((e4.trans e68).trans (e9.trans e10)) (fresh_back ((e4.trans e68).trans e9) hR) hz Z hS
    · have clt := LM.cm_lt (by omega) vl k hc
      refine ⟨rfl, _, rfl, ?_⟩
      rw [decide_eq_false (fun z => hc (by injection z with z; omega))]
      refine iteT ?_
      refine ⟨fun σ2 H2 => ∃ m', m' < m ∧ ∃ (k : Nat) (ma : Addr) (y3 y4 y5 y6 y7 y8 y9 y10 y11 : Option V), σ2 = [some (.ref sa), some (.ref ma), some (.int (LM.cm ts k : Nat)), y3, y4, y5, y6, y7, y8, y9, y10, y11] ∧ Ex H H2 ∧ H2 ma = some (.lst (nV (LM.Pk ts k))) ∧ m' + LM.cm ts k = ts.length + 1, fun σ2 H2 h => h, ?_⟩
      refine ⟨_, rfl, ma, iN (LM.Pk ts k), rfl, by rw [← nV_iN]; exact sq_of hma, by unfold iN; rw [List.length_map, l1']; omega, ?_⟩
      rw [show iN (LM.Pk ts k) = (LM.Pk ts k).map (fun x : Nat => (x : Int)) from rfl, LX.dd_nat]
      refine ⟨by show 0 ≤ sizeLine; decide, fun ra hra => ?_⟩
      refine ⟨by show 2 ≤ sizeLine; decide, fun T2 hT2 => ?_⟩
      refine ⟨T2, _, rfl, st_of upd_same, rfl, _, _, rfl, _, _, rfl, rfl, ?_⟩
      have e5 := (Ex.new (o := .lst []) hra).trans (Ex.new (o := .tup [.int (LM.card (LM.Pk ts k) : Nat), .ref ra]) hT2)
      have hr5 : (L2.upd (L2.upd H' ra (.lst [])) T2 (.tup [.int (LM.card (LM.Pk ts k) : Nat), .ref ra])) ra = some (.lst []) := Ex.new hT2 _ _ upd_same
      generalize (L2.upd (L2.upd H' ra (.lst [])) T2 (.tup [.int (LM.card (LM.Pk ts k) : Nat), .ref ra])) = H5 at e5 hr5 ⊢
      have hsa' := e4 _ _ hsa
      have KK' := KK.ex e4
      refine ⟨_, rfl, sa, _, rfl, .inl (sq_of (e5 _ _ hsa')), _, rfl, by omega, by omega, ?_⟩
      rw [Int.toNat_natCast]
      -- a row
      have row : ∀ i, i < us.length → ∃ v t, us[i]? = some v ∧ TA true H' v t ∧ LM.tr0 ts i = t ∧ t ∈ ts ∧ i < ts.length := by
        intro i hi
        obtain ⟨v, hv⟩ : ∃ v, us[i]? = some v := ⟨_, List.getElem?_eq_getElem hi⟩
        obtain ⟨t, ht, hT⟩ := KK'.get hv
        exact ⟨v, t, hv, hT, LM.tr0_of ht, List.mem_of_getElem? ht, by omega⟩
      have dps : ∀ i, ∀ x ∈ LM.dd [] ((LM.pr ts (LM.Pk ts k)).take i), x.2.depth ≤ 30 := by
        intro i x hx
        rcases (LM.dd_mem _ _ _).mp hx with z | z
        · cases z
        · obtain ⟨j, hj, rfl⟩ := List.mem_map.mp (List.mem_of_mem_take z)
          rw [List.mem_range] at hj
          show (LM.ren _ _).depth ≤ 30
          rw [LM.ren_depth]
          have := rt.dp _ (LM.tr0_mem hj)
          omega
      refine for_range (lo := 0) (n := us.length) (fun i σ H6 => ∃ (rv : List V) (y4 y5 : Option V), σ = [some (.ref sa), some (.ref ma), some (.int (LM.card (LM.Pk ts k) : Nat)), some (.ref ra), y4, y5, y6, y7, y8, y9, y10, y11] ∧ Ex H' H6 ∧ H6 ra = some (.lst rv) ∧ RwA H6 rv (LM.dd [] ((LM.pr ts (LM.Pk ts k)).take i))) ⟨[], y4, y5, rfl, e5, hr5, .nil⟩ (fun i σ H6 hi hw => ?_) (fun σ H6 hw => ?_)
      · obtain ⟨rv, y4, y5, rfl, e6, hr6, R6⟩ := hw
        rw [Int.zero_add]
        obtain ⟨v, t, hv, hT, ht0, mem, hi'⟩ := row i hi
        have dt := rt.dp t mem
        have zt := rt.sz t mem
        have hlv := LM.lv_ok (rt.ok t mem)
        have hpr := LM.pr_get (c := LM.Pk ts k) hi'
        rw [ht0] at hpr
        have lr := R6.len
        have ld := LM.dd_len ((LM.pr ts (LM.Pk ts k)).take i) []
        rw [List.length_take, LM.pr_len] at ld
        simp only [List.length_nil] at ld
        refine ⟨_, rfl, _, rfl, ma, _, _, _, rfl, rfl, sq_of (e6 _ _ hma), nV_at (ns := LM.Pk ts k) (q := i) (by omega), _, rfl, _, rfl, sa, _, _, _, rfl, rfl, sq_of (e6 _ _ hsa'), atI_nat hv, _, rfl, ?_⟩
        refine ⟨t, v, ma, LM.Pk ts k, rfl, hT.ex e6, e6 _ _ hma, (fun q hq => by rw [l1']; exact hlv q hq), dt, by omega, fun H7 v7 e7 hv7 => ⟨by show 2 ≤ sizeLine; decide, fun rw hrw => ?_⟩⟩
        have e8 := e7.trans (Ex.new (o := .tup [.int (LM.at0 (LM.Pk ts k) i : Nat), v7]) hrw)
        have hrw8 : (L2.upd H7 rw (.tup [.int (LM.at0 (LM.Pk ts k) i : Nat), v7])) rw = some (.tup [.int (LM.at0 (LM.Pk ts k) i : Nat), v7]) := upd_same
        have hv8 := hv7.ex (Ex.new (o := .tup [.int (LM.at0 (LM.Pk ts k) i : Nat), v7]) hrw)
        generalize (L2.upd H7 rw (.tup [.int (LM.at0 (LM.Pk ts k) i : Nat), v7])) = H8 at e8 hrw8 hv8 ⊢
        have hr8 := e8 _ _ hr6
        have R8 := R6.ex e8
        have dx : TR.rwd (LM.at0 (LM.Pk ts k) i, LM.ren (LM.at0 (LM.Pk ts k)) t) = .tuple [.int (LM.at0 (LM.Pk ts k) i : Nat), (LM.ren (LM.at0 (LM.Pk ts k)) t).data] := rfl
        refine ⟨_, rfl, _, rfl, TR.rwd (LM.at0 (LM.Pk ts k) i, LM.ren (LM.at0 (LM.Pk ts k)) t), _, .tup (st_of hrw8) (.cons (.int _) (.cons hv8.dp .nil)), .lst (sq_of hr8) R8.dp, rwd_shaped (by show (LM.ren _ _).depth ≤ 30; rw [LM.ren_depth]; omega), rwl_shaped (dps i), _, rfl, ?_⟩
        rw [rw_any]
        have hstep := dd_step hpr
        by_cases hm : (LM.at0 (LM.Pk ts k) i, LM.ren (LM.at0 (LM.Pk ts k)) t) ∈ LM.dd [] ((LM.pr ts (LM.Pk ts k)).take i)
        · rw [decide_eq_true hm]
          refine iteF ?_
          rw [if_pos hm] at hstep
          exact ⟨rv, _, _, rfl, e6.trans e8, hr8, by rw [hstep]; exact R8⟩
        · rw [decide_eq_false hm]
          refine iteT ?_
          rw [if_neg hm] at hstep
          refine ⟨_, rfl, .inl ⟨rfl, _, sq_of hr8⟩, _, rfl, ra, _, _, rfl, rfl, hr8, sz_lt (by omega), ?_⟩
          refine ⟨rv ++ [.ref rw], _, _, rfl, (e6.trans e8).mut hra, upd_same, ?_⟩
          rw [hstep]
          exact RwA.upd (fun xs hh => by rw [hr8] at hh; cases hh) (R8.snoc hrw8 hv8)
      · obtain ⟨rv, y4, y5, rfl, e6, hr6, R6⟩ := hw
        rw [lks, List.take_of_length_le (by rw [LM.pr_len]; exact Nat.le_refl _)] at R6
        have dps' := dps ts.length
        rw [List.take_of_length_le (by rw [LM.pr_len]; exact Nat.le_refl _)] at dps'
        have lr := R6.len
        refine ⟨_, rfl, sa, _, rfl, .inl (sq_of (e6 _ _ hsa')), _, rfl, by omega, by omega, fun D hD => ?_⟩
        rw [Int.toNat_natCast]
        refine lc_range (lo := 0) (n := us.length) (fun i H7 => Ex H6 H7 ∧ H7 D = some (.lst (nV ((LM.Pk ts (k + 1)).take i)))) ⟨Ex.new hD, upd_same⟩ (fun i H7 hi hw => ?_) (fun H7 hw => ?_)
        · obtain ⟨e7, hd⟩ := hw
          rw [Int.zero_add]
          obtain ⟨v, t, hv, hT, ht0, mem, hi'⟩ := row i hi
          have dt := rt.dp t mem
          have zt := rt.sz t mem
          have hlv := LM.lv_ok (rt.ok t mem)
          have hpr := LM.pr_get (c := LM.Pk ts k) hi'
          rw [ht0] at hpr
          have e67 := e6.trans e7
          refine ⟨rfl, _, rfl, .inl ⟨rfl, _, sq_of (e7 _ _ hr6)⟩, _, rfl, _, rfl, ma, _, _, _, rfl, rfl, sq_of (e67 _ _ hma), nV_at (ns := LM.Pk ts k) (q := i) (by omega), _, rfl, _, rfl, sa, _, _, _, rfl, rfl, sq_of (e67 _ _ hsa'), atI_nat hv, _, rfl, ?_⟩
          refine ⟨t, v, ma, LM.Pk ts k, rfl, hT.ex e67, e67 _ _ hma, (fun q hq => by rw [l1']; exact hlv q hq), dt, by omega, fun H8 v8 e8 hv8 => ⟨by show 2 ≤ sizeLine; decide, fun rw hrw => ?_⟩⟩
          have e9 := e8.trans (Ex.new (o := .tup [.int (LM.at0 (LM.Pk ts k) i : Nat), v8]) hrw)
          have hrw9 : (L2.upd H8 rw (.tup [.int (LM.at0 (LM.Pk ts k) i : Nat), v8])) rw = some (.tup [.int (LM.at0 (LM.Pk ts k) i : Nat), v8]) := upd_same
          have hv9 := hv8.ex (Ex.new (o := .tup [.int (LM.at0 (LM.Pk ts k) i : Nat), v8]) hrw)
          generalize (L2.upd H8 rw (.tup [.int (LM.at0 (LM.Pk ts k) i : Nat), v8])) = H9 at e9 hrw9 hv9 ⊢
          have hxm : (LM.at0 (LM.Pk ts k) i, LM.ren (LM.at0 (LM.Pk ts k)) t) ∈ LM.dd [] (LM.pr ts (LM.Pk ts k)) := (LM.dd_mem _ _ _).mpr (.inr (List.mem_of_getElem? hpr))
          have hj := LM.ixo_get hxm
          refine ⟨ra, _, TR.rwd (LM.at0 (LM.Pk ts k) i, LM.ren (LM.at0 (LM.Pk ts k)) t), _, LM.ixo (LM.dd [] (LM.pr ts (LM.Pk ts k))) (LM.at0 (LM.Pk ts k) i, LM.ren (LM.at0 (LM.Pk ts k)) t), TR.rwd (LM.at0 (LM.Pk ts k) i, LM.ren (LM.at0 (LM.Pk ts k)) t), rfl, rfl, .lst (sq_of (e9 _ _ (e7 _ _ hr6))) (R6.ex (e7.trans e9)).dp, .tup (st_of hrw9) (.cons (.int _) (.cons hv9.dp .nil)), rwl_shaped dps', rwd_shaped (by show (LM.ren _ _).depth ≤ 30; rw [LM.ren_depth]; omega), ?_, ?_, ?_, ?_⟩
          · rw [List.getElem?_map, hj]
            rfl
          · rw [rwd_eqv]
            simp
          · intro m2 z' hm2 hz'
            rw [List.getElem?_map, Option.map_eq_some_iff] at hz'
            obtain ⟨y, hy, rfl⟩ := hz'
            rw [rwd_eqv]
            refine decide_eq_false fun z => ?_
            rw [z] at hy
            have := LM.ixo_first hy
            omega
          · refine ⟨_, e9 _ _ hd, ?_, (e7.trans e9).mut hD, ?_⟩
            · rw [nV_len, List.length_take]
              exact sz_lt (by omega)
            · have hn : (LM.Pk ts (k + 1))[i]? = some (LM.ixo (LM.dd [] (LM.pr ts (LM.Pk ts k))) (LM.at0 (LM.Pk ts k) i, LM.ren (LM.at0 (LM.Pk ts k)) t)) := by
                rw [← LM.numb_pr vl k]
                exact LM.numb_get hpr
              rw [upd_same, take_next' hn]
              unfold nV
              rw [List.map_append]
              rfl
        · obtain ⟨e7, hd⟩ := hw
          rw [List.take_of_length_le (by rw [LM.Pk_len, lks]; exact Nat.le_refl _)] at hd
          refine ⟨ts.length + 1 - LM.cm ts (k + 1), by omega, k + 1, D, _, _, _, _, _, _, _, _, _, rfl, (e4.trans e6).trans e7, hd, by omega⟩
end
end Law

/-! two searchers that do the same find the same -/
namespace LM
open Law
open TR
section
variable {R : Nat → Nat → Prop} {L S : List Nat}
/-- what one turn does, beside the other -/
def SameRun (R : Nat → Nat → Prop) (x y : List (Nat × Nat) × List Nat × Option (Nat × Nat)) : Prop :=
  x.1 = y.1 ∧ x.2.1 = y.2.1 ∧ ((x.2.2 = none ∧ y.2.2 = none) ∨ ∃ s q q', x.2.2 = some (s, q) ∧ y.2.2 = some (s, q') ∧ R q q')
mutual
theorem TrR.run : ∀ {t u : Tr}, TrR R t u → SameRun R (t.run L S) (u.run L S)
  | _, _, .go h => by
    simp only [Tr.run]
    exact ⟨rfl, rfl, .inr ⟨_, _, _, rfl, rfl, h⟩⟩
  | _, _, .tell h => by
    obtain ⟨h1, h2, h3⟩ := TrR.run h
    simp only [Tr.run]
    exact ⟨h1, by rw [h2], h3⟩
  | _, _, .read (p := p) h => by
    simp only [Tr.run]
    cases S[p]? with
    | none => exact ⟨rfl, rfl, .inl ⟨rfl, rfl⟩⟩
    | some c =>
      obtain ⟨h1, h2, h3⟩ := TrsR.run h (ixN L c)
      exact ⟨by show (_ :: _) = (_ :: _); rw [h1], h2, h3⟩
theorem TrsR.run : ∀ {t u : Trs}, TrsR R t u → ∀ i, SameRun R (t.runAt L S i) (u.runAt L S i)
  | _, _, .nil, i => by
    simp only [Trs.runAt]
    exact ⟨rfl, rfl, .inl ⟨rfl, rfl⟩⟩
  | _, _, .cons h r, 0 => by
    simp only [Trs.runAt]
    exact TrR.run h
  | _, _, .cons h r, i + 1 => by
    simp only [Trs.runAt]
    exact TrsR.run r i
end
end
def wplace (w : Win) : Nat := w.1
theorem search_bis {A B : List Tr} {R : Nat → Nat → Prop} (b : Bis A B R) (w : Nat) (L X : List Nat) : ∀ (f p : Nat) {q q' : Nat}, R q q' →
    (search w A L X f p q).2 = (search w B L X f p q').2 ∧ (search w A L X f p q).1.map (fun x => x.1) = (search w B L X f p q').1.map (fun x => x.1) ∧ costN (search w A L X f p q).1 = costN (search w B L X f p q').1
  | 0, p, q, q', _ => ⟨rfl, rfl, rfl⟩
  | f + 1, p, q, q', h => by
    by_cases hp : p + w ≤ X.length
    · obtain ⟨la, lb⟩ := b.l _ _ h
      obtain ⟨h1, h2, h3⟩ := TrR.run (L := L) (S := (X.drop p).take (w + 1)) (b.t _ _ h)
      rcases h3 with ⟨n1, n2⟩ | ⟨s, c, c', n1, n2, hr⟩
      · rw [search_cut hp (tr0_get la) n1, search_cut hp (tr0_get lb) n2]
        refine ⟨by rw [h2], rfl, ?_⟩
        unfold costN
        simp only [List.map_cons, List.map_nil]
        rw [h1]
      · obtain ⟨i1, i2, i3⟩ := search_bis b w L X f (p + s) hr
        rw [search_go hp (tr0_get la) n1, search_go hp (tr0_get lb) n2]
        refine ⟨by rw [h2, i1], by rw [List.map_cons, List.map_cons, i2], ?_⟩
        unfold costN at i3 ⊢
        simp only [List.map_cons, List.sum_cons]
        rw [h1, i3]
    · rw [search_end hp, search_end hp]
      exact ⟨rfl, rfl, rfl⟩
end LM

/-! xs == [] and xs != [], whatever stands in xs -/
namespace NL
open PySem PySem.Spec PyProof.Rows L2
def rEqNil (K : PySem.W.Frag) : R2 := fun x y H Q => ∃ a b xs, x = .ref a ∧ y = .ref b ∧ SqL K H a xs ∧ SqL K H b [] ∧ Q (.bl (decide (xs.length = 0))) H
def rNeNil (K : PySem.W.Frag) : R2 := fun x y H Q => ∃ a b xs, x = .ref a ∧ y = .ref b ∧ SqL K H a xs ∧ SqL K H b [] ∧ Q (.bl (!decide (xs.length = 0))) H
section
variable {X : Cx}
theorem op_eqNil (hu : X.A.units + 64 < cLine) : OpR X (compareOp .Eq) (rEqNil X.K) := by
  intro pins s σ H x y v u Q I rx ry h
  obtain ⟨a, b, xs, rfl, rfl, ha, hb, q⟩ := h
  cases (show v = Value.ref a from rx)
  cases (show u = Value.ref b from ry)
  obtain ⟨us, r1, p1, _⟩ := I.list ha
  obtain ⟨ws, r2, p2, _⟩ := I.list hb
  cases r2
  have l1 := r1.length
  have un : X.A.units < cLine := by omega
  show wpAny _ _ (richCompare .Eq _ _) _ _ _
  by_cases hx : xs.length = 0
  · rw [decide_eq_true hx] at q
    have hz : us.toArray.size = ([] : List Value).toArray.size := by rw [List.size_toArray, List.size_toArray, ← l1, hx]; rfl
    refine (SeqAt.RcAt.lists (e := fun _ => true) p1.isList p2.isList hz un fun j h1 h2 => absurd h2 (Nat.not_lt_zero j)) X.prog X.w _ _ ?_
    refine ⟨.bl true, H, I, ?_, q⟩
    show Value.bool _ = Value.bool true
    rw [show ((List.range us.toArray.size).all fun _ => true) = true from List.all_eq_true.mpr fun _ _ => rfl]
  · rw [decide_eq_false hx] at q
    refine (SeqAt.RcAt.lists_lengths p1.isList p2.isList ?_ un) X.prog X.w _ _ ⟨.bl false, H, I, rfl, q⟩
    rw [bne_iff_ne, List.size_toArray, List.size_toArray, ← l1]
    exact hx
theorem op_neNil (hu : X.A.units + 64 < cLine) : OpR X (compareOp .NotEq) (rNeNil X.K) := by
  intro pins s σ H x y v u Q I rx ry h
  obtain ⟨a, b, xs, rfl, rfl, ha, hb, q⟩ := h
  cases (show v = Value.ref a from rx)
  cases (show u = Value.ref b from ry)
  obtain ⟨us, r1, p1, _⟩ := I.list ha
  obtain ⟨ws, r2, p2, _⟩ := I.list hb
  cases r2
  have l1 := r1.length
  have un : X.A.units < cLine := by omega
  show wpAny _ _ (richCompare .NotEq _ _) _ _ _
  by_cases hx : xs.length = 0
  · rw [decide_eq_true hx] at q
    have hz : us.toArray.size = ([] : List Value).toArray.size := by rw [List.size_toArray, List.size_toArray, ← l1, hx]; rfl
    refine (SeqAt.RcNeAt.lists (e := fun _ => true) p1.isList p2.isList hz un fun j h1 h2 => absurd h2 (Nat.not_lt_zero j)) X.prog X.w _ _ ?_
    refine ⟨.bl false, H, I, ?_, q⟩
    show Value.bool _ = Value.bool false
    rw [show ((List.range us.toArray.size).all fun _ => true) = true from List.all_eq_true.mpr fun _ _ => rfl]
    rfl
  · rw [decide_eq_false hx] at q
    refine (SeqAt.RcNeAt.lists_lengths p1.isList p2.isList ?_ un) X.prog X.w _ _ ⟨.bl true, H, I, rfl, q⟩
    rw [bne_iff_ne, List.size_toArray, List.size_toArray, ← l1]
    exact hx
end
end NL

namespace Law
open PySem PySem.Spec PyProof.Rows L2 Evl TR
/-- the states drawn -/
def spTrees2 : Sp := fun vs H Q _ => ∃ (p : PenI) (H0 : Hp) (n : Nat) (L : List Nat) (w m : Nat), vs = [.ref p.d, .str (tx L), .int (w : Int), .int (m : Int), .int 2] ∧ PenAt p H0 H n ∧ n < 800000 ∧ 2 ≤ L.length ∧ L.length ≤ 4 ∧ 1 ≤ w ∧ w ≤ 8 ∧ 1 ≤ m ∧ m ≤ 4 ∧
  ∀ H1 H' r vs ts, Ex H0 H1 → PenAt p H1 H' (n + 1000) → H0 r = none → H1 r = some (.lst vs) → Kids true H1 vs ts → ts.length = m → (∀ t ∈ ts, t.ok L.length w m ∧ t.depth ≤ 3 ∧ t.size ≤ 46) → Q (.ref r) H'
section
variable {P : Program} {w : World} {K : PySem.W.Frag} {mg : Str → Option Value} {base : Heap}
theorem ok_trees2 {f : Addr} {fd : FuncData} (F : Fun K "_law_trees" "_law_trees" s_ltrees f fd) (T : Tx mg) (c_ltree : Kn P w K mg base "_law_tree" ["_law_pen_here", "_law_letters_here", "_law_width", "_law_states", "_law_depth"] 6 (spTree 4)) :
    FnOk P w K mg base CX0 7 f fd ["_law_pen_here", "_law_letters_here", "_law_width", "_law_many", "_law_depth"] spTrees2 := by
  refine F.ok sc_ltrees (fun vs H Q E h => ?_) (fun cdv A outer s H vs Q E hr h => ?_)
  · obtain ⟨p, H0, n, L, wd, m, rfl, _⟩ := h
    rfl
  · obtain ⟨p, H0, n, L, wd, m, rfl, P0, hn, l2, l4, w1, w8, m1, m4, q⟩ := h
    refine ⟨_, (pss_one (ps_ret (pe_lc (own := [("_law_k", 5)]) (g := gName 5) (tt := tYes) rfl sc_ltrees.nd (pi_range1 (by rfl) T.range (pa_cons (pv 3) pa_nil)) (blkOk_by (N := N_ltrees) (sc := defScope s_ltrees) (by decide +kernel)) (fun _ _ _ _ _ => (pg_name (i := 5) sc_ltrees.nd rfl (Or.inl rfl))) (fun _ _ _ _ _ => pts_nil) (fun _ _ _ _ _ => (pe_call c_ltree.ok (hr.mono (by decide)) (by rfl) c_ltree.g c_ltree.kp c_ltree.b .nil pass0 (pa_cons (pv 0) (pa_cons (pv 1) (pa_cons (pv 2) (pa_cons (pv 3) (pa_cons (pv 4) pa_nil)))))))))), ?_⟩
    have n3 : nd 2 = 42 := rfl
    have z3 : sz 2 = 21 := rfl
    refine ⟨_, rfl, _, rfl, by omega, by omega, fun D hD => ?_⟩
    have d0 := fresh0 P0 hD
    have d1 := fresh_ne P0 hD
    have d2 := fresh_nc P0 hD
    refine lc_range (lo := 0) (n := m) (fun i H' => ∃ (Hb : Hp) (zs : List V) (ts : List Tr), Ex H0 Hb ∧ PenAt p Hb H' (n + i * 42) ∧ Hb D = some (.lst zs) ∧ Kids true Hb zs ts ∧ ts.length = i ∧ ∀ t ∈ ts, t.ok L.length wd m ∧ t.depth ≤ 3 ∧ t.size ≤ 46)
      ⟨L2.upd H0 D (.lst []), [], [], Ex.new d0, (P0.both d1 d2).le (by omega), upd_same, .nil, rfl, fun t ht => nomatch ht⟩ (fun i H' hi hw => ?_) (fun H' hw => ?_)
    · obtain ⟨Hb, zs, ts, e, Pb, hz, KK, hl, hall⟩ := hw
      have lz := KK.len
      refine ⟨rfl, _, rfl, _, rfl, _, rfl, _, rfl, _, rfl, p, Hb, n + i * 42, 2, L, wd, m, rfl, by decide, Pb, by omega, l2, l4, w1, w8, m1, by omega, fun H3 H4 v t e3 P4 hta tok tdp tsz => ?_⟩
      refine ⟨zs, P4.1 _ _ (e3 _ _ hz), sz_lt (by omega), L2.upd H3 D (.lst (zs ++ [v])), zs ++ [v], ts ++ [t], (e.trans e3).mut d0, (P4.both d1 d2).le (by omega), upd_same, ?_, ?_, ?_⟩
      · refine Kids.upd (fun ys hh => ?_) ((KK.ex e3).snoc hta)
        rw [e3 _ _ hz] at hh
        cases hh
      · rw [List.length_append, hl]
        rfl
      · intro x hx
        rcases List.mem_append.mp hx with h | h
        · exact hall x h
        · rw [List.mem_singleton.mp h]
          exact ⟨tok, tdp, by omega⟩
    · obtain ⟨Hb, zs, ts, e, Pb, hz, KK, hl, hall⟩ := hw
      exact q _ _ _ _ _ e (Pb.le (by omega)) d0 hz KK hl hall
/-- a list in another order -/
def spShuf : Sp := fun vs H Q _ => ∃ (p : PenI) (H0 : Hp) (n : Nat) (a : Addr) (ns : List Nat), vs = [.ref p.d, .ref a] ∧ PenAt p H0 H n ∧ n < 800000 ∧ H a = some (.lst (nV ns)) ∧ ns.length ≤ 100 ∧
  ∀ H1 H' r ms, Ex H0 H1 → PenAt p H1 H' (n + ns.length) → H0 r = none → H1 r = some (.lst (nV ms)) → ms.Perm ns → Q (.ref r) H'
theorem erase_map : ∀ (m : List Nat) (k : Nat), (nV m).eraseIdx k = nV (m.eraseIdx k)
  | [], k => by simp [nV]
  | x :: r, 0 => rfl
  | x :: r, k + 1 => by
    show (V.int (x : Nat)) :: (nV r).eraseIdx k = V.int (x : Nat) :: nV (r.eraseIdx k)
    rw [erase_map r k]
theorem perm_erase : ∀ {m : List Nat} {k x : Nat}, m[k]? = some x → (x :: m.eraseIdx k).Perm m
  | y :: r, 0, x, h => by
    cases h
    exact List.Perm.refl _
  | y :: r, k + 1, x, h => by
    have h2 := perm_erase (m := r) (k := k) h
    exact (List.Perm.swap _ _ _).trans (h2.cons y)
  | [], _, _, h => by simp at h
theorem ok_shuf {f : Addr} {fd : FuncData} (F : Fun K "_law_shuffled" "_law_shuffled" s_lshuffled f fd) (T : Tx mg) (c_ldraw : Kn P w K mg base "_law_draw" ["_law_pen_here", "_law_many"] 1 spDraw) : FnOk P w K mg base CX0 2 f fd ["_law_pen_here", "_law_some"] spShuf := by
  refine F.ok sc_lshuffled (fun vs H Q E h => ?_) (fun cdv A outer s H vs Q E hr h => ?_)
  · obtain ⟨p, H0, n, a, ns, rfl, _⟩ := h
    rfl
  · obtain ⟨p, H0, n, a, ns, rfl, P0, hn, ha, hl, q⟩ := h
    refine ⟨_, (pss_cons (ps_par (i := 2) (j := 3) (by rfl) sc_lshuffled.nd rfl rfl (by decide) rfl rfl (pa_cons (pe_callTy call_list_of (by rfl) T.list PyProof.Rows.boot_list (pa_cons (pv 1) pa_nil)) (pa_cons (pe_lst pa_nil) pa_nil)) (by rfl))
      (pss_cons (ps_while PassesOwn.never (pt_cmpR (NL.op_neNil hr.units) (pv 2) (pe_lst pa_nil) (nomark _)) (pss_one (ps_expr (pe_bm PySem.F.plainAttrs_list PySem.F.slot_list_append PySem.F.type_list_append mt_append (pv 3) (pa_cons (pe_bm PySem.F.plainAttrs_list PySem.F.slot_list_pop PySem.F.type_list_pop mt_popAt (pv 2) (pa_cons (pe_call c_ldraw.ok (hr.mono (by decide)) (by rfl) c_ldraw.g c_ldraw.kp c_ldraw.b .nil pass0 (pa_cons (pv 0) (pa_cons (pe_callB call_len_seq (by rfl) T.len PySem.boot_len (pa_cons (pv 2) pa_nil)) pa_nil))) pa_nil)) pa_nil)))))
      (pss_one (ps_ret (pv 3))))), ?_⟩
    refine ⟨_, rfl, a, _, rfl, .inl (sq_of ha), fun l hl0 => ⟨by show 0 ≤ sizeLine; decide, fun r hr0 => ?_⟩⟩
    have l0 := fresh0 P0 hl0
    have l1 := fresh_ne P0 hl0
    have l2 := fresh_nc P0 hl0
    have P1 := P0.both (o := .lst (nV ns)) l1 l2
    have r0' := fresh0 P1 hr0
    have r1 := fresh_ne P1 hr0
    have r2 := fresh_nc P1 hr0
    have P2 := P1.both (o := .lst []) r1 r2
    have nlr : l ≠ r := fun z => by rw [z, upd_same] at r0'; cases r0'
    have r0 : H0 r = none := by rwa [upd_ne nlr.symm] at r0'
    refine ⟨_, _, rfl, ?_⟩
    refine ⟨fun m σ H' => ∃ (Hb : Hp) (left found : List Nat), σ = [some (.ref p.d), some (.ref a), some (.ref l), some (.ref r)] ∧ Ex H0 Hb ∧ PenAt p Hb H' (n + found.length) ∧ Hb l = some (.lst (nV left)) ∧ Hb r = some (.lst (nV found)) ∧ (left ++ found).Perm ns ∧ m = left.length,
      ⟨ns.length, _, ns, [], rfl, (Ex.new l0).trans (Ex.new r0'), P2, by rw [upd_ne nlr]; exact upd_same, upd_same, by simp, rfl⟩, fun m σ H' hw => ?_⟩
    obtain ⟨Hb, left, found, rfl, e, Pb, hL, hF, perm, hm⟩ := hw
    have plen := perm.length_eq
    rw [List.length_append] at plen
    refine ⟨_, rfl, by show 0 ≤ sizeLine; decide, fun e0 he0 => ?_⟩
    have Pc := Pb.ex (Ex.new (o := .lst []) he0)
    have he1 : (L2.upd H' e0 (.lst [])) e0 = some (.lst []) := upd_same
    generalize (L2.upd H' e0 (.lst [])) = H2 at Pc he1 ⊢
    refine ⟨l, e0, _, rfl, rfl, sq_of (Pc.1 _ _ hL), sq_of he1, _, rfl, ?_⟩
    rw [nV_len]
    by_cases hz : left.length = 0
    · refine iteNn hz ?_
      have hle : left = [] := List.length_eq_zero_iff.mp hz
      rw [hle] at perm
      exact ⟨_, rfl, q Hb H2 r found e (Pc.le (by omega)) r0 hF perm⟩
    · refine iteN hz ?_
      refine ⟨fun σ2 H3 => ∃ m', m' < m ∧ ∃ (Hb : Hp) (left found : List Nat), σ2 = [some (.ref p.d), some (.ref a), some (.ref l), some (.ref r)] ∧ Ex H0 Hb ∧ PenAt p Hb H3 (n + found.length) ∧ Hb l = some (.lst (nV left)) ∧ Hb r = some (.lst (nV found)) ∧ (left ++ found).Perm ns ∧ m' = left.length, fun σ2 H3 h => h, ?_⟩
      refine ⟨_, rfl, .inl ⟨rfl, _, sq_of (Pc.1 _ _ hF)⟩, _, rfl, .inl ⟨rfl, _, sq_of (Pc.1 _ _ hL)⟩, _, rfl, _, rfl, l, _, rfl, .inl (sq_of (Pc.1 _ _ hL)), ?_⟩
      refine ⟨p, Hb, n + found.length, _, rfl, Pc, by omega, by rw [nV_len]; omega, by rw [nV_len]; omega, fun H4 dr P4 dr0 dr1 => ?_⟩
      rw [nV_len] at dr1
      obtain ⟨k, rfl⟩ : ∃ k : Nat, dr = (k : Int) := ⟨dr.toNat, (Int.toNat_of_nonneg dr0).symm⟩
      have hk : k < left.length := by omega
      have hx := LM.at0_get hk
      have pe := perm_erase hx
      have le := pe.length_eq
      rw [List.length_cons] at le
      refine ⟨l, _, _, k, .int (LM.at0 left k : Nat), rfl, rfl, P4.1 _ _ hL, by omega, by omega, ?_, by rw [nV_get, hx]; rfl, ?_⟩
      · unfold seqIndex?
        rw [nV_len]
        simp only []
        split <;> simp_all <;> omega
      rw [erase_map]
      have P5 := P4.both (o := .lst (nV (left.eraseIdx k))) l1 l2
      have e5 : Ex H0 (L2.upd Hb l (.lst (nV (left.eraseIdx k)))) := e.mut l0
      have hL5 : (L2.upd Hb l (.lst (nV (left.eraseIdx k)))) l = some (.lst (nV (left.eraseIdx k))) := upd_same
      have hF5 : (L2.upd Hb l (.lst (nV (left.eraseIdx k)))) r = some (.lst (nV found)) := by
        rw [upd_ne nlr.symm]
        exact hF
      generalize (L2.upd Hb l (.lst (nV (left.eraseIdx k)))) = Hc at P5 e5 hL5 hF5
      have P6 := P5.both (o := .lst (nV found ++ [.int (LM.at0 left k : Nat)])) r1 r2
      refine ⟨r, _, _, rfl, rfl, P5.1 _ _ hF5, sz_lt (by rw [nV_len]; omega), ?_⟩
      refine ⟨m - 1, by omega, _, left.eraseIdx k, found ++ [LM.at0 left k], rfl, e5.mut r0, by rw [List.length_append]; exact P6, by rw [upd_ne nlr]; exact hL5, ?_, ?_, by omega⟩
      · rw [upd_same]
        unfold nV
        rw [List.map_append]
        rfl
      · refine List.Perm.trans ?_ perm
        rw [← List.append_assoc]
        refine List.perm_append_comm.trans ?_
        show (LM.at0 left k :: (left.eraseIdx k ++ found)).Perm _
        rw [← List.cons_append]
        exact pe.append_right found
end
end Law

namespace LM
open TR
section
variable {R : Nat → Nat → Prop}
mutual
theorem TrR.size : ∀ {t u : Tr}, TrR R t u → t.size = u.size
  | _, _, .go _ => rfl
  | _, _, .tell h => by
    show _ + 1 = _ + 1
    rw [TrR.size h]
  | _, _, .read h => by
    show _ + 1 = _ + 1
    rw [TrsR.size h]
theorem TrsR.size : ∀ {t u : Trs}, TrsR R t u → t.size = u.size
  | _, _, .nil => rfl
  | _, _, .cons h r => by
    show _ + _ = _ + _
    rw [TrR.size h, TrsR.size r]
end
mutual
theorem TrR.depth : ∀ {t u : Tr}, TrR R t u → t.depth = u.depth
  | _, _, .go _ => rfl
  | _, _, .tell h => by
    show _ + 1 = _ + 1
    rw [TrR.depth h]
  | _, _, .read h => by
    show _ + 1 = _ + 1
    rw [TrsR.depth h]
theorem TrsR.depth : ∀ {t u : Trs}, TrsR R t u → t.depth = u.depth
  | _, _, .nil => rfl
  | _, _, .cons h r => by
    show max _ _ = max _ _
    rw [TrR.depth h, TrsR.depth r]
end
theorem TrsR.length : ∀ {t u : Trs}, TrsR R t u → t.list.length = u.list.length
  | _, _, .nil => rfl
  | _, _, .cons _ r => by
    simp only [Trs.list, List.length_cons]
    rw [TrsR.length r]
mutual
theorem TrR.ok {l w n m : Nat} (k : ∀ a q, R a q → a < m) : ∀ {t u : Tr}, TrR R t u → u.ok l w n → t.ok l w m
  | _, _, .go h, o => ⟨o.1, o.2.1, k _ _ h⟩
  | _, _, .tell h, o => ⟨o.1, TrR.ok k h o.2⟩
  | _, _, .read h, o => ⟨o.1, by rw [TrsR.length h]; exact o.2.1, TrsR.ok k h o.2.2⟩
theorem TrsR.ok {l w n m : Nat} (k : ∀ a q, R a q → a < m) : ∀ {t u : Trs}, TrsR R t u → u.ok l w n → t.ok l w m
  | _, _, .nil, _ => True.intro
  | _, _, .cons h r, o => ⟨TrR.ok k h o.1, TrsR.ok k r o.2⟩
end
inductive LsR (R : Nat → Nat → Prop) : List Tr → List Tr → Prop
  | nil : LsR R [] []
  | cons {t u : Tr} {ts us : List Tr} : TrR R t u → LsR R ts us → LsR R (t :: ts) (u :: us)
theorem LsR.snoc {ts us : List Tr} (h : LsR R ts us) {t u : Tr} (k : TrR R t u) : LsR R (ts ++ [t]) (us ++ [u]) := by
  induction h with
  | nil => exact .cons k .nil
  | cons a _ ih => exact .cons a ih
theorem LsR.trs : ∀ {us : Trs} {ts : List Tr}, LsR R ts us.list → TrsR R (Trs.of ts) us
  | .nil, _, .nil => .nil
  | .cons _ _, _, .cons h r => .cons h (LsR.trs r)
theorem LsR.total {ts us : List Tr} (h : LsR R ts us) : TR.total ts = TR.total us := by
  induction h with
  | nil => rfl
  | cons a _ ih =>
    show _ + TR.total _ = _ + TR.total _
    rw [ih, TrR.size a]
theorem LsR.len {ts us : List Tr} (h : LsR R ts us) : ts.length = us.length := by
  induction h with
  | nil => rfl
  | cons a _ ih => rw [List.length_cons, List.length_cons, ih]
end
end LM
namespace Law
open PySem PySem.Spec PyProof.Rows L2 Evl TR
/-- lists of places -/
inductive TwA (H : Hp) : List V → List (List Nat) → Prop
  | nil : TwA H [] []
  | cons {a : Addr} {w : List Nat} {vs : List V} {ws : List (List Nat)} : H a = some (.lst (nV w)) → TwA H vs ws → TwA H (.ref a :: vs) (w :: ws)
theorem TwA.ex {H H' : Hp} (e : Ex H H') {vs : List V} {ws : List (List Nat)} (h : TwA H vs ws) : TwA H' vs ws := by
  induction h with
  | nil => exact .nil
  | cons h1 _ ih => exact .cons (e _ _ h1) ih
theorem TwA.snoc {H : Hp} {vs : List V} {ws : List (List Nat)} (h : TwA H vs ws) {a : Addr} {w : List Nat} (h1 : H a = some (.lst (nV w))) : TwA H (vs ++ [.ref a]) (ws ++ [w]) := by
  induction h with
  | nil => exact .cons h1 .nil
  | cons k1 _ ih => exact .cons k1 ih
theorem TwA.len {H : Hp} {vs : List V} {ws : List (List Nat)} (h : TwA H vs ws) : vs.length = ws.length := by
  induction h with
  | nil => rfl
  | cons _ _ ih => rw [List.length_cons, List.length_cons, ih]
theorem TwA.get {H : Hp} {vs : List V} {ws : List (List Nat)} (h : TwA H vs ws) : ∀ {i : Nat}, i < ws.length → ∃ a w, vs[i]? = some (.ref a) ∧ ws[i]? = some w ∧ H a = some (.lst (nV w)) := by
  induction h with
  | nil => intro i hi; exact absurd hi (Nat.not_lt_zero _)
  | @cons a w vs ws h1 _ ih =>
    intro i hi
    cases i with
    | zero => exact ⟨a, w, rfl, rfl, h1⟩
    | succ i => exact ih (Nat.lt_of_succ_lt_succ hi)
def RW (W : List (List Nat)) (a q : Nat) : Prop := ∃ w, W[q]? = some w ∧ a ∈ w
def spSpread (d : Nat) : Sp := fun vs H Q _ => ∃ (p : PenI) (H0 : Hp) (n : Nat) (t : Tr) (v : V) (tw : Addr) (tws : List V) (W : List (List Nat)), vs = [.ref p.d, v, .ref tw] ∧ PenAt p H0 H n ∧ n + t.size < 900000 ∧ TA true H0 v t ∧ H0 tw = some (.lst tws) ∧ TwA H0 tws W ∧ (∀ q ∈ LM.lv t, q < W.length) ∧ (∀ w ∈ W, w ≠ [] ∧ w.length ≤ 100) ∧ t.depth ≤ d ∧ t.size ≤ 2000 ∧
  ∀ H1 H' v' u, Ex H0 H1 → PenAt p H1 H' (n + t.size) → TA true H1 v' u → LM.TrR (RW W) u t → Q v' H'
section
variable {P : Program} {w : World} {K : PySem.W.Frag} {mg : Str → Option Value} {base : Heap}
theorem ok_spread {f : Addr} {fd : FuncData} (F : Fun K "_law_spread" "_law_spread" s_lspread f fd) (T : Tx mg) (g : mg "_law_spread" = some (.ref f)) (b : Binds K fd ["_law_pen_here", "_law_tree_here", "_law_twins"] []) (c_pickL : Kn P w K mg base "_law_pick" ["_law_pen_here", "_law_some"] 2 spPickL) : ∀ d : Nat, FnOk P w K mg base CX0 (d + 3) f fd ["_law_pen_here", "_law_tree_here", "_law_twins"] (spSpread d)
  | 0 => by
    refine F.ok sc_lspread (fun vs H Q E h => ?_) (fun cdv A outer s H vs Q E hr h => ?_)
    · obtain ⟨p, H0, n, t, v, tw, tws, W, rfl, _⟩ := h
      rfl
    · obtain ⟨p, H0, n, t, v, tw, tws, W, rfl, P0, hn, hT, htw, hW, hlv, hw, hd, hsz, q⟩ := h
      exfalso
      cases t
      · exact absurd hd (by show ¬ (1 ≤ 0); omega)
      · exact absurd hd (by show ¬ (_ + 1 ≤ 0); omega)
      · exact absurd hd (by show ¬ (_ + 1 ≤ 0); omega)
  | d + 1 => by
    have c_lspread : Kn P w K mg base "_law_spread" ["_law_pen_here", "_law_tree_here", "_law_twins"] (d + 3) (spSpread d) := ⟨f, fd, ok_spread F T g b c_pickL d, g, F.kp, b⟩
    refine F.ok sc_lspread (fun vs H Q E h => ?_) (fun cdv A outer s H vs Q E hr h => ?_)
    · obtain ⟨p, H0, n, t, v, tw, tws, W, rfl, _⟩ := h
      rfl
    · obtain ⟨p, H0, n, t, v, tw, tws, W, rfl, P0, hn, hT, htw, hW, hlv, hw, hd, hsz, q⟩ := h
      refine ⟨_, (pss_cons (ps_if (pt_cmpR op_eq (pe_ix ix_seq (pv 1) pe_int (fun _ _ => rfl)) pe_str (nomark _)) (pss_one (ps_ret (pe_tup (pa_cons pe_str (pa_cons (pe_ix ix_seq (pv 1) pe_int (fun _ _ => rfl)) (pa_cons (pe_call c_pickL.ok (hr.mono (by omega)) (by rfl) c_pickL.g c_pickL.kp c_pickL.b .nil pass0 (pa_cons (pv 0) (pa_cons (pe_ix ix_list (pv 2) (pe_ix ix_seq (pv 1) pe_int (fun _ _ => rfl)) (fun _ _ => rfl)) pa_nil))) pa_nil)))))) pss_nil)
      (pss_cons (ps_if (pt_cmpR op_eq (pe_ix ix_seq (pv 1) pe_int (fun _ _ => rfl)) pe_str (nomark _)) (pss_one (ps_ret (pe_tup (pa_cons pe_str (pa_cons (pe_ix ix_seq (pv 1) pe_int (fun _ _ => rfl)) (pa_cons (pe_call c_lspread.ok (hr.mono (by omega)) (by rfl) c_lspread.g c_lspread.kp c_lspread.b .nil pass0 (pa_cons (pv 0) (pa_cons (pe_ix ix_seq (pv 1) pe_int (fun _ _ => rfl)) (pa_cons (pv 2) pa_nil)))) pa_nil)))))) pss_nil)
      (pss_one (ps_ret (pe_tup (pa_cons pe_str (pa_cons (pe_ix ix_seq (pv 1) pe_int (fun _ _ => rfl)) (pa_cons (pe_callTy call_tuple_of (by rfl) T.tuple PyProof.Rows.boot_tuple (pa_cons (pe_lc (own := [("_law_part", 3)]) (g := gName 3) (tt := tYes) rfl sc_lspread.nd (TR.pi_seq (pe_ix ix_seq (pv 1) pe_int (fun _ _ => rfl))) (blkOk_by (N := N_lspread) (sc := defScope s_lspread) (by decide +kernel)) (fun _ _ _ _ _ => (pg_name (i := 3) sc_lspread.nd rfl (Or.inl rfl))) (fun _ _ _ _ _ => pts_nil) (fun _ _ _ _ _ => (pe_call c_lspread.ok (hr.mono (by omega)) (by rfl) c_lspread.g c_lspread.kp c_lspread.b .nil pass0 (pa_cons (pv 0) (pa_cons (pv 3) (pa_cons (pv 2) pa_nil)))))) pa_nil)) pa_nil)))))))), ?_⟩
      have e0 := P0.1
      cases hT with
      | @go a s' q' h =>
        have hq' := hlv q' (by simp [LM.lv])
        obtain ⟨wa, wl, h1, h2, h3⟩ := hW.get hq'
        obtain ⟨w1, w2⟩ := hw wl (List.mem_of_getElem? h2)
        have wp : 0 < wl.length := List.length_pos_iff.mpr w1
        refine ⟨_, rfl, .inr (.inl ⟨a, _, _, _, rfl, rfl, st_of (e0 _ _ h), rfl, ?_⟩)⟩
        refine ⟨rfl, _, rfl, iteD rfl ?_⟩
        refine ⟨_, rfl, .inr (.inl ⟨a, _, _, _, rfl, rfl, st_of (e0 _ _ h), rfl, _, rfl, _, rfl, _, rfl, .inr (.inl ⟨a, _, _, _, rfl, rfl, st_of (e0 _ _ h), rfl, tw, _, _, _, rfl, rfl, sq_of (e0 _ _ htw), atI_nat h1, ?_⟩)⟩)⟩
        refine ⟨p, H0, wa, n, _, rfl, P0, by omega, e0 _ _ h3, by rw [nV_len]; exact wp, by rw [nV_len]; omega, fun H2 x P2 hx => ⟨by show 3 ≤ sizeLine; decide, fun r hr2 => ?_⟩⟩
        obtain ⟨a', ha', rfl⟩ := List.mem_map.mp hx
        obtain ⟨P3, e3⟩ := P2.made (o := .tup [.str "go", .int (s' : Nat), .int (a' : Nat)]) hr2
        exact q _ _ _ (.go s' a') e3 (P3.le (by show n + 1 ≤ n + 1; omega)) (.go upd_same) (.go ⟨wl, h2, ha'⟩)
      | @tell a n' v' t' h r0 =>
        have hd' : t'.depth ≤ d := by
          have : t'.depth + 1 ≤ d + 1 := hd
          omega
        have hs' : t'.size + 1 ≤ 2000 := hsz
        refine ⟨_, rfl, .inr (.inl ⟨a, _, _, _, rfl, rfl, st_of (e0 _ _ h), rfl, ?_⟩)⟩
        refine ⟨rfl, _, rfl, iteDn tell_ne_go ?_⟩
        refine ⟨_, rfl, .inr (.inl ⟨a, _, _, _, rfl, rfl, st_of (e0 _ _ h), rfl, ?_⟩)⟩
        refine ⟨rfl, _, rfl, iteD rfl ?_⟩
        refine ⟨_, rfl, .inr (.inl ⟨a, _, _, _, rfl, rfl, st_of (e0 _ _ h), rfl, _, rfl, _, rfl, .inr (.inl ⟨a, _, _, _, rfl, rfl, st_of (e0 _ _ h), rfl, _, rfl, ?_⟩)⟩)⟩
        refine ⟨p, H0, n, t', v', tw, tws, W, rfl, P0, (by have : n + (t'.size + 1) < 900000 := hn; omega), r0, htw, hW, (fun z hz => hlv z (by simpa [LM.lv] using hz)), hw, hd', by omega, fun H1 H2 v1 u1 e1 P1 hv1 hR => ⟨by show 3 ≤ sizeLine; decide, fun r hr2 => ?_⟩⟩
        obtain ⟨P3, e3⟩ := P1.made (o := .tup [.str "tell", .int (n' : Nat), v1]) hr2
        exact q _ _ _ (.tell n' u1) (e1.trans e3) (P3.le (by show n + t'.size ≤ n + (t'.size + 1); omega)) (.tell upd_same (hv1.ex e3)) (.tell hR)
      | @read a b' p' us ts h hb r0 =>
        have hd' : ts.depth ≤ d := by
          have : ts.depth + 1 ≤ d + 1 := hd
          omega
        have hs' : ts.size + 1 ≤ 2000 := hsz
        have hn' : n + (ts.size + 1) < 900000 := hn
        have KK := r0.kids
        have lks := KK.len
        have ltk := len_total ts.list
        have htt := Trs.total ts
        rw [htt] at ltk
        refine ⟨_, rfl, .inr (.inl ⟨a, _, _, _, rfl, rfl, st_of (e0 _ _ h), rfl, ?_⟩)⟩
        refine ⟨rfl, _, rfl, iteDn read_ne_go ?_⟩
        refine ⟨_, rfl, .inr (.inl ⟨a, _, _, _, rfl, rfl, st_of (e0 _ _ h), rfl, ?_⟩)⟩
        refine ⟨rfl, _, rfl, iteDn read_ne_tell ?_⟩
        refine ⟨_, rfl, .inr (.inl ⟨a, _, _, _, rfl, rfl, st_of (e0 _ _ h), rfl, ?_⟩)⟩
        refine .inr ⟨_, rfl, .inr (.inl ⟨a, _, _, _, rfl, rfl, st_of (e0 _ _ h), rfl, b', rfl, ⟨us, st_of (e0 _ _ hb)⟩, fun D hD => ?_⟩)⟩
        have d0 := fresh0 P0 hD
        have d1 := fresh_ne P0 hD
        have d2 := fresh_nc P0 hD
        refine lc_it (walk_tup (K := K) (a := b') (xs := us)) (fun i H6 => ∃ (Hb : Hp) (zs : List V) (xs : List Tr), Ex H0 Hb ∧ PenAt p Hb H6 (n + TR.total (ts.list.take i)) ∧ Hb D = some (.lst zs) ∧ Kids true Hb zs xs ∧ LM.LsR (RW W) xs (ts.list.take i))
          ⟨L2.upd H0 D (.lst []), [], [], Ex.new d0, (P0.both d1 d2).le (by omega), upd_same, .nil, .nil⟩ (fun i H6 _ hw => by
            obtain ⟨Hb, _, _, e, Pb, _⟩ := hw
            exact st_of (Pb.1 _ _ (e _ _ hb))) (fun i x H6 H7 hi hw hy => ?_) (fun H6 hw => ?_)
        · obtain ⟨Hb, zs, xs, e, Pb, hz, Z, rel⟩ := hw
          obtain ⟨rfl, hx⟩ := hy
          obtain ⟨kt, hkt, hka⟩ := KK.get hx
          have mem := List.mem_of_getElem? hkt
          have dk := Trs.depth_mem kt mem
          have tk := take_next' hkt
          have tt : TR.total (ts.list.take (i + 1)) = TR.total (ts.list.take i) + kt.size := by
            rw [tk, total_app]
            rfl
          have tle := tot_take ts.list (i + 1)
          rw [htt] at tle
          have lz := Z.len
          have lr := rel.len
          rw [List.length_take] at lr
          refine ⟨rfl, _, rfl, _, rfl, _, rfl, p, Hb, n + TR.total (ts.list.take i), kt, x, tw, tws, W, rfl, Pb, by omega, hka.ex e, e _ _ htw, hW.ex e, (fun z hz => hlv z (by simp only [LM.lv]; exact LM.lvs_mem mem hz)), hw, by omega, by omega, fun H8 H9 v8 u8 e8 P9 hv8 hR => ?_⟩
          refine ⟨zs, P9.1 _ _ (e8 _ _ hz), sz_lt (by omega), L2.upd H8 D (.lst (zs ++ [v8])), zs ++ [v8], xs ++ [u8], (e.trans e8).mut d0, (P9.both d1 d2).le (by omega), upd_same, ?_, ?_⟩
          · refine Kids.upd (fun ys hh => ?_) ((Z.ex e8).snoc hv8)
            rw [e8 _ _ hz] at hh
            cases hh
          · rw [tk]
            exact rel.snoc hR
        · obtain ⟨Hb, zs, xs, e, Pb, hz, Z, rel⟩ := hw
          rw [lks, List.take_length] at rel Pb
          refine ⟨D, zs, rfl, .inl ⟨sq_of (Pb.1 _ _ hz), fun t2 ht2 => ⟨by show 3 ≤ sizeLine; decide, fun r2 hr2 => ?_⟩⟩⟩
          obtain ⟨Pc, ec⟩ := Pb.made (o := .tup zs) ht2
          obtain ⟨Pd, ed⟩ := Pc.made (o := .tup [.str "read", .int (p' : Nat), .ref t2]) hr2
          refine q _ _ _ (.read p' (Trs.of xs)) ((e.trans ec).trans ed) (Pd.le (by rw [htt]; show n + ts.size ≤ n + (ts.size + 1); omega)) (.read upd_same (ed _ _ upd_same) ?_) (.read rel.trs)
          refine Kids.tas ?_
          rw [Trs.of_list]
          exact Z.ex (ec.trans ed)
end
end Law

namespace LM
open TR
mutual
theorem TrR.mono {R R' : Nat → Nat → Prop} (k : ∀ a q, R a q → R' a q) : ∀ {t u : Tr}, TrR R t u → TrR R' t u
  | _, _, .go h => .go (k _ _ h)
  | _, _, .tell h => .tell (TrR.mono k h)
  | _, _, .read h => .read (TrsR.mono k h)
theorem TrsR.mono {R R' : Nat → Nat → Prop} (k : ∀ a q, R a q → R' a q) : ∀ {t u : Trs}, TrsR R t u → TrsR R' t u
  | _, _, .nil => .nil
  | _, _, .cons h r => .cons (TrR.mono k h) (TrsR.mono k r)
end
end LM
namespace Law
open PySem PySem.Spec PyProof.Rows L2 Evl TR
/-- the names of the outer of two comprehensions -/
def scK : Scope := { kind := ScopeKind.function, names := [(".0", NameKind.local), ("_law_k", NameKind.cell), ("range", NameKind.globalImplicit), ("len", NameKind.globalImplicit), ("_law_order", NameKind.cell)], isGenerator := false, isCoroutine := false }
/-- where a number stands in a list -/
def plc (o : List Nat) (q : Nat) : List Nat := (List.range o.length).filter fun a => decide (LM.at0 o a = q)
theorem plc_mem {o : List Nat} {q a : Nat} : a ∈ plc o q ↔ o[a]? = some q := by
  unfold plc
  rw [List.mem_filter, List.mem_range, decide_eq_true_eq]
  constructor
  · rintro ⟨h1, h2⟩
    rw [LM.at0_get h1, h2]
  · intro h
    exact ⟨(List.getElem?_eq_some_iff.mp h).1, LM.at0_of h⟩
theorem plc_len (o : List Nat) (q : Nat) : (plc o q).length ≤ o.length := by
  unfold plc
  have := List.length_filter_le (fun a => decide (LM.at0 o a = q)) (List.range o.length)
  rw [List.length_range] at this
  exact this
theorem TwA.away {H : Hp} {a : Addr} {o : HO} {vs : List V} {ws : List (List Nat)} (h : TwA H vs ws) : (∀ b, V.ref b ∈ vs → b ≠ a) → TwA (L2.upd H a o) vs ws := by
  induction h with
  | nil => intro _; exact .nil
  | @cons b w vs ws h1 _ ih =>
    intro k
    exact .cons (by rw [upd_ne (k b List.mem_cons_self)]; exact h1) (ih fun c hc => k c (List.mem_cons_of_mem _ hc))
theorem TwA.at_ {H : Hp} {vs : List V} {ws : List (List Nat)} (h : TwA H vs ws) : ∀ {b : Addr}, V.ref b ∈ vs → ∃ w, H b = some (.lst (nV w)) := by
  induction h with
  | nil => intro b hb; cases hb
  | @cons c w vs ws h1 _ ih =>
    intro b hb
    rcases List.mem_cons.mp hb with e | e
    · cases e
      exact ⟨w, h1⟩
    · exact ih e
theorem TwA.self {H : Hp} {a : Addr} {o : HO} {vs : List V} {ws : List (List Nat)} (h : TwA H vs ws) (ha : H a = some (.lst vs)) : TwA (L2.upd H a o) vs ws := by
  refine h.away fun b hb z => ?_
  obtain ⟨w, hw⟩ := h.at_ hb
  rw [z, ha] at hw
  injection hw with hw
  injection hw with hw
  rw [hw] at hb
  obtain ⟨x, _, hx⟩ := List.mem_map.mp hb
  cases hx
theorem cut1 {l : List Nat} (h : 1 ≤ l.length) : cutV (nV l) (some 1) none = nV (l.drop 1) := by
  unfold cutV
  rw [show (1 : Int) = ((1 : Nat) : Int) from rfl, HT.sIx_nat, HT.sIx_none, nV_len, Nat.min_eq_left h]
  unfold nV
  rw [← List.map_drop, List.take_of_length_le (by rw [List.length_map, List.length_drop]; exact Nat.le_refl _)]
theorem rows_cons {n : Nat} (h : 1 ≤ n) (ms : List Nat) : List.range n ++ ms = 0 :: (List.range n ++ ms).drop 1 := by
  obtain ⟨k, rfl⟩ : ∃ k, n = k + 1 := ⟨n - 1, by omega⟩
  rw [List.range_succ_eq_map]
  rfl
/-- the relation of a state beside the state it stands for -/
theorem bis_told {ts us : List Tr} {od : List Nat} {W : List (List Nat)} {x : Tr} (h0 : od[0]? = some 0) (hlt : ∀ q ∈ od, q < ts.length) (hl : us.length = od.length) (hW : ∀ a q, RW W a q → od[a]? = some q) (ht : ∀ i q, od[i]? = some q → LM.TrR (RW W) (LM.tr0 us i) (LM.tr0 ts q)) :
    LM.Bis (us ++ [x]) ts (fun a q => od[a]? = some q) := by
  refine ⟨h0, fun a q h => ⟨?_, hlt q (List.mem_of_getElem? h)⟩, fun a q h => ?_⟩
  · have := (List.getElem?_eq_some_iff.mp h).1
    rw [List.length_append, hl]
    omega
  · have ha : a < us.length := by rw [hl]; exact (List.getElem?_eq_some_iff.mp h).1
    have e : LM.tr0 (us ++ [x]) a = LM.tr0 us a := LM.tr0_of (by rw [List.getElem?_append_left ha, LM.tr0_get ha])
    rw [e]
    exact LM.TrR.mono hW (ht a q h)
def spDbl : Sp := fun vs H Q _ => ∃ (p : PenI) (H0 : Hp) (n : Nat) (sa : Addr) (us : List V) (ts : List Tr) (L : List Nat) (wd : Nat), vs = [.ref p.d, .ref sa] ∧ PenAt p H0 H n ∧ n < 700000 ∧ H0 sa = some (.lst us) ∧ Kids true H0 us ts ∧ RT L wd 3 46 ts ∧ ts.length ≤ 4 ∧
  ∀ H1 H' r zs told R, Ex H0 H1 → PenAt p H1 H' (n + 500) → H1 r = some (.lst zs) → Kids true H1 zs told → RT L wd 3 46 told → told.length ≤ 9 → LM.Bis told ts R → Q (.ref r) H'
section
variable {P : Program} {w : World} {K : PySem.W.Frag} {mg : Str → Option Value} {base : Heap}
theorem ok_dbl {f : Addr} {fd : FuncData} (F : Fun K "_law_doubled" "_law_doubled" s_ldoubled f fd) (T : Tx mg) (c_ldraw : Kn P w K mg base "_law_draw" ["_law_pen_here", "_law_many"] 1 spDraw) (c_lshuffled : Kn P w K mg base "_law_shuffled" ["_law_pen_here", "_law_some"] 2 spShuf) (c_lspread : Kn P w K mg base "_law_spread" ["_law_pen_here", "_law_tree_here", "_law_twins"] 6 (spSpread 3)) :
    FnOk P w K mg base CX0 7 f fd ["_law_pen_here", "_law_states"] spDbl := by
  refine F.ok sc_ldoubled (fun vs H Q E h => ?_) (fun cdv A outer s H vs Q E hr h => ?_)
  · obtain ⟨p, H0, n, sa, us, ts, L, wd, rfl, _⟩ := h
    rfl
  · obtain ⟨p, H0, n, sa, us, ts, L, wd, rfl, P0, hn, hsa, KK, rt, n4, q⟩ := h
    have n1 := rt.n1
    have vl := rt.val
    have lks := KK.len
    refine ⟨_, (pss_cons (ps_set (i := 2) sc_ldoubled.nd rfl (Or.inl rfl) (pe_op op_cat (pe_lc (own := [("_law_k", 3)]) (g := gName 3) (tt := tYes) rfl sc_ldoubled.nd (pi_range1 (by rfl) T.range (pa_cons (pe_callB call_len_seq (by rfl) T.len PySem.boot_len (pa_cons (pv 1) pa_nil)) pa_nil)) (blkOk_by (N := N_ldoubled) (sc := defScope s_ldoubled) (by decide +kernel)) (fun _ _ _ _ _ => (pg_name (i := 3) sc_ldoubled.nd rfl (Or.inl rfl))) (fun _ _ _ _ _ => pts_nil) (fun _ _ _ _ _ => (pv 3))) (pe_lc (own := [("_law_k", 3)]) (g := gName 3) (tt := tYes) rfl sc_ldoubled.nd (pi_range1 (by rfl) T.range (pa_cons (pe_callB call_len_seq (by rfl) T.len PySem.boot_len (pa_cons (pv 1) pa_nil)) pa_nil)) (blkOk_by (N := N_ldoubled) (sc := defScope s_ldoubled) (by decide +kernel)) (fun _ _ _ _ _ => (pg_name (i := 3) sc_ldoubled.nd rfl (Or.inl rfl))) (fun _ _ _ _ _ => pts_nil) (fun _ _ _ _ _ => (pe_call c_ldraw.ok (hr.mono (by decide)) (by rfl) c_ldraw.g c_ldraw.kp c_ldraw.b .nil pass0 (pa_cons (pv 0) (pa_cons (pe_callB (show CallR _ _ (TR.rLenQ K) from call_len_seq) (by rfl) T.len PySem.boot_len (pa_cons (pv 1) pa_nil)) pa_nil)))))))
      (pss_cons (ps_set (i := 4) sc_ldoubled.nd rfl (Or.inr rfl) (pe_op op_cat (pe_lst (pa_cons pe_int pa_nil)) (pe_call c_lshuffled.ok (hr.mono (by decide)) (by rfl) c_lshuffled.g c_lshuffled.kp c_lshuffled.b .nil pass0 (pa_cons (pv 0) (pa_cons (pe_slice sl_list (pv 2) (po_some pe_int) po_none) pa_nil)))))
      (pss_cons (ps_set (i := 5) sc_ldoubled.nd rfl (Or.inr rfl) (pe_lc (own := [("_law_k", 3)]) (g := gName 3) (tt := tYes) rfl sc_ldoubled.nd (pi_range1 (by rfl) T.range (pa_cons (pe_callB call_len_seq (by rfl) T.len PySem.boot_len (pa_cons (pv 1) pa_nil)) pa_nil)) (blkOk_by (N := N_ldoubled) (sc := defScope s_ldoubled) (by decide +kernel)) (fun _ _ _ _ _ => (pg_name (i := 3) sc_ldoubled.nd rfl (Or.inr rfl))) (fun _ _ _ _ _ => pts_nil) (fun _ _ _ _ _ => (pe_lc (own := [("_law_at", 6)]) (g := gName 6) rfl sc_ldoubled.nd (pi_range1 (by rfl) T.range (pa_cons (pe_callB (show CallR _ _ (TR.rLenQ K) from call_len_seq) (by rfl) T.len PySem.boot_len (pa_cons (pv 4) pa_nil)) pa_nil)) (blkOk_by (N := N_ldoubled) (sc := scK) (by decide +kernel)) (fun _ _ _ _ _ => (pg_name (i := 6) sc_ldoubled.nd rfl (Or.inl rfl))) (fun _ _ _ _ _ => (pts_one (pt_cmpR op_eq (pe_ix (show IxR _ (rIxL K) from ix_list) (pv 4) (pv 6) (fun _ _ => rfl)) (pv 3) (nomark _)))) (fun _ _ _ _ _ => (pv 6))))))
      (pss_cons (ps_setLc (i := 7) (own := [("_law_k", 3)]) (g := gName 3) (tt := tYes) rfl sc_ldoubled.nd rfl rfl (sw_true rfl rfl rfl (by decide +kernel)) (pi_list (pv 4)) (blkOk_by (N := N_ldoubled) (sc := defScope s_ldoubled) (by decide +kernel)) (fun _ _ _ _ _ => (pg_name (i := 3) sc_ldoubled.nd rfl (Or.inl rfl))) (fun _ _ _ _ _ => pts_nil) (fun _ _ _ _ _ => (pe_call c_lspread.ok (hr.mono (by decide)) (by rfl) c_lspread.g c_lspread.kp c_lspread.b .nil pass0 (pa_cons (pv 0) (pa_cons (pe_ix (show IxR _ (rIxL K) from ix_list) (pv 1) (pv 3) (fun _ _ => rfl)) (pa_cons (pv 5) pa_nil))))))
      (pss_one (ps_ret (pe_op op_cat (pv 7) (pe_lst (pa_cons (pe_tup (pa_cons pe_str (pa_cons pe_int (pa_cons (pe_tup (pa_cons pe_str (pa_cons pe_int (pa_cons pe_int pa_nil)))) pa_nil)))) pa_nil))))))))), ?_⟩
    refine ⟨_, rfl, sa, _, rfl, .inl (sq_of (P0.1 _ _ hsa)), _, rfl, by omega, by omega, fun D1 hD1 => ?_⟩
    rw [Int.toNat_natCast]
    have d10 := fresh0 P0 hD1
    have d11 := fresh_ne P0 hD1
    have d12 := fresh_nc P0 hD1
    refine lc_range (lo := 0) (n := us.length) (fun i H' => ∃ Hb, Ex H0 Hb ∧ PenAt p Hb H' n ∧ Hb D1 = some (.lst (nV (List.range i)))) ⟨_, Ex.new d10, P0.both d11 d12, upd_same⟩ (fun i H' hi hw => ?_) (fun H' hw => ?_)
    · obtain ⟨Hb, e, Pb, hb⟩ := hw
      rw [Int.zero_add]
      refine ⟨rfl, _, rfl, _, Pb.1 _ _ hb, sz_lt (by rw [nV_len, List.length_range]; omega), _, e.mut d10, Pb.both d11 d12, ?_⟩
      rw [upd_same, List.range_succ]
      unfold nV
      rw [List.map_append]
      rfl
    obtain ⟨Hb, eb, Pb, hb⟩ := hw
    refine ⟨_, rfl, sa, _, rfl, .inl (sq_of (Pb.1 _ _ (eb _ _ hsa))), _, rfl, by omega, by omega, fun D2 hD2 => ?_⟩
    rw [Int.toNat_natCast]
    have d20 := fresh0 Pb hD2
    have d21 := fresh_ne Pb hD2
    have d22 := fresh_nc Pb hD2
    refine lc_range (lo := 0) (n := us.length) (fun i H' => ∃ (Hc : Hp) (ms : List Nat), Ex Hb Hc ∧ PenAt p Hc H' (n + i) ∧ Hc D2 = some (.lst (nV ms)) ∧ ms.length = i ∧ ∀ x ∈ ms, x < ts.length) ⟨_, [], Ex.new d20, Pb.both d21 d22, upd_same, rfl, by intro x hx; cases hx⟩ (fun i H' hi hw => ?_) (fun H' hw => ?_)
    · obtain ⟨Hc, ms, e, Pc, hc, hl, hall⟩ := hw
      refine ⟨rfl, _, rfl, _, rfl, sa, _, rfl, .inl (sq_of (Pc.1 _ _ (e _ _ (eb _ _ hsa)))), p, Hc, n + i, _, rfl, Pc, by omega, by omega, by omega, fun H3 r P3 r0 r1 => ?_⟩
      obtain ⟨rn, rfl⟩ : ∃ rn : Nat, r = (rn : Int) := ⟨r.toNat, (Int.toNat_of_nonneg r0).symm⟩
      refine ⟨_, P3.1 _ _ hc, sz_lt (by rw [nV_len]; omega), _, ms ++ [rn], e.mut d20, (P3.both d21 d22).le (by omega), ?_, by rw [List.length_append, hl]; rfl, ?_⟩
      · rw [upd_same]
        unfold nV
        rw [List.map_append]
        rfl
      · intro x hx
        rcases List.mem_append.mp hx with h | h
        · exact hall x h
        · rw [List.mem_singleton.mp h]
          omega
    obtain ⟨Hc, ms, ec, Pc, hc, hml, hmlt⟩ := hw
    have hb' := ec _ _ hb
    refine ⟨D1, D2, _, _, rfl, rfl, Pc.1 _ _ hb', Pc.1 _ _ hc, sz_of (by rw [nV_len, nV_len, List.length_range]; omega), fun ra hra => ?_⟩
    obtain ⟨P1, e1⟩ := Pc.made (o := .lst (nV (List.range us.length) ++ nV ms)) hra
    have hr1 : (L2.upd Hc ra (.lst (nV (List.range us.length) ++ nV ms))) ra = some (.lst (nV (List.range us.length ++ ms))) := by
      rw [upd_same]
      unfold nV
      rw [List.map_append]
    have e01 := (eb.trans ec).trans e1
    generalize (L2.upd Hc ra (.lst (nV (List.range us.length) ++ nV ms))) = H1 at P1 hr1 e01
    generalize (L2.upd H' ra (.lst (nV (List.range us.length) ++ nV ms))) = G1 at P1 ⊢
    refine ⟨by show 1 ≤ sizeLine; decide, fun l0 hl0 => ?_⟩
    obtain ⟨P2, e2⟩ := P1.made (o := .lst [.int 0]) hl0
    have hl2 : (L2.upd H1 l0 (.lst [.int 0])) l0 = some (.lst (nV [0])) := upd_same
    have hr2 := e2 _ _ hr1
    have e02 := e01.trans e2
    generalize (L2.upd H1 l0 (.lst [.int 0])) = H2 at P2 hl2 hr2 e02
    generalize (L2.upd G1 l0 (.lst [.int 0])) = G2 at P2 ⊢
    have lrow : (List.range us.length ++ ms).length = us.length + us.length := by rw [List.length_append, List.length_range, hml]
    refine ⟨_, rfl, _, rfl, ?_⟩
    dsimp only [tNoPart]
    refine ⟨_, rfl, ra, _, rfl, sq_of (P2.1 _ _ hr2), fun s1 hs1 => ?_⟩
    rw [cut1 (by omega)]
    obtain ⟨tl, htl⟩ : ∃ tl, (List.range us.length ++ ms).drop 1 = tl := ⟨_, rfl⟩
    have hrc := rows_cons (n := us.length) (by omega) ms
    rw [htl] at hrc ⊢
    have ltl : tl.length + 1 = us.length + us.length := by rw [← lrow, hrc]; rfl
    obtain ⟨P3, e3⟩ := P2.made (o := .lst (nV tl)) hs1
    refine ⟨p, _, n + us.length, s1, tl, rfl, P3, by omega, P3.1 _ _ upd_same, by omega, fun H5 G5 r ms' e5 P5 hr50 hr5 perm => ?_⟩
    have hl5 := e5 _ _ (e3 _ _ hl2)
    have lms : ms'.length = tl.length := perm.length_eq
    refine ⟨l0, r, _, _, rfl, rfl, P5.1 _ _ hl5, P5.1 _ _ hr5, sz_of (by rw [nV_len, nV_len, lms]; show 1 + _ ≤ _; omega), fun oa hoa => ?_⟩
    obtain ⟨P6, e6⟩ := P5.made (o := .lst (nV [0] ++ nV ms')) hoa
    have ho6 : (L2.upd H5 oa (.lst (nV [0] ++ nV ms'))) oa = some (.lst (nV (0 :: ms'))) := upd_same
    have e06 := ((e02.trans e3).trans e5).trans e6
    have od_perm : (0 :: ms').Perm (List.range us.length ++ ms) := by rw [hrc]; exact perm.cons 0
    have od_len : (0 :: ms').length = us.length + us.length := by rw [List.length_cons, lms]; exact ltl
    have od_lt : ∀ q ∈ 0 :: ms', q < ts.length := by
      intro q0 hq0
      rcases List.mem_append.mp (od_perm.mem_iff.mp hq0) with z | z
      · rw [List.mem_range] at z
        omega
      · exact hmlt _ z
    have od_all : ∀ q, q < ts.length → q ∈ 0 :: ms' := fun q0 hq0 => od_perm.mem_iff.mpr (List.mem_append_left _ (List.mem_range.mpr (by omega)))
    have od_0 : (0 :: ms')[0]? = some 0 := rfl
    generalize (0 :: ms') = od at ho6 od_perm od_len od_lt od_all od_0
    generalize (L2.upd H5 oa (.lst (nV [0] ++ nV ms'))) = H6 at P6 ho6 e06
    generalize (L2.upd G5 oa (.lst (nV [0] ++ nV ms'))) = G6 at P6 ⊢
    have hsa6 := e06 _ _ hsa
    -- the twins
    refine ⟨_, rfl, sa, _, rfl, .inl (sq_of (P6.1 _ _ hsa6)), _, rfl, by omega, by omega, fun tw htw => ?_⟩
    rw [Int.toNat_natCast]
    have t0 := fresh0 P6 htw
    have t1 := fresh_ne P6 htw
    have t2 := fresh_nc P6 htw
    refine lc_range (lo := 0) (n := us.length) (fun i H' => ∃ (Hd : Hp) (tws : List V), Ex H6 Hd ∧ PenAt p Hd H' (n + us.length + tl.length) ∧ Hd tw = some (.lst tws) ∧ TwA Hd tws ((List.range i).map (plc od))) ⟨_, [], Ex.new t0, P6.both t1 t2, upd_same, .nil⟩ (fun i H' hi hw => ?_) (fun H' hw => ?_)
    · obtain ⟨Hd, tws, ed, Pd, hd, TW⟩ := hw
      have ltw := TW.len
      rw [List.length_map, List.length_range] at ltw
      rw [Int.zero_add]
      refine ⟨rfl, _, rfl, oa, _, rfl, .inl (sq_of (Pd.1 _ _ (ed _ _ ho6))), _, rfl, by rw [nV_len]; omega, by rw [nV_len]; omega, fun D3 hD3 => ?_⟩
      rw [Int.toNat_natCast, nV_len]
      have d30 := fresh0 Pd hD3
      have d31 := fresh_ne Pd hD3
      have d32 := fresh_nc Pd hD3
      refine lc_range (lo := 0) (n := od.length) (fun j H'' => ∃ He, Ex Hd He ∧ PenAt p He H'' (n + us.length + tl.length) ∧ He D3 = some (.lst (nV ((List.range j).filter fun a => decide (LM.at0 od a = i))))) ⟨_, Ex.new d30, Pd.both d31 d32, upd_same⟩ (fun j H'' hj hw => ?_) (fun H'' hw => ?_)
      · obtain ⟨He, ee, Pe, he⟩ := hw
        rw [Int.zero_add]
        refine ⟨rfl, _, rfl, _, rfl, oa, _, _, _, rfl, rfl, sq_of (Pe.1 _ _ (ee _ _ (ed _ _ ho6))), nV_at hj, _, rfl, rfl, _, rfl, ?_⟩
        have fs : (List.range (j + 1)).filter (fun a => decide (LM.at0 od a = i)) = (List.range j).filter (fun a => decide (LM.at0 od a = i)) ++ if LM.at0 od j = i then [j] else [] := by
          rw [List.range_succ, List.filter_append]
          by_cases e : LM.at0 od j = i
          · rw [if_pos e]
            simp [e]
          · rw [if_neg e]
            simp [e]
        have fl := List.length_filter_le (fun a => decide (LM.at0 od a = i)) (List.range j)
        rw [List.length_range] at fl
        by_cases hq : LM.at0 od j = i
        · refine iteD (by rw [hq]) ?_
          refine ⟨_, rfl, _, Pe.1 _ _ he, sz_lt (by rw [nV_len]; omega), _, ee.mut d30, Pe.both d31 d32, ?_⟩
          rw [upd_same, fs, if_pos hq]
          unfold nV
          rw [List.map_append]
          rfl
        · refine iteDn (fun z => hq (by injection z with z; exact Int.ofNat_inj.mp z)) ?_
          refine ⟨He, ee, Pe, ?_⟩
          rw [he, fs, if_neg hq, List.append_nil]
      · obtain ⟨He, ee, Pe, he⟩ := hw
        have he2 : He D3 = some (.lst (nV (plc od i))) := he
        refine ⟨tws, Pe.1 _ _ (ee _ _ hd), sz_lt (by omega), _, tws ++ [.ref D3], (ed.trans ee).mut t0, Pe.both t1 t2, upd_same, ?_⟩
        rw [List.range_succ, List.map_append]
        have ne : D3 ≠ tw := fun z => by rw [z, hd] at d30; cases d30
        refine TwA.snoc ((TW.ex ee).self (ee _ _ hd)) ?_
        rw [upd_ne ne]
        exact he2
    obtain ⟨Hd, tws, ed, Pd, hd, TW⟩ := hw
    have ho7 := ed _ _ ho6
    have hsa7 := ed _ _ hsa6
    have e07 := e06.trans ed
    have KK7 := KK.ex e07
    have wl : ((List.range us.length).map (plc od)).length = ts.length := by rw [List.length_map, List.length_range, lks]
    obtain ⟨W, hWe⟩ : ∃ W, (List.range us.length).map (plc od) = W := ⟨_, rfl⟩
    have hWget : ∀ q, q < ts.length → W[q]? = some (plc od q) := by
      intro q0 hq0
      rw [← hWe, List.getElem?_map, List.getElem?_range (by omega)]
      rfl
    have hWR : ∀ a q, RW W a q → od[a]? = some q := by
      rintro a q0 ⟨w0, h1, h2⟩
      have hq0 : q0 < W.length := (List.getElem?_eq_some_iff.mp h1).1
      rw [hWget q0 (by rw [← wl, hWe]; exact hq0)] at h1
      cases h1
      exact plc_mem.mp h2
    have hWne : ∀ w0 ∈ W, w0 ≠ [] ∧ w0.length ≤ 100 := by
      intro w0 hw0
      obtain ⟨q0, hq0, h1⟩ := List.mem_iff_getElem.mp hw0
      have hq1 : q0 < ts.length := by rw [← wl, hWe]; exact hq0
      have h2 := hWget q0 hq1
      rw [List.getElem?_eq_getElem hq0] at h2
      injection h2 with h2
      rw [← h1, h2]
      obtain ⟨a, ha⟩ := List.mem_iff_getElem?.mp (od_all q0 hq1)
      have := plc_len od q0
      exact ⟨List.ne_nil_of_mem (plc_mem.mpr ha), by omega⟩
    rw [hWe] at TW wl
    -- the trees
    refine ⟨_, rfl, oa, rfl, ⟨_, sq_of (Pd.1 _ _ ho7)⟩, fun D4 hD4 => ?_⟩
    have f0 := fresh0 Pd hD4
    have f1 := fresh_ne Pd hD4
    have f2 := fresh_nc Pd hD4
    refine lc_it (walk_list (K := K) (a := oa) (xs := nV od)) (fun i H' => ∃ (He : Hp) (zs : List V) (xs : List Tr), Ex Hd He ∧ PenAt p He H' (n + us.length + tl.length + i * 46) ∧ He D4 = some (.lst zs) ∧ Kids true He zs xs ∧ xs.length = i ∧ ∀ j, j < i → LM.TrR (RW W) (LM.tr0 xs j) (LM.tr0 ts (LM.at0 od j)))
      ⟨_, [], [], Ex.new f0, (Pd.both f1 f2).le (by omega), upd_same, .nil, rfl, fun j hj => absurd hj (Nat.not_lt_zero _)⟩ (fun i H' _ hw => by
        obtain ⟨He, _, _, ee, Pe, _⟩ := hw
        exact sq_of (Pe.1 _ _ (ee _ _ ho7))) (fun i x H' H'' hi hw hy => ?_) (fun H' hw => ?_)
    · obtain ⟨He, zs, xs, ee, Pe, he, Z, lx, rel⟩ := hw
      obtain ⟨rfl, hx⟩ := hy
      rw [nV_len] at hi
      rw [nV_get, LM.at0_get hi] at hx
      cases hx
      have hq1 := od_lt _ (LM.at0_mem hi)
      obtain ⟨v, hv⟩ : ∃ v, us[LM.at0 od i]? = some v := ⟨_, List.getElem?_eq_getElem (by omega)⟩
      obtain ⟨t, ht, hT⟩ := KK7.get hv
      have ht0 := LM.tr0_of ht
      have mem := List.mem_of_getElem? ht
      have dt := rt.dp t mem
      have zt := rt.sz t mem
      have hlv := LM.lv_ok (rt.ok t mem)
      have lz := Z.len
      refine ⟨rfl, _, rfl, _, rfl, _, rfl, sa, _, _, _, rfl, rfl, sq_of (Pe.1 _ _ (ee _ _ hsa7)), atI_nat hv, _, rfl, ?_⟩
      refine ⟨p, He, n + us.length + tl.length + i * 46, t, v, tw, tws, W, rfl, Pe, by omega, hT.ex ee, ee _ _ hd, TW.ex ee, (fun q hq => by rw [wl]; exact hlv q hq), hWne, dt, by omega, fun H8 H9 v8 u8 e8 P9 hv8 hR => ?_⟩
      refine ⟨zs, P9.1 _ _ (e8 _ _ he), sz_lt (by omega), L2.upd H8 D4 (.lst (zs ++ [v8])), zs ++ [v8], xs ++ [u8], (ee.trans e8).mut f0, (P9.both f1 f2).le (by omega), upd_same, ?_, by rw [List.length_append, lx]; rfl, ?_⟩
      · refine Kids.upd (fun ys hh => ?_) ((Z.ex e8).snoc hv8)
        rw [e8 _ _ he] at hh
        cases hh
      · intro j hj
        by_cases hji : j < i
        · have e : LM.tr0 (xs ++ [u8]) j = LM.tr0 xs j := LM.tr0_of (by rw [List.getElem?_append_left (by omega), LM.tr0_get (by omega)])
          rw [e]
          exact rel j hji
        · obtain rfl : j = i := by omega
          have e : LM.tr0 (xs ++ [u8]) j = u8 := LM.tr0_of (by rw [List.getElem?_append_right (by omega), lx, Nat.sub_self]; rfl)
          rw [e, ht0]
          exact hR
    obtain ⟨He, zs, xs, ee, Pe, he, Z, lx, rel⟩ := hw
    rw [nV_len] at lx Pe rel
    have lz := Z.len
    refine ⟨_, rfl, by show 3 ≤ sizeLine; decide, fun t1 ht1 => ⟨by show 3 ≤ sizeLine; decide, fun t2 ht2 => ⟨by show 1 ≤ sizeLine; decide, fun l2 hl2 => ?_⟩⟩⟩
    obtain ⟨P8, e8⟩ := Pe.made (o := .tup [.str "go", .int 1, .int 0]) ht1
    obtain ⟨P9, e9⟩ := P8.made (o := .tup [.str "tell", .int 0, .ref t1]) ht2
    obtain ⟨P10, e10⟩ := P9.made (o := .lst [.ref t2]) hl2
    have hD10 := e10 _ _ (e9 _ _ (e8 _ _ he))
    have hl10 : (L2.upd (L2.upd (L2.upd He t1 (.tup [.str "go", .int 1, .int 0])) t2 (.tup [.str "tell", .int 0, .ref t1])) l2 (.lst [.ref t2])) l2 = some (.lst [.ref t2]) := upd_same
    have hT1 : TA true (L2.upd He t1 (.tup [.str "go", .int 1, .int 0])) (.ref t1) (.go 1 0) := .go upd_same
    have hT2 : TA true (L2.upd (L2.upd He t1 (.tup [.str "go", .int 1, .int 0])) t2 (.tup [.str "tell", .int 0, .ref t1])) (.ref t2) (.tell 0 (.go 1 0)) := .tell upd_same (hT1.ex e9)
    have Z10 := Z.ex ((e8.trans e9).trans e10)
    have hT10 := hT2.ex e10
    have e010 := ((e07.trans ee).trans (e8.trans e9)).trans e10
    generalize (L2.upd (L2.upd (L2.upd He t1 (.tup [.str "go", .int 1, .int 0])) t2 (.tup [.str "tell", .int 0, .ref t1])) l2 (.lst [.ref t2])) = H10 at P10 hD10 hl10 Z10 hT10 e010
    refine ⟨D4, l2, _, _, rfl, rfl, P10.1 _ _ hD10, P10.1 _ _ hl10, sz_of (by rw [lz]; show _ + 1 ≤ _; omega), fun r hr => ?_⟩
    obtain ⟨P11, e11⟩ := P10.made (o := .lst (zs ++ [.ref t2])) hr
    have form : ∀ x ∈ xs, ∃ u ∈ ts, LM.TrR (RW W) x u := by
      intro x hx
      obtain ⟨j, hj, e⟩ := List.mem_iff_getElem.mp hx
      have hj2 : j < od.length := by rw [← lx]; exact hj
      have e2 : LM.tr0 xs j = x := LM.tr0_of (by rw [List.getElem?_eq_getElem hj, e])
      have := rel j hj2
      rw [e2] at this
      exact ⟨_, LM.tr0_mem (od_lt _ (LM.at0_mem hj2)), this⟩
    have tl1 : (xs ++ [Tr.tell 0 (.go 1 0)]).length = od.length + 1 := by rw [List.length_append, lx]; rfl
    refine q _ _ r _ (xs ++ [.tell 0 (.go 1 0)]) _ (e010.trans e11) (P11.le (by omega)) upd_same ((Z10.snoc hT10).ex e11) ⟨rt.l, rt.l4, rt.w8, by rw [tl1]; omega, by rw [tl1]; omega, fun x hx => ?_, fun x hx => ?_, fun x hx => ?_⟩ (by rw [tl1]; omega) (bis_told od_0 od_lt lx hWR fun j q0 hj => ?_)
    · rw [tl1]
      rcases List.mem_append.mp hx with h | h
      · obtain ⟨u, hu, hR⟩ := form x h
        exact LM.TrR.ok (fun a q0 h2 => by have := (List.getElem?_eq_some_iff.mp (hWR a q0 h2)).1; omega) hR (rt.ok u hu)
      · rw [List.mem_singleton.mp h]
        exact ⟨by omega, by omega, by omega, by omega⟩
    · rcases List.mem_append.mp hx with h | h
      · obtain ⟨u, hu, hR⟩ := form x h
        rw [LM.TrR.depth hR]
        exact rt.dp u hu
      · rw [List.mem_singleton.mp h]
        show 1 + 1 ≤ 3
        omega
    · rcases List.mem_append.mp hx with h | h
      · obtain ⟨u, hu, hR⟩ := form x h
        rw [LM.TrR.size hR]
        exact rt.sz u hu
      · rw [List.mem_singleton.mp h]
        show 1 + 1 ≤ 46
        omega
    · have hj2 := (List.getElem?_eq_some_iff.mp hj).1
      have := rel j hj2
      rw [LM.at0_of hj] at this
      exact this
end
end Law

namespace Law
open PySem PySem.Spec PyProof.Rows L2 Evl TR EK
theorem PenAt.base {p : PenI} {H0 H1 B H : Hp} {n m : Nat} (P : PenAt p B H n) (P0 : PenAt p H0 H1 m) (e : Ex H0 B) : PenAt p H0 H n :=
  ⟨e.trans P.1, P0.2.1, P0.2.2.1, P.2.2.2⟩
theorem search_fuel {w : Nat} {ts : List Tr} {L X : List Nat} : ∀ (f p q : Nat), (search w ts L X f p q).1.length ≤ f
  | 0, _, _ => Nat.le_refl _
  | f + 1, p, q => by
    by_cases h : p + w ≤ X.length
    · cases ht : ts[q]? with
      | none =>
        rw [search, if_pos h, ht]
        exact Nat.zero_le _
      | some t =>
        cases hr : (t.run L ((X.drop p).take (w + 1))).2.2 with
        | none =>
          rw [search_cut h ht hr]
          exact Nat.succ_le_succ (Nat.zero_le _)
        | some sq =>
          obtain ⟨s, q'⟩ := sq
          rw [search_go h ht hr]
          exact Nat.succ_le_succ (search_fuel f (p + s) q')
    · rw [search_end h]
      exact Nat.zero_le _
/-- trees whose form is D -/
structure Fm (L : List Nat) (wd : Nat) (D xs : List Tr) : Prop where
  rt : RT L wd 3 46 xs
  fm : ∀ S, LM.IsS xs S → LM.least xs S = D
theorem Fm.depth {L : List Nat} {wd : Nat} {D xs : List Tr} (h : Fm L wd D xs) : ∀ t ∈ xs, t.depth ≤ 31 := fun t ht => by
  have := h.rt.dp t ht
  omega
theorem RT.up {L : List Nat} {wd d m d' m' : Nat} {ts : List Tr} (h : RT L wd d m ts) (hd : d ≤ d') (hm : m ≤ m') : RT L wd d' m' ts :=
  ⟨h.l, h.l4, h.w8, h.n1, h.n64, h.ok, fun t ht => Nat.le_trans (h.dp t ht) hd, fun t ht => Nat.le_trans (h.sz t ht) hm⟩
def lw (L : List Nat) (wd : Nat) : PyData := .tuple [.str (tx L), .int (wd : Nat)]
theorem lw_shaped {L : List Nat} (h : LG L) (wd : Nat) : SeqAt.shaped (lw L wd) = true := by
  unfold SeqAt.shaped lw
  rw [Bool.and_eq_true]
  refine ⟨?_, decide_eq_true ?_⟩
  · simp only [PyData.canLay0, PyData.canLayAll0, Bool.and_true]
    show (tx L).cps.all (· < 0x110000) = true
    rw [Array.all_eq_true']
    intro c hc
    have hc2 : c ∈ L := by
      have := Array.mem_toList_iff.mpr hc
      rwa [tx_list] at this
    have := h.az c hc2
    exact decide_eq_true (by omega)
  · simp only [PyData.depth, PyData.depthAll]
    omega
theorem lw_same (L : List Nat) (wd : Nat) : PyData.eqv (lw L wd) (lw L wd) = true := by
  unfold lw
  simp [PyData.eqv, PyData.eqvAll]
theorem prs_same : ∀ td : List (Nat × Nat), PyData.eqvAll (td.map pdata) (td.map pdata) = true
  | [] => by simp only [List.map_nil, PyData.eqvAll]
  | x :: r => by
    simp only [List.map_cons, PyData.eqvAll, prs_same r, Bool.and_true]
    unfold pdata
    simp [PyData.eqv, PyData.eqvAll]
def tc (td : List (Nat × Nat)) (c : Nat) : PyData := .tuple [.tuple (td.map pdata), .int (c : Nat)]
theorem tc_same (td : List (Nat × Nat)) (c : Nat) : PyData.eqv (tc td c) (tc td c) = true := by
  unfold tc
  simp only [PyData.eqv, PyData.eqvAll, prs_same, Bool.and_true, Bool.true_and, beq_self_eq_true]
theorem prs_shape : ∀ td : List (Nat × Nat), PyData.canLayAll0 (td.map pdata) = true ∧ PyData.depthAll (td.map pdata) ≤ 1
  | [] => ⟨by simp only [List.map_nil, PyData.canLayAll0], by simp only [List.map_nil, PyData.depthAll]; omega⟩
  | x :: r => by
    obtain ⟨h1, h2⟩ := prs_shape r
    refine ⟨?_, ?_⟩
    · simp only [List.map_cons, PyData.canLayAll0, h1, Bool.and_true]
      unfold pdata
      simp only [PyData.canLay0, PyData.canLayAll0, Bool.and_true]
    · simp only [List.map_cons, PyData.depthAll]
      unfold pdata at h2 ⊢
      simp only [PyData.depth, PyData.depthAll]
      omega
theorem tc_shaped (td : List (Nat × Nat)) (c : Nat) : SeqAt.shaped (tc td c) = true := by
  obtain ⟨h1, h2⟩ := prs_shape td
  unfold SeqAt.shaped tc
  rw [Bool.and_eq_true]
  refine ⟨by simp only [PyData.canLay0, PyData.canLayAll0, h1, Bool.and_true], decide_eq_true ?_⟩
  simp only [PyData.depth, PyData.depthAll]
  omega
/-- whole numbers as data -/
def nd' (ns : List Nat) : PyData := .list (ns.map fun q => .int (q : Nat))
theorem nd_dp {K : PySem.W.Frag} {H : Hp} {a : Addr} {ns : List Nat} (h : SqL K H a (nV ns)) : Dp K H (.ref a) (nd' ns) := by
  refine .lst h ?_
  unfold nV
  clear h
  induction ns with
  | nil => exact .nil
  | cons x r ih => exact .cons (.int _) ih
theorem nd_same (ns : List Nat) : PyData.eqv (nd' ns) (nd' ns) = true := by
  have : ∀ ns : List Nat, PyData.eqvAll (ns.map fun q : Nat => PyData.int (q : Nat)) (ns.map fun q : Nat => PyData.int (q : Nat)) = true := by
    intro ns
    induction ns with
    | nil => simp only [List.map_nil, PyData.eqvAll]
    | cons x r ih => simp only [List.map_cons, PyData.eqvAll, PyData.eqv, ih, beq_self_eq_true, Bool.and_true]
  unfold nd'
  simp only [PyData.eqv]
  exact this ns
theorem nd_shaped (ns : List Nat) : SeqAt.shaped (nd' ns) = true := by
  have : ∀ ns : List Nat, PyData.canLayAll0 (ns.map fun q : Nat => PyData.int (q : Nat)) = true ∧ PyData.depthAll (ns.map fun q : Nat => PyData.int (q : Nat)) = 0 := by
    intro ns
    induction ns with
    | nil => exact ⟨by simp only [List.map_nil, PyData.canLayAll0], by simp only [List.map_nil, PyData.depthAll]⟩
    | cons x r ih =>
      refine ⟨by simp only [List.map_cons, PyData.canLayAll0, PyData.canLay0, ih.1, Bool.and_true], ?_⟩
      simp only [List.map_cons, PyData.depthAll, PyData.depth, ih.2]
      omega
  obtain ⟨h1, h2⟩ := this ns
  unfold SeqAt.shaped nd'
  rw [Bool.and_eq_true]
  refine ⟨by simp only [PyData.canLay0, h1], decide_eq_true ?_⟩
  simp only [PyData.depth]
  omega
def spLaw (K : PySem.W.Frag) : Sp := fun vs H Q _ => ∃ (a : Addr) (ns : List Int), vs = [.ref a] ∧ SqL K H a (ns.map V.int) ∧ ns.length ≤ 63 ∧ ∀ H', Q (.bl true) H'
section
variable {P : Program} {w : World} {K : PySem.W.Frag} {mg : Str → Option Value} {base : Heap}
theorem ok_law {f C_Searcher fi fe fl C_Trace : Addr} {fd fdi fde fdl : FuncData} (F : Fun K "law" "law" s_law f fd) (T : Tx mg) (g_repr : mg "repr" = none) (S : SC K C_Searcher) (ST : TC K C_Trace) (M_Searcher : Mk K C_Searcher fi) (F_Searcher : FnOk P w K mg base CX0 42 fi fdi ["self", "letters", "width", "states"] (spInit C_Searcher)) (g_Searcher : mg "Searcher" = some (.ref C_Searcher))
    (b_Searcher : Binds K fdi ["self", "letters", "width", "states"] []) (O_Searcher : OE.Own K C_Searcher fe) (F_eq : FnOk P w K mg base CX0 1 fe fde ["self", "other"] (spEqO C_Searcher)) (b_eq : Binds K fde ["self", "other"] [])
    (Me_least : Meth K C_Searcher "least" fl) (F_least : FnOk P w K mg base CX0 44 fl fdl ["self"] (spLeast C_Searcher)) (b_least : Binds K fdl ["self"] [])
    (c_lpen : Kn P w K mg base "_law_pen" ["_law_script"] 1 (spPen K)) (c_ldraw : Kn P w K mg base "_law_draw" ["_law_pen_here", "_law_many"] 1 spDraw) (c_lletters : Kn P w K mg base "_law_letters" ["_law_pen_here"] 3 spLetters)
    (c_ltrees : Kn P w K mg base "_law_trees" ["_law_pen_here", "_law_letters_here", "_law_width", "_law_many", "_law_depth"] 7 spTrees2) (c_ltext : Kn P w K mg base "_law_text" ["_law_pen_here", "_law_letters_here", "_law_words", "_law_most"] 3 spText)
    (c_lleast : Kn P w K mg base "_law_least" ["_law_states"] 5 spLL) (c_ldoubled : Kn P w K mg base "_law_doubled" ["_law_pen_here", "_law_states"] 7 spDbl) (c_trace : Kn P w K mg base "trace" ["searcher", "text"] 4 (spTraceN C_Searcher C_Trace)) :
    GD.Gd P w K mg base 46 f fd ["_law_script"] (spLaw K) := by
  refine GD.okG F sc_law (fun vs H Q E h => ?_) (fun cdv A outer s H vs Q E hr hg h => ?_)
  · obtain ⟨a, ns, rfl, _⟩ := h
    rfl
  · obtain ⟨a, ns, rfl, hS, hl, q⟩ := h
    refine ⟨_, (pss_cons (ps_set (i := 1) sc_law.nd rfl (Or.inl rfl) (pe_call c_lpen.ok (hr.mono (by decide)) (by rfl) c_lpen.g c_lpen.kp c_lpen.b .nil pass0 (pa_cons (pv 0) pa_nil)))
      (pss_cons (ps_for PassesOwn.never rfl (pi_range1 (by rfl) T.range (pa_cons (pe_op op_add pe_int (pe_callB (call_min2 rfl) (by rfl) T.min (by decide +kernel) (pa_cons pe_int (pa_cons (pe_callB call_len_seq (by rfl) T.len PySem.boot_len (pa_cons (pv 0) pa_nil)) pa_nil)))) pa_nil)) (pg_name (i := 2) sc_law.nd rfl (Or.inl rfl)) (pss_cons (ps_par3 (i := 3) (j := 4) (l := 5) (by rfl) sc_law.nd rfl rfl rfl (by decide) (by decide) (by decide) rfl rfl rfl (pa_cons (pe_call c_lletters.ok (hr.mono (by decide)) (by rfl) c_lletters.g c_lletters.kp c_lletters.b .nil pass0 (pa_cons (pv 1) pa_nil)) (pa_cons (pe_op op_add pe_int (pe_call c_ldraw.ok (hr.mono (by decide)) (by rfl) c_ldraw.g c_ldraw.kp c_ldraw.b .nil pass0 (pa_cons (pv 1) (pa_cons pe_int pa_nil)))) (pa_cons (pe_op op_add pe_int (pe_call c_ldraw.ok (hr.mono (by decide)) (by rfl) c_ldraw.g c_ldraw.kp c_ldraw.b .nil pass0 (pa_cons (pv 1) (pa_cons pe_int pa_nil)))) pa_nil))) (by rfl))
      (pss_cons (ps_set (i := 6) sc_law.nd rfl (Or.inl rfl) (pe_call c_ltrees.ok (hr.mono (by decide)) (by rfl) c_ltrees.g c_ltrees.kp c_ltrees.b .nil pass0 (pa_cons (pv 1) (pa_cons (pv 3) (pa_cons (pv 4) (pa_cons (pv 5) (pa_cons pe_int pa_nil)))))))
      (pss_cons (ps_par (i := 7) (j := 8) (by rfl) sc_law.nd rfl rfl (by decide) rfl rfl (pa_cons (pe_call c_lleast.ok (hr.mono (by decide)) (by rfl) c_lleast.g c_lleast.kp c_lleast.b .nil pass0 (pa_cons (pv 6) pa_nil)) (pa_cons (pe_call c_ldoubled.ok (hr.mono (by decide)) (by rfl) c_ldoubled.g c_ldoubled.kp c_ldoubled.b .nil pass0 (pa_cons (pv 1) (pa_cons (pv 6) pa_nil))) pa_nil)) (by rfl))
      (pss_cons (ps_for PassesOwn.never rfl (pi_list (pe_lst (pa_cons (pv 6) (pa_cons (pv 8) (pa_cons (pv 7) pa_nil))))) (pg_name (i := 9) sc_law.nd rfl (Or.inl rfl)) (pss_cons (ps_set (i := 10) sc_law.nd rfl (Or.inl rfl) (pe_make M_Searcher F_Searcher (hr.mono (by decide)) (by rfl) g_Searcher b_Searcher .nil pass0 (pa_cons (pv 3) (pa_cons (pv 4) (pa_cons (pv 9) pa_nil)))))
      (pss_cons (ps_set (i := 11) sc_law.nd rfl (Or.inl rfl) (pe_meth0 (pv 10) S.cl Me_least F_least (hr.mono (by decide)) b_least .nil pass0))
      (pss_cons (ps_if (PW.pt (pw_or (pt_cmpR op_ne (pe_callB (TR.call_reprD hg (TR.room70 hr)) (by rfl) g_repr boot_repr (pa_cons (pe_fld (pv 11) rfl) pa_nil)) (pe_callB (TR.call_reprD hg (TR.room70 hr)) (by rfl) g_repr boot_repr (pa_cons (pe_callTy call_tuple_of (by rfl) T.tuple PyProof.Rows.boot_tuple (pa_cons (pv 7) pa_nil)) pa_nil)) (nomark _)) (pw_or1 (pt_cmpR (op_neD hr.units) (pe_tup (pa_cons (pe_fld (pv 11) rfl) (pa_cons (pe_fld (pv 11) rfl) pa_nil))) (pe_tup (pa_cons (pv 3) (pa_cons (pv 4) pa_nil))) (nomark _))))) (pss_one (ps_ret pe_bl)) pss_nil)
      (pss_one (ps_if (PW.pt (pw_or (pt_cmpR (OE.op_ownN O_Searcher F_eq b_eq (hr.mono (by decide))) (pe_meth0 (pv 11) S.cl Me_least F_least (hr.mono (by decide)) b_least .nil pass0) (pv 11) (nomark _)) (pw_or (pt_cmpR op_ne (pe_callB (TR.call_reprD hg (TR.room70 hr)) (by rfl) g_repr boot_repr (pa_cons (pe_fld (pv 10) rfl) pa_nil)) (pe_callB (TR.call_reprD hg (TR.room70 hr)) (by rfl) g_repr boot_repr (pa_cons (pe_callTy call_tuple_of (by rfl) T.tuple PyProof.Rows.boot_tuple (pa_cons (pv 9) pa_nil)) pa_nil)) (nomark _)) (pw_or1 (pt_cmpR (OE.op_ownN O_Searcher F_eq b_eq (hr.mono (by decide))) (pe_meth0 (pv 10) S.cl Me_least F_least (hr.mono (by decide)) b_least .nil pass0) (pv 11) (nomark _)))))) (pss_one (ps_ret pe_bl)) pss_nil))))))
      (pss_cons (ps_set (i := 12) sc_law.nd rfl (Or.inl rfl) (pe_call c_ltext.ok (hr.mono (by decide)) (by rfl) c_ltext.g c_ltext.kp c_ltext.b .nil pass0 (pa_cons (pv 1) (pa_cons (pv 3) (pa_cons (pe_lst (pa_cons (pv 3) pa_nil)) (pa_cons pe_int pa_nil))))))
      (pss_cons (ps_par (i := 13) (j := 14) (by rfl) sc_law.nd rfl rfl (by decide) rfl rfl (pa_cons (pe_call c_trace.ok (hr.mono (by decide)) (by rfl) c_trace.g c_trace.kp c_trace.b .nil pass0 (pa_cons (pe_make M_Searcher F_Searcher (hr.mono (by decide)) (by rfl) g_Searcher b_Searcher .nil pass0 (pa_cons (pv 3) (pa_cons (pv 4) (pa_cons (pv 8) pa_nil)))) (pa_cons (pv 12) pa_nil))) (pa_cons (pe_call c_trace.ok (hr.mono (by decide)) (by rfl) c_trace.g c_trace.kp c_trace.b .nil pass0 (pa_cons (pe_make M_Searcher F_Searcher (hr.mono (by decide)) (by rfl) g_Searcher b_Searcher .nil pass0 (pa_cons (pv 3) (pa_cons (pv 4) (pa_cons (pv 7) pa_nil)))) (pa_cons (pv 12) pa_nil))) pa_nil)) (by rfl))
      (pss_cons (ps_if (pt_cmpR (op_neD hr.units) (pe_tup (pa_cons (pe_fld (pv 13) rfl) (pa_cons (pe_fld (pv 13) rfl) pa_nil))) (pe_tup (pa_cons (pe_fld (pv 14) rfl) (pa_cons (pe_fld (pv 14) rfl) pa_nil))) (nomark _)) (pss_one (ps_ret pe_bl)) pss_nil)
      (pss_one (ps_if (pt_cmpR (op_neD hr.units) (pe_lc (own := [("_law_window", 15)]) (g := gName 15) (tt := tYes) rfl sc_law.nd (pi_tup (pe_fld (pv 13) rfl)) (blkOk_by (N := N_law) (sc := defScope s_law) (by decide +kernel)) (fun _ _ _ _ _ => (pg_name (i := 15) sc_law.nd rfl (Or.inl rfl))) (fun _ _ _ _ _ => pts_nil) (fun _ _ _ _ _ => (pe_ix (show IxR _ (rIxT K) from ix_tup) (pv 15) pe_int (fun _ _ => rfl)))) (pe_lc (own := [("_law_window", 15)]) (g := gName 15) (tt := tYes) rfl sc_law.nd (pi_tup (pe_fld (pv 14) rfl)) (blkOk_by (N := N_law) (sc := defScope s_law) (by decide +kernel)) (fun _ _ _ _ _ => (pg_name (i := 15) sc_law.nd rfl (Or.inl rfl))) (fun _ _ _ _ _ => pts_nil) (fun _ _ _ _ _ => (pe_ix (show IxR _ (rIxT K) from ix_tup) (pv 15) pe_int (fun _ _ => rfl)))) (nomark _)) (pss_one (ps_ret pe_bl)) pss_nil))))))))))
      (pss_one (ps_ret pe_bl)))), ?_⟩
    refine ⟨_, rfl, a, ns, rfl, hS, hl, fun p H0 H1 eH P0 => ?_⟩
    have hS1 : SqL K H1 a (ns.map V.int) := ex_l (eH.trans P0.1) hS
    have hm10 : 0 ≤ (3 : Int) + (if ((ns.map V.int).length : Int) < 5 then ((ns.map V.int).length : Int) else 5) ∧ (3 : Int) + (if ((ns.map V.int).length : Int) < 5 then ((ns.map V.int).length : Int) else 5) ≤ 8 := by
      by_cases q : ((ns.map V.int).length : Int) < 5
      · rw [if_pos q]; omega
      · rw [if_neg q]; omega
    refine ⟨_, rfl, a, _, rfl, .inl hS1, _, _, rfl, _, _, rfl, rfl, _, rfl, by omega, by omega, ?_⟩
    obtain ⟨m, hm⟩ : ∃ m : Nat, ((3 : Int) + (if ((ns.map V.int).length : Int) < 5 then ((ns.map V.int).length : Int) else 5)).toNat = m := ⟨_, rfl⟩
    rw [hm]
    have hm2 : m ≤ 8 := by omega
    refine for_range (lo := 0) (n := m) (fun i σ H' => ∃ y2 y3 y4 y5 y6 y7 y8 y9 y10 y11 y12 y13 y14 y15 : Option V, σ = [some (.ref a), some (.ref p.d), y2, y3, y4, y5, y6, y7, y8, y9, y10, y11, y12, y13, y14, y15] ∧ PenAt p H0 H' (3000 * i))
      ⟨none, none, none, none, none, none, none, none, none, none, none, none, none, none, rfl, P0⟩ (fun i σ H' hi hw => ?_) (fun σ H' hw => ?_)
    · obtain ⟨y2, y3, y4, y5, y6, y7, y8, y9, y10, y11, y12, y13, y14, y15, rfl, P1⟩ := hw
      refine ⟨_, rfl, p, H0, _, rfl, P1, by omega, fun H2 lf lq lm P2 b1 b2 b3 b4 => ?_⟩
      have hLG := lets_good b1 b2 b3 b4
      obtain ⟨L, hLe⟩ : ∃ L, lets lf lq lm = L := ⟨_, rfl⟩
      rw [hLe] at hLG ⊢
      have L2' := hLG.lo
      have L4 := hLG.hi
      refine ⟨_, rfl, p, H0, _, 4, rfl, P2, by omega, by decide, by decide, fun H3 r3 P3 r30 r31 => ⟨_, _, rfl, rfl, ?_⟩⟩
      obtain ⟨wd, hwd⟩ : ∃ wd : Nat, (1 : Int) + r3 = (wd : Int) := ⟨(1 + r3).toNat, (Int.toNat_of_nonneg (by omega)).symm⟩
      dsimp only
      rw [hwd]
      refine ⟨_, rfl, p, H0, _, 4, rfl, P3, by omega, by decide, by decide, fun H4 r4 P4 r40 r41 => ⟨_, _, rfl, rfl, ?_⟩⟩
      obtain ⟨mn, hmn⟩ : ∃ mn : Nat, (1 : Int) + r4 = (mn : Int) := ⟨(1 + r4).toNat, (Int.toNat_of_nonneg (by omega)).symm⟩
      dsimp only
      rw [hmn]
      refine ⟨_, _, _, rfl, ?_⟩
      refine ⟨_, rfl, _, rfl, _, rfl, _, rfl, p, H0, _, L, wd, mn, rfl, P4, by omega, L2', L4, by omega, by omega, by omega, by omega, fun B1 H5 r us ts d1 P5 hr0 hr1 KK hlen hall => ?_⟩
      have e5 := P5.1
      have hr5 := e5 _ _ hr1
      have KK5 := KK.ex e5
      have rt : RT L wd 3 46 ts := ⟨hLG, L4, by omega, by omega, by omega, fun t ht => by rw [hlen]; exact (hall t ht).1, fun t ht => (hall t ht).2.1, fun t ht => (hall t ht).2.2⟩
      have n0 : 0 < ts.length := by omega
      -- the form
      refine ⟨_, rfl, r, us, ts, L, wd, rfl, hr5, KK5, rt, fun du H6 S0 zs0 e6 hdu0 hdu KD hS0 => ?_⟩
      obtain ⟨D, hDe⟩ : ∃ D, LM.least ts S0 = D := ⟨_, rfl⟩
      have rtD := rt.least hS0
      have bisD := LM.bis_least n0 rt.val hS0
      have fmS : Fm L wd D ts := ⟨rt, fun S hS => by rw [hS.uniq n0 rt.val hS0, hDe]⟩
      have fmD : Fm L wd D D := ⟨by rw [← hDe]; exact rtD, fun S hS => by
        rw [← hDe] at hS ⊢
        exact LM.least_least n0 rt.val hS0 hS⟩
      rw [hDe] at KD bisD
      have P6 := (P5.ex e6).fz
      have dB := d1.trans (fz_sub (P5.ex e6).1)
      have hrB := (fz_sub (P5.ex e6).1) _ _ hr1
      have KB := KK.ex (fz_sub (P5.ex e6).1)
      have KDB := KD.fz (B := B1)
      have P7 := P6.keep hdu (P6.lst_ne hdu)
      have eN : Ex (TR.fz B1 H6) (L2.upd (TR.fz B1 H6) du (.lst zs0)) := Ex.new (by rw [fz_lst hdu]; exact fresh0 P5 hdu0)
      have hdB : (L2.upd (TR.fz B1 H6) du (.lst zs0)) du = some (.lst zs0) := upd_same
      generalize (L2.upd (TR.fz B1 H6) du (.lst zs0)) = B2 at P7 eN hdB
      have dB2 := dB.trans eN
      -- its double
      refine ⟨_, rfl, _, rfl, p, B2, _, r, us, ts, L, wd, rfl, P7, by omega, eN _ _ hrB, KB.ex eN, rt, by omega, fun B3 H7 tr tzs told R e3 P8 htr KT rtT tl9 bis => ?_⟩
      refine ⟨_, _, rfl, ?_⟩
      have fmT : Fm L wd D told := ⟨rtT, fun S hS => by
        rw [← hDe]
        exact bis.least rtT.n1 n0 rtT.val rt.val hS hS0⟩
      have hr3 := e3 _ _ (eN _ _ hrB)
      have hd3 := e3 _ _ hdB
      have KS3 := KB.ex (eN.trans e3)
      have KD3 := KDB.ex (eN.trans e3)
      have dB3 := dB2.trans e3
      -- all three
      refine ⟨_, rfl, _, rfl, _, rfl, by show 3 ≤ sizeLine; decide, fun l3 hl3 => ⟨l3, rfl, ⟨_, sq_of upd_same⟩, ?_⟩⟩
      obtain ⟨P9, e9⟩ := P8.made (o := .lst [.ref r, .ref tr, .ref du]) hl3
      have hl9 : (L2.upd B3 l3 (.lst [.ref r, .ref tr, .ref du])) l3 = some (.lst [.ref r, .ref tr, .ref du]) := upd_same
      have each : ∀ v ∈ [V.ref r, .ref tr, .ref du], ∃ b vs xs, v = .ref b ∧ (L2.upd B3 l3 (.lst [.ref r, .ref tr, .ref du])) b = some (.lst vs) ∧ Kids true (L2.upd B3 l3 (.lst [.ref r, .ref tr, .ref du])) vs xs ∧ Fm L wd D xs := by
        intro v hv
        rcases List.mem_cons.mp hv with e | hv
        · exact ⟨r, us, ts, e, e9 _ _ hr3, KS3.ex e9, fmS⟩
        rcases List.mem_cons.mp hv with e | hv
        · exact ⟨tr, tzs, told, e, e9 _ _ htr, KT.ex e9, fmT⟩
        · exact ⟨du, zs0, D, List.mem_singleton.mp hv, e9 _ _ hd3, KD3.ex e9, fmD⟩
      have htr9 := e9 _ _ htr
      have hd9 := e9 _ _ hd3
      have KT9 := KT.ex e9
      have KD9 := KD3.ex e9
      have dB9 := dB3.trans e9
      generalize (L2.upd B3 l3 (.lst [.ref r, .ref tr, .ref du])) = B4 at P9 hl9 each htr9 hd9 KT9 KD9 dB9
      generalize (L2.upd H7 l3 (.lst [.ref r, .ref tr, .ref du])) = G at P9 ⊢
      refine for_list (xs := [.ref r, .ref tr, .ref du]) (fun j σ H' => ∃ z9 z10 z11 z12 z13 z14 z15 : Option V, σ = [some (.ref a), some (.ref p.d), some (.int (0 + (i : Int))), some (.str (tx L)), some (.int (wd : Int)), some (.int (mn : Int)), some (.ref r), some (.ref du), some (.ref tr), z9, z10, z11, z12, z13, z14, z15] ∧ Ex G H')
        ⟨_, _, _, _, _, _, _, rfl, Ex.refl _⟩ (fun j σ H' _ hw => by
          obtain ⟨_, _, _, _, _, _, _, _, e⟩ := hw
          exact sq_of (e _ _ (P9.1 _ _ hl9))) (fun j x σ H' hx hw => ?_) (fun σ H' hw => ?_)
      · obtain ⟨z9, z10, z11, z12, z13, z14, z15, rfl, eG⟩ := hw
        obtain ⟨b, vs, xs, rfl, hb, KX, fx⟩ := each x (List.mem_of_getElem? hx)
        have eB := P9.1.trans eG
        have rx := fx.rt
        have xn1 := rx.n1
        have xn64 := rx.n64
        have tot := rx.total
        have w8 := rx.w8
        -- the searcher, its form
        refine ⟨_, rfl, _, rfl, _, rfl, fun o dx ho hdx hne => mk_sp (kt := false) ho hdx hne (eB _ _ hb) (KX.ex eB) hLG (by omega) (by omega) (by omega) (by omega) (fun t ht => ⟨rx.ok t ht, by have := rx.dp t ht; omega⟩) (by omega) fun H8 e8 SO => ⟨rfl, ?_⟩⟩
        obtain ⟨dxo, sto, uso, s1, s2, s3⟩ := SO.ex
        refine ⟨_, rfl, o, dxo, _, rfl, s1, rfl, o, L, wd, xs, rfl, SO, rx.up (by omega) (by omega), by omega, fun o2 H9 S2 e9 ho2 hS2 SO2 => ?_⟩
        rw [fx.fm S2 hS2] at SO2
        have rD := fmD.rt
        have dn1 := rD.n1
        have dn64 := rD.n64
        have dtot := rD.total
        obtain ⟨dx2, st2, us2, a1, a2, a3⟩ := SO2.ex
        have eB9 := (eB.trans e8).trans e9
        have hdu9 := eB9 _ _ hd9
        have KD9' := KD9.ex eB9
        -- its text, its letters and width
        refine ⟨_, rfl, o2, C_Searcher, dx2, _, _, rfl, a1, S.cl, S.ns, sFs_s _ _ _ _, ?_⟩
        show RP K [.ref st2] H9 _
        refine repr_st a2 a3 w8 dn64 rD.ok fmD.depth (by omega) ?_
        refine ⟨_, rfl, du, _, rfl, .inl ⟨sq_of hdu9, fun u1 hu1 => ?_⟩⟩
        have f1 := Ex.new (o := .tup zs0) hu1
        show RP K [.ref u1] (L2.upd H9 u1 (.tup zs0)) _
        refine repr_st upd_same (KD9'.ex f1) w8 dn64 rD.ok fmD.depth (by omega) ?_
        refine ⟨rfl, _, rfl, ite2 (fun hb => absurd hb (by simp)) (fun _ => ?_)⟩
        have a1' := f1 _ _ a1
        refine ⟨_, rfl, o2, C_Searcher, dx2, _, _, rfl, a1', S.cl, S.nl, sFs_l _ _ _ _, _, rfl, o2, C_Searcher, dx2, _, _, rfl, a1', S.cl, S.nw, sFs_w _ _ _ _, by show 2 ≤ sizeLine; decide, fun u2 hu2 => ⟨_, rfl, _, rfl, by show 2 ≤ sizeLine; decide, fun u3 hu3 => ?_⟩⟩
        have f2 := Ex.new (o := .tup [.str (tx L), .int (wd : Int)]) hu2
        have f3 := Ex.new (o := .tup [.str (tx L), .int (wd : Int)]) hu3
        refine ⟨lw L wd, lw L wd, .tup (st_of (f3 _ _ upd_same)) (.cons (.str _) (.cons (.int _) .nil)), .tup (st_of upd_same) (.cons (.str _) (.cons (.int _) .nil)), lw_shaped hLG wd, lw_shaped hLG wd, _, rfl, ?_⟩
        rw [lw_same]
        refine ite2 (fun hb => absurd hb (by simp)) (fun _ => ?_)
        have e10 := f1.trans (f2.trans f3)
        have SO2' := SO2.up e10
        have a1'' := e10 _ _ a1
        have s1' := (e9.trans e10) _ _ s1
        have s2' := (e9.trans e10) _ _ s2
        have s3' := s3.ex (e9.trans e10)
        have SO' := SO.up (e9.trans e10)
        have eB10 := eB9.trans e10
        have eH10 := (e8.trans e9).trans e10
        generalize (L2.upd (L2.upd (L2.upd H9 u1 (.tup zs0)) u2 (.tup [.str (tx L), .int (wd : Int)])) u3 (.tup [.str (tx L), .int (wd : Int)])) = H10 at SO2' a1'' s1' s2' s3' SO' eB10 eH10 ⊢
        -- the form of its form
        refine ⟨_, rfl, o2, dx2, _, rfl, a1'', rfl, o2, L, wd, D, rfl, SO2', rD.up (by omega) (by omega), by omega, fun o3 H11 S3 e11 ho3 hS3 SO3 => ?_⟩
        rw [fmD.fm S3 hS3] at SO3
        obtain ⟨dx3, st3, us3, c1, c2, c3⟩ := SO3.ex
        refine ⟨_, rfl, o3, o2, dx3, _, rfl, rfl, c1, .inl ⟨_, _, e11 _ _ a1''⟩, .inl ⟨o3, o2, L, L, wd, wd, D, D, true, rfl, SO3, SO2'.up e11, fmD.depth, fmD.depth, by simp, fun H12 e12 => ⟨_, rfl, _, rfl, ite2 (fun hb => absurd hb (by simp)) (fun _ => ?_)⟩⟩⟩
        have e112 := e11.trans e12
        -- its text
        refine ⟨_, rfl, o, C_Searcher, dxo, _, _, rfl, e112 _ _ s1', S.cl, S.ns, sFs_s _ _ _ _, ?_⟩
        show RP K [.ref sto] H12 _
        refine repr_st (e112 _ _ s2') (s3'.ex e112) w8 xn64 rx.ok fx.depth (by omega) ?_
        refine ⟨_, rfl, b, _, rfl, .inl ⟨sq_of ((eB10.trans e112) _ _ hb), fun u4 hu4 => ?_⟩⟩
        have f4 := Ex.new (o := .tup vs) hu4
        show RP K [.ref u4] (L2.upd H12 u4 (.tup vs)) _
        refine repr_st upd_same ((KX.ex (eB10.trans e112)).ex f4) w8 xn64 rx.ok fx.depth (by omega) ?_
        refine ⟨rfl, _, rfl, ite2 (fun hb => absurd hb (by simp)) (fun _ => ?_)⟩
        have e13 := e112.trans f4
        generalize (L2.upd H12 u4 (.tup vs)) = H13 at e13 ⊢
        -- its form again
        refine ⟨_, rfl, o, dxo, _, rfl, e13 _ _ s1', rfl, o, L, wd, xs, rfl, SO'.up e13, rx.up (by omega) (by omega), by omega, fun o4 H14 S4 e14 ho4 hS4 SO4 => ?_⟩
        rw [fx.fm S4 hS4] at SO4
        obtain ⟨dx4, st4, us4, g1, g2, g3⟩ := SO4.ex
        refine ⟨_, rfl, o4, o2, dx4, _, rfl, rfl, g1, .inl ⟨_, _, (e13.trans e14) _ _ a1''⟩, .inl ⟨o4, o2, L, L, wd, wd, D, D, true, rfl, SO4, SO2'.up (e13.trans e14), fmD.depth, fmD.depth, by simp, fun H15 e15 => ⟨_, rfl, _, rfl, ite2 (fun hb => absurd hb (by simp)) (fun _ => ?_)⟩⟩⟩
        exact ⟨_, _, _, _, _, _, _, rfl, (eG.trans eH10).trans ((e13.trans e14).trans e15)⟩
      · obtain ⟨z9, z10, z11, z12, z13, z14, z15, rfl, eG⟩ := hw
        have P10 := P9.ex eG
        -- the text
        refine ⟨_, rfl, _, rfl, _, rfl, by show 1 ≤ sizeLine; decide, fun a3 ha3 => ?_⟩
        obtain ⟨P11, e11⟩ := P10.made (o := .lst [.str (tx L)]) ha3
        have g3 : (L2.upd B4 a3 (.lst [.str (tx L)])) a3 = some (.lst [.str (tx L)]) := upd_same
        have htrC := e11 _ _ htr9
        have hduC := e11 _ _ hd9
        have KTC := KT9.ex e11
        have KDC := KD9.ex e11
        have dBC := dB9.trans e11
        generalize (L2.upd B4 a3 (.lst [.str (tx L)])) = B5 at P11 g3 htrC hduC KTC KDC dBC
        refine ⟨p, B5, _, 20, L, a3, rfl, P11, by omega, g3, L2', L4, by decide, fun H12 X P12 lX mX => ?_⟩
        have rT := fmT.rt
        have rD := fmD.rt
        have tn1 := rT.n1
        have tn64 := rT.n64
        have dn1 := rD.n1
        have dn64 := rD.n64
        have ttot := rT.total
        have dtot := rD.total
        have w8 := rT.w8
        -- the two traces
        refine ⟨_, rfl, _, rfl, _, rfl, fun o1 dx1 ho1 hdx1 hne1 => mk_sp (kt := false) ho1 hdx1 hne1 (P12.1 _ _ htrC) (KTC.ex P12.1) hLG (by omega) (by omega) (by omega) (by omega) (fun t ht => ⟨rT.ok t ht, by have := rT.dp t ht; omega⟩) (by omega) fun H13 e13 SO1 => ⟨rfl, _, rfl, ?_⟩⟩
        refine ⟨o1, L, wd, told, X, ⟨SO1, hLG, by omega, by omega, by omega, by omega, rT.ok, by omega⟩, rfl, mX, by omega, fun H14 t1 e14 TO1 => ?_⟩
        have e134 := e13.trans e14
        refine ⟨_, rfl, _, rfl, _, rfl, fun o2 dx2 ho2 hdx2 hne2 => mk_sp (kt := false) ho2 hdx2 hne2 (e134 _ _ (P12.1 _ _ hduC)) ((KDC.ex P12.1).ex e134) hLG (by omega) (by omega) (by omega) (by omega) (fun t ht => ⟨rD.ok t ht, by have := rD.dp t ht; omega⟩) (by omega) fun H15 e15 SO2 => ⟨rfl, _, rfl, ?_⟩⟩
        refine ⟨o2, L, wd, D, X, ⟨SO2, hLG, by omega, by omega, by omega, by omega, rD.ok, by omega⟩, rfl, mX, by omega, fun H16 t2 e16 TO2 => ?_⟩
        refine ⟨_, _, rfl, ?_⟩
        have q1 := LM.search_bis bis wd L X (X.length + 1) 0 bis.z
        have q2 := LM.search_bis bisD wd L X (X.length + 1) 0 bisD.z
        obtain ⟨W1, hW1⟩ : ∃ R, search wd told L X (X.length + 1) 0 0 = R := ⟨_, rfl⟩
        obtain ⟨W2, hW2⟩ : ∃ R, search wd D L X (X.length + 1) 0 0 = R := ⟨_, rfl⟩
        rw [hW1] at TO1 q1
        rw [hW2] at TO2 q2
        have k1 : W1.2 = W2.2 := by rw [q1.1, q2.1]
        have k2 : W1.1.map (fun x => x.1) = W2.1.map (fun x => x.1) := by rw [q1.2.1, q2.2.1]
        have k3 : costN W1.1 = costN W2.1 := by rw [q1.2.2, q2.2.2]
        have TO1' := TO1.up (e15.trans e16)
        have P16 := ((P12.ex e134).ex (e15.trans e16))
        obtain ⟨dxa, wa, ta, usa, vsa, m1, m2, m3, m4, m5⟩ := TO1'.ex
        obtain ⟨dxb, wb, tb, usb, vsb, n1', n2', n3', n4', n5'⟩ := TO2.ex
        have lw1 : W1.1.length ≤ 30 := by
          have := search_fuel (w := wd) (ts := told) (L := L) (X := X) (X.length + 1) 0 0
          rw [hW1] at this
          omega
        have lw2 : W2.1.length ≤ 30 := by
          have := search_fuel (w := wd) (ts := D) (L := L) (X := X) (X.length + 1) 0 0
          rw [hW2] at this
          omega
        refine ⟨_, rfl, t1, C_Trace, dxa, _, _, rfl, m1, ST.cl, ST.nt, tFs_t _ _ _, _, rfl, t1, C_Trace, dxa, _, _, rfl, m1, ST.cl, ST.nc, tFs_c _ _ _, by show 2 ≤ sizeLine; decide, fun u1 hu1 => ?_⟩
        have f1 := Ex.new (o := .tup [.ref ta, .int (costN W1.1 : Nat)]) hu1
        refine ⟨_, rfl, t2, C_Trace, dxb, _, _, rfl, f1 _ _ n1', ST.cl, ST.nt, tFs_t _ _ _, _, rfl, t2, C_Trace, dxb, _, _, rfl, f1 _ _ n1', ST.cl, ST.nc, tFs_c _ _ _, by show 2 ≤ sizeLine; decide, fun u2 hu2 => ?_⟩
        have f2 := Ex.new (o := .tup [.ref tb, .int (costN W2.1 : Nat)]) hu2
        have f12 := f1.trans f2
        have hd1 : Dp K (L2.upd (L2.upd H16 u1 (.tup [.ref ta, .int (costN W1.1 : Nat)])) u2 (.tup [.ref tb, .int (costN W2.1 : Nat)])) (.ref u1) (tc W1.2 (costN W1.1)) := .tup (st_of (f2 _ _ upd_same)) (.cons (.tup (st_of (f12 _ _ m4)) (m5.ex f12).dp) (.cons (.int _) .nil))
        have hd2 : Dp K (L2.upd (L2.upd H16 u1 (.tup [.ref ta, .int (costN W1.1 : Nat)])) u2 (.tup [.ref tb, .int (costN W2.1 : Nat)])) (.ref u2) (tc W2.2 (costN W2.1)) := .tup (st_of upd_same) (.cons (.tup (st_of (f12 _ _ n4')) (n5'.ex f12).dp) (.cons (.int _) .nil))
        refine ⟨tc W1.2 (costN W1.1), tc W2.2 (costN W2.1), hd1, hd2, tc_shaped _ _, tc_shaped _ _, _, rfl, ?_⟩
        rw [k1, k3, tc_same]
        refine ite2 (fun hb => absurd hb (by simp)) (fun _ => ?_)
        clear hd1 hd2
        have m1' := f12 _ _ m1
        have m2' := f12 _ _ m2
        have m3' := m3.ex f12
        have n1'' := f12 _ _ n1'
        have n2'' := f12 _ _ n2'
        have n3'' := n3'.ex f12
        have P18 := P16.ex f12
        rw [k3] at m1' P18 m2' m3' n1'' n2'' n3''
        generalize (L2.upd (L2.upd H16 u1 (.tup [.ref ta, .int (costN W2.1 : Nat)])) u2 (.tup [.ref tb, .int (costN W2.1 : Nat)])) = H18 at m1' m2' m3' n1'' n2'' n3'' P18 ⊢
        -- the windows' places
        have lma := m3'.len
        have lnb := n3''.len
        refine ⟨_, rfl, t1, C_Trace, dxa, _, _, rfl, m1', ST.cl, ST.nw, tFs_w _ _ _, wa, rfl, ⟨usa, st_of m2'⟩, fun D1 hD1 => ?_⟩
        refine lc_tup (xs := usa) (fun j H' => Ex H18 H' ∧ H' D1 = some (.lst (nV ((W1.1.take j).map fun x => x.1)))) ⟨Ex.new hD1, upd_same⟩ (fun j H' _ p => st_of (p.1 _ _ m2')) (fun j x H' hx p => ?_) (fun H19 p => ?_)
        · obtain ⟨e19, hz⟩ := p
          obtain ⟨x', b', p', q', us2, rs2, rfl, hw, r1, r2, r3⟩ := m3'.get hx
          refine ⟨rfl, _, rfl, x', _, _, _, rfl, rfl, st_of (e19 _ _ r1), rfl, ?_⟩
          refine ⟨_, hz, ?_, e19.mut hD1, ?_⟩
          · rw [nV_len, List.length_map, List.length_take]
            exact sz_k (by omega)
          · rw [upd_same, take_next' hw, List.map_append]
            unfold nV
            rw [List.map_append]
            rfl
        obtain ⟨e19, hz1⟩ := p
        rw [lma, List.take_length] at hz1
        refine ⟨_, rfl, t2, C_Trace, dxb, _, _, rfl, e19 _ _ n1'', ST.cl, ST.nw, tFs_w _ _ _, wb, rfl, ⟨usb, st_of (e19 _ _ n2'')⟩, fun D2 hD2 => ?_⟩
        refine lc_tup (xs := usb) (fun j H' => Ex H19 H' ∧ H' D2 = some (.lst (nV ((W2.1.take j).map fun x => x.1)))) ⟨Ex.new hD2, upd_same⟩ (fun j H' _ p => st_of (p.1 _ _ (e19 _ _ n2''))) (fun j x H' hx p => ?_) (fun H20 p => ?_)
        · obtain ⟨e20, hz⟩ := p
          obtain ⟨x', b', p', q', us2, rs2, rfl, hw, r1, r2, r3⟩ := n3''.get hx
          refine ⟨rfl, _, rfl, x', _, _, _, rfl, rfl, st_of (e20 _ _ (e19 _ _ r1)), rfl, ?_⟩
          refine ⟨_, hz, ?_, e20.mut hD2, ?_⟩
          · rw [nV_len, List.length_map, List.length_take]
            exact sz_k (by omega)
          · rw [upd_same, take_next' hw, List.map_append]
            unfold nV
            rw [List.map_append]
            rfl
        obtain ⟨e20, hz2⟩ := p
        rw [lnb, List.take_length, ← k2] at hz2
        refine ⟨_, _, nd_dp (sq_of (e20 _ _ hz1)), nd_dp (sq_of hz2), nd_shaped _, nd_shaped _, _, rfl, ?_⟩
        rw [nd_same]
        refine ite2 (fun hb => absurd hb (by simp)) (fun _ => ?_)
        refine ⟨_, _, _, _, _, _, _, _, _, _, _, _, _, _, rfl, ?_⟩
        exact (((P18.ex (e19.trans e20)).base P1 dBC)).le (by omega)
    · obtain ⟨y2, y3, y4, y5, y6, y7, y8, y9, y10, y11, y12, y13, y14, y15, rfl, P1⟩ := hw
      exact q _
end
end Law

namespace Law
open PySem PySem.Spec PyProof.Rows L2 Evl TR EK
theorem kit_mk {K : PySem.W.Frag} {t : Value} {c : Addr} {b : Bool} (n : (t == .ref c) = false ∨ b = true) (h1 : PySem.W.isClsIn K c = true) (h2 : PySem.W.typeIn K (.ref c) = some (.type "type")) (h3 : PySem.W.subIn K t (.ref c) = some b) : PySem.W.kitOne K t (.ref c) = some b := by
  have e : PySem.W.kitCls K t (.ref c) = some b := by
    unfold PySem.W.kitCls
    show (if ((PySem.W.clsIn K c).isSome && PySem.W.typeIn K (.ref c) == some (.type "type")) = true then PySem.W.subIn K t (.ref c) else none) = some b
    rw [if_pos (by rw [Bool.and_eq_true]; exact ⟨h1, by rw [h2]; simp⟩)]
    exact h3
  unfold PySem.W.kitOne
  by_cases q : (t == .ref c) = true
  · rw [if_pos q]
    rcases n with n | n
    · rw [n] at q
      cases q
    · rw [n]
  · rw [if_neg q]
    exact e
theorem exm_mk {K : PySem.W.Frag} {t : Value} {c : Addr} {b : Bool} (h0 : PySem.W.subIn K (.ref c) (.type "BaseException") = some true) (h1 : PySem.W.isClsIn K c = true) (h2 : PySem.W.typeIn K (.ref c) = some (.type "type")) (h3 : PySem.W.subIn K t (.ref c) = some b) : PySem.W.exmOne K t (.ref c) = some b := by
  unfold PySem.W.exmOne
  rw [if_pos (by rw [h0]; simp)]
  unfold PySem.W.kitCls
  show (if ((PySem.W.clsIn K c).isSome && PySem.W.typeIn K (.ref c) == some (.type "type")) = true then PySem.W.subIn K t (.ref c) else none) = some b
  rw [if_pos (by rw [Bool.and_eq_true]; exact ⟨h1, by rw [h2]; simp⟩)]
  exact h3
theorem all_mk {l : PySem.W.OpenLaw} {w : World} {K : PySem.W.Frag} {h : Heap} {mg : Str → Option Value} {fa f1 f2 f3 f4 f5 f6 f7 f8 f9 f10 f11 f12 f13 f14 f15 f16 f17 f18 f19 f20 f21 f22 f23 f24 f25 f26 f27 f28 f29 f30 f31 fS fT fE fL CS CT : Addr} (X : K.In h) (G : h.Ns mainGlobals mg) (hfa : mg "law" = some (.ref fa))
    {od1 an1 od2 an2 od3 an3 od4 an4 od5 an5 od6 an6 od7 an7 od8 an8 od9 an9 od10 an10 od11 an11 od12 an12 od13 an13 od14 an14 od15 an15 od16 an16 od17 an17 od18 an18 od19 an19 od20 an20 od21 an21 od22 an22 od23 an23 od24 an24 od25 an25 od26 an26 od27 an27 od28 an28 od29 an29 od30 an30 od31 an31 odS anS odT anT odE anE odL anL : Option Addr} {sl1 sl2 sl3 sl4 sl5 sl6 sl7 sl8 sl9 sl10 sl11 sl12 sl13 sl14 sl15 sl16 sl17 sl18 sl19 sl20 sl21 sl22 sl23 sl24 sl25 sl26 sl27 sl28 sl29 sl30 sl31 slS slT slE slL : Array (Option Value)} {oc1 kV1 dc1 pm1 cd1 ct1 oc2 kV2 dc2 pm2 cd2 ct2 oc3 kV3 dc3 pm3 cd3 ct3 oc4 kV4 dc4 pm4 cd4 ct4 oc5 kV5 dc5 pm5 cd5 ct5 oc6 kV6 dc6 pm6 cd6 ct6 oc7 kV7 dc7 pm7 cd7 ct7 oc8 kV8 dc8 pm8 cd8 ct8 oc9 kV9 dc9 pm9 cd9 ct9 oc10 kV10 dc10 pm10 cd10 ct10 oc11 kV11 dc11 pm11 cd11 ct11 oc12 kV12 dc12 pm12 cd12 ct12 oc13 kV13 dc13 pm13 cd13 ct13 oc14 kV14 dc14 pm14 cd14 ct14 oc15 kV15 dc15 pm15 cd15 ct15 oc16 kV16 dc16 pm16 cd16 ct16 oc17 kV17 dc17 pm17 cd17 ct17 oc18 kV18 dc18 pm18 cd18 ct18 oc19 kV19 dc19 pm19 cd19 ct19 oc20 kV20 dc20 pm20 cd20 ct20 oc21 kV21 dc21 pm21 cd21 ct21 oc22 kV22 dc22 pm22 cd22 ct22 oc23 kV23 dc23 pm23 cd23 ct23 oc24 kV24 dc24 pm24 cd24 ct24 oc25 kV25 dc25 pm25 cd25 ct25 oc26 kV26 dc26 pm26 cd26 ct26 oc27 kV27 dc27 pm27 cd27 ct27 oc28 kV28 dc28 pm28 cd28 ct28 oc29 kV29 dc29 pm29 cd29 ct29 oc30 kV30 dc30 pm30 cd30 ct30 oc31 kV31 dc31 pm31 cd31 ct31 ocS kVS dcS pmS cdS ctS ocT kVT dcT pmT cdT ctT ocE kVE dcE pmE cdE ctE ocL kVL dcL pmL cdL ctL : Value} {t0 t1 t2 t3 t4 : Tok}
    (a1 : PySem.W.nsIn K mainGlobals "law" = some (some (.ref f1)))
    (l1 : K.lookup f1 = some ⟨oc1, od1, .func (PySem.W.fnOf "law" "law" (defArgs s_law) (defBody s_law) (defScope s_law) .none kV1 dc1 pm1 an1 cd1 ct1), sl1⟩)
    (c1 : PySem.W.codeIn K cd1 "law" = true)
    (k1 : PySem.W.keepIn K (.ref f1) = true)
    (a2 : PySem.W.nsIn K mainGlobals "_law_pen" = some (some (.ref f2)))
    (l2 : K.lookup f2 = some ⟨oc2, od2, .func (PySem.W.fnOf "_law_pen" "_law_pen" (defArgs s_lpen) (defBody s_lpen) (defScope s_lpen) .none kV2 dc2 pm2 an2 cd2 ct2), sl2⟩)
    (c2 : PySem.W.codeIn K cd2 "_law_pen" = true)
    (k2 : PySem.W.keepIn K (.ref f2) = true)
    (a3 : PySem.W.nsIn K mainGlobals "_law_draw" = some (some (.ref f3)))
    (l3 : K.lookup f3 = some ⟨oc3, od3, .func (PySem.W.fnOf "_law_draw" "_law_draw" (defArgs s_ldraw) (defBody s_ldraw) (defScope s_ldraw) .none kV3 dc3 pm3 an3 cd3 ct3), sl3⟩)
    (c3 : PySem.W.codeIn K cd3 "_law_draw" = true)
    (k3 : PySem.W.keepIn K (.ref f3) = true)
    (a4 : PySem.W.nsIn K mainGlobals "_law_pick" = some (some (.ref f4)))
    (l4 : K.lookup f4 = some ⟨oc4, od4, .func (PySem.W.fnOf "_law_pick" "_law_pick" (defArgs s_lpick) (defBody s_lpick) (defScope s_lpick) .none kV4 dc4 pm4 an4 cd4 ct4), sl4⟩)
    (c4 : PySem.W.codeIn K cd4 "_law_pick" = true)
    (k4 : PySem.W.keepIn K (.ref f4) = true)
    (a5 : PySem.W.nsIn K mainGlobals "_law_letters" = some (some (.ref f5)))
    (l5 : K.lookup f5 = some ⟨oc5, od5, .func (PySem.W.fnOf "_law_letters" "_law_letters" (defArgs s_lletters) (defBody s_lletters) (defScope s_lletters) .none kV5 dc5 pm5 an5 cd5 ct5), sl5⟩)
    (c5 : PySem.W.codeIn K cd5 "_law_letters" = true)
    (k5 : PySem.W.keepIn K (.ref f5) = true)
    (a6 : PySem.W.nsIn K mainGlobals "_law_text" = some (some (.ref f6)))
    (l6 : K.lookup f6 = some ⟨oc6, od6, .func (PySem.W.fnOf "_law_text" "_law_text" (defArgs s_ltext) (defBody s_ltext) (defScope s_ltext) .none kV6 dc6 pm6 an6 cd6 ct6), sl6⟩)
    (c6 : PySem.W.codeIn K cd6 "_law_text" = true)
    (k6 : PySem.W.keepIn K (.ref f6) = true)
    (a7 : PySem.W.nsIn K mainGlobals "is_list" = some (some (.ref f7)))
    (l7 : K.lookup f7 = some ⟨oc7, od7, .func (PySem.W.fnOf "is_list" "is_list" (defArgs s_is_list) (defBody s_is_list) (defScope s_is_list) .none kV7 dc7 pm7 an7 cd7 ct7), sl7⟩)
    (c7 : PySem.W.codeIn K cd7 "is_list" = true)
    (k7 : PySem.W.keepIn K (.ref f7) = true)
    (a8 : PySem.W.nsIn K mainGlobals "is_integer" = some (some (.ref f8)))
    (l8 : K.lookup f8 = some ⟨oc8, od8, .func (PySem.W.fnOf "is_integer" "is_integer" (defArgs s_is_integer) (defBody s_is_integer) (defScope s_is_integer) .none kV8 dc8 pm8 an8 cd8 ct8), sl8⟩)
    (c8 : PySem.W.codeIn K cd8 "is_integer" = true)
    (k8 : PySem.W.keepIn K (.ref f8) = true)
    (a9 : PySem.W.nsIn K mainGlobals "is_whole" = some (some (.ref f9)))
    (l9 : K.lookup f9 = some ⟨oc9, od9, .func (PySem.W.fnOf "is_whole" "is_whole" (defArgs s_is_whole) (defBody s_is_whole) (defScope s_is_whole) .none kV9 dc9 pm9 an9 cd9 ct9), sl9⟩)
    (c9 : PySem.W.codeIn K cd9 "is_whole" = true)
    (k9 : PySem.W.keepIn K (.ref f9) = true)
    (a10 : PySem.W.nsIn K mainGlobals "are_letters" = some (some (.ref f10)))
    (l10 : K.lookup f10 = some ⟨oc10, od10, .func (PySem.W.fnOf "are_letters" "are_letters" (defArgs s_are_letters) (defBody s_are_letters) (defScope s_are_letters) .none kV10 dc10 pm10 an10 cd10 ct10), sl10⟩)
    (c10 : PySem.W.codeIn K cd10 "are_letters" = true)
    (k10 : PySem.W.keepIn K (.ref f10) = true)
    (a11 : PySem.W.nsIn K mainGlobals "_is_part" = some (some (.ref f11)))
    (l11 : K.lookup f11 = some ⟨oc11, od11, .func (PySem.W.fnOf "_is_part" "_is_part" (defArgs s_is_part) (defBody s_is_part) (defScope s_is_part) .none kV11 dc11 pm11 an11 cd11 ct11), sl11⟩)
    (c11 : PySem.W.codeIn K cd11 "_is_part" = true)
    (k11 : PySem.W.keepIn K (.ref f11) = true)
    (a12 : PySem.W.nsIn K mainGlobals "_within" = some (some (.ref f12)))
    (l12 : K.lookup f12 = some ⟨oc12, od12, .func (PySem.W.fnOf "_within" "_within" (defArgs s_within) (defBody s_within) (defScope s_within) .none kV12 dc12 pm12 an12 cd12 ct12), sl12⟩)
    (c12 : PySem.W.codeIn K cd12 "_within" = true)
    (k12 : PySem.W.keepIn K (.ref f12) = true)
    (a13 : PySem.W.nsIn K mainGlobals "first_wrong" = some (some (.ref f13)))
    (l13 : K.lookup f13 = some ⟨oc13, od13, .func (PySem.W.fnOf "first_wrong" "first_wrong" (defArgs s_first_wrong) (defBody s_first_wrong) (defScope s_first_wrong) .none kV13 dc13 pm13 an13 cd13 ct13), sl13⟩)
    (c13 : PySem.W.codeIn K cd13 "first_wrong" = true)
    (k13 : PySem.W.keepIn K (.ref f13) = true)
    (a14 : PySem.W.nsIn K mainGlobals "all_parts" = some (some (.ref f14)))
    (l14 : K.lookup f14 = some ⟨oc14, od14, .func (PySem.W.fnOf "all_parts" "all_parts" (defArgs s_all_parts) (defBody s_all_parts) (defScope s_all_parts) .none kV14 dc14 pm14 an14 cd14 ct14), sl14⟩)
    (c14 : PySem.W.codeIn K cd14 "all_parts" = true)
    (k14 : PySem.W.keepIn K (.ref f14) = true)
    (a15 : PySem.W.nsIn K mainGlobals "renamed" = some (some (.ref f15)))
    (l15 : K.lookup f15 = some ⟨oc15, od15, .func (PySem.W.fnOf "renamed" "renamed" (defArgs s_renamed) (defBody s_renamed) (defScope s_renamed) .none kV15 dc15 pm15 an15 cd15 ct15), sl15⟩)
    (c15 : PySem.W.codeIn K cd15 "renamed" = true)
    (k15 : PySem.W.keepIn K (.ref f15) = true)
    (a16 : PySem.W.nsIn K mainGlobals "wrong_sign" = some (some (.ref f16)))
    (l16 : K.lookup f16 = some ⟨oc16, od16, .func (PySem.W.fnOf "wrong_sign" "wrong_sign" (defArgs s_wrong_sign) (defBody s_wrong_sign) (defScope s_wrong_sign) .none kV16 dc16 pm16 an16 cd16 ct16), sl16⟩)
    (c16 : PySem.W.codeIn K cd16 "wrong_sign" = true)
    (k16 : PySem.W.keepIn K (.ref f16) = true)
    (a17 : PySem.W.nsIn K mainGlobals "followed" = some (some (.ref f17)))
    (l17 : K.lookup f17 = some ⟨oc17, od17, .func (PySem.W.fnOf "followed" "followed" (defArgs s_followed) (defBody s_followed) (defScope s_followed) .none kV17 dc17 pm17 an17 cd17 ct17), sl17⟩)
    (c17 : PySem.W.codeIn K cd17 "followed" = true)
    (k17 : PySem.W.keepIn K (.ref f17) = true)
    (a18 : PySem.W.nsIn K mainGlobals "searched" = some (some (.ref f18)))
    (l18 : K.lookup f18 = some ⟨oc18, od18, .func (PySem.W.fnOf "searched" "searched" (defArgs s_searched) (defBody s_searched) (defScope s_searched) .none kV18 dc18 pm18 an18 cd18 ct18), sl18⟩)
    (c18 : PySem.W.codeIn K cd18 "searched" = true)
    (k18 : PySem.W.keepIn K (.ref f18) = true)
    (a19 : PySem.W.nsIn K mainGlobals "trace" = some (some (.ref f19)))
    (l19 : K.lookup f19 = some ⟨oc19, od19, .func (PySem.W.fnOf "trace" "trace" (defArgs s_trace) (defBody s_trace) (defScope s_trace) .none kV19 dc19 pm19 an19 cd19 ct19), sl19⟩)
    (c19 : PySem.W.codeIn K cd19 "trace" = true)
    (k19 : PySem.W.keepIn K (.ref f19) = true)
    (a20 : PySem.W.nsIn K mainGlobals "tree_text" = some (some (.ref f20)))
    (l20 : K.lookup f20 = some ⟨oc20, od20, .func (PySem.W.fnOf "tree_text" "tree_text" (defArgs s_tree_text) (defBody s_tree_text) (defScope s_tree_text) .none kV20 dc20 pm20 an20 cd20 ct20), sl20⟩)
    (c20 : PySem.W.codeIn K cd20 "tree_text" = true)
    (k20 : PySem.W.keepIn K (.ref f20) = true)
    (a21 : PySem.W.nsIn K mainGlobals "_numbered" = some (some (.ref f21)))
    (l21 : K.lookup f21 = some ⟨oc21, od21, .func (PySem.W.fnOf "_numbered" "_numbered" (defArgs s_numbered) (defBody s_numbered) (defScope s_numbered) .none kV21 dc21 pm21 an21 cd21 ct21), sl21⟩)
    (c21 : PySem.W.codeIn K cd21 "_numbered" = true)
    (k21 : PySem.W.keepIn K (.ref f21) = true)
    (a22 : PySem.W.nsIn K mainGlobals "_classes" = some (some (.ref f22)))
    (l22 : K.lookup f22 = some ⟨oc22, od22, .func (PySem.W.fnOf "_classes" "_classes" (defArgs s_classes) (defBody s_classes) (defScope s_classes) .none kV22 dc22 pm22 an22 cd22 ct22), sl22⟩)
    (c22 : PySem.W.codeIn K cd22 "_classes" = true)
    (k22 : PySem.W.keepIn K (.ref f22) = true)
    (a23 : PySem.W.nsIn K mainGlobals "_met" = some (some (.ref f23)))
    (l23 : K.lookup f23 = some ⟨oc23, od23, .func (PySem.W.fnOf "_met" "_met" (defArgs s_met) (defBody s_met) (defScope s_met) .none kV23 dc23 pm23 an23 cd23 ct23), sl23⟩)
    (c23 : PySem.W.codeIn K cd23 "_met" = true)
    (k23 : PySem.W.keepIn K (.ref f23) = true)
    (a24 : PySem.W.nsIn K mainGlobals "_law_tree" = some (some (.ref f24)))
    (l24 : K.lookup f24 = some ⟨oc24, od24, .func (PySem.W.fnOf "_law_tree" "_law_tree" (defArgs s_ltree) (defBody s_ltree) (defScope s_ltree) .none kV24 dc24 pm24 an24 cd24 ct24), sl24⟩)
    (c24 : PySem.W.codeIn K cd24 "_law_tree" = true)
    (k24 : PySem.W.keepIn K (.ref f24) = true)
    (a25 : PySem.W.nsIn K mainGlobals "_law_trees" = some (some (.ref f25)))
    (l25 : K.lookup f25 = some ⟨oc25, od25, .func (PySem.W.fnOf "_law_trees" "_law_trees" (defArgs s_ltrees) (defBody s_ltrees) (defScope s_ltrees) .none kV25 dc25 pm25 an25 cd25 ct25), sl25⟩)
    (c25 : PySem.W.codeIn K cd25 "_law_trees" = true)
    (k25 : PySem.W.keepIn K (.ref f25) = true)
    (a26 : PySem.W.nsIn K mainGlobals "_law_turned" = some (some (.ref f26)))
    (l26 : K.lookup f26 = some ⟨oc26, od26, .func (PySem.W.fnOf "_law_turned" "_law_turned" (defArgs s_lturned) (defBody s_lturned) (defScope s_lturned) .none kV26 dc26 pm26 an26 cd26 ct26), sl26⟩)
    (c26 : PySem.W.codeIn K cd26 "_law_turned" = true)
    (k26 : PySem.W.keepIn K (.ref f26) = true)
    (a27 : PySem.W.nsIn K mainGlobals "_law_leaves" = some (some (.ref f27)))
    (l27 : K.lookup f27 = some ⟨oc27, od27, .func (PySem.W.fnOf "_law_leaves" "_law_leaves" (defArgs s_lleaves) (defBody s_lleaves) (defScope s_lleaves) .none kV27 dc27 pm27 an27 cd27 ct27), sl27⟩)
    (c27 : PySem.W.codeIn K cd27 "_law_leaves" = true)
    (k27 : PySem.W.keepIn K (.ref f27) = true)
    (a28 : PySem.W.nsIn K mainGlobals "_law_least" = some (some (.ref f28)))
    (l28 : K.lookup f28 = some ⟨oc28, od28, .func (PySem.W.fnOf "_law_least" "_law_least" (defArgs s_lleast) (defBody s_lleast) (defScope s_lleast) .none kV28 dc28 pm28 an28 cd28 ct28), sl28⟩)
    (c28 : PySem.W.codeIn K cd28 "_law_least" = true)
    (k28 : PySem.W.keepIn K (.ref f28) = true)
    (a29 : PySem.W.nsIn K mainGlobals "_law_shuffled" = some (some (.ref f29)))
    (l29 : K.lookup f29 = some ⟨oc29, od29, .func (PySem.W.fnOf "_law_shuffled" "_law_shuffled" (defArgs s_lshuffled) (defBody s_lshuffled) (defScope s_lshuffled) .none kV29 dc29 pm29 an29 cd29 ct29), sl29⟩)
    (c29 : PySem.W.codeIn K cd29 "_law_shuffled" = true)
    (k29 : PySem.W.keepIn K (.ref f29) = true)
    (a30 : PySem.W.nsIn K mainGlobals "_law_spread" = some (some (.ref f30)))
    (l30 : K.lookup f30 = some ⟨oc30, od30, .func (PySem.W.fnOf "_law_spread" "_law_spread" (defArgs s_lspread) (defBody s_lspread) (defScope s_lspread) .none kV30 dc30 pm30 an30 cd30 ct30), sl30⟩)
    (c30 : PySem.W.codeIn K cd30 "_law_spread" = true)
    (k30 : PySem.W.keepIn K (.ref f30) = true)
    (a31 : PySem.W.nsIn K mainGlobals "_law_doubled" = some (some (.ref f31)))
    (l31 : K.lookup f31 = some ⟨oc31, od31, .func (PySem.W.fnOf "_law_doubled" "_law_doubled" (defArgs s_ldoubled) (defBody s_ldoubled) (defScope s_ldoubled) .none kV31 dc31 pm31 an31 cd31 ct31), sl31⟩)
    (c31 : PySem.W.codeIn K cd31 "_law_doubled" = true)
    (k31 : PySem.W.keepIn K (.ref f31) = true)
    (aCS : PySem.W.nsIn K mainGlobals "Searcher" = some (some (.ref CS)))
    (aS : PySem.W.findIn K (.ref CS) "__init__" = some (some (.ref fS)))
    (lS : K.lookup fS = some ⟨ocS, odS, .func (PySem.W.fnOf "__init__" "Searcher.__init__" (defArgs s_Searcher_init) (defBody s_Searcher_init) (defScope s_Searcher_init) .none kVS dcS pmS anS cdS ctS), slS⟩)
    (cS : PySem.W.codeIn K cdS "Searcher.__init__" = true)
    (kS : PySem.W.keepIn K (.ref fS) = true)
    (nS1 : PySem.W.findIn K (.ref CS) "letters" = some none)
    (nS2 : PySem.W.findIn K (.ref CS) "width" = some none)
    (nS3 : PySem.W.findIn K (.ref CS) "states" = some none)
    (nS4 : PySem.W.findIn K (.ref CS) "nodes" = some none)
    (g4S : PySem.W.findIn K (.ref CS) "__setattr__" = some (some (.builtin "object.__setattr__")))
    (m2S : PySem.W.keepIn K (.ref CS) = true)
    (aCT : PySem.W.nsIn K mainGlobals "Trace" = some (some (.ref CT)))
    (aT : PySem.W.findIn K (.ref CT) "__init__" = some (some (.ref fT)))
    (lT : K.lookup fT = some ⟨ocT, odT, .func (PySem.W.fnOf "__init__" "Trace.__init__" (defArgs s_Trace_init) (defBody s_Trace_init) (defScope s_Trace_init) .none kVT dcT pmT anT cdT ctT), slT⟩)
    (cT : PySem.W.codeIn K cdT "Trace.__init__" = true)
    (kT : PySem.W.keepIn K (.ref fT) = true)
    (nT1 : PySem.W.findIn K (.ref CT) "windows" = some none)
    (nT2 : PySem.W.findIn K (.ref CT) "told" = some none)
    (nT3 : PySem.W.findIn K (.ref CT) "cost" = some none)
    (g4T : PySem.W.findIn K (.ref CT) "__setattr__" = some (some (.builtin "object.__setattr__")))
    (m2T : PySem.W.keepIn K (.ref CT) = true)
    (aE : PySem.W.findIn K (.ref CS) "__eq__" = some (some (.ref fE)))
    (lE : K.lookup fE = some ⟨ocE, odE, .func (PySem.W.fnOf "__eq__" "Searcher.__eq__" (defArgs s_Searcher_eq) (defBody s_Searcher_eq) (defScope s_Searcher_eq) .none kVE dcE pmE anE cdE ctE), slE⟩)
    (cE : PySem.W.codeIn K cdE "Searcher.__eq__" = true)
    (kE : PySem.W.keepIn K (.ref fE) = true)
    (nfE : PySem.W.isFn K (.ref fE) = true)
    (aL : PySem.W.findIn K (.ref CS) "least" = some (some (.ref fL)))
    (lL : K.lookup fL = some ⟨ocL, odL, .func (PySem.W.fnOf "least" "Searcher.least" (defArgs s_Searcher_least) (defBody s_Searcher_least) (defScope s_Searcher_least) .none kVL dcL pmL anL cdL ctL), slL⟩)
    (cL : PySem.W.codeIn K cdL "Searcher.least" = true)
    (kL : PySem.W.keepIn K (.ref fL) = true)
    (nfL : PySem.W.isFn K (.ref fL) = true)
    (iS : PySem.W.isFn K (.ref fS) = true)
    (m1S : PySem.W.makesIn K CS = true)
    (g1S : PySem.W.plainGet K CS Str.empty = true)
    (g2S : PySem.W.hasDictIn K CS = true)
    (g3S : PySem.W.plainOver K CS = true)
    (iT : PySem.W.isFn K (.ref fT) = true)
    (m1T : PySem.W.makesIn K CT = true)
    (g1T : PySem.W.plainGet K CT Str.empty = true)
    (g2T : PySem.W.hasDictIn K CT = true)
    (g3T : PySem.W.plainOver K CT = true)
    (j1 : PySem.W.findIn K (.ref CS) "__class__" = some (some (.builtin "object.__class__")))
    (j2 : PySem.W.specialIn K (.builtin "object.__class__") "__get__" = some (some (.builtin "getset_descriptor.__get__")))
    (j3 : PySem.W.takesIn K (.builtin "object.__class__") = some true)
    (j4 : PySem.W.mroIn K CS (.type "object") = some true)
    (j5 : PySem.W.isClsIn K CS = true)
    (j6 : PySem.W.typeIn K (.ref CS) = some (.type "type"))
    (j7 : PySem.W.findIn K (.ref CS) "__ne__" = some (some (.builtin "object.__ne__")))
    (v0 : PySem.W.nsIn K mainGlobals "DEEPEST" = some (some (.int 40 t0)))
    (v1 : PySem.W.nsIn K mainGlobals "MOST_WIDTH" = some (some (.int 8 t1)))
    (v2 : PySem.W.nsIn K mainGlobals "MOST_STATES" = some (some (.int 64 t2)))
    (v3 : PySem.W.nsIn K mainGlobals "MOST_NODES" = some (some (.int 3000 t3)))
    (v4 : PySem.W.nsIn K mainGlobals "MOST_LETTERS" = some (some (.int 5000 t4)))
    (z0 : PySem.W.nsIn K mainGlobals "len" = some none)
    (z1 : PySem.W.nsIn K mainGlobals "int" = some none)
    (z2 : PySem.W.nsIn K mainGlobals "bool" = some none)
    (z3 : PySem.W.nsIn K mainGlobals "abs" = some none)
    (z4 : PySem.W.nsIn K mainGlobals "min" = some none)
    (z5 : PySem.W.nsIn K mainGlobals "list" = some none)
    (z6 : PySem.W.nsIn K mainGlobals "all" = some none)
    (z7 : PySem.W.nsIn K mainGlobals "range" = some none)
    (z8 : PySem.W.nsIn K mainGlobals "isinstance" = some none)
    (z9 : PySem.W.nsIn K mainGlobals "str" = some none)
    (z10 : PySem.W.nsIn K mainGlobals "set" = some none)
    (z11 : PySem.W.nsIn K mainGlobals "tuple" = some none)
    (z12 : PySem.W.nsIn K mainGlobals "dict" = some none)
    (z13 : PySem.W.nsIn K mainGlobals "enumerate" = some none)
    (z14 : PySem.W.nsIn K mainGlobals "reversed" = some none)
    (z15 : PySem.W.nsIn K mainGlobals "sum" = some none)
    (z16 : PySem.W.nsIn K mainGlobals "zip" = some none)
    (z17 : PySem.W.nsIn K mainGlobals "max" = some none)
    (z18 : PySem.W.nsIn K mainGlobals "repr" = some none) :
    ∃ fd : FuncData, (∀ (s : Shared) (v : Value), BindsTo s fd ⟨[v], []⟩ [("_law_script", v)]) ∧ ∀ base : Heap, K.In base → base.Ns mainGlobals mg → GD.Gd l.prog w K mg base 46 fa fd ["_law_script"] (spLaw K) := by
  have e := hfa.symm.trans (PySem.W.mg_of X G a1)
  cases e
  have F1 := fun_mk (st := s_law) l1 c1 k1
  have F2 := fun_mk (st := s_lpen) l2 c2 k2
  have b2 := F2.binds (ps := ["_law_script"]) fun _ _ _ _ _ _ us hl => match us, hl with | [_], _ => rfl
  have F3 := fun_mk (st := s_ldraw) l3 c3 k3
  have b3 := F3.binds (ps := ["_law_pen_here", "_law_many"]) fun _ _ _ _ _ _ us hl => match us, hl with | [_, _], _ => rfl
  have F4 := fun_mk (st := s_lpick) l4 c4 k4
  have b4 := F4.binds (ps := ["_law_pen_here", "_law_some"]) fun _ _ _ _ _ _ us hl => match us, hl with | [_, _], _ => rfl
  have F5 := fun_mk (st := s_lletters) l5 c5 k5
  have b5 := F5.binds (ps := ["_law_pen_here"]) fun _ _ _ _ _ _ us hl => match us, hl with | [_], _ => rfl
  have F6 := fun_mk (st := s_ltext) l6 c6 k6
  have b6 := F6.binds (ps := ["_law_pen_here", "_law_letters_here", "_law_words", "_law_most"]) fun _ _ _ _ _ _ us hl => match us, hl with | [_, _, _, _], _ => rfl
  have F7 := fun_mk (st := s_is_list) l7 c7 k7
  have b7 := F7.binds (ps := ["value"]) fun _ _ _ _ _ _ us hl => match us, hl with | [_], _ => rfl
  have F8 := fun_mk (st := s_is_integer) l8 c8 k8
  have b8 := F8.binds (ps := ["value"]) fun _ _ _ _ _ _ us hl => match us, hl with | [_], _ => rfl
  have F9 := fun_mk (st := s_is_whole) l9 c9 k9
  have b9 := F9.binds (ps := ["value", "low", "high"]) fun _ _ _ _ _ _ us hl => match us, hl with | [_, _, _], _ => rfl
  have F10 := fun_mk (st := s_are_letters) l10 c10 k10
  have b10 := F10.binds (ps := ["value"]) fun _ _ _ _ _ _ us hl => match us, hl with | [_], _ => rfl
  have F11 := fun_mk (st := s_is_part) l11 c11 k11
  have b11 := F11.binds (ps := ["part", "letters", "width", "states"]) fun _ _ _ _ _ _ us hl => match us, hl with | [_, _, _, _], _ => rfl
  have F12 := fun_mk (st := s_within) l12 c12 k12
  have b12 := F12.binds (ps := ["part"]) fun _ _ _ _ _ _ us hl => match us, hl with | [_], _ => rfl
  have F13 := fun_mk (st := s_first_wrong) l13 c13 k13
  have b13 := F13.binds (ps := ["tree", "letters", "width", "states"]) fun _ _ _ _ _ _ us hl => match us, hl with | [_, _, _, _], _ => rfl
  have F14 := fun_mk (st := s_all_parts) l14 c14 k14
  have b14 := F14.binds (ps := ["tree"]) fun _ _ _ _ _ _ us hl => match us, hl with | [_], _ => rfl
  have F15 := fun_mk (st := s_renamed) l15 c15 k15
  have b15 := F15.binds (ps := ["tree", "names"]) fun _ _ _ _ _ _ us hl => match us, hl with | [_, _], _ => rfl
  have F16 := fun_mk (st := s_wrong_sign) l16 c16 k16
  have b16 := F16.binds (ps := ["letters", "text"]) fun _ _ _ _ _ _ us hl => match us, hl with | [_, _], _ => rfl
  have F17 := fun_mk (st := s_followed) l17 c17 k17
  have b17 := F17.binds (ps := ["tree", "letters", "signs"]) fun _ _ _ _ _ _ us hl => match us, hl with | [_, _, _], _ => rfl
  have F18 := fun_mk (st := s_searched) l18 c18 k18
  have b18 := F18.binds (ps := ["searcher", "text"]) fun _ _ _ _ _ _ us hl => match us, hl with | [_, _], _ => rfl
  have F19 := fun_mk (st := s_trace) l19 c19 k19
  have b19 := F19.binds (ps := ["searcher", "text"]) fun _ _ _ _ _ _ us hl => match us, hl with | [_, _], _ => rfl
  have F20 := fun_mk (st := s_tree_text) l20 c20 k20
  have b20 := F20.binds (ps := ["letters", "tree"]) fun _ _ _ _ _ _ us hl => match us, hl with | [_, _], _ => rfl
  have F21 := fun_mk (st := s_numbered) l21 c21 k21
  have b21 := F21.binds (ps := ["texts"]) fun _ _ _ _ _ _ us hl => match us, hl with | [_], _ => rfl
  have F22 := fun_mk (st := s_classes) l22 c22 k22
  have b22 := F22.binds (ps := ["letters", "states"]) fun _ _ _ _ _ _ us hl => match us, hl with | [_, _], _ => rfl
  have F23 := fun_mk (st := s_met) l23 c23 k23
  have b23 := F23.binds (ps := ["states", "classes"]) fun _ _ _ _ _ _ us hl => match us, hl with | [_, _], _ => rfl
  have F24 := fun_mk (st := s_ltree) l24 c24 k24
  have b24 := F24.binds (ps := ["_law_pen_here", "_law_letters_here", "_law_width", "_law_states", "_law_depth"]) fun _ _ _ _ _ _ us hl => match us, hl with | [_, _, _, _, _], _ => rfl
  have F25 := fun_mk (st := s_ltrees) l25 c25 k25
  have b25 := F25.binds (ps := ["_law_pen_here", "_law_letters_here", "_law_width", "_law_many", "_law_depth"]) fun _ _ _ _ _ _ us hl => match us, hl with | [_, _, _, _, _], _ => rfl
  have F26 := fun_mk (st := s_lturned) l26 c26 k26
  have b26 := F26.binds (ps := ["_law_tree_here", "_law_numbers"]) fun _ _ _ _ _ _ us hl => match us, hl with | [_, _], _ => rfl
  have F27 := fun_mk (st := s_lleaves) l27 c27 k27
  have b27 := F27.binds (ps := ["_law_tree_here"]) fun _ _ _ _ _ _ us hl => match us, hl with | [_], _ => rfl
  have F28 := fun_mk (st := s_lleast) l28 c28 k28
  have b28 := F28.binds (ps := ["_law_states"]) fun _ _ _ _ _ _ us hl => match us, hl with | [_], _ => rfl
  have F29 := fun_mk (st := s_lshuffled) l29 c29 k29
  have b29 := F29.binds (ps := ["_law_pen_here", "_law_some"]) fun _ _ _ _ _ _ us hl => match us, hl with | [_, _], _ => rfl
  have F30 := fun_mk (st := s_lspread) l30 c30 k30
  have b30 := F30.binds (ps := ["_law_pen_here", "_law_tree_here", "_law_twins"]) fun _ _ _ _ _ _ us hl => match us, hl with | [_, _, _], _ => rfl
  have F31 := fun_mk (st := s_ldoubled) l31 c31 k31
  have b31 := F31.binds (ps := ["_law_pen_here", "_law_states"]) fun _ _ _ _ _ _ us hl => match us, hl with | [_, _], _ => rfl
  have FS := fun_mk (x := "__init__") (qual := "Searcher.__init__") (st := s_Searcher_init) lS cS kS
  have bS := FS.binds (ps := ["self", "letters", "width", "states"]) fun _ _ _ _ _ _ us hl => match us, hl with | [_, _, _, _], _ => rfl
  have mS := PySem.W.mg_of X G aCS
  have FT := fun_mk (x := "__init__") (qual := "Trace.__init__") (st := s_Trace_init) lT cT kT
  have bT := FT.binds (ps := ["self", "windows", "told"]) fun _ _ _ _ _ _ us hl => match us, hl with | [_, _, _], _ => rfl
  have mT := PySem.W.mg_of X G aCT
  have FE := fun_mk (x := "__eq__") (qual := "Searcher.__eq__") (st := s_Searcher_eq) lE cE kE
  have bE := FE.binds (ps := ["self", "other"]) fun _ _ _ _ _ _ us hl => match us, hl with | [_, _], _ => rfl
  have FL := fun_mk (x := "least") (qual := "Searcher.least") (st := s_Searcher_least) lL cL kL
  have bL := FL.binds (ps := ["self"]) fun _ _ _ _ _ _ us hl => match us, hl with | [_], _ => rfl
  have T : Tx mg := { len := PySem.W.mg_none_of X G z0, int := PySem.W.mg_none_of X G z1, bool := PySem.W.mg_none_of X G z2, abs := PySem.W.mg_none_of X G z3, min := PySem.W.mg_none_of X G z4, list := PySem.W.mg_none_of X G z5, all := PySem.W.mg_none_of X G z6, range := PySem.W.mg_none_of X G z7, isinstance := PySem.W.mg_none_of X G z8, str := PySem.W.mg_none_of X G z9, set := PySem.W.mg_none_of X G z10, tuple := PySem.W.mg_none_of X G z11, dict := PySem.W.mg_none_of X G z12, enumerate := PySem.W.mg_none_of X G z13, reversed := PySem.W.mg_none_of X G z14, sum := PySem.W.mg_none_of X G z15, zip := PySem.W.mg_none_of X G z16, max := PySem.W.mg_none_of X G z17, k_DEEPEST := _, m_DEEPEST := PySem.W.mg_of X G v0, k_MOST_WIDTH := _, m_MOST_WIDTH := PySem.W.mg_of X G v1, k_MOST_STATES := _, m_MOST_STATES := PySem.W.mg_of X G v2, k_MOST_NODES := _, m_MOST_NODES := PySem.W.mg_of X G v3, k_MOST_LETTERS := _, m_MOST_LETTERS := PySem.W.mg_of X G v4 }
  have MKS : Mk K CS fS := ⟨m1S, aS, iS, m2S⟩
  have MKT : Mk K CT fT := ⟨m1T, aT, iT, m2T⟩
  have S : SC K CS := ⟨⟨g1S, g2S, g3S, g4S⟩, nS1, nS2, nS3, nS4⟩
  have ST : TC K CT := ⟨⟨g1T, g2T, g3T, g4T⟩, nT1, nT2, nT3⟩
  have i5 : PySem.W.kitOne K (.ref CS) (.ref CS) = some true := by
    unfold PySem.W.kitOne
    rw [if_pos (by simp)]
  have i6 : PySem.W.kitOne K (.type "tuple") (.ref CS) = some false := by
    unfold PySem.W.kitOne PySem.W.kitCls
    rw [if_neg (by simp)]
    show (if ((PySem.W.clsIn K CS).isSome && PySem.W.typeIn K (.ref CS) == some (.type "type")) = true then PySem.W.subIn K (.type "tuple") (.ref CS) else none) = some false
    rw [if_pos (by rw [Bool.and_eq_true]; exact ⟨j5, by rw [j6]; simp⟩)]
    exact OE.sub_tup
  have S2 : SE K CS := ⟨⟨⟨g1S, g2S, g3S, g4S⟩, j1, j2, j3, j4, i5⟩, i6⟩
  refine ⟨PySem.W.fnOf "law" "law" (defArgs s_law) (defBody s_law) (defScope s_law) .none kV1 dc1 pm1 an1 cd1 ct1, fun s v => .of_eq rfl, fun base _ _ => ?_⟩
  have c_lpen : Kn l.prog w K mg base "_law_pen" ["_law_script"] 1 (spPen K) := ⟨f2, _, ok_pen F2 T , PySem.W.mg_of X G a2, F2.kp, b2⟩
  have c_ldraw : Kn l.prog w K mg base "_law_draw" ["_law_pen_here", "_law_many"] 1 spDraw := ⟨f3, _, ok_draw F3 T , PySem.W.mg_of X G a3, F3.kp, b3⟩
  have c_pickS : Kn l.prog w K mg base "_law_pick" ["_law_pen_here", "_law_some"] 2 spPickS := ⟨f4, _, ok_pickS F4 T c_ldraw, PySem.W.mg_of X G a4, F4.kp, b4⟩
  have c_pickL : Kn l.prog w K mg base "_law_pick" ["_law_pen_here", "_law_some"] 2 spPickL := ⟨f4, _, ok_pickL F4 T c_ldraw, PySem.W.mg_of X G a4, F4.kp, b4⟩
  have c_lletters : Kn l.prog w K mg base "_law_letters" ["_law_pen_here"] 3 spLetters := ⟨f5, _, ok_letters F5 T c_ldraw c_pickL, PySem.W.mg_of X G a5, F5.kp, b5⟩
  have c_ltext : Kn l.prog w K mg base "_law_text" ["_law_pen_here", "_law_letters_here", "_law_words", "_law_most"] 3 spText := ⟨f6, _, ok_text F6 T c_ldraw c_pickS c_pickL, PySem.W.mg_of X G a6, F6.kp, b6⟩
  have c_is_list : Kn l.prog w K mg base "is_list" ["value"] 1 spIsQ := ⟨f7, _, ok_isQ F7 T , PySem.W.mg_of X G a7, F7.kp, b7⟩
  have c_is_integer : Kn l.prog w K mg base "is_integer" ["value"] 1 spIsInt := ⟨f8, _, ok_integer F8 T , PySem.W.mg_of X G a8, F8.kp, b8⟩
  have c_is_whole : Kn l.prog w K mg base "is_whole" ["value", "low", "high"] 2 spWhole := ⟨f9, _, ok_whole F9 T c_is_integer, PySem.W.mg_of X G a9, F9.kp, b9⟩
  have c_are_letters : Kn l.prog w K mg base "are_letters" ["value"] 1 spAreL := ⟨f10, _, ok_areL F10 T , PySem.W.mg_of X G a10, F10.kp, b10⟩
  have c_is_part : Kn l.prog w K mg base "_is_part" ["part", "letters", "width", "states"] 3 spIsPart := ⟨f11, _, ok_ispart F11 T c_is_list c_is_whole, PySem.W.mg_of X G a11, F11.kp, b11⟩
  have c_within : Kn l.prog w K mg base "_within" ["part"] 1 spWithin := ⟨f12, _, ok_within F12 T , PySem.W.mg_of X G a12, F12.kp, b12⟩
  have c_first_wrong : Kn l.prog w K mg base "first_wrong" ["tree", "letters", "width", "states"] 4 spFW := ⟨f13, _, ok_fw F13 T c_is_part c_within, PySem.W.mg_of X G a13, F13.kp, b13⟩
  have c_all_parts : Kn l.prog w K mg base "all_parts" ["tree"] 2 spAll := ⟨f14, _, ok_all F14 T c_within, PySem.W.mg_of X G a14, F14.kp, b14⟩
  have c_renamed : Kn l.prog w K mg base "renamed" ["tree", "names"] 41 (spRen 40) := ⟨f15, _, ok_ren0 F15 T (PySem.W.mg_of X G a15) b15 40, PySem.W.mg_of X G a15, F15.kp, b15⟩
  have c_wrong_sign : Kn l.prog w K mg base "wrong_sign" ["letters", "text"] 1 (spWS K) := ⟨f16, _, ok_ws F16 T , PySem.W.mg_of X G a16, F16.kp, b16⟩
  have c_followed : Kn l.prog w K mg base "followed" ["tree", "letters", "signs"] 1 spFol := ⟨f17, _, ok_fol F17 T , PySem.W.mg_of X G a17, F17.kp, b17⟩
  have FS := ok_init (P := l.prog) (w := w) (base := base) FS T S c_are_letters c_is_whole c_is_list c_first_wrong c_all_parts c_renamed
  have FT := ok_tinit (P := l.prog) (w := w) (mg := mg) (base := base) FT T ST
  have c_searched : Kn l.prog w K mg base "searched" ["searcher", "text"] 3 (spSearched CS CT) := ⟨f18, _, ok_searched F18 T S ST MKT FT mT bT c_followed, PySem.W.mg_of X G a18, F18.kp, b18⟩
  have c_trace : Kn l.prog w K mg base "trace" ["searcher", "text"] 4 (spTraceN CS CT) := ⟨f19, _, ok_traceN F19 T S c_wrong_sign c_searched, PySem.W.mg_of X G a19, F19.kp, b19⟩
  have c_tree_text : Kn l.prog w K mg base "tree_text" ["letters", "tree"] 32 (spTxt 31) := ⟨f20, _, ok_txt F20 T (PySem.W.mg_of X G a20) b20 31, PySem.W.mg_of X G a20, F20.kp, b20⟩
  have c_numbered : Kn l.prog w K mg base "_numbered" ["texts"] 1 spNum := ⟨f21, _, ok_num F21 T , PySem.W.mg_of X G a21, F21.kp, b21⟩
  have c_renG : Kn l.prog w K mg base "renamed" ["tree", "names"] 41 (spRenG 40) := ⟨f15, _, ok_renG F15 T (PySem.W.mg_of X G a15) b15 40, PySem.W.mg_of X G a15, F15.kp, b15⟩
  have c_allG : Kn l.prog w K mg base "all_parts" ["tree"] 2 spAllG := ⟨f14, _, ok_allG F14 T c_within, PySem.W.mg_of X G a14, F14.kp, b14⟩
  have c_classes : Kn l.prog w K mg base "_classes" ["letters", "states"] 42 spCls := ⟨f22, _, ok_cls F22 T c_renG c_tree_text c_numbered, PySem.W.mg_of X G a22, F22.kp, b22⟩
  have c_met : Kn l.prog w K mg base "_met" ["states", "classes"] 3 spMet := ⟨f23, _, ok_met F23 T c_allG, PySem.W.mg_of X G a23, F23.kp, b23⟩
  have c_ltree : Kn l.prog w K mg base "_law_tree" ["_law_pen_here", "_law_letters_here", "_law_width", "_law_states", "_law_depth"] 6 (spTree 4) := ⟨f24, _, ok_tree F24 T (PySem.W.mg_of X G a24) b24 c_ldraw 4, PySem.W.mg_of X G a24, F24.kp, b24⟩
  have c_ltrees : Kn l.prog w K mg base "_law_trees" ["_law_pen_here", "_law_letters_here", "_law_width", "_law_many", "_law_depth"] 7 spTrees2 := ⟨f25, _, ok_trees2 F25 T c_ltree, PySem.W.mg_of X G a25, F25.kp, b25⟩
  have c_lturned : Kn l.prog w K mg base "_law_turned" ["_law_tree_here", "_law_numbers"] 4 (spTrn 3) := ⟨f26, _, ok_turned F26 T (PySem.W.mg_of X G a26) b26 3, PySem.W.mg_of X G a26, F26.kp, b26⟩
  have c_lleaves : Kn l.prog w K mg base "_law_leaves" ["_law_tree_here"] 4 (spLvs 3) := ⟨f27, _, ok_leaves F27 T (PySem.W.mg_of X G a27) b27 3, PySem.W.mg_of X G a27, F27.kp, b27⟩
  have c_lleast : Kn l.prog w K mg base "_law_least" ["_law_states"] 5 spLL := ⟨f28, _, ok_ll F28 T c_lturned c_lleaves, PySem.W.mg_of X G a28, F28.kp, b28⟩
  have c_lshuffled : Kn l.prog w K mg base "_law_shuffled" ["_law_pen_here", "_law_some"] 2 spShuf := ⟨f29, _, ok_shuf F29 T c_ldraw, PySem.W.mg_of X G a29, F29.kp, b29⟩
  have c_lspread : Kn l.prog w K mg base "_law_spread" ["_law_pen_here", "_law_tree_here", "_law_twins"] 6 (spSpread 3) := ⟨f30, _, ok_spread F30 T (PySem.W.mg_of X G a30) b30 c_pickL 3, PySem.W.mg_of X G a30, F30.kp, b30⟩
  have c_ldoubled : Kn l.prog w K mg base "_law_doubled" ["_law_pen_here", "_law_states"] 7 spDbl := ⟨f31, _, ok_dbl F31 T c_ldraw c_lshuffled c_lspread, PySem.W.mg_of X G a31, F31.kp, b31⟩
  have QE := ok_eq (P := l.prog) (w := w) (base := base) FE T mS S S2
  have QL := ok_least (P := l.prog) (w := w) (base := base) FL T MKS FS mS bS S c_classes c_met c_renG
  exact ok_law F1 T (PySem.W.mg_none_of X G z18) S ST MKS FS mS bS ⟨aE, nfE, j7, j4⟩ QE bE ⟨aL, nfL, kL⟩ QL bL c_lpen c_ldraw c_lletters c_ltrees c_ltext c_lleast c_ldoubled c_trace
end Law
open PySem PySem.W PyProof.Rows
set_option maxHeartbeats 0 in
theorem PySem.Challenge.cw_wordskips_k06_whole_least_searchers_holds : PySem.Challenge.rw_wordskips_k06_whole_least_searchers.Holds := by
  w_on; o_law; k_head; (case hw => w_witness2)
  k_fill
  refine GD.walkG (l := PySem.Challenge.rw_wordskips_k06_whole_least_searchers) (n := 63) (k := 46) (x := "_law_script") (sp := fun w => Law.spLaw _) rfl (by decide) rfl ⟨rfl, by decide, by decide⟩ (fun w h Y => PySem.W.kIn_of Y) ?F (fun _ _ a ns hl hS => ⟨a, ns, rfl, hS, hl, fun _ => rfl⟩)
  case F =>
    intro w mg fa h KX G hmg
    refine' Law.all_mk KX G hmg (a1 := ?a1) (l1 := ?l1) (c1 := ?c1) (k1 := ?k1) (a2 := ?a2) (l2 := ?l2) (c2 := ?c2) (k2 := ?k2) (a3 := ?a3) (l3 := ?l3) (c3 := ?c3) (k3 := ?k3) (a4 := ?a4) (l4 := ?l4) (c4 := ?c4) (k4 := ?k4) (a5 := ?a5) (l5 := ?l5) (c5 := ?c5) (k5 := ?k5) (a6 := ?a6) (l6 := ?l6) (c6 := ?c6) (k6 := ?k6) (a7 := ?a7) (l7 := ?l7) (c7 := ?c7) (k7 := ?k7) (a8 := ?a8) (l8 := ?l8) (c8 := ?c8) (k8 := ?k8) (a9 := ?a9) (l9 := ?l9) (c9 := ?c9) (k9 := ?k9) (a10 := ?a10) (l10 := ?l10) (c10 := ?c10) (k10 := ?k10) (a11 := ?a11) (l11 := ?l11) (c11 := ?c11) (k11 := ?k11) (a12 := ?a12) (l12 := ?l12) (c12 := ?c12) (k12 := ?k12) (a13 := ?a13) (l13 := ?l13) (c13 := ?c13) (k13 := ?k13) (a14 := ?a14) (l14 := ?l14) (c14 := ?c14) (k14 := ?k14) (a15 := ?a15) (l15 := ?l15) (c15 := ?c15) (k15 := ?k15) (a16 := ?a16) (l16 := ?l16) (c16 := ?c16) (k16 := ?k16) (a17 := ?a17) (l17 := ?l17) (c17 := ?c17) (k17 := ?k17) (a18 := ?a18) (l18 := ?l18) (c18 := ?c18) (k18 := ?k18) (a19 := ?a19) (l19 := ?l19) (c19 := ?c19) (k19 := ?k19) (a20 := ?a20) (l20 := ?l20) (c20 := ?c20) (k20 := ?k20) (a21 := ?a21) (l21 := ?l21) (c21 := ?c21) (k21 := ?k21) (a22 := ?a22) (l22 := ?l22) (c22 := ?c22) (k22 := ?k22) (a23 := ?a23) (l23 := ?l23) (c23 := ?c23) (k23 := ?k23) (a24 := ?a24) (l24 := ?l24) (c24 := ?c24) (k24 := ?k24) (a25 := ?a25) (l25 := ?l25) (c25 := ?c25) (k25 := ?k25) (a26 := ?a26) (l26 := ?l26) (c26 := ?c26) (k26 := ?k26) (a27 := ?a27) (l27 := ?l27) (c27 := ?c27) (k27 := ?k27) (a28 := ?a28) (l28 := ?l28) (c28 := ?c28) (k28 := ?k28) (a29 := ?a29) (l29 := ?l29) (c29 := ?c29) (k29 := ?k29) (a30 := ?a30) (l30 := ?l30) (c30 := ?c30) (k30 := ?k30) (a31 := ?a31) (l31 := ?l31) (c31 := ?c31) (k31 := ?k31) (aCS := ?aCS) (aS := ?aS) (lS := ?lS) (cS := ?cS) (kS := ?kS) (nS1 := ?nS1) (nS2 := ?nS2) (nS3 := ?nS3) (nS4 := ?nS4) (g4S := ?g4S) (m2S := ?m2S) (aCT := ?aCT) (aT := ?aT) (lT := ?lT) (cT := ?cT) (kT := ?kT) (nT1 := ?nT1) (nT2 := ?nT2) (nT3 := ?nT3) (g4T := ?g4T) (m2T := ?m2T) (aE := ?aE) (lE := ?lE) (cE := ?cE) (kE := ?kE) (nfE := ?nfE) (aL := ?aL) (lL := ?lL) (cL := ?cL) (kL := ?kL) (nfL := ?nfL) (iS := ?iS) (m1S := ?m1S) (g1S := ?g1S) (g2S := ?g2S) (g3S := ?g3S) (iT := ?iT) (m1T := ?m1T) (g1T := ?g1T) (g2T := ?g2T) (g3T := ?g3T) (j1 := ?j1) (j2 := ?j2) (j3 := ?j3) (j4 := ?j4) (j5 := ?j5) (j6 := ?j6) (j7 := ?j7) (v0 := ?v0) (v1 := ?v1) (v2 := ?v2) (v3 := ?v3) (v4 := ?v4) (z0 := ?z0) (z1 := ?z1) (z2 := ?z2) (z3 := ?z3) (z4 := ?z4) (z5 := ?z5) (z6 := ?z6) (z7 := ?z7) (z8 := ?z8) (z9 := ?z9) (z10 := ?z10) (z11 := ?z11) (z12 := ?z12) (z13 := ?z13) (z14 := ?z14) (z15 := ?z15) (z16 := ?z16) (z17 := ?z17) (z18 := ?z18)
    (case a1 => k_is); (case l1 => k_is); (case c1 => k_is); (case k1 => k_is); (case a2 => k_is); (case l2 => k_is); (case c2 => k_is); (case k2 => k_is); (case a3 => k_is); (case l3 => k_is); (case c3 => k_is); (case k3 => k_is); (case a4 => k_is); (case l4 => k_is); (case c4 => k_is); (case k4 => k_is); (case a5 => k_is); (case l5 => k_is); (case c5 => k_is); (case k5 => k_is); (case a6 => k_is); (case l6 => k_is); (case c6 => k_is); (case k6 => k_is); (case a7 => k_is); (case l7 => k_is); (case c7 => k_is); (case k7 => k_is); (case a8 => k_is); (case l8 => k_is); (case c8 => k_is); (case k8 => k_is); (case a9 => k_is); (case l9 => k_is); (case c9 => k_is); (case k9 => k_is); (case a10 => k_is); (case l10 => k_is); (case c10 => k_is); (case k10 => k_is); (case a11 => k_is); (case l11 => k_is); (case c11 => k_is); (case k11 => k_is); (case a12 => k_is); (case l12 => k_is); (case c12 => k_is); (case k12 => k_is); (case a13 => k_is); (case l13 => k_is); (case c13 => k_is); (case k13 => k_is); (case a14 => k_is); (case l14 => k_is); (case c14 => k_is); (case k14 => k_is); (case a15 => k_is); (case l15 => k_is); (case c15 => k_is); (case k15 => k_is); (case a16 => k_is); (case l16 => k_is); (case c16 => k_is); (case k16 => k_is); (case a17 => k_is); (case l17 => k_is); (case c17 => k_is); (case k17 => k_is); (case a18 => k_is); (case l18 => k_is); (case c18 => k_is); (case k18 => k_is); (case a19 => k_is); (case l19 => k_is); (case c19 => k_is); (case k19 => k_is); (case a20 => k_is); (case l20 => k_is); (case c20 => k_is); (case k20 => k_is); (case a21 => k_is); (case l21 => k_is); (case c21 => k_is); (case k21 => k_is); (case a22 => k_is); (case l22 => k_is); (case c22 => k_is); (case k22 => k_is); (case a23 => k_is); (case l23 => k_is); (case c23 => k_is); (case k23 => k_is); (case a24 => k_is); (case l24 => k_is); (case c24 => k_is); (case k24 => k_is); (case a25 => k_is); (case l25 => k_is); (case c25 => k_is); (case k25 => k_is); (case a26 => k_is); (case l26 => k_is); (case c26 => k_is); (case k26 => k_is); (case a27 => k_is); (case l27 => k_is); (case c27 => k_is); (case k27 => k_is); (case a28 => k_is); (case l28 => k_is); (case c28 => k_is); (case k28 => k_is); (case a29 => k_is); (case l29 => k_is); (case c29 => k_is); (case k29 => k_is); (case a30 => k_is); (case l30 => k_is); (case c30 => k_is); (case k30 => k_is); (case a31 => k_is); (case l31 => k_is); (case c31 => k_is); (case k31 => k_is); (case aCS => k_is); (case aS => k_is); (case lS => k_is); (case cS => k_is); (case kS => k_is); (case nS1 => k_is); (case nS2 => k_is); (case nS3 => k_is); (case nS4 => k_is); (case g4S => k_is); (case m2S => k_is); (case aCT => k_is); (case aT => k_is); (case lT => k_is); (case cT => k_is); (case kT => k_is); (case nT1 => k_is); (case nT2 => k_is); (case nT3 => k_is); (case g4T => k_is); (case m2T => k_is); (case aE => k_is); (case lE => k_is); (case cE => k_is); (case kE => k_is); (case nfE => k_is); (case aL => k_is); (case lL => k_is); (case cL => k_is); (case kL => k_is); (case nfL => k_is); (case iS => k_is); (case m1S => k_is); (case g1S => k_is); (case g2S => k_is); (case g3S => k_is); (case iT => k_is); (case m1T => k_is); (case g1T => k_is); (case g2T => k_is); (case g3T => k_is); (case j1 => k_is); (case j2 => k_is); (case j3 => k_is); (case j4 => k_is); (case j5 => k_is); (case j6 => k_is); (case j7 => k_is); (case v0 => k_is); (case v1 => k_is); (case v2 => k_is); (case v3 => k_is); (case v4 => k_is); (case z0 => k_is); (case z1 => k_is); (case z2 => k_is); (case z3 => k_is); (case z4 => k_is); (case z5 => k_is); (case z6 => k_is); (case z7 => k_is); (case z8 => k_is); (case z9 => k_is); (case z10 => k_is); (case z11 => k_is); (case z12 => k_is); (case z13 => k_is); (case z14 => k_is); (case z15 => k_is); (case z16 => k_is); (case z17 => k_is); (case z18 => k_is)


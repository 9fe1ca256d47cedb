import PyProof.Rows.All
import Wide.All
import OpenK.AllK
import Wide.FinOn
import HandS.ForMost
import HandS.Evl
import KE.GoesZip
import PyProof.EnumMake
import HandS.Strs
import KE.GoesMore
import HandS.IsInst
import HandS.NoneIn
import HandS.Walk
import HandS.Conv
import HandS.TupAny
import PyProof.ReprReads
import HandS.Exc
import HandS.ExcInit
import HandS.ExcField
import HandS.ExcIs
import HandS.TryOnly
import HandS.TryMany
import HandS.WordsExc
import HandS.ClsMeth
import HandS.MakeKwOnly
import HandS.MakeKw
import HandS.List
import HandS.Dict
import PyProof.ReprRoads
import PyProof.ReprDict
import HandS.DictComp
import HandS.Defaults
import HandS.Iter
import PyProof.EqAt
import PyProof.NeKinds
import HandS.Base
import HandS.Call
import HandS.Lambda
import PyProof.ListStr
import HandS.EndBits
import PySem.Challenge.RW_wordskips_k02_words_refused
set_option Elab.async false
set_option linter.all false
set_option maxRecDepth 100000
set_option maxHeartbeats 4000000
namespace ZS
open PySem PySem.Spec PyProof.Rows L2

/-- two texts side by side: a new pair of signs at each turn -/
def ItzS (x y : Str) : It :=
  ⟨fun i _ => i < x.cps.size ∧ i < y.cps.size,
   fun i H v H' => ∃ T c d, v = .ref T ∧ H T = none ∧ H' = upd H T (.tup [.str ⟨#[c]⟩, .str ⟨#[d]⟩]) ∧ x.cps[i]? = some c ∧ y.cps[i]? = some d,
   fun i _ => i = min x.cps.size y.cps.size⟩
theorem drawsS {prog : Program} {w : World} {A : Around} (hh : A.handled = none) (it : Addr) (x : Str) (t : Tok) :
    Draws prog w A it [it] x.cps.size (fun i v => ∃ c u, x.cps[i]? = some c ∧ v = .str ⟨#[c]⟩ u) (fun i h => h.IsStrIter it (strIterType x) x t i) := by
  unfold strIterType
  cases x.cps.all (· < 128)
  · exact Draws.strWide hh it x t
  · exact Draws.strAscii hh it x t
def StZ (x y : Str) (t u : Tok) (z TI TO i1 i2 : Addr) (i : Nat) (h : Heap) : Prop :=
  IsZip h z TI TO .none ∧ IsTupOf2 h TI (.ref i1) (.ref i2) ∧ (∃ a1 a2, IsTupOf2 h TO a1 a2) ∧ h.IsStrIter i1 (strIterType x) x t i ∧ h.IsStrIter i2 (strIterType y) y u i
theorem walkS {prog : Program} {w : World} {A : Around} (hh : A.handled = none) {z TI TO i1 i2 : Addr} (S : ZipSep2 z TI TO i1 i2 [i1] [i2]) (x y : Str) (t u : Tok) :
    WalksT prog w A z (z :: TI :: TO :: ([i1] ++ [i2])) [z, TO, i1, i2] (min x.cps.size y.cps.size)
      (fun i vals => ∃ v1 v2, (∃ c u, x.cps[i]? = some c ∧ v1 = .str ⟨#[c]⟩ u) ∧ (∃ c u, y.cps[i]? = some c ∧ v2 = .str ⟨#[c]⟩ u) ∧ vals = #[v1, v2])
      (StZ x y t u z TI TO i1 i2)
      (fun i T h => IsZip h z TI TO (rawInt T) ∧ IsTupOf2 h TI (.ref i1) (.ref i2) ∧ (∃ a1 a2, IsTupOf2 h TO a1 a2) ∧ h.IsStrIter i1 (strIterType x) x t (i + 1) ∧ h.IsStrIter i2 (strIterType y) y u (i + 1) ∧ T ≠ z ∧ T ≠ TO ∧ T ≠ i1 ∧ T ≠ i2) :=
  WalksT.zipD2 S (drawsS (A := A.in1) hh i1 x t) (drawsS (A := A.in1) hh i2 y u)
theorem fp5 {z TI TO i1 i2 c : Addr} (h : c ∈ [z, TI, TO, i1, i2]) : c = z ∨ c = TI ∨ c = TO ∨ c = i1 ∨ c = i2 := by simpa using h
theorem turn_zipS {P : Program} {w : World} {K : PySem.W.Frag} {elts : List Expr} {kk : Nat} {tpos : Pos} {z TI TO i1 i2 : Addr} (S : ZipSep2 z TI TO i1 i2 [i1] [i2]) (x y : Str) (t u : Tok) :
    Turn P w K (.Tuple elts kk tpos) (ItzS x y) [z, TI, TO, i1, i2] z (StZ x y t u z TI TO i1 i2) where
  mem := List.mem_cons_self
  obj := fun i h st c hc => by
    obtain ⟨q1, q2, ⟨a1, a2, q3⟩, ⟨o1, e1, _, d1⟩, ⟨o2, e2, _, d2⟩⟩ := st
    rcases fp5 hc with q | q | q | q | q
    all_goals subst q
    · exact ⟨_, q1, fun v q => nomatch q⟩
    · exact ⟨_, q2, fun v q => nomatch q⟩
    · exact ⟨_, q3, fun v q => nomatch q⟩
    · exact ⟨o1, e1, fun v q => by rw [d1] at q; cases q⟩
    · exact ⟨o2, e2, fun v q => by rw [d2] at q; cases q⟩
  keep := fun i h h' st k => by
    obtain ⟨q1, q2, ⟨a1, a2, q3⟩, ⟨o1, e1, r1⟩, ⟨o2, e2, r2⟩⟩ := st
    exact ⟨k z (by simp) _ q1, k TI (by simp) _ q2, ⟨a1, a2, k TO (by simp) _ q3⟩, ⟨o1, k i1 (by simp) _ e1, r1⟩, ⟨o2, k i2 (by simp) _ e2, r2⟩⟩
  item := by
    intro X hP hw hK hc i pins s σ H E I hf st hg
    subst hP hw hK
    have W := walkS (prog := X.prog) (w := X.w) (A := X.A) (I.ok.hd hc) S x y t u
    have hlt : i < min x.cps.size y.cps.size := by
      have h1 := hg.1
      have h2 := hg.2
      omega
    refine W.item i s _ _ hlt st fun T vals h' tk hv hT hIs hm hk => ?_
    refine ⟨.ref T, rfl, ?_⟩
    refine W.go elts kk tpos i T { s with heap := h', toks := tk } _ _ hm fun h2 st2 hk2 => ?_
    obtain ⟨v1, v2, ⟨c, u1, hc1, rfl⟩, ⟨d, u2, hd1, rfl⟩, rfl⟩ := hv
    have ap : T ∉ [z, TO, i1, i2] := W.apart i T h' hm
    have up : ∀ b o, b ∉ [z, TO, i1, i2] → s.heap.get? b = some o → h2.get? b = some o := fun b o hb e => hk2 b o hb (hk b o hb e)
    have hT2 : h2.IsTuple T #[.str ⟨#[c]⟩ u1, .str ⟨#[d]⟩ u2] := hIs.at fun o e => hk2 T o ap e
    obtain ⟨oT, eT, cT, nT, dT⟩ := hT2
    have new : ObjOk X.prog X.w (upd H T (.tup [.str ⟨#[c]⟩, .str ⟨#[d]⟩])) h2 T (.tup [.str ⟨#[c]⟩, .str ⟨#[d]⟩]) :=
      ⟨by show 2 ≤ sizeLine; decide, [.str ⟨#[c]⟩ u1, .str ⟨#[d]⟩ u2], .cons ⟨u1, rfl⟩ (.cons ⟨u2, rfl⟩ .nil), ⟨oT, eT, cT, nT, dT⟩⟩
    have sub : ∀ b, b ∉ [z, TI, TO, i1, i2] → b ∉ [z, TO, i1, i2] := fun b hb hb2 => hb (by
      have q : b = z ∨ b = TO ∨ b = i1 ∨ b = i2 := by simpa using hb2
      rcases q with q | q | q | q <;> simp [q])
    have I1 := I.turnedNew (t' := tk) (ch := [z, TI, TO, i1, i2]) (fun b o hb e => up b o (sub b hb) e) hf hT new
    refine ⟨.ref T, _, I1, rfl, ⟨T, c, d, rfl, I.hok.fresh hT, rfl, hc1, hd1⟩, st2, fun b hb => ?_⟩
    have hlb : b < s.heap.objs.size := by
      obtain ⟨q1, q2, ⟨a1, a2, q3⟩, ⟨o1, e1, r1⟩, ⟨o2, e2, r2⟩⟩ := st
      rcases fp5 hb with q | q | q | q | q
      · rw [q]; exact Heap.lt_size q1
      · rw [q]; exact Heap.lt_size q2
      · rw [q]; exact Heap.lt_size q3
      · rw [q]; exact Heap.lt_size e1
      · rw [q]; exact Heap.lt_size e2
    rw [upd_ne (show b ≠ T from fun e => absurd hT (by rw [← e]; exact Nat.not_le.mpr hlb))]
    exact (hf b hb).1
  done := by
    intro X hP hw hK hc i pins s σ H E I hf st hg
    subst hP hw hK
    have W := walkS (prog := X.prog) (w := X.w) (A := X.A) (I.ok.hd hc) S x y t u
    have hg : i = min x.cps.size y.cps.size := hg
    subst hg
    refine W.done s _ _ st fun h' tk hk => ⟨rfl, ?_⟩
    refine I.turnedL (t' := tk) (ch := [z, TI, TO, i1, i2]) (fun b o hb e => hk b o (fun hb2 => hb ?_) e) hf
    have q : b = z ∨ b = TO ∨ b = i1 ∨ b = i2 := by simpa using hb2
    rcases q with q | q | q | q <;> simp [q]
  self := fun A i s Q E st h => wpAny_pyIter_zip st.1 h

abbrev g1 (h : Heap) (x : Str) (t : Tok) : Heap := h.push { cls := .type (strIterType x), data := .fields #[.str x t, .int 0 0] }
abbrev g3 (h : Heap) (x y : Str) (t u : Tok) : Heap := (g1 (g1 h x t) y u).push { cls := .type "tuple", data := .seq #[.ref h.objs.size, .ref (g1 h x t).objs.size] }
abbrev g4 (h : Heap) (x y : Str) (t u : Tok) : Heap := (g3 h x y t u).push { cls := .type "tuple", data := .seq #[.none, .none] }
abbrev g5 (h : Heap) (x y : Str) (t u : Tok) : Heap := (g4 h x y t u).push { cls := .type "zip", data := .fields #[.none, .bool false, .bool false, .ref (g1 (g1 h x t) y u).objs.size, .ref (g3 h x y t u).objs.size] }
theorem meets_zipS (x y : Str) (t u : Tok) :
    Meets (Builtin.«zip.__new__» ⟨[.type "zip", .str x t, .str y u], []⟩) (fun _ R s => R (.ok (.ret (.ref (g4 s.heap x y t u).objs.size))) { s with heap := g5 s.heap x y t u }) :=
  .of_wp fun prog w A R s h => by
    obtain ⟨hp, gg, d, tk, os⟩ := s
    have hsub := sub_zip
    wp_walk using wpAny_pyIter_strU
    exact ⟨_, rfl, h⟩
theorem call_zipS {prog : Program} {w : World} {A : Around} {E : Value → Shared → Prop} {s : Shared} {x y : Str} {t u : Tok} {Q : Value → Shared → Prop}
    (h : ∀ h', StZ x y t u (s.heap.objs.size + 4) (s.heap.objs.size + 2) (s.heap.objs.size + 3) s.heap.objs.size (s.heap.objs.size + 1) 0 h' → (∀ c o, s.heap.get? c = some o → h'.get? c = some o) → Q (.ref (s.heap.objs.size + 4)) { s with heap := h' }) :
    wpAny (model prog w) A (call (.type "zip") [.str x t, .str y u]) Q E s := by
  refine callType_new F.called_zip (by decide) (F.typeCall_zip_2 _ _) (F.newCall_zip_2 _ _) (fun obj => F.args_object_init_3 obj _ _) F.entry_zip_new (meets_zipS x y t u) ?_
  have n1 : (g1 s.heap x t).objs.size = s.heap.objs.size + 1 := Heap.size_push ..
  have n2 : (g1 (g1 s.heap x t) y u).objs.size = s.heap.objs.size + 2 := by rw [Heap.size_push, n1]
  have n3 : (g3 s.heap x y t u).objs.size = s.heap.objs.size + 3 := by rw [Heap.size_push, n2]
  have n4 : (g4 s.heap x y t u).objs.size = s.heap.objs.size + 4 := by rw [Heap.size_push, n3]
  have k5 : (g5 s.heap x y t u).get? (g4 s.heap x y t u).objs.size = some _ := Heap.get?_push_size _ rfl
  have k4 : (g5 s.heap x y t u).get? (g3 s.heap x y t u).objs.size = some _ := Heap.get?_push_of_some _ (Heap.get?_push_size _ rfl)
  have k3 : (g5 s.heap x y t u).get? (g1 (g1 s.heap x t) y u).objs.size = some _ := Heap.get?_push_of_some _ (Heap.get?_push_of_some _ (Heap.get?_push_size _ rfl))
  have k2 : (g5 s.heap x y t u).get? (g1 s.heap x t).objs.size = some _ := Heap.get?_push_of_some _ (Heap.get?_push_of_some _ (Heap.get?_push_of_some _ (Heap.get?_push_size _ rfl)))
  have k1 : (g5 s.heap x y t u).get? s.heap.objs.size = some _ := Heap.get?_push_of_some _ (Heap.get?_push_of_some _ (Heap.get?_push_of_some _ (Heap.get?_push_of_some _ (Heap.get?_push_size _ rfl))))
  show _ ∧ _
  rw [n2, n3, n4] at k5
  rw [n1, n2] at k3
  rw [n3] at k4
  rw [n1] at k2
  rw [n4]
  exact ⟨⟨_, k5, rfl⟩, h _ ⟨k5, k3, ⟨_, _, k4⟩, ⟨_, k1, rfl, rfl⟩, ⟨_, k2, rfl, rfl⟩⟩ fun c o e =>
    Heap.get?_push_of_some _ (Heap.get?_push_of_some _ (Heap.get?_push_of_some _ (Heap.get?_push_of_some _ (Heap.get?_push_of_some _ e))))⟩
theorem sepS (n : Nat) : ZipSep2 (n + 4) (n + 2) (n + 3) n (n + 1) [n] [n + 1] := by
  constructor <;> first | omega | (simp <;> omega) | simp
def iZipS (ta : TA) : TI := fun σ H R => ta σ H fun vs H1 => ∃ x y, vs = [.str x, .str y] ∧ R (ItzS x y) H1
theorem pi_zipS {X : Cx} {e e2 : Expr} {ta : TA} {p pos tpos : Pos} {elts : List Expr} {kk : Nat} (hg : Gl X "zip") (hm : X.mg "zip" = none) (ha : PA X [e, e2] ta)
    (hs : starEach [e, e2] X.env = (false, eval e X.env) :: starEach [e2] X.env := by rfl) (hpl : (backTo pos (starEach [e2] X.env)).any (·.1) = false := by rfl) :
    PI X (.Tuple elts kk tpos) (.Call (.Name "zip" p) [e, e2] [] pos) (iZipS ta) := by
  refine ⟨fun pins s σ H R I h => ?_⟩
  refine Call_ (ld_blt I hg hm boot_zip (callWith_type1 (thn (ha.run pos pins s σ H _ I h) fun us s1 ⟨vs, H1, I1, r1, q1⟩ => ?_) hs hpl))
  obtain ⟨x, y, ex, q⟩ := q1
  subst ex
  cases r1 with
  | cons r rr =>
    cases rr with
    | cons r' rr =>
      cases rr
      obtain ⟨t, rfl⟩ := r
      obtain ⟨u, rfl⟩ := r'
      refine call_zipS fun h' st hk => wpAny_pyIter_zip st.1 ?_
      have I2 : Inv X pins σ H1 { s1 with heap := h' } := I1.kept (t' := s1.toks) hk
      refine ⟨s1.heap.objs.size + 4, _, _, _, H1, rfl, I2, turn_zipS (sepS _) x y t u, st, fun c hcm => ?_, q⟩
      have hle : s1.heap.objs.size ≤ c := by
        rcases fp5 hcm with z | z | z | z | z <;> rw [z] <;> first | exact Nat.le_add_right _ _ | exact Nat.le_refl _
      exact I1.fpOk hle (I1.hok.fresh hle)
/-- a comprehension over it -/
theorem lc_zipS {x y : Str} {g : TG} {tt : TT} {te : TE} {vs : List Nat} {σ : L2.St} {H1 : Hp} {D : Addr} {Qd : Hp → Prop} (Pv : Nat → Hp → Prop) (h0 : Pv 0 (upd H1 D (.lst [])))
    (hs : ∀ i c d T H, x.cps[i]? = some c → y.cps[i]? = some d → Pv i H → H T = none → g (.ref T) (wipe σ vs) (upd H T (.tup [.str ⟨#[c]⟩, .str ⟨#[d]⟩])) fun σ2 H2 => wipe σ2 vs = wipe σ vs ∧ tt σ2 H2 fun b H3 =>
      if b = true then te σ2 H3 fun z H4 => ∃ acc, H4 D = some (.lst acc) ∧ acc.length < sizeLine ∧ Pv (i + 1) (upd H4 D (.lst (acc ++ [z]))) else Pv (i + 1) H3) (hd : ∀ H, Pv (min x.cps.size y.cps.size) H → Qd H) :
    ∃ W : Nat → Nat → Hp → Prop, (∃ m, W 0 m (upd H1 D (.lst []))) ∧ ∀ i m H, W i m H →
      ((ItzS x y).stop i H ∧ Qd H) ∨ ((ItzS x y).go i H ∧ ∃ Nx : Hp → Prop, (∀ H', Nx H' → ∃ m', m' < m ∧ W (i + 1) m' H') ∧ ∀ v H', (ItzS x y).yld i H v H' → g v (wipe σ vs) H' fun σ2 H2 => wipe σ2 vs = wipe σ vs ∧ tt σ2 H2 fun b H3 =>
        if b = true then te σ2 H3 fun z H4 => ∃ acc, H4 D = some (.lst acc) ∧ acc.length < sizeLine ∧ Nx (upd H4 D (.lst (acc ++ [z]))) else Nx H3) := by
  refine ⟨fun i m H => i + m = min x.cps.size y.cps.size ∧ Pv i H, ⟨_, Nat.zero_add _, h0⟩, ?_⟩
  rintro i m H ⟨e, p⟩
  by_cases hm : m = 0
  · have e2 : i = min x.cps.size y.cps.size := by omega
    refine .inl ⟨e2, hd H ?_⟩
    rw [← e2]
    exact p
  · refine .inr ⟨⟨by omega, by omega⟩, Pv (i + 1), fun H' p' => ⟨m - 1, by omega, by omega, p'⟩, ?_⟩
    rintro v H' ⟨T, c, d, rfl, hT, rfl, hc, hd'⟩
    exact hs i c d T H hc hd' p hT
theorem op_mulS {X : Cx} : OpR X (binaryOp .Mult) (fun x y H Q => ∃ z n, x = .str z ∧ y = .int n ∧ MulOk z n ∧ Q (.str (Txt.mul z n)) H) := by
  intro pins s σ H x y v u Q I rx ry h
  obtain ⟨z, n, rfl, rfl, hz, q⟩ := h
  obtain ⟨t, rfl⟩ := rx
  obtain ⟨t', rfl⟩ := ry
  exact SB.mul hz (fun t' tk => ⟨.str (Txt.mul z n), H, I.tok _, ⟨_, rfl⟩, q⟩)
end ZS

namespace ST
open PySem PySem.Spec PyProof.Rows L2
/-- how many different ones the first i of a list are -/
def dct (xs : List Str) : Nat → Nat
  | 0 => 0
  | i + 1 => if (xs.take i).any (· == xs.getD i Str.empty) = true then dct xs i else dct xs i + 1
theorem dct_le (xs : List Str) : ∀ i, dct xs i ≤ i
  | 0 => Nat.le_refl _
  | i + 1 => by
    have := dct_le xs i
    unfold dct
    split <;> omega
theorem any_next {xs : List Str} {i : Nat} (hi : i < xs.length) (k : Str) : (xs.take (i + 1)).any (· == k) = ((xs.take i).any (· == k) || decide (k = xs.getD i Str.empty)) := by
  rw [List.take_add_one, List.any_append, List.getElem?_eq_getElem hi, List.getD_eq_getElem?_getD, List.getElem?_eq_getElem hi]
  refine congrArg (fun b => (xs.take i).any (· == k) || b) ?_
  show (xs[i] == k || false) = decide (k = xs[i])
  rw [Bool.or_false]
  by_cases e : k = xs[i]
  · rw [decide_eq_true e, ← e]
    simp
  · rw [decide_eq_false e]
    simpa using fun q : xs[i] = k => e q.symm
section
variable {prog : Program} {w : World} {A : Around} {R : Result → Shared → Prop} {It : Addr} {fp wr : List Addr} {Gn : Array GenState → Array GenState → Prop} {n : Nat} {P : Nat → Value → Prop} {St : Nat → Shared → Prop}
theorem fill (W : WalksS prog w A.in1 It fp wr Gn n P St) (a : Addr) (haf : a ∉ fp) (xs : List Str) (hx : xs.length = n) (hn : n + 1 < scanBound) (hv : ∀ i v, P i v → ∃ t, v = .str (xs.getD i Str.empty) t) :
    ∀ (k i : Nat) (s : Shared), n - i = k → i ≤ n → St i s → s.heap.SetOf (PySem.strKind prog w) a (fun z => (xs.take i).any (· == z)) (dct xs i) →
      (∀ s', Moved (a :: wr) Gn s s' → s'.heap.SetOf (PySem.strKind prog w) a (fun z => (xs.take n).any (· == z)) (dct xs n) → R (.ok (.ret .none)) s') →
      codeAny (model prog w) A (.builtin "set.update.loop" ⟨[.ref a, .ref It], []⟩) R s := by
  have haw : a ∉ wr := fun q => haf (W.sub _ q)
  have up : ∀ b ∈ wr, b ∈ a :: wr := fun b q => List.mem_cons_of_mem _ q
  intro k
  induction k with
  | zero =>
    intro i s hk hi hst hset hR
    obtain rfl : i = n := by omega
    refine codeAny_builtin F.entry_set_update_loop ?_
    rw [Around.under_plainId F.plain_set_update_loop _]
    refine wpAny_bind (W.done s _ _ hst fun s' mv => wpAny_pure (hR s' (mv.mono up) ?_))
    obtain ⟨o, es, ep, tb, ho, rest⟩ := hset
    exact ⟨o, es, ep, tb, mv.heap a _ haw ho, rest⟩
  | succ k ih =>
    intro i s hk hi hst hset hR
    have hlt : i < n := by omega
    refine codeAny_builtin F.entry_set_update_loop ?_
    rw [Around.under_plainId F.plain_set_update_loop _]
    refine wpAny_bind (W.item i s _ _ hlt hst fun v s1 hp st1 mv => ?_)
    obtain ⟨t, rfl⟩ := hv i v hp
    have set1 : s1.heap.SetOf (PySem.strKind prog w) a (fun z => (xs.take i).any (· == z)) (dct xs i) := by
      obtain ⟨o, es, ep, tb, ho, rest⟩ := hset
      exact ⟨o, es, ep, tb, mv.heap a _ haw ho, rest⟩
    refine wpAny_bind (wpAny_holding ?_)
    unfold setAdd
    refine wpAny_holding (wpAny_bind ((PySem.strKind prog w).pyHash (k := xs.getD i Str.empty) (strKind_is _ _ _ _) ?_))
    have room : dct xs i + 1 < scanBound := by
      have := dct_le xs i
      omega
    refine wpAny_setAddHashed_of (knd := PySem.strKind prog w) (s := { s1 with toks := s1.toks + 1 }) (strKind_is _ _ _ _) rfl set1 room fun h2 sb set2 => ?_
    have set3 : h2.SetOf (PySem.strKind prog w) a (fun z => (xs.take (i + 1)).any (· == z)) (dct xs (i + 1)) :=
      SetOf_congr set2 (fun z => (any_next (by omega) z).symm) (by
        show dct xs (i + 1) = _
        unfold dct
        rfl)
    refine wpAny_pure ⟨plainId_quiet F.plain_set_update_loop _, ih (i + 1) _ (by omega) hlt (W.frame _ s1 _ _ st1 (Nat.le_succ _) fun b hb o e => ?_) set3 fun s2 mv2 hS2 => ?_⟩
    · rw [sb.2 b (fun q : b = a => haf (by rw [← q]; exact hb))]
      exact e
    · refine hR s2 (Moved.trans W.gtrans ((mv.mono up).then_heap (Nat.le_succ _) fun b o hb e => ?_) mv2) hS2
      rw [sb.2 b (fun q : b = a => hb (by rw [q]; exact List.mem_cons_self))]
      exact e
end
theorem walkStr {prog : Program} {w : World} {A : Around} (hh : A.handled = none) (it : Addr) (x : Str) (t : Tok) :
    Walks prog w A it [it] [it] x.cps.size (SignAt x) (fun i h => h.IsStrIter it (strIterType x) x t i) := by
  unfold strIterType
  cases x.cps.all (· < 128)
  · exact Walks.strWide hh it x t
  · exact Walks.strAscii hh it x t
def signsOf (x : Str) : List Str := x.cps.toList.map fun c => ⟨#[c]⟩
theorem signsOf_len (x : Str) : (signsOf x).length = x.cps.size := by simp [signsOf]
section
variable {prog : Program} {w : World} {A : Around} {E : Value → Shared → Prop} {s : Shared}
theorem call_set_text {x : Str} {t : Tok} {Q : Value → Shared → Prop} (hh : A.handled = none) (hn : x.cps.size + 1 < scanBound)
    (h : ∀ (h' : Heap) (tk : Nat), h'.SetOf (PySem.strKind prog w) s.heap.objs.size (fun z => ((signsOf x).take x.cps.size).any (· == z)) (dct (signsOf x) x.cps.size) →
      (∀ b o, b < s.heap.objs.size → s.heap.get? b = some o → h'.get? b = some o) → Q (.ref s.heap.objs.size) { s with heap := h', toks := tk }) :
    wpAny (model prog w) A (call (.type "set") [.str x t]) Q E s := by
  obtain ⟨c, tl, hmro⟩ := PySem.F.called_set.mro
  have hmade := PySem.F.called_set.made
  have hsub := PySem.F.called_set.sub
  refine wpAny_call (codeAny_of_tree ?_)
  show wpAny _ _ (callAny (.type "set") _) _ _ _
  refine wpAny_pure ⟨Code.quiet_builtin _ (by decide +kernel), codeAny_builtin PySem.F.entry_type_call ?_⟩
  rw [Around.under_plain (weight_type_call_type "set" [.str x t] []) rfl]
  have x1 := PySem.F.called_set.notType
  have x2 := PySem.F.called_set.canCreate
  have x3 := PySem.F.typeCall_set_1 (.str x t)
  repeat (any_goals (first | assumption | wp_step))
  refine codeAny_mono (code_set_new_1 (.str x t) (E := E) (Q₁ := fun obj s₁ => ∃ led : Bool, obj = .ref s.heap.objs.size ∧ s₁ = { s with heap := s.heap.push { cls := .type "set", dict := none, data := .set #[] 0 (.fresh 0 0 led) } }) fun led => ⟨led, rfl, rfl⟩) fun r s₁ hr => ?_
  cases r with
  | error e => exact hr
  | ok fl =>
    cases fl with
    | ret obj =>
      obtain ⟨led, rfl, rfl⟩ := hr
      obtain ⟨hp, hhp⟩ : ∃ hp, s.heap.push { cls := .type "set", dict := none, data := .set #[] 0 (.fresh 0 0 led) } = hp := ⟨_, rfl⟩
      have y1 : hp.get? s.heap.objs.size = some { cls := .type "set", dict := none, data := .set #[] 0 (.fresh 0 0 led) } := by
        rw [← hhp]
        exact Heap.get?_push_size _ rfl
      have y2 : hp.objs.size = s.heap.objs.size + 1 := by
        rw [← hhp]
        exact Heap.size_push ..
      have y3 : ∀ b o, s.heap.get? b = some o → hp.get? b = some o := fun b o e => by
        rw [← hhp]
        exact Heap.get?_push_of_some _ e
      rw [hhp]
      have hT : Shared.TypeIs { s with heap := hp } (.ref s.heap.objs.size) "set" := ⟨_, y1, rfl⟩
      have y4 := PySem.F.called_set.init.lookup
      have y5 := PySem.F.called_set.init.bind (.ref s.heap.objs.size)
      repeat (any_goals (first | assumption | wp_step))
      refine codeAny_mono (codeAny_call_builtin (R := wants (fun r s₂ => r = .none ∧ ∃ h' tk, s₂ = { s with heap := h', toks := tk } ∧
          h'.SetOf (PySem.strKind prog w) s.heap.objs.size (fun z => ((signsOf x).take x.cps.size).any (· == z)) (dct (signsOf x) x.cps.size) ∧
          (∀ b o, b < s.heap.objs.size → s.heap.get? b = some o → h'.get? b = some o)) E) PySem.F.called_set.init.plain PySem.F.entry_set_init (check_set_init_1 hT ?_)) fun r₂ s₂ hr₂ => ?_
      · have sb1 := PySem.F.sub_str_set
        have sb2 := PySem.F.sub_str_frozenset
        have sb3 : (Value.type "str" == Value.type "dict") = false := by decide
        unfold Builtin.«set.__init__» noKeywords Builtin.Frozenset.updateFrom
        generalize hPI : pyIter = PI
        wp_walk
        subst hPI
        refine wpAny_pyIter_strU ?_
        refine wpAny_bind (wpAny_runValue ?_)
        have hh3 : A.in1.in1.in1.handled = none := by simp [hh]
        have z1 : s.heap.objs.size ∉ [hp.objs.size] := by
          rw [y2]
          simp
        refine fill ((walkStr hh3 _ x t).toS) s.heap.objs.size z1 (signsOf x) (signsOf_len x) hn ?_ (x.cps.size - 0) 0 _ (by omega) (Nat.zero_le _)
          ⟨_, Heap.get?_push_size _ rfl, rfl, rfl⟩ ?_ ?_
        · rintro i v ⟨c, u, hc, rfl⟩
          refine ⟨u, ?_⟩
          unfold signsOf
          rw [List.getD_eq_getElem?_getD, List.getElem?_map, Array.getElem?_toList, hc]
          rfl
        · have z2 : (hp.push { cls := .type (strIterType x), data := .fields #[.str x t, .int 0 0] }).get? s.heap.objs.size = some { cls := .type "set", dict := none, data := .set #[] 0 (.fresh 0 0 led) } := Heap.get?_push_of_some _ y1
          exact SetOf_congr ((setObjOf_fresh (knd := PySem.strKind prog w) led).setOf z2 (by unfold scanBound; omega)) (fun _ => rfl) rfl
        · intro s' mv hS'
          obtain ⟨h', g', d', tk', os'⟩ := s'
          obtain rfl : g' = s.gens := mv.gens
          obtain rfl : d' = s.drawn := mv.drawn
          obtain rfl : os' = s.os := mv.os
          refine wpAny_pure ?_
          show wpAny _ _ (ret Value.none) _ _ _
          refine wpAny_pure ⟨rfl, h', tk', rfl, hS', fun b o hb e => ?_⟩
          refine mv.heap b o ?_ (Heap.get?_push_of_some _ (y3 b o e))
          rw [y2]
          simp only [List.mem_cons, List.not_mem_nil, or_false, not_or]
          exact ⟨Nat.ne_of_lt hb, Nat.ne_of_lt (Nat.lt_succ_of_lt hb)⟩
      · cases r₂ with
        | error e => exact hr₂
        | ok fl₂ =>
          cases fl₂ with
          | ret r =>
            obtain ⟨rfl, h', tk, rfl, hS', hk'⟩ := hr₂
            repeat (any_goals (first | assumption | wp_step))
            exact h _ _ hS' hk'
          | _ => exact hr₂.elim
    | _ => exact hr.elim
end
end ST

namespace EN
open PySem PySem.Spec PyProof.Rows L2
/-! ### len(set(text)) -/
def tLenSetS (ta : TE) : TE := fun σ H Q => ta σ H fun x H1 => ∃ z : Str, x = .str z ∧ z.cps.size < 1000 ∧ Q (.int (ST.dct (ST.signsOf z) z.cps.size)) H1
theorem pe_lenSetS {X : Cx} {a : Expr} {ta : TE} {p p2 q pos : Pos} (hc : X.calm = true) (hg : Gl X "len") (hm : X.mg "len" = none) (hg2 : Gl X "set") (hm2 : X.mg "set" = none) (ha : PE X a ta)
    (na : starEach [a] X.env = (false, eval a X.env) :: starEach [] X.env := by rfl) : PE X (.Call (.Name "len" p) [.Call (.Name "set" p2) [a] [] q] [] pos) (tLenSetS ta) := by
  refine ⟨fun pins s σ H Q I h => Call_ (ld_blt I hg hm PySem.boot_len (callWith_builtin1 (args_cons (Call_ (ld_blt I hg2 hm2 boot_set ?_)) rfl) rfl rfl))⟩
  refine callWith_type1 (args_cons (thn (ha.run pins s σ H _ I h) fun v s1 ⟨x, H1, I1, r1, z, ex, hz, q1⟩ => args_nil ?_) na) na rfl
  subst ex
  obtain ⟨t, rfl⟩ := r1
  refine ST.call_set_text (I1.ok.hd hc) (by unfold scanBound; omega) fun h' tk hS hk => args_nil ?_
  obtain ⟨o, es, ep, t, ho, hex, hd, _, _, _, hf, hn⟩ := hS
  have I2 : Inv X pins σ H1 { s1 with heap := h', toks := tk } := I1.kept fun b o e => hk b o (Heap.lt_size e) e
  have hd2 := ST.dct_le (ST.signsOf z) z.cps.size
  exact call_len_set ho hex hd hf (by rw [hn]; omega) ⟨.int _, H1, I2.tok _, ⟨_, by rw [hn]⟩, q1⟩

/-! ### enumerate over a text, over a tuple -/
def ItS (x : Str) : It := ⟨fun i _ => i < x.cps.size,
  fun i H v H' => ∃ T c, v = .ref T ∧ H T = none ∧ H' = upd H T (.tup [.int (i : Nat), .str ⟨#[c]⟩]) ∧ x.cps[i]? = some c, fun i _ => i = x.cps.size⟩
def ItT (K : PySem.W.Frag) (a : Addr) : It := ⟨fun i H => ∃ (xs : List V) (x : V), SqT K H a xs ∧ xs[i]? = some x,
  fun i H v H' => ∃ T x, v = .ref T ∧ H T = none ∧ H' = upd H T (.tup [.int (i : Nat), x]) ∧ ∀ xs, SqT K H a xs → xs[i]? = some x, fun i H => ∃ xs : List V, SqT K H a xs ∧ i = xs.length⟩
theorem two {e it b : Addr} (h : b ∈ [e, it]) : b = e ∨ b = it := by simpa using h
theorem obj_of {h : Heap} {e it : Addr} {i : Int} {old : Value} (he : IsEnum h e it i old) {o : Obj} (ho : h.get? it = some o) {vs : Array Value} (hd : o.data = .fields vs) : ∀ b ∈ [e, it], ∃ o, h.get? b = some o ∧ ∀ v, o.data ≠ .cell v := fun b hb => by
  rcases two hb with z | z
  · rw [z]; exact ⟨_, he, fun v q => nomatch q⟩
  · rw [z]; exact ⟨o, ho, fun v q => by rw [hd] at q; cases q⟩
theorem turn_enumS {P : Program} {w : World} {K : PySem.W.Frag} {elts : List Expr} {kk : Nat} {tpos : Pos} (x : Str) (t : Tok) (e it : Addr) :
    Turn P w K (.Tuple elts kk tpos) (ItS x) [e, it] e (fun i h => (∃ old, IsEnum h e it ((i : Nat) : Int) old) ∧ h.IsStrIter it (strIterType x) x t i ∧ e ≠ it) where
  mem := List.mem_cons_self
  obj := fun i h st b hb => by
    obtain ⟨⟨old, he⟩, ⟨o, ho, _, hd⟩, _⟩ := st
    exact obj_of he ho hd b hb
  keep := fun i h h' st k => by
    obtain ⟨⟨old, he⟩, ⟨o, ho, r⟩, hne⟩ := st
    exact ⟨⟨old, k e (by simp) _ he⟩, ⟨o, k it (by simp) _ ho, r⟩, hne⟩
  item := by
    intro X hP hw hK hc i pins s σ H E I hf st hg
    subst hP hw hK
    obtain ⟨⟨old, he⟩, hit, hne⟩ := st
    have D := ZS.drawsS (prog := X.prog) (w := X.w) (A := X.A.in1) (I.ok.hd hc) it x t
    have l1 : e < s.heap.objs.size := Heap.lt_size he
    have l2 : it < s.heap.objs.size := by obtain ⟨_, q, _⟩ := hit; exact Heap.lt_size q
    refine wpAny_pyNext_enum_itemD D he hit hg hne (by simpa using hne) fun v h' tk hv ho hit' hT hsz hk => ?_
    obtain ⟨c, u, hcx, rfl⟩ := hv
    refine ⟨_, rfl, wpAny_letOwnedTupleGo_enum (s := { s with heap := h', toks := tk + 1 }) ho fun h2 he2 sb => ?_⟩
    have hT2 : h2.get? s.heap.objs.size = some { cls := .type "tuple", data := .seq #[.int i tk, .str ⟨#[c]⟩ u] } := (sb.2 _ (Nat.ne_of_gt l1)).trans hT
    have new : ObjOk X.prog X.w (upd H s.heap.objs.size (.tup [.int (i : Nat), .str ⟨#[c]⟩])) h2 s.heap.objs.size (.tup [.int (i : Nat), .str ⟨#[c]⟩]) :=
      ⟨by show 2 ≤ sizeLine; decide, [.int i tk, .str ⟨#[c]⟩ u], .cons ⟨_, rfl⟩ (.cons ⟨u, rfl⟩ .nil), ⟨_, hT2, rfl, _, rfl⟩⟩
    have I1 := I.turnedNew (t' := tk + 1) (ch := [e, it]) (fun b ob hb q => (sb.2 b (fun z => hb (by simp [z]))).trans (hk b ob (fun z => hb (by simp [z])) (fun z => hb (by simp [z])) q)) hf (Nat.le_refl _) new
    refine ⟨.ref s.heap.objs.size, _, I1, rfl, ⟨_, c, rfl, I.hok.fresh (Nat.le_refl _), rfl, hcx⟩, ⟨⟨.str ⟨#[c]⟩ u, ?_⟩, ?_, hne⟩, fun b hb => ?_⟩
    · rw [show ((i + 1 : Nat) : Int) = (i : Int) + 1 by omega]
      exact he2
    · obtain ⟨o, q, r⟩ := hit'
      exact ⟨o, (sb.2 it (Ne.symm hne)).trans q, r⟩
    · rw [upd_ne (show b ≠ s.heap.objs.size from fun q => by
        rcases two hb with z | z
        · rw [← q, z] at l1; exact Nat.lt_irrefl _ l1
        · rw [← q, z] at l2; exact Nat.lt_irrefl _ l2)]
      exact (hf b hb).1
  done := by
    intro X hP hw hK hc i pins s σ H E I hf st hg
    subst hP hw hK
    obtain ⟨⟨old, he⟩, hit, hne⟩ := st
    have hg : i = x.cps.size := hg
    subst hg
    have D := ZS.drawsS (prog := X.prog) (w := X.w) (A := X.A.in1) (I.ok.hd hc) it x t
    refine wpAny_pyNext_enum_endD D he hit fun h' eb => ⟨rfl, I.turnedL (t' := s.toks) (ch := [e, it]) (fun b o hb q => eb b o (fun z => hb (by simp [z])) q) hf⟩
  self := fun A i s Q E st h => by
    obtain ⟨⟨_, he⟩, _⟩ := st
    exact wpAny_pyIter_enum he h
theorem turn_enumT {P : Program} {w : World} {K : PySem.W.Frag} {elts : List Expr} {kk : Nat} {tpos : Pos} (a e it : Addr) :
    Turn P w K (.Tuple elts kk tpos) (ItT K a) [e, it] e (fun i h => (∃ old, IsEnum h e it ((i : Nat) : Int) old) ∧ h.IsTupleIter it a i ∧ e ≠ it ∧ a ≠ it ∧ a ≠ e) where
  mem := List.mem_cons_self
  obj := fun i h st b hb => by
    obtain ⟨⟨old, he⟩, ⟨o, ho, _, hd⟩, _⟩ := st
    exact obj_of he ho hd b hb
  keep := fun i h h' st k => by
    obtain ⟨⟨old, he⟩, ⟨o, ho, r⟩, hne⟩ := st
    exact ⟨⟨old, k e (by simp) _ he⟩, ⟨o, k it (by simp) _ ho, r⟩, hne⟩
  item := by
    intro X hP hw hK hc i pins s σ H E I hf st hg
    subst hP hw hK
    obtain ⟨⟨old, he⟩, hit, hne, hai, hae⟩ := st
    obtain ⟨xs, x, hq, hx⟩ := hg
    obtain ⟨its, rv, p, hz⟩ := I.tuple hq
    obtain ⟨u, hu, ru⟩ := rv.get hx
    have hlt : i < its.toArray.size := by
      have := (List.getElem?_eq_some_iff.mp hu).1
      simpa using this
    have D := Draws.tuple (prog := X.prog) (w := X.w) (A := X.A.in1) (I.ok.hd hc) it a hai its.toArray
    have l1 : e < s.heap.objs.size := Heap.lt_size he
    have l2 : it < s.heap.objs.size := by obtain ⟨_, q, _⟩ := hit; exact Heap.lt_size q
    have hef : e ∉ [it, a] := by
      intro q
      rcases two q with z | z
      · exact hne z
      · exact hae z.symm
    refine wpAny_pyNext_enum_itemD D he ⟨hit, p⟩ hlt hne hef fun v h' tk hv ho hit' hT hsz hk => ?_
    obtain rfl : v = u := by
      have q : its.toArray[i]? = some v := hv
      rw [List.getElem?_toArray, hu] at q
      exact (Option.some.inj q).symm
    refine ⟨_, rfl, wpAny_letOwnedTupleGo_enum (s := { s with heap := h', toks := tk + 1 }) ho fun h2 he2 sb => ?_⟩
    have hT2 : h2.get? s.heap.objs.size = some { cls := .type "tuple", data := .seq #[.int i tk, v] } := (sb.2 _ (Nat.ne_of_gt l1)).trans hT
    have new : ObjOk X.prog X.w (upd H s.heap.objs.size (.tup [.int (i : Nat), x])) h2 s.heap.objs.size (.tup [.int (i : Nat), x]) :=
      ⟨by show 2 ≤ sizeLine; decide, [.int i tk, v], .cons ⟨_, rfl⟩ (.cons ru .nil), ⟨_, hT2, rfl, _, rfl⟩⟩
    have I1 := I.turnedNew (t' := tk + 1) (ch := [e, it]) (fun b ob hb q => (sb.2 b (fun z => hb (by simp [z]))).trans (hk b ob (fun z => hb (by simp [z])) (fun z => hb (by simp [z])) q)) hf (Nat.le_refl _) new
    refine ⟨.ref s.heap.objs.size, _, I1, rfl, ⟨_, x, rfl, I.hok.fresh (Nat.le_refl _), rfl, fun ys hy => by rw [I.tuple_inj hy hq]; exact hx⟩, ⟨⟨v, ?_⟩, ?_, hne, hai, hae⟩, fun b hb => ?_⟩
    · rw [show ((i + 1 : Nat) : Int) = (i : Int) + 1 by omega]
      exact he2
    · obtain ⟨o, q, r⟩ := hit'.1
      exact ⟨o, (sb.2 it (Ne.symm hne)).trans q, r⟩
    · rw [upd_ne (show b ≠ s.heap.objs.size from fun q => by
        rcases two hb with z | z
        · rw [← q, z] at l1; exact Nat.lt_irrefl _ l1
        · rw [← q, z] at l2; exact Nat.lt_irrefl _ l2)]
      exact (hf b hb).1
  done := by
    intro X hP hw hK hc i pins s σ H E I hf st hg
    subst hP hw hK
    obtain ⟨⟨old, he⟩, hit, hne, hai, hae⟩ := st
    obtain ⟨xs, hq, hx⟩ := hg
    obtain ⟨its, rv, p, hz⟩ := I.tuple hq
    have D := Draws.tuple (prog := X.prog) (w := X.w) (A := X.A.in1) (I.ok.hd hc) it a hai its.toArray
    have hl := rv.length
    have hn : i = its.toArray.size := by
      rw [List.size_toArray]
      omega
    subst hn
    refine wpAny_pyNext_enum_endD D he ⟨hit, p⟩ fun h' eb => ⟨rfl, I.turnedL (t' := s.toks) (ch := [e, it]) (fun b o hb q => eb b o (fun z => hb (by simp [z])) q) hf⟩
  self := fun A i s Q E st h => by
    obtain ⟨⟨_, he⟩, _⟩ := st
    exact wpAny_pyIter_enum he h
theorem meets_enumT (a : Addr) (xs : Array Value) :
    Meets (Builtin.«enumerate.__new__» ⟨[.type "enumerate", .ref a], []⟩) (fun _ R s => s.heap.IsTuple a xs ∧
      R (.ok (.ret (.ref (s.heap.push { cls := .type "tuple_iterator", data := .fields #[.ref a, .int 0 0] }).objs.size)))
        { s with heap := (s.heap.push { cls := .type "tuple_iterator", data := .fields #[.ref a, .int 0 0] }).push { cls := .type "enumerate", data := .fields #[.none, .bool false, .ref s.heap.objs.size, rawInt 0, .none, .none] } }) :=
  .of_wp fun prog w A R s h => by
    obtain ⟨hp, g, d, tk, os⟩ := s
    obtain ⟨hl, h⟩ := h
    have hsub := sub_enumerate
    have hL : Heap.IsTuple (Shared.heap ⟨hp, g, d, tk, os⟩) a xs := hl
    wp_walk
    refine wpAny_stack_any fun st => wpAny_pure ?_
    split
    · rename_i c _ _ _ _ _
      cases (c == Value.type "enumerate")
      all_goals
        wp_walk using wpAny_pyIter_tuple hL
        exact ⟨_, rfl, h⟩
    · wp_walk using wpAny_pyIter_tuple hL
      exact ⟨_, rfl, h⟩
section
variable {X : Cx}
def iEnumS (ta : TA) : TI := fun σ H R => ta σ H fun vs H1 => ∃ x, vs = [.str x] ∧ R (ItS x) H1
theorem pi_enumS {e : Expr} {ta : TA} {p pos tpos : Pos} {elts : List Expr} {kk : Nat} (hg : Gl X "enumerate") (hm : X.mg "enumerate" = none) (ha : PA X [e] ta) (hs : starEach [e] X.env = [(false, eval e X.env)] := by rfl) :
    PI X (.Tuple elts kk tpos) (.Call (.Name "enumerate" p) [e] [] pos) (iEnumS ta) := by
  refine ⟨fun pins s σ H R I h => Call_ (ld_blt I hg hm boot_enumerate (callWith_type1 (thn (ha.run pos pins s σ H _ I h) fun us s1 ⟨vs, H1, I1, r1, q1⟩ => ?_) hs rfl))⟩
  obtain ⟨x, ex, q⟩ := q1
  subst ex
  cases r1 with
  | cons r rr =>
    cases rr
    obtain ⟨t, rfl⟩ := r
    refine call_enumerate_str fun h' he hit hsz hk => wpAny_pyIter_enum he ?_
    refine ⟨s1.heap.objs.size + 1, _, _, _, H1, rfl, I1.kept (t' := s1.toks) hk, turn_enumS x t (s1.heap.objs.size + 1) s1.heap.objs.size, ⟨⟨.none, he⟩, hit, Nat.succ_ne_self _⟩, fun b hb => ?_, q⟩
    have hle : s1.heap.objs.size ≤ b := by
      rcases two hb with z | z <;> rw [z] <;> first | exact Nat.le_add_right _ _ | exact Nat.le_refl _
    exact I1.fpOk hle (I1.hok.fresh hle)
def iEnumT (K : PySem.W.Frag) (ta : TA) : TI := fun σ H R => ta σ H fun vs H1 => ∃ a xs, vs = [.ref a] ∧ SqT K H1 a xs ∧ R (ItT K a) H1
theorem pi_enumT {e : Expr} {ta : TA} {p pos tpos : Pos} {elts : List Expr} {kk : Nat} (hg : Gl X "enumerate") (hm : X.mg "enumerate" = none) (ha : PA X [e] ta) (hs : starEach [e] X.env = [(false, eval e X.env)] := by rfl) :
    PI X (.Tuple elts kk tpos) (.Call (.Name "enumerate" p) [e] [] pos) (iEnumT X.K ta) := by
  refine ⟨fun pins s σ H R I h => Call_ (ld_blt I hg hm boot_enumerate (callWith_type1 (thn (ha.run pos pins s σ H _ I h) fun us s1 ⟨vs, H1, I1, r1, q1⟩ => ?_) hs rfl))⟩
  obtain ⟨a, xs, ex, hq, q⟩ := q1
  subst ex
  cases r1 with
  | cons r rr =>
    cases rr
    cases r
    obtain ⟨its, rv, p', hz⟩ := I1.tuple hq
    obtain ⟨oa, hoa, _⟩ := id p'
    have la : a < s1.heap.objs.size := Heap.lt_size hoa
    refine callType_new F.called_enumerate (by decide) (F.typeCall_enumerate_1 _) (F.newCall_enumerate_1 _) (fun obj => F.args_object_init_2 obj _) F.entry_enumerate_new (meets_enumT a its.toArray) ⟨p', ?_⟩
    have hz : (s1.heap.push { cls := .type "tuple_iterator", data := .fields #[.ref a, .int 0 0] }).objs.size = s1.heap.objs.size + 1 := Heap.size_push ..
    show _ ∧ _
    rw [hz]
    have g1 := Heap.get?_push_size (s1.heap.push { cls := .type "tuple_iterator", data := .fields #[.ref a, .int 0 0] }) (o := { cls := .type "enumerate", data := .fields #[.none, .bool false, .ref s1.heap.objs.size, rawInt 0, .none, .none] }) rfl
    rw [hz] at g1
    have he : IsEnum ((s1.heap.push { cls := .type "tuple_iterator", data := .fields #[.ref a, .int 0 0] }).push { cls := .type "enumerate", data := .fields #[.none, .bool false, .ref s1.heap.objs.size, rawInt 0, .none, .none] }) (s1.heap.objs.size + 1) s1.heap.objs.size 0 .none := g1
    refine ⟨⟨_, he, rfl⟩, wpAny_pyIter_enum he ?_⟩
    refine ⟨s1.heap.objs.size + 1, _, _, _, H1, rfl, I1.kept (t' := s1.toks) fun b o e => Heap.get?_push_of_some _ (Heap.get?_push_of_some _ e), turn_enumT a (s1.heap.objs.size + 1) s1.heap.objs.size,
      ⟨⟨.none, he⟩, ⟨_, Heap.get?_push_of_some _ (Heap.get?_push_size _ rfl), rfl, rfl⟩, Nat.succ_ne_self _, Nat.ne_of_lt la, Nat.ne_of_lt (Nat.lt_succ_of_lt la)⟩, fun b hb => ?_, q⟩
    have hle : s1.heap.objs.size ≤ b := by
      rcases two hb with z | z <;> rw [z] <;> first | exact Nat.le_add_right _ _ | exact Nat.le_refl _
    exact I1.fpOk hle (I1.hok.fresh hle)
end
/-! ### loops over them -/
theorem for_enumS {x : Str} {g : TG} {tb : TS} {D : Ends} {σ : L2.St} {H : Hp} (Pv : Nat → L2.St → Hp → Prop) (h0 : Pv 0 σ H)
    (hs : ∀ (i c : Nat) (T : Addr) (σ : L2.St) (H : Hp), x.cps[i]? = some c → Pv i σ H → H T = none → g (.ref T) σ (upd H T (.tup [.int (i : Nat), .str ⟨#[c]⟩])) fun σ2 H2 => tb { D with nx := Pv (i + 1), ct := Pv (i + 1), bk := D.nx } σ2 H2)
    (hd : ∀ σ H, Pv x.cps.size σ H → D.nx σ H) :
    ∃ W : Nat → Nat → L2.St → Hp → Prop, (∃ m, W 0 m σ H) ∧ ∀ i m σ H, W i m σ H →
      ((ItS x).stop i H ∧ D.nx σ H) ∨ ((ItS x).go i H ∧ ∃ N : L2.St → Hp → Prop, (∀ σ' H', N σ' H' → ∃ m', m' < m ∧ W (i + 1) m' σ' H') ∧ ∀ v H', (ItS x).yld i H v H' → g v σ H' fun σ2 H2 => tb { D with nx := N, ct := N, bk := D.nx } σ2 H2) := by
  refine ⟨fun i m σ H => i + m = x.cps.size ∧ Pv i σ H, ⟨_, Nat.zero_add _, h0⟩, ?_⟩
  rintro i m σ H ⟨e, p⟩
  by_cases hm : m = 0
  · have e2 : i = x.cps.size := by omega
    refine .inl ⟨e2, hd σ H ?_⟩
    rw [← e2]
    exact p
  · refine .inr ⟨show i < x.cps.size by omega, Pv (i + 1), fun σ' H' p' => ⟨m - 1, by omega, by omega, p'⟩, ?_⟩
    rintro v H' ⟨T, c, rfl, hT, rfl, hc⟩
    exact hs i c T σ H hc p hT
theorem for_enumT {K : PySem.W.Frag} {a : Addr} {xs : List V} {g : TG} {tb : TS} {D : Ends} {σ : L2.St} {H : Hp} (Pv : Nat → L2.St → Hp → Prop) (h0 : Pv 0 σ H) (hq : ∀ i σ H, Pv i σ H → SqT K H a xs)
    (hs : ∀ (i : Nat) (x : V) (T : Addr) (σ : L2.St) (H : Hp), xs[i]? = some x → Pv i σ H → H T = none → g (.ref T) σ (upd H T (.tup [.int (i : Nat), x])) fun σ2 H2 => tb { D with nx := Pv (i + 1), ct := Pv (i + 1), bk := D.nx } σ2 H2)
    (hd : ∀ σ H, Pv xs.length σ H → D.nx σ H) :
    ∃ W : Nat → Nat → L2.St → Hp → Prop, (∃ m, W 0 m σ H) ∧ ∀ i m σ H, W i m σ H →
      ((ItT K a).stop i H ∧ D.nx σ H) ∨ ((ItT K a).go i H ∧ ∃ N : L2.St → Hp → Prop, (∀ σ' H', N σ' H' → ∃ m', m' < m ∧ W (i + 1) m' σ' H') ∧ ∀ v H', (ItT K a).yld i H v H' → g v σ H' fun σ2 H2 => tb { D with nx := N, ct := N, bk := D.nx } σ2 H2) := by
  refine ⟨fun i m σ H => i + m = xs.length ∧ Pv i σ H, ⟨_, Nat.zero_add _, h0⟩, ?_⟩
  rintro i m σ H ⟨e, p⟩
  by_cases hm : m = 0
  · have e2 : i = xs.length := by omega
    refine .inl ⟨⟨xs, hq i σ H p, e2⟩, hd σ H ?_⟩
    rw [← e2]
    exact p
  · have hi : i < xs.length := by omega
    refine .inr ⟨⟨xs, xs[i], hq i σ H p, List.getElem?_eq_getElem hi⟩, Pv (i + 1), fun σ' H' p' => ⟨m - 1, by omega, by omega, p'⟩, ?_⟩
    rintro v H' ⟨T, x, rfl, hT, rfl, hx⟩
    exact hs i x T σ H (hx xs (hq i σ H p)) p hT
theorem for_enumL {K : PySem.W.Frag} {a : Addr} {xs : List V} {g : TG} {tb : TS} {D : Ends} {σ : L2.St} {H : Hp} (Pv : Nat → L2.St → Hp → Prop) (h0 : Pv 0 σ H) (hq : ∀ i σ H, Pv i σ H → SqL K H a xs)
    (hs : ∀ (i : Nat) (x : V) (T : Addr) (σ : L2.St) (H : Hp), xs[i]? = some x → Pv i σ H → H T = none → g (.ref T) σ (upd H T (.tup [.int (i : Nat), x])) fun σ2 H2 => tb { D with nx := Pv (i + 1), ct := Pv (i + 1), bk := D.nx } σ2 H2)
    (hd : ∀ σ H, Pv xs.length σ H → D.nx σ H) :
    ∃ W : Nat → Nat → L2.St → Hp → Prop, (∃ m, W 0 m σ H) ∧ ∀ i m σ H, W i m σ H →
      ((Ite K a).stop i H ∧ D.nx σ H) ∨ ((Ite K a).go i H ∧ ∃ N : L2.St → Hp → Prop, (∀ σ' H', N σ' H' → ∃ m', m' < m ∧ W (i + 1) m' σ' H') ∧ ∀ v H', (Ite K a).yld i H v H' → g v σ H' fun σ2 H2 => tb { D with nx := N, ct := N, bk := D.nx } σ2 H2) := by
  refine ⟨fun i m σ H => i + m = xs.length ∧ Pv i σ H, ⟨_, Nat.zero_add _, h0⟩, ?_⟩
  rintro i m σ H ⟨e, p⟩
  by_cases hm : m = 0
  · have e2 : i = xs.length := by omega
    refine .inl ⟨⟨xs, hq i σ H p, by omega⟩, hd σ H ?_⟩
    rw [← e2]
    exact p
  · have hi : i < xs.length := by omega
    refine .inr ⟨⟨xs, xs[i], hq i σ H p, List.getElem?_eq_getElem hi⟩, Pv (i + 1), fun σ' H' p' => ⟨m - 1, by omega, by omega, p'⟩, ?_⟩
    rintro v H' ⟨T, x, rfl, hT, rfl, hx⟩
    exact hs i x T σ H (hx xs (hq i σ H p)) p hT
end EN

namespace TR
open PySem PySem.Spec PyProof.Rows L2 Evl
/-- a list or a tuple of these -/
def ob (k : Bool) (xs : List V) : HO := if k = true then .tup xs else .lst xs
theorem ob_seq {K : PySem.W.Frag} {H : Hp} {a : Addr} {k : Bool} {xs : List V} (h : H a = some (ob k xs)) : SqL K H a xs ∨ SqT K H a xs := by
  cases k
  · exact .inl (sq_of h)
  · exact .inr (st_of h)
theorem ob_list {K : PySem.W.Frag} {H : Hp} {a : Addr} {k : Bool} {xs : List V} (h : H a = some (ob k xs)) : TyX K H (.ref a) (if k = true then .type "tuple" else .type "list") := by
  cases k
  · exact .base (.lst h)
  · exact .base (.tup h)
theorem ob_ne {k : Bool} {xs : List V} {kvs : List (Key × V)} : ob k xs ≠ .dK kvs := by
  cases k <;> intro h <;> cases h
section
variable {X : Cx} {pos : Pos}
/-- a, b, .. = a list or a tuple of that length -/
def gSeq (K : PySem.W.Frag) (n : Nat) (t : TGs) : TG := fun v σ H Q => gUnl K n t v σ H Q ∨ gTup K n t v σ H Q
theorem pg_seq {es : List Expr} {k : Nat} {t : TGs} {n : Nat} (hc : X.calm = true) (h : PGs X es t)
    (hn : (assignEach es X.env).length = n := by rfl) (hst : (assignEach es X.env).findIdx? (·.1) = none := by rfl) : PG X (.Tuple es k pos) (gSeq X.K n t) := by
  refine ⟨fun pins s σ H v u Q I r hw => ?_⟩
  rcases hw with hw | hw
  · exact (pg_unl hc h hn hst).run pins s σ H v u Q I r hw
  · exact (pg_tup hc h hn hst).run pins s σ H v u Q I r hw
theorem gSeq_of {K : PySem.W.Frag} {n : Nat} {t : TGs} {H : Hp} {a : Addr} {k : Bool} {xs : List V} {σ : L2.St} {Q : L2.St → Hp → Prop} (h : H a = some (ob k xs)) (hl : xs.length = n) (q : t xs σ H Q) : gSeq K n t (.ref a) σ H Q := by
  cases k
  · exact .inl ⟨a, xs, rfl, sq_of h, hl, q⟩
  · exact .inr ⟨a, xs, rfl, st_of h, hl, q⟩
/-- a walk over either -/
def iSeq (K : PySem.W.Frag) (te : TE) : TI := fun σ H R => iList K te σ H R ∨ iTup K te σ H R
theorem pi_seq {tg e : Expr} {te : TE} (he : PE X e te) : PI X tg e (iSeq X.K te) := by
  refine ⟨fun pins s σ H R I h => ?_⟩
  rcases h with h | h
  · exact (pi_list he).run pins s σ H R I h
  · exact (pi_tup he).run pins s σ H R I h
def iEnumQ (K : PySem.W.Frag) (ta : TA) : TI := fun σ H R => iEnum K ta σ H R ∨ EN.iEnumT K ta σ H R
theorem pi_enumQ {e : Expr} {ta : TA} {p tpos : Pos} {elts : List Expr} {kk : Nat} (hg : Gl X "enumerate") (hm : X.mg "enumerate" = none) (ha : PA X [e] ta) (hs : starEach [e] X.env = [(false, eval e X.env)] := by rfl) :
    PI X (.Tuple elts kk tpos) (.Call (.Name "enumerate" p) [e] [] pos) (iEnumQ X.K ta) := by
  refine ⟨fun pins s σ H R I h => ?_⟩
  rcases h with h | h
  · exact (pi_enum hg hm ha hs).run pins s σ H R I h
  · exact (EN.pi_enumT hg hm ha hs).run pins s σ H R I h
theorem ix_at {K : PySem.W.Frag} {H : Hp} {a : Addr} {k : Bool} {xs : List V} {i : Int} {v : V} {Q : VK} (h : H a = some (ob k xs)) (hi : atI xs i = some v) (q : Q v H) : rIx K (.ref a) (.int i) H Q := by
  cases k
  · exact .inl ⟨a, xs, i, v, rfl, rfl, sq_of h, hi, q⟩
  · exact .inr (.inl ⟨a, xs, i, v, rfl, rfl, st_of h, hi, q⟩)
end
/-! ### trees -/
mutual
inductive Tr where
  | go (s q : Nat) : Tr
  | tell (n : Nat) (t : Tr) : Tr
  | read (p : Nat) (ts : Trs) : Tr
inductive Trs where
  | nil : Trs
  | cons (t : Tr) (r : Trs) : Trs
end
def Trs.list : Trs → List Tr
  | .nil => []
  | .cons t r => t :: r.list
mutual
def Tr.size : Tr → Nat
  | .go _ _ => 1
  | .tell _ t => t.size + 1
  | .read _ ts => ts.size + 1
def Trs.size : Trs → Nat
  | .nil => 0
  | .cons t r => t.size + r.size
end
mutual
def Tr.depth : Tr → Nat
  | .go _ _ => 1
  | .tell _ t => t.depth + 1
  | .read _ ts => ts.depth + 1
def Trs.depth : Trs → Nat
  | .nil => 0
  | .cons t r => max t.depth r.depth
end
/-! as described, for so many letters, this width, so many states -/
mutual
def Tr.ok (l w n : Nat) : Tr → Prop
  | .go s q => 1 ≤ s ∧ s ≤ w + 1 ∧ q < n
  | .tell k t => k ≤ 2 ∧ t.ok l w n
  | .read p ts => p ≤ w ∧ ts.list.length = l ∧ ts.ok l w n
def Trs.ok (l w n : Nat) : Trs → Prop
  | .nil => True
  | .cons t r => t.ok l w n ∧ r.ok l w n
end
/-- the trees within -/
def Tr.kids : Tr → List Tr
  | .go _ _ => []
  | .tell _ t => [t]
  | .read _ ts => ts.list
/-! how a tree stands in memory, of lists or of tuples -/
mutual
inductive TA (k : Bool) (H : Hp) : V → Tr → Prop
  | go {a : Addr} {s q : Nat} : H a = some (ob k [.str "go", .int (s : Nat), .int (q : Nat)]) → TA k H (.ref a) (.go s q)
  | tell {a : Addr} {n : Nat} {v : V} {t : Tr} : H a = some (ob k [.str "tell", .int (n : Nat), v]) → TA k H v t → TA k H (.ref a) (.tell n t)
  | read {a b : Addr} {p : Nat} {vs : List V} {ts : Trs} : H a = some (ob k [.str "read", .int (p : Nat), .ref b]) → H b = some (ob k vs) → TAs k H vs ts → TA k H (.ref a) (.read p ts)
inductive TAs (k : Bool) (H : Hp) : List V → Trs → Prop
  | nil : TAs k H [] .nil
  | cons {v : V} {vs : List V} {t : Tr} {r : Trs} : TA k H v t → TAs k H vs r → TAs k H (v :: vs) (.cons t r)
end
mutual
theorem TA.ex {k : Bool} {H H' : Hp} (e : Ex H H') : ∀ {t : Tr} {v : V}, TA k H v t → TA k H' v t
  | _, _, .go h => .go (e _ _ h)
  | _, _, .tell h r => .tell (e _ _ h) (TA.ex e r)
  | _, _, .read h1 h2 r => .read (e _ _ h1) (e _ _ h2) (TAs.ex e r)
theorem TAs.ex {k : Bool} {H H' : Hp} (e : Ex H H') : ∀ {ts : Trs} {vs : List V}, TAs k H vs ts → TAs k H' vs ts
  | _, _, .nil => .nil
  | _, _, .cons h r => .cons (TA.ex e h) (TAs.ex e r)
end
/-- a list of trees as it stands -/
inductive Kids (k : Bool) (H : Hp) : List V → List Tr → Prop
  | nil : Kids k H [] []
  | cons {v : V} {vs : List V} {t : Tr} {r : List Tr} : TA k H v t → Kids k H vs r → Kids k H (v :: vs) (t :: r)
theorem TAs.kids {k : Bool} {H : Hp} : ∀ {ts : Trs} {vs : List V}, TAs k H vs ts → Kids k H vs ts.list
  | _, _, .nil => .nil
  | _, _, .cons h r => .cons h r.kids
theorem Kids.ex {k : Bool} {H H' : Hp} (e : Ex H H') : ∀ {vs : List V} {ts : List Tr}, Kids k H vs ts → Kids k H' vs ts
  | _, _, .nil => .nil
  | _, _, .cons h r => .cons (h.ex e) (Kids.ex e r)
theorem Kids.len {k : Bool} {H : Hp} : ∀ {vs : List V} {ts : List Tr}, Kids k H vs ts → vs.length = ts.length
  | _, _, .nil => rfl
  | _, _, .cons _ r => by rw [List.length_cons, List.length_cons, r.len]
theorem Kids.get {k : Bool} {H : Hp} : ∀ {vs : List V} {ts : List Tr} {i : Nat} {x : V}, Kids k H vs ts → vs[i]? = some x → ∃ t, ts[i]? = some t ∧ TA k H x t
  | _, _, _, _, .nil, h => by cases h
  | _, _, 0, _, .cons (t := t) h1 _, h => ⟨t, rfl, by rw [← Option.some.inj h]; exact h1⟩
  | _, _, i + 1, _, .cons _ r, h => Kids.get (i := i) r h
theorem Kids.snoc {k : Bool} {H : Hp} {v : V} {t : Tr} (h : TA k H v t) : ∀ {vs : List V} {ts : List Tr}, Kids k H vs ts → Kids k H (vs ++ [v]) (ts ++ [t])
  | _, _, .nil => .cons h .nil
  | _, _, .cons h1 r => .cons h1 (Kids.snoc h r)
theorem Kids.app {k : Bool} {H : Hp} : ∀ {vs : List V} {ts : List Tr} {us : List V} {rs : List Tr}, Kids k H vs ts → Kids k H us rs → Kids k H (vs ++ us) (ts ++ rs)
  | _, _, _, _, .nil, h => h
  | _, _, _, _, .cons h r, h2 => .cons h (Kids.app r h2)
theorem size_pos : ∀ t : Tr, 1 ≤ t.size
  | .go _ _ => Nat.le_refl 1
  | .tell _ t => by
    show 1 ≤ t.size + 1
    omega
  | .read _ ts => by
    show 1 ≤ ts.size + 1
    omega
def total (ts : List Tr) : Nat := (ts.map Tr.size).sum
theorem Trs.total : ∀ ts : Trs, TR.total ts.list = ts.size
  | .nil => rfl
  | .cons t r => by
    show t.size + TR.total r.list = t.size + r.size
    rw [Trs.total r]
theorem size_kids : ∀ t : Tr, t.size = TR.total t.kids + 1
  | .go _ _ => rfl
  | .tell _ t => rfl
  | .read _ ts => by
    show ts.size + 1 = TR.total ts.list + 1
    rw [Trs.total]
theorem Trs.ok_mem {l w n : Nat} : ∀ {ts : Trs}, ts.ok l w n → ∀ t ∈ ts.list, t.ok l w n
  | .nil, _, _, h => nomatch h
  | .cons t r, h, x, hx => by
    rcases List.mem_cons.mp hx with q | q
    · rw [q]
      exact h.1
    · exact Trs.ok_mem h.2 x q
theorem ok_kids {l w n : Nat} : ∀ {t : Tr}, t.ok l w n → ∀ x ∈ t.kids, x.ok l w n
  | .go _ _, _, _, h => nomatch h
  | .tell _ t, h, x, hx => by
    rw [List.mem_singleton.mp hx]
    exact h.2
  | .read _ ts, h, x, hx => Trs.ok_mem h.2.2 x hx
theorem Trs.depth_mem : ∀ {ts : Trs}, ∀ t ∈ ts.list, t.depth ≤ ts.depth
  | .nil, _, h => nomatch h
  | .cons t r, x, hx => by
    rcases List.mem_cons.mp hx with q | q
    · rw [q]
      exact Nat.le_max_left _ _
    · exact Nat.le_trans (Trs.depth_mem x q) (Nat.le_max_right _ _)
theorem depth_kids : ∀ {t : Tr}, ∀ x ∈ t.kids, x.depth + 1 ≤ t.depth
  | .go _ _, _, h => nomatch h
  | .tell _ t, x, hx => by
    rw [List.mem_singleton.mp hx]
    exact Nat.le_refl _
  | .read _ ts, x, hx => Nat.succ_le_succ (Trs.depth_mem x hx)
end TR

namespace GD
open PySem PySem.Spec PyProof.Rows L2
/-- a law's promise, where no text of an object is being made -/
structure Gd (P : Program) (w : World) (K : PySem.W.Frag) (mg : Str → Option Value) (base : Heap) (k : Nat) (f : Addr) (fd : FuncData) (ps : List Str) (sp : Sp) : Prop where
  run : ∀ (A : Around) (outer : List Env) (s : Shared) (H : Hp) (args : Args) (us : List Value) (vs : List V) (Q : VK) (E : XK), Room k A → A.guards = some [] → Env0 P w K mg base A outer s H → BindsTo s fd args (ps.zip us) → Vals vs us → sp vs H Q E →
    codeAny (model P w) A (.call (.ref f) args) (CR CX0 outer P w H s Q E) s
section
variable {P : Program} {w : World} {K : PySem.W.Frag} {mg : Str → Option Value} {base : Heap}
theorem deeper_guards {A : Around} {env : Env} (h : A.guards = some []) : (A.deeper env).guards = some [] := h
/-- the rule for a def, once more -/
theorem okG {x qual : Str} {st : Stmt} {f : Addr} {fd : FuncData} {N ps : List Str} {k : Nat} {sp : Sp} (F : Fun K x qual st f fd) (S : FnScope N ps (defScope st)) (len : ∀ vs H Q E, sp vs H Q E → vs.length = ps.length)
    (hbody : ∀ (cdv : Value) (A : Around) (outer : List Env) (s : Shared) (H : Hp) (vs : List V) (Q : VK) (E : XK), Room k (A.deeper (envOfC qual (defScope st) s.heap.objs.size f cdv)) → (A.deeper (envOfC qual (defScope st) s.heap.objs.size f cdv)).guards = some [] → sp vs H Q E →
      ∃ t, PSs (cxOf CX0 P w K mg base N qual (defScope st) f cdv A outer s H E).nox (defBody st) t ∧ t { nx := fun _ H' => Q .non H', rt := Q } (start N vs) H) : Gd P w K mg base (k + 1) f fd ps sp := by
  obtain ⟨oc, od, kV, doc, pm, an, cdv, ct, osl, rfl, lk, hcd⟩ := F.ex
  refine ⟨fun A outer s H args us vs Q E hr hg e0 hb r hsp => ?_⟩
  have kin : K.In s.heap := e0.mod.kin.keeps fun b o e => (e0.bs b o e).1
  have nolim : s.heap.NoLimit := e0.mod.nolimit.keeps fun b o e => (e0.bs b o e).1
  have names : ∀ y ∈ ps.zip us, (defScope st).names.lookup y.1 = some .local ∨ ((defScope st).names.lookup y.1 = some .cell ∧ ((cellsFrom (s.heap.objs.size + 1) (defScope st).names []).lookup y.1).isSome = true) := by
    rintro ⟨n, v⟩ hy
    rcases S.par n (List.of_mem_zip hy).1 with q | q
    · exact .inl q
    · exact .inr ⟨q, PySem.W.cellsFrom_some _ _ _ (.inl q)⟩
  refine codeAny_call_function hr.depth (kin _ _ lk) rfl S.co S.gen rfl (PySem.W.codeRec_of kin hcd) (hb _ _ _ _ (wpAny_newFunctionEnv_cells S.kind names fun env he s1 z => ?_))
  subst he
  refine ⟨nolim.keeps z.toInCall.keep, codeAny_func ?_⟩
  obtain ⟨t, ht, hq⟩ := hbody cdv A outer s H vs Q E (hr.deeper _) (deeper_guards hg) hsp
  have I := inv_start (CX := CX0) (E := E) S hr.hd e0 (len _ _ _ _ hsp) r z
  refine wpAny_mono (ht.nox.run [] s1 (start N vs) H _ I hq) (fun fl s' hs => ?_) fun e s' hs => hs
  cases fl with
  | ret u =>
    obtain ⟨v, σ', H', J, rv, q⟩ := hs
    exact ⟨v, H', J.os, J.bare, J.base, J.hok, rv, q⟩
  | next =>
    obtain ⟨σ', H', J, q⟩ := hs
    exact ⟨V.non, H', J.os, J.bare, J.base, J.hok, rfl, q⟩
  | brk =>
    obtain ⟨_, _, _, q⟩ := hs
    exact q.elim
  | cont =>
    obtain ⟨_, _, _, q⟩ := hs
    exact q.elim
end
/-! ### the end: the law's promise at the heap behind the top -/
/-- the script alone is known -/
def one (a : Addr) (vs : List Value) (ns : List Int) : Hp := fun b => if b = a then some (.frz { cls := .type "list", data := .seq vs.toArray } (.lst (ns.map V.int))) else none
theorem callG {P : Program} {w : World} {K : PySem.W.Frag} {mg mb : Str → Option Value} {k : Nat} {fa a : Addr} {fd : FuncData} {x : Str} {sp : Sp} {s : Shared} {vs : List Value} {ns : List Int}
    (kin : K.In s.heap) (hns : s.heap.Ns mainGlobals mg) (hb : s.heap.Ns builtinsNs mb) (hbb : ∀ x : Str, x ≠ "__name__" → mb x = bootBuiltins x) (nolim : s.heap.NoLimit) (gens : s.gens = #[])
    (ha : s.heap.get? a = some { cls := .type "list", data := .seq vs.toArray }) (hi : IntsAre vs ns) (hl : ns.length ≤ sizeLine) (room : Room k callerA)
    (F : ∀ base : Heap, K.In base → base.Ns mainGlobals mg → Gd P w K mg base k fa fd [x] sp) (binds : ∀ (s : Shared) (u : Value), BindsTo s fd ⟨[u], []⟩ [(x, u)])
    (hsp : ∀ H : Hp, SqL K H a (ns.map V.int) → sp [.ref a] H (fun v _ => v = .bl true) E0) :
    codeAny (model P w) callerA (.call (.ref fa) ⟨[.ref a], []⟩) (fun r s' => r = .ok (.ret (.bool true)) ∧ OldK s.heap s'.heap ∧ s'.os = s.os ∧ AllBare s'.gens) s := by
  have rv := vals_ints hi
  have step : ∀ H : Hp, (∀ b u, H b = some u → b = a ∧ K.lookup a = none ∧ ∃ o xs, u = .frz o (.lst xs)) → HOk P w H s.heap → SqL K H a (ns.map V.int) →
      codeAny (model P w) callerA (.call (.ref fa) ⟨[.ref a], []⟩) (fun r s' => r = .ok (.ret (.bool true)) ∧ OldK s.heap s'.heap ∧ s'.os = s.os ∧ AllBare s'.gens) s := by
    intro H only hok hS
    have free : ∀ {b : Addr}, b ≠ a → H b = none := fun {b} n => by
      cases e : H b with
      | none => rfl
      | some u => exact absurd (only b u e).1 n
    have stays : ∀ {b : Addr} {m : Str → Option Value}, s.heap.Ns b m → (hidT s.heap H).Ns b m := fun {b m} ⟨o, es, ep, e, d, r⟩ => by
      refine ⟨o, es, ep, hidT_get e (free fun z => ?_), d, r⟩
      rw [z, ha] at e
      cases e
      cases (show Data.seq vs.toArray _ = Data.dict es ep from d)
    have kinB : K.In (hidT s.heap H) := fun b o e => hidT_get (kin b o e) (by
      cases q : H b with
      | none => rfl
      | some u =>
        obtain ⟨h1, h2, _⟩ := only b u q
        rw [h1, h2] at e
        cases e)
    have e0 : Env0 P w K mg (hidT s.heap H) callerA [] s H :=
      ⟨rfl, ⟨kinB, stays hns, ⟨mb, stays hb, hbb⟩, let ⟨mc, h1, h2⟩ := nolim; ⟨mc, stays h1, h2⟩⟩, fun b o e => of_hidT e, Nat.le_of_eq (hidT_size _ _), trivial, fun b hb => (nomatch (show b ∈ ([] : List Addr) from hb)), hok, .of_eq gens⟩
    refine codeAny_mono ((F _ kinB (stays hns)).run callerA [] s H ⟨[.ref a], []⟩ [.ref a] [.ref a] _ E0 room rfl e0 (binds s (.ref a)) (.cons rfl .nil) (hsp H hS)) fun r s' h => ?_
    cases r with
    | error e => exact h.elim
    | ok fl =>
      cases fl with
      | ret u =>
        obtain ⟨v, H', os, bare, un, hok', r', q⟩ := h
        obtain rfl : v = .bl true := q
        obtain rfl : u = Value.bool true := r'
        refine ⟨rfl, OldK.of_keep fun b o e => ?_, os, bare⟩
        cases q : H b with
        | none => exact un.keep b o e q (by intro z; exact (nomatch (show b ∈ ([] : List Addr) from z))) (by simp)
        | some u =>
          obtain ⟨_, _, ob, xs, rfl⟩ := only b u q
          obtain ⟨e1, _⟩ := hok b _ q
          obtain ⟨e2, _⟩ := hok' b _ (un.frzs b ob _ q)
          rw [e] at e1
          cases e1
          exact e2
      | next => exact h.elim
      | brk => exact h.elim
      | cont => exact h.elim
  cases hk : K.lookup a with
  | some o =>
    have e := kin a o hk
    rw [ha] at e
    cases e
    refine step (fun _ => none) (fun b u z => by cases z) (fun b u z => by cases z) (.inr ⟨_, vs.toArray, _, hk, rfl, rfl, rfl, ?_, by simpa using rv⟩)
    rw [List.size_toArray, hi.length]
    exact hl
  | none =>
    refine step (one a vs ns) (fun b u z => ?_) (fun b u z => ?_) (.inl (.inr ⟨_, if_pos rfl⟩))
    · unfold one at z
      by_cases q : b = a
      · rw [if_pos q] at z
        cases z
        exact ⟨q, hk, _, _, rfl⟩
      · rw [if_neg q] at z
        cases z
    · unfold one at z
      by_cases q : b = a
      · rw [if_pos q] at z
        cases z
        subst q
        exact ⟨ha, by rw [List.length_map]; exact hl, vs, _, rv, ha⟩
      · rw [if_neg q] at z
        cases z
theorem walkG {l : PySem.W.OpenLaw} {n k : Nat} {q : Program} {loose : List Str} {XP : (Str → Option Value) → Heap → Prop} {YP : World → Heap → Prop} {d : DefRec} {K : Params → PySem.W.Frag} {sp : World → Sp} {x : Str}
    (hn : l.most = some n) (hn2 : n ≤ sizeLine) (hdf : d.params.defaults = []) (hr : Room k callerA) (hY : ∀ (w : World) (h : Heap), YP w h → (K w.params).In h)
    (F : ∀ (w : World) (mg : Str → Option Value) (fa : Addr) (h : Heap), (K w.params).In h → h.Ns mainGlobals mg → mg d.name = some (.ref fa) →
      ∃ fd : FuncData, (∀ (s : Shared) (u : Value), BindsTo s fd ⟨[u], []⟩ [(x, u)]) ∧ ∀ base : Heap, (K w.params).In base → base.Ns mainGlobals mg → Gd l.prog w (K w.params) mg base k fa fd [x] (sp w))
    (hsp : ∀ (w : World) (H : Hp) (a : Addr) (ns : List Int), ns.length ≤ n → SqL (K w.params) H a (ns.map V.int) → sp w [.ref a] H (fun v _ => v = .bl true) E0) :
    PySem.W.WalkO q loose XP YP l.row.toRowW d [] (fun f vs => PySem.call f vs) := by
  refine Att.attach_call hn hdf fun w s₀ s₁ mg mb fa o pm cd doc a vs ns G Y ho hd hcd hmg hobj hints hlen hg => ?_
  have kin := hY w _ Y
  obtain ⟨fd, hb, hF⟩ := F w mg fa _ kin G.T.g hmg
  exact callG kin G.T.g G.T.b G.T.builtins G.T.nolimit hg hobj hints (Nat.le_trans hlen hn2) hr hF hb fun H hS => hsp w H a ns hlen hS
end GD

/-! own errors over an own base whose __init__ they call; several except clauses with a name -/
namespace EK
open PySem PySem.Spec PyProof.Rows L2
section
variable {X : Cx} {C0 : Addr} {x : Str} {e : Expr} {es : List Expr} {ta : TA} {p1 p2 pos : Pos}
/-- B.__init__(self, ..), B an own class over ValueError without an __init__ of its own -/
theorem pe_skinit {pl : Sem Bool} (hg : Gl X x) (hm : X.mg x = some (.ref C0)) (r : ClX.CRead X.K C0 (.type "type")) (k : PySem.W.findCls X.K (.ref C0) (.type "type") "__init__" = some (.val (.builtin "ValueError.__init__"))) (ha : PA X (e :: es) ta)
    (hc : eval (.Call (.Attribute (.Name x p1) "__init__" p2) (e :: es) [] pos) X.env = (do
      let ov ← eval (.Name x p1) X.env
      standAt p2.atName
      let (f, first) ← holding [ov] (getMethod ov "__init__" pl)
      callWith pos f first (backTo pos (starEach (e :: es) X.env)) (backToKw pos (keywordEach [] X.env))) := by rfl)
    (hdb : (x == ("__debug__" : Str)) = false := by decide)
    (he : starEach (e :: es) X.env = (false, eval e X.env) :: starEach es X.env := by rfl) (hpl : (backTo pos (starEach es X.env)).any (·.1) = false := by rfl) :
    PE X (.Call (.Attribute (.Name x p1) "__init__" p2) (e :: es) [] pos) (tVeI X.K ta) := by
  refine ⟨fun pins s σ H Q I h => ?_⟩
  refine PySem.W.methodCall_KW (ld_glob I hg hm ?_ hdb) hc
  refine PySem.W.method_cls I.kIn r.ga (PySem.W.cls_value I.kIn r.rd k rfl ?_)
  show wpAny _ _ (callWith pos (Value.builtin "ValueError.__init__") [] (backTo pos (starEach (e :: es) X.env)) []) _ _ _
  refine PyProof.Rows.callWith_method1 (thn (ha.run pos pins _ σ H _ (I.tok _) h) fun us s1 ⟨vs, H1, I1, r1, a, C, ws, ev, hl, T, ea, q⟩ => ?_) he hpl
  subst ev
  cases r1 with
  | @cons _ u0 _ ur ra rw' =>
    obtain rfl : u0 = Value.ref a := ra
    have hlen : ur.length ≤ sizeLine := by
      rw [← Paired.length rw', sizeLine_eq]
      omega
    exact oinit_ok T I1 ea hlen fun s' J => ⟨.non, H1, J, rfl, q⟩
end
end EK
/-! ### isinstance of a caught error that has its dict -/
namespace PySem.W
open PySem PySem.Spec PySem.Calls PyProof.Rows
section
variable {prog : Program} {w : World} {A : Around} {E : Value → Shared → Prop} {s : Shared} {K : Frag} {x D : Addr} {ox : Obj} {od : Option Obj}
theorem ek_findObj {C : Addr} {name : Str} {a g : Value} (hc : (clsIn K C).isSome = true) (ha : findIn K (.ref C) name = some (some a)) (hg : specialIn K a "__get__" = some (some g)) (ht : takesIn K a = some true) : findObj K C od name = some (.bind g a) := by
  obtain ⟨cd, hc⟩ := Option.isSome_iff_exists.mp hc
  unfold findObj
  rw [hc, Option.bind_some, ha, Option.bind_some]
  simp [hg, ht]
theorem ek_kin_class {Q : Option Value → Shared → Prop} (hga : findIn K (.ref D) "__getattribute__" = some (some (.builtin "BaseException.__getattribute__"))) (hgt : findIn K (.ref D) "__getattr__" = some none) (hsub : subIn K (.ref D) (.type "BaseException") = some true)
    (hdct : hasDictIn K D = true) (ha : findIn K (.ref D) "__class__" = some (some (.builtin "object.__class__")))
    (hn : specialIn K (.builtin "object.__class__") "__get__" = some (some (.builtin "getset_descriptor.__get__"))) (htk : takesIn K (.builtin "object.__class__") = some true) (hm : mroIn K D (.type "object") = some true)
    (X : K.In s.heap) (I : InstAt s.heap x ox D od) (h : Q (some (.ref D)) { s with toks := s.toks + 1 }) : wpAny (model prog w) A (getAttr? (.ref x) "__class__") Q E s := by
  have hf : findObj K D od "__class__" = some (.bind (.builtin "getset_descriptor.__get__") (.builtin "object.__class__")) := ek_findObj (by obtain ⟨cd, hc, _⟩ := any_some hdct; rw [hc]; rfl) ha hn htk
  obtain ⟨hp, g, d, t, os⟩ := s
  have L0 := I.type (M := model prog w)
  have L1 := looks_findIn (M := model prog w) X hga
  have L2 := looks_findIn (M := model prog w) X hgt
  have L3 := looks_find (M := model prog w) X I hf
  have sub : Looks (model prog w) hp (isInstance (.ref x) (.type "BaseException")) true := L0.andThen (looks_subIn X hsub)
  have hx0 : (false && onTheHeap (Value.builtin "BaseException.__getattribute__")) = false := rfl
  have hx2 : (Value.builtin "BaseException.__getattribute__" == Value.builtin "object.__getattribute__") = false := by decide +kernel
  have hx1 : (onTheHeap (Value.ref D) && Value.builtin "BaseException.__getattribute__" == Value.builtin "object.__getattribute__") = false := by rw [hx2]; rfl
  unfold getAttr? getAttrBy? getAttrBy
  refine wpAny_bind (wpAny_mkText (wpAny_bind (wpAny_attempt (wpAny_holding (wpAny_bind (L0.at (wpAny_bind (L1.at ?_))))))))
  show wpAny _ _ (if (onTheHeap (Value.ref D) && Value.builtin "BaseException.__getattribute__" == Value.builtin "object.__getattribute__") = true then _ else _) _ _ _
  rw [hx1, if_neg Bool.false_ne_true]
  unfold getAttrByItsOwn hookBefore
  refine wpAny_bind ?_
  rw [if_pos (show onTheHeap (Value.ref D) = true from rfl)]
  refine L2.at ?_
  refine wpAny_bind (wpAny_attempt (wpAny_holding ?_))
  unfold callGetattribute
  rw [hx0, if_neg Bool.false_ne_true]
  unfold boundAndCalled
  rw [PySem.F.excAttr_ValueError.ga.bind (.ref x)]
  refine wpAny_bind (wpAny_pure ?_)
  show wpAny _ _ (call (.builtin "BaseException.__getattribute__") [.ref x, .str "__class__" t]) _ _ _
  refine wpAny_call (codeAny_call_builtin PySem.F.excAttr_ValueError.ga.plain PySem.F.entry_bexc_ga ?_)
  refine @check_slot (model prog w) _ _ ⟨hp, g, d, t + 1, os⟩ "BaseException.__getattribute__" "BaseException" "__getattribute__" (.ref x) [.str "__class__" t] [] _ (by decide +kernel) (by decide +kernel) sub (PySem.F.args_bexc_ga (.ref x) (.str "__class__" t)) ?_
  unfold Builtin.«object.__getattribute__»
  refine wpAny_bind (wpAny_of_eq (a := ((Value.ref x : Value), [Value.str "__class__" t])) (by first | rfl | (simp only [slotArgs]; rfl)) ?_)
  refine wpAny_bind (wpAny_pure (wpAny_bind (L0.at (wpAny_bind (L3.at ?_)))))
  show wpAny _ _ (holding [Value.builtin "object.__class__"] (call (.builtin "getset_descriptor.__get__") [.builtin "object.__class__", .ref x, .ref D]) >>= ret) _ _ _
  refine wpAny_bind (wpAny_holding (wpAny_call (class_get (s := ⟨hp, g, d, t + 1, os⟩) (ox := ox) (od := od) X I hm ?_)))
  refine wpAny_pure ?_
  show wpAny _ _ (handedOut (.ref D)) _ _ _
  rw [handedOut_of (v := .ref D) rfl]
  first
    | exact wpAny_pure (wpAny_pure h)
    | exact wpAny_pure h
    | exact wpAny_pure (wpAny_bind (wpAny_pure (wpAny_pure h)))
theorem ek_kitx (hga : findIn K (.ref D) "__getattribute__" = some (some (.builtin "BaseException.__getattribute__"))) (hgt : findIn K (.ref D) "__getattr__" = some none) (hsub : subIn K (.ref D) (.type "BaseException") = some true) (hdct : hasDictIn K D = true) (ha : findIn K (.ref D) "__class__" = some (some (.builtin "object.__class__")))
    (hn : specialIn K (.builtin "object.__class__") "__get__" = some (some (.builtin "getset_descriptor.__get__"))) (htk : takesIn K (.builtin "object.__class__") = some true) (hm : mroIn K D (.type "object") = some true) :
    KitX K (.ref x) (.ref D) (fun h => InstAt h x ox D od) where
  ty := fun _ _ _ I => I.type
  it := fun _ _ X _ => by
    obtain ⟨cdD, hcD, _⟩ := any_some hdct
    unfold clsIn at hcD
    split at hcD
    · rename_i c' d' cd' sl' ho
      intro A' Q' E' s' k q
      unfold isType loadHead
      exact wpAny_bind (wpAny_loadPart (k _ _ (X _ _ ho)) (wpAny_pure q))
    · cases hcD
  ne := fun h tp dd its n sl X htp => by
    obtain ⟨cdD, hcD, _⟩ := any_some hdct
    refine Bool.eq_false_iff.mpr fun q => ?_
    have e : D = tp := Value.ref.inj (beq_iff_eq.mp q)
    subst e
    unfold clsIn at hcD
    split at hcD
    · rename_i c' d' cd' sl' ho
      have z := (X _ _ ho).symm.trans htp
      cases z
    · cases hcD
  ca := fun X I k => ek_kin_class hga hgt hsub hdct ha hn htk hm X I k
end
end PySem.W
namespace EK
open PySem PySem.Spec PyProof.Rows L2
/-- isinstance(e, c), e the exception that the suite holds: its class D, its dict at d -/
def rIsE (K : PySem.W.Frag) (cls : Value) (d : Option Addr) (D a : Addr) : List V → Hp → VK → Prop := fun xs H Q => ∃ (c : V) (cv : Value) (b : Bool), xs = [.ref a, c] ∧ cls = .ref D ∧ (∃ dd fs, d = some dd ∧ H dd = some (.xd fs)) ∧ ClsV c cv ∧ PySem.W.kitOne K (.ref D) cv = some b ∧ Q (.bl b) H
theorem call_isE {X : Cx} {a D : Addr} {cls : Value} {d : Option Addr} {oe : Obj} {pn : List (Addr × Obj)} (C : ExcC X.K D) (hz : Zc cls d oe) (hf : ∃ vs, oe.data = .fields vs) : CallR (X.suite a ((a, oe) :: pn)) (.builtin "isinstance") (rIsE X.K cls d D a) := by
  intro pins s σ H xs us Q I r h
  obtain ⟨c, cv, b, rfl, ec, ⟨dd, fs, ed, hd⟩, k, e, q⟩ := h
  obtain ⟨u1, u2, rfl, r1, r2⟩ := vals2 r
  cases r1
  have e2 := k.eq r2
  subst e2 ec ed
  obtain ⟨hget, _⟩ := I.pin (a, oe) (List.mem_append.mpr (.inl List.mem_cons_self))
  obtain ⟨vs, hv⟩ := hf
  have hx : ObjOk X.prog X.w H s.heap dd (.xd fs) := I.hok dd _ hd
  obtain ⟨mA, hns, _⟩ := hx
  obtain ⟨od, ho, _⟩ := lookIn_ns hns
  have J : PySem.W.InstAt s.heap a oe D (some od) := ⟨hget, hz.1, by unfold PySem.W.notCls; rw [hv] <;> rfl, by rw [hz.2]; exact ho⟩
  exact PySem.W.kia_one (PySem.W.ek_kitx C.hg C.hk C.hs C.hd C.ha C.hn C.ht C.hm) I.kIn J e (fun z => nomatch z) fun tk => ⟨.bl b, H, I.kept (t' := tk) fun _ _ z => z, rfl, q⟩
/-! ### several except clauses, all with one name -/
def endsN (D : Ends) (i : Nat) : Ends := { nx := fun σ' H' => D.nx (σ'.set i none) H', rt := D.rt, bk := fun σ' H' => D.bk (σ'.set i none) H', ct := fun σ' H' => D.ct (σ'.set i none) H' }
def wManyN (K : PySem.W.Frag) (Wout : WX) (D : Ends) (i : Nat) : List (Value × (Addr → Value → Option Addr → TS)) → WX
  | [] => Wout
  | (c, ts) :: r => fun cls d σ H => ∃ b, PySem.W.exmOne K cls c = some b ∧ (b = true → ∀ a, H a = none → ts a cls d (endsN D i) (σ.set i (some (.ref a))) H) ∧ (b = false → wManyN K Wout D i r cls d σ H)
inductive HdsN (X : Cx) (n : Str) : List ExceptHandler → List (Value × (Addr → Value → Option Addr → TS)) → Prop
  | nil : HdsN X n [] []
  | cons {x : Str} {c : Value} {ts : Addr → Value → Option Addr → TS} {b₀ : Stmt} {suite : List Stmt} {np pos' : Pos} {hds : List ExceptHandler} {l : List (Value × (Addr → Value → Option Addr → TS))} (hc : Names X x c)
      (hsu : ∀ (a : Addr) (oe : Obj) (cls : Value) (d : Option Addr) (pn : List (Addr × Obj)), Zc cls d oe → (∃ vs, oe.data = .fields vs) → PSs (X.suite a ((a, oe) :: pn)) (b₀ :: suite) (ts a cls d)) (r : HdsN X n hds l) :
      HdsN X n (.ExceptHandler (some (.Name x np)) (some n) (b₀ :: suite) pos' :: hds) ((c, ts) :: l)
section
variable {X : Cx} {n : Str} {i : Nat} {body : List Stmt} {h₀ : ExceptHandler} {hds : List ExceptHandler} {l : List (Value × (Addr → Value → Option Addr → TS))} {pos : Pos} {tb : WX → TS} {Wout : WX}
theorem ps_tryN (hs : X.stack = X.env :: X.outer) (hf : X.env.frame = some X.env.locals) (hN : X.N.Nodup) (hi : X.N[i]? = some n) (hln : X.env.kindOf n = some .local) (tk : Takes X Wout)
    (hb : ∀ (W : WX) (pn : List (Addr × Obj)) (xe : Value → Shared → Prop), Takes (X.tr pn xe) W → PassesOwn (model X.prog X.w) X.A X.env xe → PSs (X.tr pn xe) body (tb W))
    (hh : HdsN X n (h₀ :: hds) l) : PS X (.Try body (h₀ :: hds) [] [] pos) (fun D σ H => tb (wManyN X.K Wout D i l) D σ H) := by
  refine ⟨fun pins s σ H D I h => ?_⟩
  have ok := I.ok
  have hfr : X.A.frames = some (X.env :: X.outer) := by rw [ok.frames, hs]
  have hloc : Loc X.env.scope n := .inl hln
  refine wpAny_Try_except ?_
  refine wpAny_mono ((hb (wManyN X.K Wout D i l) (X.pn ++ pins) (fun e s₁ => wpAny (model X.prog X.w) X.A (noteFrame e X.env) (fun _ s₂ => wpAny (model X.prog X.w) X.A (setFlight e none) (fun _ s₃ =>
    wpAny (model X.prog X.w) X.A (handleBy e X.env (h₀ :: hds)) (SP X pins D) X.xe s₃) X.xe s₂) X.xe s₁) (fun u s' xx => ?_) PassesOwn.looking).run [] s σ H D (I.toTry _) h) (fun f s1 hsp => ?_) (fun e s1 he => he)
  · -- the catch
    obtain ⟨a, B, sI, pins', σ', H', cls, d, rfl, J', nb, up, sky, na, os, ag, w⟩ := xx
    have J : Inv X pins σ' H' sI := J'.ofTry ok
    have sky' : Sky B (X.env :: X.outer) a (Zc cls d) X.env.locals s'.heap := by rw [← hs]; exact sky
    show wpAny (model X.prog X.w) X.A (noteFrame (.ref a) X.env) _ _ _
    refine Sky.land Zc.steady hfr hf sky' fun h3 fl3 up3 => ?_
    have J3 : Inv X pins σ' H' { s' with heap := h3 } := J.landed nb fl3.1 (up.trans up3) os ag
    obtain ⟨oe3, vs3, he3, hz3, hd3⟩ := fl3.there
    have notFr : ∀ {h : Heap} {o : Obj} {vs : Array Value}, h.FunFrames B (X.env :: X.outer) → h.get? a = some o → o.data = .fields vs → a ∉ frs (X.env :: X.outer) := fun {h o vs} ff e dd hm => by
      obtain ⟨_, o', e', hnf⟩ := ff.mem hm
      rw [e] at e'; cases e'
      exact hnf _ dd
    have nfr := notFr fl3.2.2.1 he3 hd3
    have nL : a ≠ X.env.locals := fun z => nfr (List.mem_filterMap.mpr ⟨X.env, List.mem_cons_self, by rw [hf, z]⟩)
    have nF : a ∉ X.fs := fun hm => by
      obtain ⟨e, he, q⟩ := List.mem_filterMap.mp hm
      exact nfr (List.mem_filterMap.mpr ⟨e, List.mem_cons_of_mem _ he, q⟩)
    have S3 := J3.suite he3 hd3 na nL nF
    have go : ∀ {hds' : List ExceptHandler} {l' : List (Value × (Addr → Value → Option Addr → TS))}, HdsN X n hds' l' → wManyN X.K Wout D i l' cls d σ' H' →
        wpAny (model X.prog X.w) X.A (handleBy (.ref a) X.env hds') (SP X pins D) X.xe { s' with heap := h3 } := by
      intro hds' l' hk
      induction hk with
      | nil =>
        intro w
        refine wpAny_handleBy_nil ?_
        obtain ⟨k1, k2, k3, oe, vs, T, oT, ts', he, hz, hd, h1, hr⟩ := id fl3
        unfold PySem.passOn
        refine wpAny_bind (wpAny_field he hd h1 ?_)
        rw [if_neg (show ¬ ((Value.ref T == Value.none) = true) from by simp)]
        have fin : wpAny (model X.prog X.w) X.A (setFlight (.ref a) X.env.frame) (fun _ s4 => wpAny (model X.prog X.w) X.A (throw (.ref a) : Sem Flow) (SP X pins D) X.xe s4) X.xe { s' with heap := h3 } := by
          rw [hf]
          refine HandSPX.setFlight_upZ fl3 fun h4 hh4 up4 => wpAny_throw (tk _ _ ?_)
          exact ⟨a, B, sI, pins, σ', H', cls, d, rfl, J, nb, (up.trans up3).trans up4, .inr (.inr (by rw [hs]; exact hh4)), na, os, ag, w⟩
        first
          | exact wpAny_bind (wpAny_pure (wpAny_bind fin))
          | exact wpAny_bind fin
      | @cons x c ts b₀ suite np pos' hds2 l2 hc hsu r ih =>
        intro w
        obtain ⟨b, hb1, hyes, hno⟩ := w
        refine wpAny_handleBy_cons (codeAny_handlers_test ?_) (by intro q; cases q)
        have LT : PySem.W.Looks (model X.prog X.w) h3 (typeOf (.ref a)) cls := fun A Q E s k q => wpAny_typeOf_ref (k _ _ he3) (by rw [hz3.1]; exact q)
        have LM := PySem.W.exm_one (M := model X.prog X.w) (J3.kIn) LT hb1
        have test : ∀ {Q : Value → Shared → Prop} {E : Value → Shared → Prop}, Q c { s' with heap := h3 } → wpAny (model X.prog X.w) (X.A.mark (some (.ref a))) (eval (.Name x np) X.env) Q E { s' with heap := h3 } := fun {Q E} q => by
          obtain ⟨hg, hdbg, hm | ⟨hm, hv, hnn⟩⟩ := hc
          · exact ld_glob (X := X.suite a ((a, oe3) :: (X.pn ++ pins))) S3 hg hm q hdbg
          · exact ld_blt (X := X.suite a ((a, oe3) :: (X.pn ++ pins))) S3 hg hm hv q hnn hdbg
        refine test (LM.here ?_)
        cases b with
        | true =>
          refine codeAny_handlers_suite_as ?_
          refine HandSPX.lands_againZ fl3 fun h4 fl4 up4 => ?_
          have J4 : Inv X pins σ' H' { s' with heap := h4 } := J.landed nb fl4.1 ((up.trans up3).trans up4) os ag
          obtain ⟨oe4, vs4, he4, hz4, hd4⟩ := fl4.there
          have S4 := J4.suite he4 hd4 na nL nF
          refine store_ok (X := X.suite a ((a, oe4) :: (X.pn ++ pins))) (v := .ref a) S4 hN hi hloc rfl (fun s5 S5 => ?_) (.inr hln)
          refine wpAny_mono ((hsu a oe4 cls d (X.pn ++ pins) hz4 ⟨_, hd4⟩).run [] s5 _ H' _ S5 (hyes rfl a na)) (fun f s6 hsp => ?_) (fun _ _ z => False.elim z)
          have end_ : ∀ {σ6 : L2.St} {H6 : Hp} {Q : Shared → Prop}, Inv (X.suite a ((a, oe4) :: (X.pn ++ pins))) [] σ6 H6 s6 → (∀ s7, Inv X pins (σ6.set i none) H6 s7 → Q s7) →
              wpAny (model X.prog X.w) X.A (do bindName X.env n .none; unbindBehindTheSuite X.env n pos') (fun _ s7 => Q s7) X.xe s6 := fun {σ6 H6 Q} S6 hq => gone_ok (S6.unsuite ok) hN hi hln hq
          cases f with
          | next =>
            obtain ⟨σ6, H6, S6, q6⟩ := hsp
            exact end_ S6 fun s7 J7 => ⟨_, _, J7, q6⟩
          | brk =>
            obtain ⟨σ6, H6, S6, q6⟩ := hsp
            exact end_ S6 fun s7 J7 => ⟨_, _, J7, q6⟩
          | cont =>
            obtain ⟨σ6, H6, S6, q6⟩ := hsp
            exact end_ S6 fun s7 J7 => ⟨_, _, J7, q6⟩
          | ret u =>
            obtain ⟨v6, σ6, H6, S6, r6, q6⟩ := hsp
            exact end_ S6 fun s7 J7 => ⟨_, _, _, J7, r6, q6⟩
        | false =>
          show wpAny _ X.A (handleBy (.ref a) X.env hds2) _ _ _
          exact ih (hno rfl)
    exact go hh w
  · cases f with
    | next =>
      obtain ⟨σ', H', J', q⟩ := hsp
      exact wpAny_execs_nil ⟨σ', H', J'.ofTry ok, q⟩
    | brk =>
      obtain ⟨σ', H', J', q⟩ := hsp
      exact ⟨σ', H', J'.ofTry ok, q⟩
    | cont =>
      obtain ⟨σ', H', J', q⟩ := hsp
      exact ⟨σ', H', J'.ofTry ok, q⟩
    | ret u =>
      obtain ⟨v, σ', H', J', r, q⟩ := hsp
      exact ⟨v, σ', H', J'.ofTry ok, r, q⟩
end
end EK

/-! exceptions of own classes as values: made by position and by name, their fields, isinstance -/
namespace PySem
namespace ExV
open PySem.Spec PySem.W PySem.Calls PyProof.Rows PySem.HandSPX Builtin Builtin.ObjectAttr
section
variable {M : Model} {prog : Program} {w : World} {A : Around} {E : Value → Shared → Prop} {R : Result → Shared → Prop} {h : Heap} {g : Array GenState} {d : Drawn} {t : Nat} {os : OsState}
variable {nm q : Str} {C N : Addr} {bs bm bmB : List Value} {hdct : Bool} {sn : List Str} {sub : List Value} {ab : Bool} {col : Option Bool} {dd : Option Addr} {k0 k1 k2 k3 k5 : Option Value} {B newId initId : String} {kw : List (Str × Value)} {xs : List Value}
theorem own_check (F : ExcBaseFacts B newId initId bmB) (hT : ∀ X : String, bm.contains (.type X) = bmB.contains (.type X)) {Q : Unit → Shared → Prop}
    (hC : h.get? C = some (excClassObj nm q C N bs bm hdct sn sub ab col dd k0 k1 k2 k3 k5 newId)) (z : Q () ⟨h, g, d, t, os⟩) : wpAny M A (checkBuiltinCall newId ⟨.ref C :: xs, kw⟩) Q E ⟨h, g, d, t, os⟩ := by
  have inB : (Value.ref C :: bm).contains (.type B) = true := by
    rw [List.contains_cons, hT, F.hasB, Bool.or_true]
  have st := F.noStar
  simp only [checkBuiltinCall, F.newKind, F.newSplit, F.newRow]
  repeat (first | refine wpAny_loadPart_at hC ?_ | (refine wpAny_isSubtype_exc hC ?_; rw [inB]) | refine wpAny_staticBase_exc hC ?_ | refine wpAny_madeBy_exc hC ?_ | simp only [bne_self_eq_false, Bool.false_eq_true, if_false] | wp_step)
  exact z
theorem own_new (F : ExcBaseFacts B newId initId bmB) (hT : ∀ X : String, bm.contains (.type X) = bmB.contains (.type X))
    (hC : h.get? C = some (excClassObj nm q C N bs bm hdct sn sub ab col dd k0 k1 k2 k3 k5 newId))
    (z : R (.ok (.ret (.ref (h.objs.size + 1)))) ⟨(h.push (W.kdv_tup xs)).push (excO C h.objs.size), g, d, t, os⟩) (hl : xs.length ≤ sizeLine) :
    codeAny (model prog w) A (.builtin newId ⟨.ref C :: xs, kw⟩) R ⟨h, g, d, t, os⟩ := by
  have en := F.ends
  have inB : (Value.ref C :: bm).contains (.type B) = true := by
    rw [List.contains_cons, hT, F.hasB, Bool.or_true]
  have noA : (Value.ref C :: bm).contains (.type "AttributeError") = false := by
    rw [List.contains_cons, hT, F.noAttr]
    rfl
  have noN : (Value.ref C :: bm).contains (.type "NameError") = false := by
    rw [List.contains_cons, hT, F.noName]
    rfl
  refine codeAny_builtinAt F.entry ?_
  unfold Builtin.«BaseException.__new__»
  refine wpAt_bind ?_
  show wpAt _ _ _ (stack >>= _) _ _ _
  refine wpAt_bind (wpAt_stack fun p below => wpAt_of_wpAny ?_)
  wp_walk
  refine wpAt_of_wpAny ?_
  rw [F.owner]
  repeat (first | with_reducible refine wpAny_madeHere_exc F.canon hC ?_ | with_reducible refine wpAny_loadPart_at hC ?_ | (with_reducible refine wpAny_isSubtype_exc hC ?_; first | rw [inB] | rw [noA] | rw [noN]) | wp_step)
  show R _ _
  rw [Heap.size_push]
  exact z
theorem own_type (F : ExcBaseFacts B newId initId bmB) (hT : ∀ X : String, bm.contains (.type X) = bmB.contains (.type X)) {fv : Value} {Q : Fin → Shared → Prop}
    (hC : h.get? C = some (excClassObj nm q C N bs bm hdct sn sub ab col dd k0 k1 k2 k3 k5 newId))
    (hi : W.Looks (model prog w) h (typeLookup (.ref C) "__init__") (some fv)) (hb : ∀ self, W.Looks (model prog w) h (bindSpecial fv self) (fv, [self])) (hl : xs.length ≤ sizeLine)
    (z : codeAny (model prog w) A (.call fv ⟨.ref (h.objs.size + 1) :: xs, kw⟩) (fun r s' => match r with | .ok (.ret v) => v = .none ∧ Q (.done (.ret (.ref (h.objs.size + 1)))) s' | .ok _ => False | .error e => E e s')
      ⟨(h.push (W.kdv_tup xs)).push (excO C h.objs.size), g, d, t, os⟩) :
    wpAny (model prog w) A (Builtin.«type.__call__» ⟨.ref C :: xs, kw⟩) Q E ⟨h, g, d, t, os⟩ := by
  repeat (first | with_reducible refine wpAny_loadPart_at hC ?_ | with_reducible refine wpAny_madeBy_exc hC ?_ | wp_step)
  refine codeAny_call_builtin_code (Code.quiet_builtin _ F.quiet) (own_check F hT hC ?_)
  refine own_new F hT hC ?_ hl
  show wpAny _ _ _ _ _ _
  have kp : ∀ b o, h.get? b = some o → ((h.push (W.kdv_tup xs)).push (excO C h.objs.size)).get? b = some o := fun b o y => Heap.get?_push_of_some _ (Heap.get?_push_of_some _ y)
  have hC2 := kp _ _ hC
  have he : ((h.push (W.kdv_tup xs)).push (excO C h.objs.size)).get? (h.objs.size + 1) = some (excO C h.objs.size) := by heap_get
  have inC : (Value.ref C :: bm).contains (.ref C) = true := by simp
  have hi2 := hi.keeps kp
  have hb2 := (hb (.ref (h.objs.size + 1))).keeps kp
  unfold isInstance
  repeat (first | with_reducible refine wpAny_loadPart_at he ?_ | (with_reducible refine wpAny_isSubtype_exc hC2 ?_; rw [inC]) | wp_step)
  show wpAny _ _ (typeLookup (.ref C) _) _ _ _
  refine hi2.at ?_
  refine wpAny_holding (wpAny_bind (hb2.at ?_))
  refine wpAny_bind (wpAny_call (codeAny_mono z fun r s' y => ?_))
  rcases r with e | (v | _ | _ | _) <;> first | exact y | exact y.elim | skip
  obtain ⟨rfl, y⟩ := y
  first
    | exact wpAny_pure (wpAny_pure y)
    | (wp_walk; exact y)
theorem own_chk {Q : Unit → Shared → Prop} (hC : h.get? C = some (excClassObj nm q C N bs bm hdct sn sub ab col dd k0 k1 k2 k3 k5 newId))
    (hq : Q () ⟨h, g, d, t, os⟩) : wpAny M A (checkBuiltinCall "type.__call__" ⟨.ref C :: xs, kw⟩) Q E ⟨h, g, d, t, os⟩ := by
  have sb := tc_sub
  have ty : (⟨h, g, d, t, os⟩ : Shared).TypeIs (.ref C) "type" := ⟨_, hC, rfl⟩
  simp only [checkBuiltinCall, tc_kind, tc_split]
  repeat (any_goals (first | assumption | with_reducible refine wpAny_loadPart_at hC ?_ | with_reducible refine wpAny_onRaise ?_ | with_reducible refine wpAny_map ?_ | wp_step))
theorem own_call (F : ExcBaseFacts B newId initId bmB) (hT : ∀ X : String, bm.contains (.type X) = bmB.contains (.type X)) {fv : Value}
    (hC : h.get? C = some (excClassObj nm q C N bs bm hdct sn sub ab col dd k0 k1 k2 k3 k5 newId))
    (hi : W.Looks (model prog w) h (typeLookup (.ref C) "__init__") (some fv)) (hb : ∀ self, W.Looks (model prog w) h (bindSpecial fv self) (fv, [self])) (hl : xs.length ≤ sizeLine)
    (z : codeAny (model prog w) (A.under (.builtin "type.__call__" ⟨.ref C :: xs, kw⟩)) (.call fv ⟨.ref (h.objs.size + 1) :: xs, kw⟩) (W.InitBack (h.objs.size + 1) R)
      ⟨(h.push (W.kdv_tup xs)).push (excO C h.objs.size), g, d, t, os⟩) : codeAny (model prog w) A (.call (.ref C) ⟨xs, kw⟩) R ⟨h, g, d, t, os⟩ := by
  have lk := tc_lookup
  have bd := tc_bind (.ref C)
  have ty : (⟨h, g, d, t, os⟩ : Shared).TypeIs (.ref C) "type" := ⟨_, hC, rfl⟩
  refine codeAny_of_tree ?_
  show wpAny _ _ (callAny (.ref C) _) _ _ _
  repeat (any_goals (first | assumption | with_reducible refine wpAny_loadPart_at hC ?_ | wp_step))
  refine ⟨rfl, ?_⟩
  refine codeAny_call_builtin_at (Code.quiet_builtin _ (by decide +kernel)) entry_typeCall (own_chk hC (own_type F hT hC hi hb hl ?_))
  refine codeAny_mono z fun r s' y => ?_
  rcases r with e | (v | _ | _ | _) <;> exact y
end
end ExV
end PySem
namespace EK
open PySem PySem.Spec PyProof.Rows L2
/-- C(..) kept as a value: __init__ keeps sp -/
def tMkV (C : Addr) (sp : Sp) (ta : TA) : TE := fun σ H Q => ta σ H fun vs H1 => vs.length ≤ 1000 ∧ ∀ a, H1 a = none → sp (.ref a :: vs) (upd H1 a (exo a C none)) (fun v H2 => v = .non ∧ Q (.ref a) H2) (fun _ _ _ => False)
/-- .. by names, put in their order by g -/
def tMkN (C : Addr) (sp : Sp) (n : Nat) (g : List V → List V → List V) (tk : TA) : TE := fun σ H Q => tk σ H fun zs H1 => zs.length = n ∧ ∀ a, H1 a = none → sp (g [.ref a] zs) (upd H1 a (exo a C none)) (fun v H2 => v = .non ∧ Q (.ref a) H2) (fun _ _ _ => False)
section
variable {X : Cx} {CX : CXT} {x : Str} {e : Expr} {es : List Expr} {ta tk : TA} {p pos : Pos} {C fI : Addr} {k : Nat} {fd : FuncData} {ps ks : List Str} {sp : Sp} {kws : List Keyword} {pins : List (Addr × Obj)} {σ : L2.St} {H : Hp} {s : Shared} {Q : VK}
theorem run_mkv (T : OexC X.K C) (iC : PySem.W.findIn X.K (.ref C) "__init__" = some (some (.ref fI))) (tI : PySem.W.typeIn X.K (.ref fI) = some (.type "function")) (F1 : FnOk X.prog X.w X.K X.mg X.base CX k fI fd ps sp) (hr : Room (k + 1) X.A)
    (hx : Passes CX X (fun _ _ _ => False)) (I : Inv X pins σ H s) {us : List Value} {kw : List (Str × Value)} (hl : us.length ≤ sizeLine) {G : Value → List Value} {gv : V → List V} (hb : ∀ (s' : Shared) (u : Value), X.K.In s'.heap → BindsTo s' fd ⟨u :: us, kw⟩ (ps.zip (G u)))
    (r2 : ∀ a : Addr, Vals (gv (.ref a)) (G (.ref a))) (h : ∀ a, H a = none → sp (gv (.ref a)) (upd H a (exo a C none)) (fun v H2 => v = .non ∧ Q (.ref a) H2) (fun _ _ _ => False)) : wpAny (model X.prog X.w) X.A (call (.ref C) us kw) (EP X pins σ Q) X.xe s := by
  obtain ⟨nm, q, N, bs, bm, sn, sub, ab, col, dd, k0, k1, k2, k3, k5, hC, hbm⟩ := T.cls
  obtain ⟨hp, g, dr, tk, os⟩ := s
  have up : hp.objs.size ≤ hp.objs.size + 1 := Nat.le_succ _
  have hq := h (hp.objs.size + 1) (I.hok.fresh up)
  have kk : ∀ b o, hp.get? b = some o → ((hp.push (PySem.W.kdv_tup us)).push (PySem.HandSPX.excO C hp.objs.size)).get? b = some o := fun b o y => Heap.get?_push_of_some _ (Heap.get?_push_of_some _ y)
  have he : ((hp.push (PySem.W.kdv_tup us)).push (PySem.HandSPX.excO C hp.objs.size)).get? (hp.objs.size + 1) = some (PySem.HandSPX.excO C hp.objs.size) := by heap_get
  have I2 : Inv X pins σ (upd H (hp.objs.size + 1) (exo (hp.objs.size + 1) C none)) ⟨(hp.push (PySem.W.kdv_tup us)).push (PySem.HandSPX.excO C hp.objs.size), g, dr, tk, os⟩ :=
    I.laid (t' := tk) (a := hp.objs.size + 1) (o := exo (hp.objs.size + 1) C none) (h' := (hp.push (PySem.W.kdv_tup us)).push (PySem.HandSPX.excO C hp.objs.size)) kk up (exo_ok he)
  refine wpAny_call (PySem.ExV.own_call F.excBase_ValueError (fun Y => PySem.HandSPX.refsVE_contains Y bm hbm) (I.kIn _ _ hC) (PySem.W.looks_findIn I.kIn iC) (fun self => PySem.W.bind_fn I.kIn self tI) hl
    (codeAny_mono (F1.run _ X.stack _ _ ⟨Value.ref (hp.objs.size + 1) :: us, kw⟩ (G (.ref (hp.objs.size + 1))) _ _ (fun _ _ _ => False) (hr.make C us kw) (I2.env0.make C us kw) (hb _ _ I2.kIn) (r2 _) hq) fun r s' hq' => ?_))
  cases r with
  | error er => exact hx pins σ _ _ er s' I2 hq'
  | ok fl =>
    cases fl with
    | ret u =>
      obtain ⟨v, H', I3, rv, ev, q3⟩ := I2.after hq'
      subst ev
      exact ⟨rv, ⟨V.ref (hp.objs.size + 1), H', I3, rfl, q3⟩⟩
    | next => exact False.elim hq'
    | brk => exact False.elim hq'
    | cont => exact False.elim hq'
theorem pe_mkv (T : OexC X.K C) (iC : PySem.W.findIn X.K (.ref C) "__init__" = some (some (.ref fI))) (tI : PySem.W.typeIn X.K (.ref fI) = some (.type "function")) (F1 : FnOk X.prog X.w X.K X.mg X.base CX k fI fd ps sp) (hr : Room (k + 1) X.A) (hb : Binds X.K fd ps [])
    (hx : Passes CX X (fun _ _ _ => False)) (hg : Gl X x) (hm : X.mg x = some (.ref C)) (ha : PA X (e :: es) ta) (hdb : (x == ("__debug__" : Str)) = false := by decide) (he : starEach (e :: es) X.env = (false, eval e X.env) :: starEach es X.env := by rfl)
    (hpl : (backTo pos (starEach es X.env)).any (·.1) = false := by rfl) : PE X (.Call (.Name x p) (e :: es) [] pos) (tMkV C sp ta) := by
  refine ⟨fun pins s σ H Q I h => ?_⟩
  refine wpAny_Call_Name_kw (ld_glob I hg hm ?_ hdb)
  refine PySem.W.callWith_K (h₀ := X.base) I.ok.mod.kin T.kC (thn (ha.run pos pins s σ H _ I h) fun us s1 ⟨vs, H1, I1, r1, hz, q1⟩ => ⟨I1.kIn, ?_⟩) he hpl
  have hus : us.length ≤ sizeLine := by
    rw [← Paired.length r1, sizeLine_eq]
    omega
  show wpAny _ _ (call (.ref C) us) _ _ _
  refine run_mkv (gv := fun v => v :: vs) (G := fun u => u :: us) T iC tI F1 hr hx I1 hus (fun s' u X' => ?_) (fun a => .cons rfl r1) q1
  have y := hb s' (u :: us) X' ?_
  · rw [List.append_nil] at y
    exact y
  have el : (Value.ref 0 :: us).length = ps.length := by
    have z := F1.len _ _ _ _ (q1 _ (I1.hok.fresh (Nat.le_refl _)))
    rw [← z]
    exact (Paired.length (F := RelV) (.cons (a := V.ref 0) (b := Value.ref 0) rfl r1)).symm
  simpa using el
theorem pe_mkn {g : List Value → List Value → List Value} {gV : List V → List V → List V} (T : OexC X.K C) (iC : PySem.W.findIn X.K (.ref C) "__init__" = some (some (.ref fI))) (tI : PySem.W.typeIn X.K (.ref fI) = some (.type "function")) (F1 : FnOk X.prog X.w X.K X.mg X.base CX k fI fd ps sp)
    (hr : Room (k + 1) X.A) (hb : KBn X.K fd ps 1 ks g gV) (hx : Passes CX X (fun _ _ _ => False)) (hg : Gl X x) (hm : X.mg x = some (.ref C)) (hkw : PK X kws tk) (hall : (backToKw pos (keywordEach kws X.env)).all (·.1.isSome) = true := by rfl)
    (hks : (backToKw pos (keywordEach kws X.env)).filterMap (·.1) = ks := by rfl) (hdb : (x == ("__debug__" : Str)) = false := by decide) (hpl : ((backTo pos (starEach [] X.env)).any (·.1) || (backToKw pos (keywordEach kws X.env)).any (·.1.isNone)) = false := by rfl) :
    PE X (.Call (.Name x p) [] kws pos) (tMkN C sp ks.length gV tk) := by
  refine ⟨fun pins s σ H Q I h => ?_⟩
  refine wpAny_Call_Name_kw (ld_glob I hg hm ?_ hdb)
  refine PySem.W.callWith_KW0 (h₀ := X.base) I.ok.mod.kin T.kC hall ?_ hpl
  refine thn (hkw.run pos pins s σ H _ I h) fun ws s2 ⟨zs, H2, I2, rz, l1, q2⟩ => ⟨I2.kIn, ?_⟩
  rw [hks]
  exact run_mkv (gv := fun v => gV [v] zs) (G := fun u => g [u] ws) T iC tI F1 hr hx I2 (Nat.zero_le _) (fun s' u X' => hb.to s' [u] ws X' rfl (rz.length.symm.trans l1)) (fun a => hb.rel (.cons rfl .nil) rz) q2
/-- C(), C without an __init__ of its own -/
def tMk0 (C : Addr) : TE := fun _ H Q => ∀ a, H a = none → Q (.ref a) (upd H a (exo a C none))
theorem pe_mk0 (T : OexC X.K C) (iC : PySem.W.findIn X.K (.ref C) "__init__" = some (some (.builtin "ValueError.__init__"))) (hg : Gl X x) (hm : X.mg x = some (.ref C)) (hdb : (x == ("__debug__" : Str)) = false := by decide) :
    PE X (.Call (.Name x p) [] [] pos) (tMk0 C) := by
  refine ⟨fun pins s σ H Q I h => ?_⟩
  refine wpAny_Call_Name_kw (ld_glob I hg hm ?_ hdb)
  refine PySem.W.callWith_K0 (first := []) I.kIn T.kC ?_
  show wpAny _ _ (call (.ref C) []) _ _ _
  obtain ⟨nm, q, N, bs, bm, sn, sub, ab, col, dd, k0, k1, k2, k3, k5, hC, hbm⟩ := T.cls
  obtain ⟨hp, g, dr, tk, os⟩ := s
  have up : hp.objs.size ≤ hp.objs.size + 1 := Nat.le_succ _
  have kk : ∀ b o, hp.get? b = some o → ((hp.push (PySem.W.kdv_tup [])).push (PySem.HandSPX.excO C hp.objs.size)).get? b = some o := fun b o y => Heap.get?_push_of_some _ (Heap.get?_push_of_some _ y)
  have he : ((hp.push (PySem.W.kdv_tup [])).push (PySem.HandSPX.excO C hp.objs.size)).get? (hp.objs.size + 1) = some (PySem.HandSPX.excO C hp.objs.size) := by heap_get
  have I2 : Inv X pins σ (upd H (hp.objs.size + 1) (exo (hp.objs.size + 1) C none)) ⟨(hp.push (PySem.W.kdv_tup [])).push (PySem.HandSPX.excO C hp.objs.size), g, dr, tk, os⟩ :=
    I.laid (t' := tk) (a := hp.objs.size + 1) (o := exo (hp.objs.size + 1) C none) (h' := (hp.push (PySem.W.kdv_tup [])).push (PySem.HandSPX.excO C hp.objs.size)) kk up (exo_ok he)
  refine wpAny_call (PySem.ExV.own_call (fv := .builtin "ValueError.__init__") F.excBase_ValueError (fun Y => PySem.HandSPX.refsVE_contains Y bm hbm) (I.kIn _ _ hC) (PySem.W.looks_findIn I.kIn iC) (fun self => .of_pure (F.excBase_ValueError.init.bind self)) (Nat.zero_le _)
    (PySem.HandSPX.init_base F.excBase_ValueError (fun Y => PySem.HandSPX.refsVE_contains Y bm hbm) (I2.kIn _ _ hC) he (Nat.zero_le _) fun h' t2 kh hx => ?_))
  have eu : upd (upd H (hp.objs.size + 1) (exo (hp.objs.size + 1) C none)) (hp.objs.size + 1) (exo (hp.objs.size + 1) C none) = upd H (hp.objs.size + 1) (exo (hp.objs.size + 1) C none) := upd_upd
  have J := I2.write (t' := tk) (x := hp.objs.size + 1) (e := hp.objs.size + 1) (o := exo (hp.objs.size + 1) C none) (by rw [upd_same]; exact True.intro) (.inl rfl) kh ⟨_, hx⟩ (exo_ok hx)
  rw [eu] at J
  exact ⟨rfl, V.ref (hp.objs.size + 1), _, J, rfl, h _ (I.hok.fresh up)⟩
/-- e.f, e an exception that stands in the heap -/
def tEf (K : PySem.W.Frag) (f : Str) (te : TE) : TE := fun σ H Q => te σ H fun x H1 => ∃ (a C d : Addr) (fs : List (Str × V)) (v : V), x = .ref a ∧ XfC K C ∧ PySem.W.findIn K (.ref C) f = some none ∧ H1 a = some (exo a C (some d)) ∧ H1 d = some (exd d fs) ∧ fs.lookup f = some v ∧ Q v H1
theorem pe_ef {te : TE} {n : Str} (he : PE X e te) (hb : attributeBase e n X.env (eval e X.env) = eval e X.env := by rfl) : PE X (.Attribute e n pos) (tEf X.K n te) := by
  refine ⟨fun pins s σ H Q I h => ?_⟩
  refine attr_of hb (thn (he.run pins s σ H _ I h) fun u s1 hh => ?_)
  obtain ⟨x, H1, I1, rx, a, C, d, fs, v, ex, T, hno, ha, hd, l, q⟩ := hh
  subst ex
  obtain rfl : u = Value.ref a := rx
  obtain ⟨t1, ho⟩ := exo_at I1.hok ha
  obtain ⟨mA, hns, hr⟩ := exd_at I1.hok hd
  obtain ⟨od, ho2, hl⟩ := lookIn_ns hns
  obtain ⟨u, hu, ru⟩ := RelO.some_of (v := v) (o := mA n) (by rw [← l]; exact hr n)
  have J : PySem.W.InstAt s1.heap a _ C (some od) := ⟨ho, rfl, rfl, ho2⟩
  exact HandSPX.exc_get I1.kIn J T.ga T.gg T.exC (PySem.W.findObj_own T.hdC hno rfl (by rw [hl, hu])) (handed_of ru) ⟨v, H1, I1.tok _, ru, q⟩
/-- isinstance(e, D), e an exception that stands in the heap -/
def rIsX (K : PySem.W.Frag) : List V → Hp → VK → Prop := fun xs H Q => ∃ (a C : Addr) (d : Option Addr) (c : V) (cv : Value) (b : Bool), xs = [.ref a, c] ∧ ExcC K C ∧ H a = some (exo a C d) ∧ (∀ dd, d = some dd → ∃ fs, H dd = some (exd dd fs)) ∧ ClsV c cv ∧ PySem.W.kitOne K (.ref C) cv = some b ∧ Q (.bl b) H
theorem call_isX : CallR X (.builtin "isinstance") (rIsX X.K) := by
  intro pins s σ H xs us Q I r h
  obtain ⟨a, C, d, c, cv, b, rfl, EC, ha, hd, kc, e, q⟩ := h
  obtain ⟨u1, u2, rfl, r1, r2⟩ := vals2 r
  cases r1
  have e2 := kc.eq r2
  subst e2
  obtain ⟨t1, ho⟩ := exo_at I.hok ha
  cases d with
  | none =>
    have J : PySem.W.InstAt s.heap a _ C none := ⟨ho, rfl, rfl, trivial⟩
    exact PySem.W.kia_one (PySem.W.ek_kitx EC.hg EC.hk EC.hs EC.hd EC.ha EC.hn EC.ht EC.hm) I.kIn J e (fun z => nomatch z) fun tk => ⟨.bl b, H, I.kept (t' := tk) fun _ _ z => z, rfl, q⟩
  | some dd =>
    obtain ⟨fs, hx⟩ := hd dd rfl
    obtain ⟨mA, hns, _⟩ := exd_at I.hok hx
    obtain ⟨od, ho2, _⟩ := lookIn_ns hns
    have J : PySem.W.InstAt s.heap a _ C (some od) := ⟨ho, rfl, rfl, ho2⟩
    exact PySem.W.kia_one (PySem.W.ek_kitx EC.hg EC.hk EC.hs EC.hd EC.ha EC.hn EC.ht EC.hm) I.kIn J e (fun z => nomatch z) fun tk => ⟨.bl b, H, I.kept (t' := tk) fun _ _ z => z, rfl, q⟩
end
end EK

/-! repr of data with dicts that are empty: only the dicts must stand apart from the modules' table -/
namespace DY
open PySem PySem.Spec PyProof.Rows L2
mutual
/-- v is the data d; a dict is an empty one -/
inductive DE (K : PySem.W.Frag) (H : Hp) : V → PyData → Prop
  | non : DE K H .non .none
  | bl (b : Bool) : DE K H (.bl b) (.bool b)
  | int (i : Int) : DE K H (.int i) (.int i)
  | str (x : Str) : DE K H (.str x) (.str x)
  | lst {a : Addr} {xs : List V} {ds : List PyData} : SqL K H a xs → DEs K H xs ds → DE K H (.ref a) (.list ds)
  | tup {a : Addr} {xs : List V} {ds : List PyData} : SqT K H a xs → DEs K H xs ds → DE K H (.ref a) (.tuple ds)
  | emp {a : Addr} : H a = some (.dK []) → DE K H (.ref a) (.dict [])
  | one {a : Addr} {k : Str} {i : Int} : H a = some (.dK [(.inr k, .int i)]) → DE K H (.ref a) (.dict [(.str k, .int i)])
inductive DEs (K : PySem.W.Frag) (H : Hp) : List V → List PyData → Prop
  | nil : DEs K H [] []
  | cons {v : V} {vs : List V} {d : PyData} {ds : List PyData} : DE K H v d → DEs K H vs ds → DEs K H (v :: vs) (d :: ds)
end
section
variable {X : Cx} {pins : List (Addr × Obj)} {σ : L2.St} {H : Hp} {s : Shared}
theorem emp_at (I : Inv X pins σ H s) {a : Addr} (h : H a = some (.dK [])) : (a == sysModules) = false ∧ ∃ o n, s.heap.get? a = some o ∧ o.cls = .type "dict" ∧ o.data = .dict #[] n := by
  obtain ⟨_, h1, vs, kv, o, es, ep, g, ed, dd, k1, k2, _⟩ := dk_of I.hok h
  cases kv
  have e : es = #[] := by
    cases es with
    | mk l =>
      cases l with
      | nil => rfl
      | cons x r => cases k2
  subst e
  exact ⟨h1, o, ep, g, ed.1, dd⟩
theorem one_at (I : Inv X pins σ H s) {a : Addr} {k : Str} {i : Int} (h : H a = some (.dK [(.inr k, .int i)])) : (a == sysModules) = false ∧ ∃ o n e t1 t2, s.heap.get? a = some o ∧ o.cls = .type "dict" ∧ o.data = .dict #[e] n ∧ e.key = Value.str k t1 ∧ e.val = Value.int i t2 := by
  obtain ⟨_, h1, vs, kv, o, es, ep, g, ed, dd, k1, k2, _⟩ := dk_of I.hok h
  cases kv with
  | cons hp hn =>
    cases hn
    obtain ⟨q1, q2⟩ := hp
    cases es with
    | mk l =>
      cases l with
      | nil => cases k2
      | cons x r =>
        cases k2 with
        | cons r1 r2 r3 =>
          cases r3
          rw [← q1] at r1
          have r1' : keyIs (.inr k) x.key = true := r1
          obtain ⟨i2, t, z, _⟩ | ⟨y, t, z, e1⟩ := keyIs_shape r1'
          · cases z
          · cases z
            obtain ⟨t2, e2⟩ := q2
            exact ⟨h1, o, ep, x, t, t2, g, ed.1, dd, e1, by rw [r2, e2]⟩
/-- how v is read and shown -/
structure Sh (prog : Program) (w : World) (h : Heap) (u : Value) (d : PyData) : Prop where
  r : ∃ as, Reads h u d as
  k : ∃ bs, ReadAtMost h d.depth bs ∧ ReprK prog w bs h d.depth u d.shown
structure Shs (prog : Program) (w : World) (h : Heap) (us : List Value) (ds : List PyData) : Prop where
  r : ∃ as, ReadsAll h us ds as
  k : ∃ bs, ReadAtMost h (PyData.depthAll ds) bs ∧ ReprAllK prog w bs h (PyData.depthAll ds) us (PyData.shownAll ds)
theorem mem_l {t : Str} {ts : List Str} (h : t ∈ ts) : t.length ≤ (listText ts).length := by
  have z := PySem.listText_mem_le h
  exact z
mutual
theorem DE.sh (I : Inv X pins σ H s) : ∀ (d : PyData) (v : V) (u : Value), DE X.K H v d → RelV v u → d.showable = true → d.shown.length ≤ sizeLine → Sh X.prog X.w s.heap u d
  | .none, _, _, h, r, _, _ => by
    cases h
    cases r
    exact ⟨⟨_, Reads.none⟩, [], (fun _ h => nomatch h), by simp only [PyData.shown]; exact .of_is ReprIs.none _ _ _⟩
  | .bool b, _, _, h, r, _, _ => by
    cases h
    cases r
    exact ⟨⟨_, Reads.bool b⟩, [], (fun _ h => nomatch h), by simp only [PyData.shown]; exact .of_is (ReprIs.bool b) _ _ _⟩
  | .int i, _, _, h, r, hs, _ => by
    cases h
    obtain ⟨t, rfl⟩ := r
    exact ⟨⟨_, Reads.int i t⟩, [], (fun _ h => nomatch h), by simp only [PyData.shown]; exact .of_is (ReprIs.int t (by simpa [PyData.showable] using hs)) _ _ _⟩
  | .str x, _, _, h, r, _, hz => by
    cases h
    obtain ⟨t, rfl⟩ := r
    exact ⟨⟨_, Reads.str x t⟩, [], (fun _ h => nomatch h), by simp only [PyData.shown]; exact .of_is (ReprIs.str x t (by simpa only [PyData.shown] using hz)) _ _ _⟩
  | .list ds, _, _, h, r, hs, hz => by
    cases h with
    | lst hq ha =>
      cases r
      obtain ⟨its, rv, ⟨o, n, ho, hc, _, hd⟩, _⟩ := I.list hq
      have hz2 : (listText (PyData.shownAll ds)).length ≤ sizeLine := by simpa only [PyData.shown] using hz
      obtain ⟨⟨as, hr⟩, bs, hb, hk⟩ := DEs.sh I ds _ its ha rv (by simpa [PyData.showable] using hs) fun t ht => Nat.le_trans (listText_mem_le ht) hz2
      have r2 : Reads s.heap _ (.list ds) _ := Reads.list ho hc hd hr
      refine ⟨⟨_, r2⟩, _ :: bs, ReadAtMost.cons r2 (by simp only [PyData.depth]; omega) hb, ?_⟩
      have hna := not_mem_of_deeper r2 (show PyData.depthAll ds < _ by simp only [PyData.depth]; omega) hb
      simp only [PyData.depth, PyData.shown]
      cases its with
      | nil =>
        cases rv
        cases ha
        simp only [PyData.shownAll, listText_nil]
        exact ReprK.listEmpty ho hc hd
      | cons x l => exact ReprK.list ho hc hd hna (by simpa using hk.length_eq) (fun i y e => hk.item i y (by simpa using e))
  | .tuple ds, _, _, h, r, hs, hz => by
    cases h with
    | tup hq ha =>
      cases r
      obtain ⟨its, rv, ⟨o, ho, hc, n, hd⟩, _⟩ := I.tuple hq
      have hz2 : (tupleText (PyData.shownAll ds)).length ≤ sizeLine := by simpa only [PyData.shown] using hz
      obtain ⟨⟨as, hr⟩, bs, hb, hk⟩ := DEs.sh I ds _ its ha rv (by simpa [PyData.showable] using hs) fun t ht => Nat.le_trans (tupleText_mem_le ht) hz2
      have r2 : Reads s.heap _ (.tuple ds) _ := Reads.tuple ho hc hd hr
      refine ⟨⟨_, r2⟩, _ :: bs, ReadAtMost.cons r2 (by simp only [PyData.depth]; omega) hb, ?_⟩
      have hna := not_mem_of_deeper r2 (show PyData.depthAll ds < _ by simp only [PyData.depth]; omega) hb
      simp only [PyData.depth, PyData.shown]
      exact ReprK.tuple ho hc hd hna hk
  | .dict kvs, _, _, h, r, hs, hz => by
    cases h with
    | emp hq =>
      cases r
      obtain ⟨hy, o, n, ho, hc, hd⟩ := emp_at I hq
      have r2 : Reads s.heap _ (.dict []) _ := Reads.dict ho hc hd ReadsAll.nil ReadsAll.nil
      refine ⟨⟨_, r2⟩, [_], ReadAtMost.cons r2 (Nat.le_refl _) (fun _ h => nomatch h), ?_⟩
      simp only [PyData.depth, PyData.shown, PyData.shownKv_eq]
      exact ReprK.dict ho hc hd hy (fun h => nomatch h) (ReprEntriesK.of_two [] _ _ .nil .nil)
    | @one a k i hq =>
      cases r
      obtain ⟨hy, o, n, e, t1, t2, ho, hc, hd, e1, e2⟩ := one_at I hq
      have hs2 : (PyData.int i).showable = true := by
        simp only [PyData.showable, PyData.showableKv, Bool.and_eq_true] at hs ⊢
        first
          | exact hs.1.2
          | exact hs.2.1
          | exact hs.2
          | simpa using hs
      have hz2 : (dictText (PyData.shownKv [(.str k, .int i)])).length ≤ sizeLine := by simpa only [PyData.shown] using hz
      have hk : (PyData.str k).shown.length ≤ sizeLine := by
        have h1 := dictText_mem_le (ps := PyData.shownKv [(.str k, .int i)]) (p := (PyData.str k).shown ++ ": " ++ (PyData.int i).shown) (by simp only [PyData.shownKv]; exact List.mem_cons_self ..)
        rw [Str.length_append, Str.length_append] at h1
        omega
      have rk : Reads s.heap e.key (.str k) [] := by rw [e1]; exact Reads.str k t1
      have rv : Reads s.heap e.val (.int i) [] := by rw [e2]; exact Reads.int i t2
      have r2 : Reads s.heap (.ref a) (.dict [(.str k, .int i)]) _ := Reads.dict ho hc hd (ReadsAll.cons rk ReadsAll.nil) (ReadsAll.cons rv ReadsAll.nil)
      refine ⟨⟨_, r2⟩, [_], ReadAtMost.cons r2 (Nat.le_refl _) (fun _ h => nomatch h), ?_⟩
      simp only [PyData.depth, PyData.shown, PyData.shownKv_eq]
      refine ReprK.dict ho hc hd hy (fun h => nomatch h) (ReprEntriesK.of_two [e] _ _ (.cons ?_ .nil) (.cons ?_ .nil))
      · show ReprK X.prog X.w [] s.heap _ e.key (PyData.str k).shown
        rw [e1]
        simp only [PyData.shown]
        exact .of_is (ReprIs.str k t1 (by simpa only [PyData.shown] using hk)) _ _ _
      · show ReprK X.prog X.w [] s.heap _ e.val (PyData.int i).shown
        rw [e2]
        simp only [PyData.shown]
        exact .of_is (ReprIs.int t2 (by simpa [PyData.showable] using hs2)) _ _ _
theorem DEs.sh (I : Inv X pins σ H s) : ∀ (ds : List PyData) (vs : List V) (us : List Value), DEs X.K H vs ds → Vals vs us → PyData.showableAll ds = true → (∀ t ∈ PyData.shownAll ds, t.length ≤ sizeLine) → Shs X.prog X.w s.heap us ds
  | [], _, _, h, r, _, _ => by
    cases h
    cases r
    exact ⟨⟨_, ReadsAll.nil⟩, [], (fun _ h => nomatch h), by simp only [PyData.shownAll]; exact .nil⟩
  | d :: ds, _, _, h, r, hs, hz => by
    cases h with
    | cons h1 h2 =>
      cases r with
      | cons r1 r2 =>
        have hs2 : d.showable = true ∧ PyData.showableAll ds = true := by simpa [PyData.showableAll] using hs
        obtain ⟨⟨as, q1⟩, b1, hb1, k1⟩ := DE.sh I d _ _ h1 r1 hs2.1 (hz _ (by simp only [PyData.shownAll]; exact List.mem_cons_self ..))
        obtain ⟨⟨bs, q2⟩, b2, hb2, k2⟩ := DEs.sh I ds _ _ h2 r2 hs2.2 fun t ht => hz t (by simp only [PyData.shownAll]; exact List.mem_cons_of_mem _ ht)
        refine ⟨⟨_, ReadsAll.cons q1 q2⟩, b1 ++ b2, fun b hm => ?_, ?_⟩
        · simp only [PyData.depthAll]
          rcases List.mem_append.mp hm with hm | hm
          · obtain ⟨e, ys, y1, y2⟩ := hb1 b hm
            exact ⟨e, ys, y1, Nat.le_trans y2 (Nat.le_max_left _ _)⟩
          · obtain ⟨e, ys, y1, y2⟩ := hb2 b hm
            exact ⟨e, ys, y1, Nat.le_trans y2 (Nat.le_max_right _ _)⟩
        · simp only [PyData.depthAll, PyData.shownAll]
          exact .cons ((k1.more fun b hb => List.mem_append_left _ hb).level_le (Nat.le_max_left _ _)) (k2.more_le (fun b hb => List.mem_append_right _ hb) (Nat.le_max_right _ _))
end
/-- repr of None, or of a tuple of data, where no text is being made -/
structure RX (K : PySem.W.Frag) (xs : List V) (H : Hp) (Q : VK) : Prop where
  ex : (xs = [.non] ∧ Q (.str "None") H) ∨ ∃ a ys ds, xs = [.ref a] ∧ SqT K H a ys ∧ DEs K H ys ds ∧ (PyData.tuple ds).showable = true ∧ (PyData.tuple ds).depth ≤ 64 ∧ (PyData.tuple ds).shown.length ≤ sizeLine ∧ Q (.str (PyData.tuple ds).shown) H
abbrev rRy (K : PySem.W.Frag) : List V → Hp → VK → Prop := fun xs H Q => RX K xs H Q
theorem call_reprY {X : Cx} (hg : X.A.guards = some []) (hu : X.A.units + 70 < cLine) : CallR X (.builtin "repr") (rRy X.K) := by
  intro pins s σ H xs us Q I r h
  rcases h.ex with ⟨rfl, q⟩ | ⟨a, xs, ds, rfl, hq, ha, h1, h3, h4, q⟩
  · obtain ⟨u, rfl, rfl⟩ := vals1 r
    exact PySem.P.repr_of_none ⟨.str _, H, I.tok _, ⟨_, rfl⟩, q⟩
  · obtain ⟨u, rfl, ru⟩ := vals1 r
    have fin : ∀ h' u' tk, (∀ b o, s.heap.get? b = some o → h'.get? b = some o) → EP X pins σ Q (.str (PyData.tuple ds).shown u') { s with heap := h', toks := tk } := fun h' u' tk hk => ⟨.str (PyData.tuple ds).shown, H, I.kept hk, ⟨u', rfl⟩, q⟩
    have un : X.A.units + 1 < cLine := by omega
    cases ru
    obtain ⟨its, rv, ⟨o, ho, hc, n, hd⟩, _⟩ := I.tuple hq
    have hz2 : (tupleText (PyData.shownAll ds)).length ≤ sizeLine := by simpa only [PyData.shown] using h4
    obtain ⟨⟨as, hr⟩, bs, hb, hk⟩ := DEs.sh I ds _ its ha rv (by simpa [PyData.showable] using h1) fun t ht => Nat.le_trans (tupleText_mem_le ht) hz2
    have r2 : Reads s.heap (.ref a) (.tuple ds) _ := Reads.tuple ho hc hd hr
    have hna := not_mem_of_deeper r2 (show PyData.depthAll ds < _ by simp only [PyData.depth]; omega) hb
    simp only [PyData.depth] at h3
    simp only [PyData.shown] at fin
    refine call_repr_slot un ⟨o, ho, hc⟩ F.slot_tuple_repr ?_
    exact call_tuple_reprK ho hc hd hna hk hg (fun b _ => Clear.nil b) (by show X.A.units + 1 + _ < cLine; omega) (fun _ _ e => e) (fun h' u' tk hk' => ⟨_, _, rfl, fin h' u' tk hk'⟩) hz2
end
end DY

namespace Law
open PySem PySem.Spec PyProof.Rows L2 Evl
def top (i : Nat) : Stmt := PySem.Challenge.pw_wordskips_k02_words_refused.main.body.getD i (.Pass ⟨0, 0, 0, 0⟩)
abbrev s_is_list : Stmt := top 1
abbrev N_is_list : List Str := ["value"]
theorem sc_is_list : FnScope N_is_list ["value"] (defScope s_is_list) := ⟨rfl, rfl, rfl, by decide +kernel, rfl, by decide +kernel, by decide +kernel⟩
abbrev s_are_letters : Stmt := top 2
abbrev N_are_letters : List Str := ["value", "sign"]
theorem sc_are_letters : FnScope N_are_letters ["value"] (defScope s_are_letters) := ⟨rfl, rfl, rfl, by decide +kernel, rfl, by decide +kernel, by decide +kernel⟩
abbrev s_wrong_sign : Stmt := top 3
abbrev N_wrong_sign : List Str := ["letters", "text", "place", "sign"]
theorem sc_wrong_sign : FnScope N_wrong_sign ["letters", "text"] (defScope s_wrong_sign) := ⟨rfl, rfl, rfl, by decide +kernel, rfl, by decide +kernel, by decide +kernel⟩
abbrev s_wrong_word : Stmt := top 4
abbrev N_wrong_word : List Str := ["letters", "words", "place", "word"]
theorem sc_wrong_word : FnScope N_wrong_word ["letters", "words"] (defScope s_wrong_word) := ⟨rfl, rfl, rfl, by decide +kernel, rfl, by decide +kernel, by decide +kernel⟩
abbrev s_is_wish : Stmt := top 5
abbrev N_is_wish : List Str := ["value"]
theorem sc_is_wish : FnScope N_is_wish ["value"] (defScope s_is_wish) := ⟨rfl, rfl, rfl, by decide +kernel, rfl, by decide +kernel, by decide +kernel⟩
abbrev s_is_word : Stmt := top 6
abbrev N_is_word : List Str := ["letters", "value"]
theorem sc_is_word : FnScope N_is_word ["letters", "value"] (defScope s_is_word) := ⟨rfl, rfl, rfl, by decide +kernel, rfl, by decide +kernel, by decide +kernel⟩
abbrev s_kept : Stmt := top 13
abbrev N_kept : List Str := ["value", "part", "key"]
theorem sc_kept : FnScope N_kept ["value"] (defScope s_kept) := ⟨rfl, rfl, rfl, by decide +kernel, rfl, by decide +kernel, by decide +kernel⟩
abbrev s_check_words : Stmt := top 15
abbrev N_check_words : List Str := ["letters", "words", "place"]
theorem sc_check_words : FnScope N_check_words ["letters", "words"] (defScope s_check_words) := ⟨rfl, rfl, rfl, by decide +kernel, rfl, by decide +kernel, by decide +kernel⟩
abbrev s_wanted : Stmt := top 16
abbrev N_wanted : List Str := ["letters", "words", "text", "wish", "place", "found"]
theorem sc_wanted : FnScope N_wanted ["letters", "words", "text", "wish"] (defScope s_wanted) := ⟨rfl, rfl, rfl, by decide +kernel, rfl, by decide +kernel, by decide +kernel⟩
abbrev s_standing : Stmt := top 17
abbrev N_standing : List Str := ["words", "text", "numbers", "number", "word", "size", "found", "place", "part"]
theorem sc_standing : FnScope N_standing ["words", "text"] (defScope s_standing) := ⟨rfl, rfl, rfl, by decide +kernel, rfl, by decide +kernel, by decide +kernel⟩
abbrev s_apart : Stmt := top 18
abbrev N_apart : List Str := ["found", "size", "taken", "end", "place", "number"]
theorem sc_apart : FnScope N_apart ["found", "size"] (defScope s_apart) := ⟨rfl, rfl, rfl, by decide +kernel, rfl, by decide +kernel, by decide +kernel⟩
abbrev s_lpen : Stmt := top 20
abbrev N_lpen : List Str := ["_law_script"]
theorem sc_lpen : FnScope N_lpen ["_law_script"] (defScope s_lpen) := ⟨rfl, rfl, rfl, by decide +kernel, rfl, by decide +kernel, by decide +kernel⟩
abbrev s_ldraw : Stmt := top 21
abbrev N_ldraw : List Str := ["_law_pen_here", "_law_many", "_law_digit", "_law_k", "_law_cells", "_law_cell", "_law_mix"]
theorem sc_ldraw : FnScope N_ldraw ["_law_pen_here", "_law_many"] (defScope s_ldraw) := ⟨rfl, rfl, rfl, by decide +kernel, rfl, by decide +kernel, by decide +kernel⟩
abbrev s_lpick : Stmt := top 22
abbrev N_lpick : List Str := ["_law_pen_here", "_law_some"]
theorem sc_lpick : FnScope N_lpick ["_law_pen_here", "_law_some"] (defScope s_lpick) := ⟨rfl, rfl, rfl, by decide +kernel, rfl, by decide +kernel, by decide +kernel⟩
abbrev s_lletters : Stmt := top 23
abbrev N_lletters : List Str := ["_law_pen_here", "_law_small", "_law_first", "_law_pace", "_law_k"]
theorem sc_lletters : FnScope N_lletters ["_law_pen_here"] (defScope s_lletters) := ⟨rfl, rfl, rfl, by decide +kernel, rfl, by decide +kernel, by decide +kernel⟩
abbrev s_lword : Stmt := top 24
abbrev N_lword : List Str := ["_law_pen_here", "_law_letters_here", "_law_width", "_law_way", "_law_at", "_law_piece", "_law_k", "_law_word_here"]
theorem sc_lword : FnScope N_lword ["_law_pen_here", "_law_letters_here", "_law_width"] (defScope s_lword) := ⟨rfl, rfl, rfl, by decide +kernel, rfl, by decide +kernel, by decide +kernel⟩
abbrev s_lwords : Stmt := top 25
abbrev N_lwords : List Str := ["_law_pen_here", "_law_letters_here", "_law_width", "_law_many", "_law_found", "_law_k", "_law_word_here"]
theorem sc_lwords : FnScope N_lwords ["_law_pen_here", "_law_letters_here", "_law_width", "_law_many"] (defScope s_lwords) := ⟨rfl, rfl, rfl, by decide +kernel, rfl, by decide +kernel, by decide +kernel⟩
abbrev s_ltext : Stmt := top 26
abbrev N_ltext : List Str := ["_law_pen_here", "_law_letters_here", "_law_words_here", "_law_most", "_law_text_here", "_law_size", "_law_word_here", "_law_near"]
theorem sc_ltext : FnScope N_ltext ["_law_pen_here", "_law_letters_here", "_law_words_here", "_law_most"] (defScope s_ltext) := ⟨rfl, rfl, rfl, by decide +kernel, rfl, by decide +kernel, by decide +kernel⟩
abbrev s_lmet : Stmt := top 27
abbrev N_lmet : List Str := ["_law_call", "e"]
theorem sc_lmet : FnScope N_lmet ["_law_call"] (defScope s_lmet) := ⟨rfl, rfl, rfl, by decide +kernel, rfl, by decide +kernel, by decide +kernel⟩
abbrev s_lis_word : Stmt := top 28
abbrev N_lis_word : List Str := ["_law_letters_here", "_law_value", "_law_sign"]
theorem sc_lis_word : FnScope N_lis_word ["_law_letters_here", "_law_value"] (defScope s_lis_word) := ⟨rfl, rfl, rfl, by decide +kernel, rfl, by decide +kernel, by decide +kernel⟩
abbrev s_ldue : Stmt := top 29
abbrev N_ldue : List Str := ["_law_letters_here", "_law_words_here", "_law_text_here", "_law_wish", "_law_place", "_law_other", "_law_wrong"]
theorem sc_ldue : FnScope N_ldue ["_law_letters_here", "_law_words_here", "_law_text_here", "_law_wish"] (defScope s_ldue) := ⟨rfl, rfl, rfl, by decide +kernel, rfl, by decide +kernel, by decide +kernel⟩
abbrev s_lodd_words : Stmt := top 30
abbrev N_lodd_words : List Str := ["_law_pen_here", "_law_letters_here", "_law_words_here", "_law_at", "_law_word_here", "_law_other", "_law_sign", "_law_some", "_law_odd", "_law_way"]
theorem sc_lodd_words : FnScope N_lodd_words ["_law_pen_here", "_law_letters_here", "_law_words_here"] (defScope s_lodd_words) := ⟨rfl, rfl, rfl, by decide +kernel, rfl, by decide +kernel, by decide +kernel⟩
abbrev s_law : Stmt := top 31
abbrev N_law : List Str := ["_law_script", "_law_pen_here", "_law_turn", "_law_letters_here", "_law_width", "_law_words_here", "_law_text_here", "_law_wish", "_law_lap", "_law_at", "_law_sign", "_law_due_here", "_law_short", "_law_some", "_law_odd", "_law_four"]
theorem sc_law : FnScope N_law ["_law_script"] (defScope s_law) := ⟨rfl, rfl, rfl, by decide +kernel, rfl, by decide +kernel, by decide +kernel⟩
abbrev s_BadLetters_init : Stmt := inClass (top 9) 0
abbrev N_BadLetters_init : List Str := ["self", "letters"]
theorem sc_BadLetters_init : FnScope N_BadLetters_init ["self", "letters"] (defScope s_BadLetters_init) := ⟨rfl, rfl, rfl, by decide +kernel, rfl, by decide +kernel, by decide +kernel⟩
abbrev s_BadWords_init : Stmt := inClass (top 10) 0
abbrev N_BadWords_init : List Str := ["self", "place"]
theorem sc_BadWords_init : FnScope N_BadWords_init ["self", "place"] (defScope s_BadWords_init) := ⟨rfl, rfl, rfl, by decide +kernel, rfl, by decide +kernel, by decide +kernel⟩
abbrev s_BadText_init : Stmt := inClass (top 11) 0
abbrev N_BadText_init : List Str := ["self", "place"]
theorem sc_BadText_init : FnScope N_BadText_init ["self", "place"] (defScope s_BadText_init) := ⟨rfl, rfl, rfl, by decide +kernel, rfl, by decide +kernel, by decide +kernel⟩
abbrev s_BadWish_init : Stmt := inClass (top 12) 0
abbrev N_BadWish_init : List Str := ["self", "wish"]
theorem sc_BadWish_init : FnScope N_BadWish_init ["self", "wish"] (defScope s_BadWish_init) := ⟨rfl, rfl, rfl, by decide +kernel, rfl, by decide +kernel, by decide +kernel⟩

/-! ### the pen -/
def penK (c : Addr) (op lf : Int) : List (Key × V) := [(.inr "cells", .ref c), (.inr "opened", .int op), (.inr "left", .int lf)]
structure PenI where
  d : Addr
  c : Addr
  ns : List Int
def PenAt (p : PenI) (H0 H : Hp) (n : Nat) : Prop := Ex H0 H ∧ H0 p.d = none ∧ H0 p.c = some (.lst (p.ns.map V.int)) ∧ p.ns.length ≤ 63 ∧
  ∃ (op : Nat) (lf : Int), op ≤ n ∧ H p.d = some (.dK (penK p.c op lf))
theorem PenAt.ex {p : PenI} {H0 H H1 : Hp} {n : Nat} (P : PenAt p H0 H n) (e : Ex H H1) : PenAt p H0 H1 n := by
  obtain ⟨e0, h0, hc, hl, op, lf, ho, hd⟩ := P
  exact ⟨e0.trans e, h0, hc, hl, op, lf, ho, e p.d _ hd⟩
theorem PenAt.le {p : PenI} {H0 H : Hp} {n m : Nat} (P : PenAt p H0 H n) (h : n ≤ m) : PenAt p H0 H m := by
  obtain ⟨e0, h0, hc, hl, op, lf, ho, hd⟩ := P
  exact ⟨e0, h0, hc, hl, op, lf, Nat.le_trans ho h, hd⟩
theorem PenAt.dict {p : PenI} {H0 H : Hp} {n : Nat} (P : PenAt p H0 H n) : ∃ kvs, H p.d = some (.dK kvs) := by
  obtain ⟨_, _, _, _, op, lf, _, h⟩ := P
  exact ⟨_, h⟩
theorem PenAt.lst_ne {p : PenI} {H0 H : Hp} {a : Addr} {n : Nat} {xs : List V} (P : PenAt p H0 H n) (h : H a = some (.lst xs)) : a ≠ p.d := by
  obtain ⟨kvs, h2⟩ := P.dict
  exact ne_of h h2 (by intro z; cases z)
/-- an object made meanwhile may change -/
theorem PenAt.upd {p : PenI} {H0 H : Hp} {a : Addr} {n : Nat} {o : HO} (P : PenAt p H0 H n) (h : H0 a = none) (hd : a ≠ p.d) : PenAt p H0 (upd H a o) n := by
  obtain ⟨e0, h0, hc, hl, op, lf, ho, hd'⟩ := P
  exact ⟨e0.mut h, h0, hc, hl, op, lf, ho, by rw [upd_ne hd.symm]; exact hd'⟩
/-- one more object kept, and let go again -/
theorem PenAt.keep {p : PenI} {H0 H : Hp} {a : Addr} {n : Nat} {o : HO} (P : PenAt p H0 H n) (h : H a = some o) (hd : a ≠ p.d) : PenAt p (L2.upd H0 a o) H n := by
  obtain ⟨e0, h0, hc, r⟩ := P
  refine ⟨fun b u e => ?_, by rw [upd_ne hd.symm]; exact h0, ?_, r⟩
  · by_cases q : b = a
    · subst q
      rw [upd_same] at e
      rw [h, e]
    · rw [upd_ne q] at e
      exact e0 b u e
  · by_cases q : p.c = a
    · have e2 := e0 _ _ hc
      rw [q, h] at e2
      rw [q, upd_same, e2]
    · rw [upd_ne q]
      exact hc
theorem PenAt.drop {p : PenI} {H0 H H' : Hp} {a : Addr} {n m : Nat} {o : HO} (P : PenAt p H0 H n) (h : H a = some o) (P' : PenAt p (L2.upd H0 a o) H' m) : PenAt p H0 H' m := by
  refine ⟨fun b u e => ?_, P.2.1, P.2.2.1, P'.2.2.2⟩
  by_cases q : b = a
  · subst q
    have e2 := P.1 _ _ e
    rw [h] at e2
    exact P'.1 _ _ (by rw [upd_same, e2])
  · exact P'.1 _ _ (by rw [upd_ne q]; exact e)
theorem cells_opened : ¬ (("cells" : Str) = "opened") := by decide +kernel
theorem cells_left : ¬ (("cells" : Str) = "left") := by decide +kernel
theorem opened_left : ¬ (("opened" : Str) = "left") := by decide +kernel
theorem get_cells (c : Addr) (op lf : Int) : valV (penK c op lf) (.inr "cells") = some (.ref c) := by
  unfold valV penK
  rw [List.find?_cons_of_pos (by simp)]
  rfl
theorem get_opened (c : Addr) (op lf : Int) : valV (penK c op lf) (.inr "opened") = some (.int op) := by
  unfold valV penK
  rw [List.find?_cons_of_neg (by simpa using cells_opened), List.find?_cons_of_pos (by simp)]
  rfl
theorem get_left (c : Addr) (op lf : Int) : valV (penK c op lf) (.inr "left") = some (.int lf) := by
  unfold valV penK
  rw [List.find?_cons_of_neg (by simpa using cells_left), List.find?_cons_of_neg (by simpa using opened_left), List.find?_cons_of_pos (by simp)]
  rfl
theorem put_opened (c : Addr) (op lf x : Int) : putK (penK c op lf) (.inr "opened") (.int x) = penK c x lf := by
  unfold putK penK
  simp [cells_opened, opened_left, cells_left, Ne.symm opened_left]
theorem put_left (c : Addr) (op lf x : Int) : putK (penK c op lf) (.inr "left") (.int x) = penK c op x := by
  unfold putK penK
  simp [cells_opened, opened_left, cells_left]
theorem dget_of {H : Hp} {d : Addr} {kvs : List (Key × V)} {k : Str} {v : V} (e : H d = some (.dK kvs)) (h : valV kvs (.inr k) = some v) : DGet H d (.str k) (some v) := by
  rw [← h]
  exact DGet.k (k := .inr k) e
theorem dput_of {H : Hp} {d : Addr} {kvs kvs' : List (Key × V)} {k : Str} {v : V} (e : H d = some (.dK kvs)) (hl : kvs.length < 100) (h : putK kvs (.inr k) v = kvs') : DPut H d (.str k) v (upd H d (.dK kvs')) := by
  rw [← h]
  exact DPut.k (k := .inr k) e (Nat.lt_of_lt_of_le hl (by decide))

/-! ### lists of ints as data -/
theorem lay_ints : ∀ ns : List Int, PyData.canLayAll0 (ns.map PyData.int) = true
  | [] => rfl
  | n :: r => by
    show (PyData.canLay0 (.int n) && PyData.canLayAll0 (r.map PyData.int)) = true
    rw [lay_ints r]
    rfl
theorem depth_ints : ∀ ns : List Int, PyData.depthAll (ns.map PyData.int) = 0
  | [] => rfl
  | n :: r => by
    show max (PyData.depth (.int n)) (PyData.depthAll (r.map PyData.int)) = 0
    rw [depth_ints r]
    rfl
theorem shaped_ints (ns : List Int) : SeqAt.shaped (.list (ns.map PyData.int)) = true := by
  unfold SeqAt.shaped
  have e1 : (PyData.list (ns.map PyData.int)).canLay0 = true := lay_ints ns
  have e2 : (PyData.list (ns.map PyData.int)).depth = 1 := by
    show PyData.depthAll (ns.map PyData.int) + 1 = 1
    rw [depth_ints]
  rw [e1, e2]
  rfl
theorem dp_ints {K : PySem.W.Frag} {H : Hp} : ∀ ns : List Int, DpAll K H (ns.map V.int) (ns.map PyData.int)
  | [] => .nil
  | n :: r => .cons (.int n) (dp_ints r)
theorem eqv_nil (ns : List Int) : PyData.eqv (.list (ns.map PyData.int)) (.list []) = ns.isEmpty := by
  cases ns <;> rfl

/-! ### what is known of a def that is called -/
structure Kn (P : Program) (w : World) (K : PySem.W.Frag) (mg : Str → Option Value) (base : Heap) (x : Str) (ps : List Str) (k : Nat) (sp : Sp) where
  f : Addr
  fd : FuncData
  ok : FnOk P w K mg base CX0 k f fd ps sp
  g : mg x = some (.ref f)
  kp : PySem.W.keepIn K (.ref f) = true
  b : Binds K fd ps []
structure Tx (mg : Str → Option Value) : Prop where
  dict : mg "dict" = none
  len : mg "len" = none
  int : mg "int" = none
  abs : mg "abs" = none
  min : mg "min" = none
  list : mg "list" = none
  all : mg "all" = none
  range : mg "range" = none
  isinstance : mg "isinstance" = none
  str : mg "str" = none
  set : mg "set" = none
  tuple : mg "tuple" = none
  enumerate : mg "enumerate" = none

def spPen (K : PySem.W.Frag) : Sp := fun vs H Q _ => ∃ (a : Addr) (ns : List Int), vs = [.ref a] ∧ SqL K H a (ns.map V.int) ∧ ns.length ≤ 63 ∧ ∀ p H0 H', Ex H H0 → PenAt p H0 H' 0 → Q (.ref p.d) H'
def spDraw : Sp := fun vs H Q _ => ∃ (p : PenI) (H0 : Hp) (n : Nat) (m : Int), vs = [.ref p.d, .int m] ∧ PenAt p H0 H n ∧ n < 1000000 ∧ 0 < m ∧ m < 1000 ∧ ∀ H' r, PenAt p H0 H' (n + 1) → 0 ≤ r → r < m → Q (.int r) H'

section
variable {P : Program} {w : World} {K : PySem.W.Frag} {mg : Str → Option Value} {base : Heap}
theorem ok_pen {f : Addr} {fd : FuncData} (F : Fun K "_law_pen" "_law_pen" s_lpen f fd) (T : Tx mg) : FnOk P w K mg base CX0 1 f fd ["_law_script"] (spPen K) := by
  refine F.ok sc_lpen (fun vs H Q E h => ?_) (fun cdv A outer s H vs Q E hr h => ?_)
  · obtain ⟨a, ns, rfl, _⟩ := h
    rfl
  · obtain ⟨a, ns, rfl, hS, hl, q⟩ := h
    refine ⟨_, (pss_one (ps_ret (pe_disp (pps_cons pe_str (pe_callTy call_list_of (by rfl) T.list PyProof.Rows.boot_list (pa_cons (pe_slice sl_list (pv 0) po_none (po_some pe_int)) pa_nil)) (pps_cons pe_str pe_int (pps_cons pe_str pe_int pps_nil))) (by rfl) (by rfl) (fun z => by cases z) (by decide)))), ?_⟩
    intro d hd
    have e1 : Ex H (upd H d (.dK [])) := Ex.new hd
    refine ⟨.ref a, rfl, 63, rfl, a, _, rfl, ex_l e1 hS, fun c hc => ?_⟩
    have e2 := e1.trans (Ex.new (o := .lst (cutV (ns.map V.int) none (some 63))) hc)
    refine ⟨c, _, rfl, .inl (.inl (.inl upd_same)), fun c2 hc2 => ?_⟩
    have e3 := e2.trans (Ex.new (o := .lst (cutV (ns.map V.int) none (some 63))) hc2)
    have ncd : c ≠ d := fun z => by rw [z, upd_same] at hc; cases hc
    have nc2c : c2 ≠ c := fun z => by rw [z, upd_same] at hc2; cases hc2
    have nc2d : c2 ≠ d := fun z => by rw [z, upd_ne ncd.symm, upd_same] at hc2; cases hc2
    refine ⟨by rw [upd_ne nc2d.symm, upd_ne ncd.symm, upd_same], penK c2 0 0, rfl, (by show 3 ≤ 15; decide), ?_⟩
    have em : mergeK [] (penK c2 0 0) = penK c2 0 0 := by
      unfold mergeK penK
      simp [putK, cells_opened, opened_left, cells_left]
    rw [em]
    have el : ((cutV (ns.map V.int) none (some 63)) : List V) = ((ns.drop (HT.sIx ns.length 0 none)).take (HT.sIx ns.length ns.length (some 63) - HT.sIx ns.length 0 none)).map V.int := by
      unfold cutV
      rw [List.length_map, List.map_take, List.map_drop]
    have hn2 : H c2 = none := by
      rw [upd_ne nc2c, upd_ne nc2d] at hc2
      exact hc2
    refine q ⟨d, c2, (ns.drop (HT.sIx ns.length 0 none)).take (HT.sIx ns.length ns.length (some 63) - HT.sIx ns.length 0 none)⟩ (upd H c2 (.lst (cutV (ns.map V.int) none (some 63)))) _ (Ex.new hn2) ⟨fun b u e => ?_, ?_, ?_, ?_, 0, 0, Nat.le_refl _, upd_same⟩
    · have nbd : b ≠ d := fun z => by
        rw [z, upd_ne nc2d.symm, hd] at e
        cases e
      rw [upd_ne nbd]
      by_cases z : b = c2
      · subst z
        rw [upd_same] at e ⊢
        exact e
      · rw [upd_ne z] at e ⊢
        exact (e1.trans (Ex.new hc)) _ _ e
    · exact (upd_ne nc2d.symm).trans hd
    · show upd H c2 _ c2 = _
      rw [upd_same, el]
    · rw [List.length_take, List.length_drop]
      omega
theorem ok_draw {f : Addr} {fd : FuncData} (F : Fun K "_law_draw" "_law_draw" s_ldraw f fd) (T : Tx mg) : FnOk P w K mg base CX0 1 f fd ["_law_pen_here", "_law_many"] spDraw := by
  refine F.ok sc_ldraw (fun vs H Q E h => ?_) (fun cdv A outer s H vs Q E hr h => ?_)
  · obtain ⟨p, H0, n, m, rfl, _⟩ := h
    rfl
  · obtain ⟨⟨d, c, ns⟩, H0, n, m, rfl, ⟨e0, h0, hc0, hl, op, lf, ho, hd⟩, hn, hm0, hm1, q⟩ := h
    have hc : H c = some (.lst (ns.map V.int)) := e0 _ _ hc0
    dsimp only at h0 hl hd q ⊢
    have ncd : c ≠ d := ne_of hc hd (by intro z; cases z)
    have fin : ∀ (o2 : Nat) (l2 : Int) (H' : Hp), Ex H0 H' → H' c = some (.lst (ns.map V.int)) → H' d = some (.dK (penK c o2 l2)) → o2 ≤ n + 1 → PenAt ⟨d, c, ns⟩ H0 H' (n + 1) :=
      fun o2 l2 H' x1 x2 x3 x4 => ⟨x1, h0, hc0, hl, o2, l2, x4, x3⟩
    refine ⟨_, (pss_cons (ps_if (pt_cmpR op_gt (pe_dget (hu_of hr) (pv 0) pe_str (fun _ _ => rfl)) pe_int (nomark _)) (pss_cons (ps_set (i := 2) sc_ldraw.nd rfl (Or.inl rfl) (pe_op op_mod (pe_callTy call_int1 (by rfl) T.int PyProof.Rows.boot_int (pa_cons (pe_dget (hu_of hr) (pv 0) pe_str (fun _ _ => rfl)) pa_nil)) (pv 1)))
      (pss_cons (ps_dput (hu_of hr) (pv 0) pe_str (pe_op op_fdivN (pe_dget (hu_of hr) (pv 0) pe_str (fun _ _ => rfl)) (pv 1)) rfl)
      (pss_one (ps_ret (pv 2))))) pss_nil)
      (pss_cons (ps_par (i := 3) (j := 4) (by rfl) sc_ldraw.nd rfl rfl (by decide) rfl rfl (pa_cons (pe_dget (hu_of hr) (pv 0) pe_str (fun _ _ => rfl)) (pa_cons (pe_dget (hu_of hr) (pv 0) pe_str (fun _ _ => rfl)) pa_nil)) (by rfl))
      (pss_cons (ps_dput (hu_of hr) (pv 0) pe_str (pe_op op_add (pv 3) pe_int) rfl)
      (pss_cons (ps_if (pt_cmpR (op_eqD hr.units) (pv 4) (pe_lst pa_nil) (nomark _)) (pss_one (ps_ret (pe_op op_mod (pe_callTy call_int1 (by rfl) T.int PyProof.Rows.boot_int (pa_cons (pe_op op_add (pe_op op_mul pe_int (pv 3)) pe_int) pa_nil)) (pv 1)))) pss_nil)
      (pss_cons (ps_set (i := 5) sc_ldraw.nd rfl (Or.inl rfl) (pe_ix ix_list (pv 4) (pe_op op_mod (pe_callTy call_int1 (by rfl) T.int PyProof.Rows.boot_int (pa_cons (pv 3) pa_nil)) (pe_callB call_len_seq (by rfl) T.len PySem.boot_len (pa_cons (pv 4) pa_nil))) (fun _ _ => rfl)))
      (pss_cons (ps_if (PW.pt (pw_and (pt_cmpR op_lt (pv 3) (pe_callB call_len_seq (by rfl) T.len PySem.boot_len (pa_cons (pv 4) pa_nil)) (nomark _)) (pw_and1 (pt_cmpR op_ge (pe_callB call_abs (by rfl) T.abs (by decide +kernel) (pa_cons (pv 5) pa_nil)) (pe_op op_pow pe_int pe_int) (nomark _))))) (pss_cons (ps_dput (hu_of hr) (pv 0) pe_str (pe_op op_fdivN (pe_op op_sub (pe_callB call_abs (by rfl) T.abs (by decide +kernel) (pa_cons (pv 5) pa_nil)) (pe_op op_pow pe_int pe_int)) (pv 1)) rfl)
      (pss_one (ps_ret (pe_op op_mod (pe_callTy call_int1 (by rfl) T.int PyProof.Rows.boot_int (pa_cons (pe_op op_sub (pe_callB call_abs (by rfl) T.abs (by decide +kernel) (pa_cons (pv 5) pa_nil)) (pe_op op_pow pe_int pe_int)) pa_nil)) (pv 1))))) pss_nil)
      (pss_cons (ps_set (i := 6) sc_ldraw.nd rfl (Or.inl rfl) (pe_op op_mod (pe_callTy call_int1 (by rfl) T.int PyProof.Rows.boot_int (pa_cons (pe_op op_add (pe_op op_add (pe_op op_add (pe_op op_mul (pe_op op_mod (pe_callTy call_int1 (by rfl) T.int PyProof.Rows.boot_int (pa_cons (pv 5) pa_nil)) pe_int) pe_int) (pe_op op_mul (pe_op op_mul pe_int (pv 3)) (pv 3))) (pe_op op_mul pe_int (pv 3))) pe_int) pa_nil)) pe_int))
      (pss_cons (ps_set (i := 6) sc_ldraw.nd rfl (Or.inl rfl) (pe_op op_mod (pe_callTy call_int1 (by rfl) T.int PyProof.Rows.boot_int (pa_cons (pe_op op_add (pe_op op_add (pe_op op_mul (pv 6) (pv 6)) (pe_op op_mul pe_int (pv 6))) (pe_op op_mul pe_int (pv 3))) pa_nil)) pe_int))
      (pss_one (ps_ret (pe_op op_mod (pe_callTy call_int1 (by rfl) T.int PyProof.Rows.boot_int (pa_cons (pe_op op_fdivN (pe_op op_mod (pe_callTy call_int1 (by rfl) T.int PyProof.Rows.boot_int (pa_cons (pe_op op_mul (pv 6) (pe_op op_add (pv 6) pe_int)) pa_nil)) pe_int) pe_int) pa_nil)) (pv 1)))))))))))), ?_⟩
    refine ⟨_, rfl, d, .int lf, rfl, dget_of hd (get_left _ _ _), _, _, rfl, rfl, _, rfl, ite2 (fun hp => ?_) (fun hp => ?_)⟩
    · refine ⟨_, rfl, d, .int lf, rfl, dget_of hd (get_left _ _ _), .inl ⟨_, rfl, ?_⟩⟩
      refine ⟨_, rfl, _, _, rfl, rfl, hm0, ?_⟩
      refine ⟨_, rfl, d, .int lf, rfl, dget_of hd (get_left _ _ _), _, rfl, _, _, rfl, rfl, ⟨by omega, by omega⟩, ?_⟩
      refine ⟨_, rfl, d, _, rfl, dput_of hd (by show 3 < 100; decide) (put_left _ _ _ _), ?_⟩
      refine ⟨_, rfl, ?_⟩
      exact q _ _ (fin op _ _ (e0.mut h0) (by rw [upd_ne ncd]; exact hc) upd_same (by omega)) (Int.emod_nonneg _ (by omega)) (Int.emod_lt_of_pos _ hm0)
    · refine ⟨_, rfl, d, _, rfl, dget_of hd (get_opened _ _ _), _, rfl, d, _, rfl, dget_of hd (get_cells _ _ _), _, _, rfl, ?_⟩
      refine ⟨_, rfl, _, _, rfl, rfl, _, rfl, d, _, rfl, dput_of hd (by show 3 < 100; decide) (put_opened _ _ _ _), ?_⟩
      have x1 : Ex H0 (upd H d (.dK (penK c ((op : Int) + 1) lf))) := e0.mut h0
      have hc1 : (upd H d (.dK (penK c ((op : Int) + 1) lf))) c = some (.lst (ns.map V.int)) := by
        rw [upd_ne ncd]
        exact hc
      have hd1 : (upd H d (.dK (penK c ((op : Int) + 1) lf))) d = some (.dK (penK c ((op + 1 : Nat) : Int) lf)) := upd_same
      generalize (upd H d (.dK (penK c ((op : Int) + 1) lf))) = H1 at x1 hc1 hd1 ⊢
      -- if cells == []
      refine ⟨_, rfl, Nat.zero_le _, fun el hel => ?_⟩
      have x2 := x1.trans (Ex.new (o := .lst []) hel)
      have hc2 : (upd H1 el (.lst [])) c = some (.lst (ns.map V.int)) := Ex.new hel _ _ hc1
      have hd2 : (upd H1 el (.lst [])) d = some (.dK (penK c ((op + 1 : Nat) : Int) lf)) := Ex.new hel _ _ hd1
      refine ⟨.list (ns.map PyData.int), .list [], .lst (sq_of hc2) (dp_ints ns), .lst (xs := []) (sq_of upd_same) .nil, shaped_ints ns, rfl, _, rfl, ?_⟩
      rw [eqv_nil]
      generalize (upd H1 el (.lst [])) = H2 at x2 hc2 hd2 ⊢
      cases hns : ns.isEmpty with
      | true =>
        refine iteT ?_
        refine ⟨_, rfl, _, _, rfl, rfl, .inl (by decide), _, _, rfl, rfl, .inl ⟨_, rfl, _, rfl, _, _, rfl, rfl, hm0, ?_⟩⟩
        exact q _ _ (fin _ _ _ x2 hc2 hd2 (by omega)) (Int.emod_nonneg _ (by omega)) (Int.emod_lt_of_pos _ hm0)
      | false =>
        refine iteF ?_
        have hpos : 0 < ns.length := by
          cases ns with
          | nil => cases hns
          | cons x r => exact Nat.succ_pos _
        have hL : (0 : Int) < ((ns.map V.int).length : Int) := by
          rw [List.length_map]
          omega
        -- cell = cells[int(k) % len(cells)]
        obtain ⟨i, hi⟩ : ∃ i : Nat, (op : Int) % ((ns.map V.int).length : Int) = (i : Int) := ⟨((op : Int) % ((ns.map V.int).length : Int)).toNat, (Int.toNat_of_nonneg (Int.emod_nonneg _ (by omega))).symm⟩
        have hi2 : i < ns.length := by
          have := Int.emod_lt_of_pos (op : Int) hL
          rw [hi, List.length_map] at this
          omega
        have hat : atI (ns.map V.int) ((op : Int) % ((ns.map V.int).length : Int)) = some (V.int ns[i]) := by
          rw [hi]
          exact atI_nat (by rw [List.getElem?_map, List.getElem?_eq_getElem hi2]; rfl)
        refine ⟨_, rfl, _, rfl, .inl ⟨_, rfl, _, rfl, c, _, rfl, .inl (sq_of hc2), _, _, rfl, rfl, hL, c, _, _, _, rfl, rfl, sq_of hc2, hat, ?_⟩⟩
        generalize ns[i] = x
        -- the test
        have hcell : ∀ {σ : L2.St} {H' : Hp}, σ[5]? = some (some (V.int x)) → Ev (tVar 5) σ H' (V.int x) := fun h => ev_var h
        dsimp only [gName]
        refine q_when (b := decide ((op : Int) < ((ns.map V.int).length : Int)) && decide ((10 : Int) ^ (18 : Int).toNat ≤ (if x < 0 then -x else x)))
          (et_and (fun H4 e4 Q4 q4 => ?_) (fun _ H4 e4 Q4 q4 => ?_)) (fun hb H3 e3 => ?_) (fun hb H3 e3 => ?_)
        · exact ⟨_, rfl, _, rfl, c, _, rfl, .inl (sq_of (e4 _ _ hc2)), _, _, rfl, rfl, _, rfl, q4 _ (Ex.refl _)⟩
        · exact ⟨_, rfl, _, rfl, _, _, rfl, rfl, ⟨by decide, by decide, by decide⟩, _, _, rfl, rfl, _, rfl, q4 _ (Ex.refl _)⟩
        · have x3 := x2.trans e3
          refine ⟨_, rfl, _, rfl, _, _, rfl, rfl, ⟨by decide, by decide, by decide⟩, _, _, rfl, rfl, _, rfl, _, _, rfl, rfl, ⟨by omega, by omega⟩, ?_⟩
          refine ⟨_, rfl, d, _, rfl, dput_of (e3 _ _ hd2) (by show 3 < 100; decide) (put_left _ _ _ _), ?_⟩
          refine ⟨_, rfl, _, rfl, _, _, rfl, rfl, ⟨by decide, by decide, by decide⟩, _, _, rfl, rfl, .inl ⟨_, rfl, _, rfl, _, _, rfl, rfl, hm0, ?_⟩⟩
          exact q _ _ (fin _ _ _ (x3.mut h0) (by rw [upd_ne ncd]; exact e3 _ _ hc2) upd_same (by omega)) (Int.emod_nonneg _ (by omega)) (Int.emod_lt_of_pos _ hm0)
        · have x3 := x2.trans e3
          have b1 : (0 : Int) ≤ x % 4294965521 := Int.emod_nonneg _ (by decide)
          have b2 : x % 4294965521 < 4294965521 := Int.emod_lt_of_pos _ (by decide)
          refine ⟨_, rfl, .inl ⟨_, rfl, _, _, rfl, rfl, (by show (0 : Int) < _; decide), _, _, rfl, rfl, .inr ⟨by decide, by decide⟩, ?_⟩⟩
          refine ⟨_, rfl, _, _, rfl, rfl, .inl ⟨by decide, by decide⟩, _, rfl, _, _, rfl, rfl, .inr ⟨by omega, by omega⟩, _, _, rfl, rfl, ?_⟩
          refine ⟨_, rfl, _, _, rfl, rfl, .inl ⟨by decide, by decide⟩, _, _, rfl, rfl, _, _, rfl, rfl, .inl ⟨_, rfl, _, _, rfl, rfl, (by show (0 : Int) < _; decide), ?_⟩⟩
          generalize hy : (x % 4294965521 * 43793 + 25999 * (op : Int) * (op : Int) + 839 * (op : Int) + 67) % 4294965583 = y
          have b3 : 0 ≤ y := by rw [← hy]; exact Int.emod_nonneg _ (by decide)
          have b4 : y < 4294965583 := by rw [← hy]; exact Int.emod_lt_of_pos _ (by decide)
          refine ⟨_, rfl, _, rfl, _, _, rfl, rfl, .inl ⟨by omega, by omega⟩, _, rfl, _, _, rfl, rfl, .inl ⟨by decide, by decide⟩, _, _, rfl, rfl, ?_⟩
          refine ⟨_, rfl, _, _, rfl, rfl, .inl ⟨by decide, by decide⟩, _, _, rfl, rfl, .inl ⟨_, rfl, _, _, rfl, rfl, (by show (0 : Int) < _; decide), ?_⟩⟩
          generalize hz : (y * y + 40163 * y + 31 * (op : Int)) % 4294965511 = z
          have b5 : 0 ≤ z := by rw [← hz]; exact Int.emod_nonneg _ (by decide)
          have b6 : z < 4294965511 := by rw [← hz]; exact Int.emod_lt_of_pos _ (by decide)
          refine ⟨_, rfl, _, rfl, _, _, rfl, rfl, _, _, rfl, rfl, .inl ⟨by omega, by omega⟩, .inl ⟨_, rfl, _, _, rfl, rfl, (by show (0 : Int) < _; decide), _, _, rfl, rfl, ⟨by decide, by decide⟩, .inl ⟨_, rfl, _, rfl, _, _, rfl, rfl, hm0, ?_⟩⟩⟩
          exact q _ _ (fin _ _ _ x3 (e3 _ _ hc2) (e3 _ _ hd2) (by omega)) (Int.emod_nonneg _ (by omega)) (Int.emod_lt_of_pos _ hm0)
end
end Law

namespace Law
open PySem PySem.Spec PyProof.Rows L2 Evl
theorem sz_le {n : Nat} (h : n < 1000) : n ≤ sizeLine := Nat.le_trans (Nat.le_of_lt h) (by decide)
theorem at_draw {α : Type} {xs : List α} {r : Int} (h0 : 0 ≤ r) (h1 : r < (xs.length : Int)) : ∃ v, v ∈ xs ∧ atI xs r = some v := by
  obtain ⟨j, rfl⟩ : ∃ j : Nat, r = (j : Int) := ⟨r.toNat, (Int.toNat_of_nonneg h0).symm⟩
  have hj : j < xs.length := by omega
  exact ⟨xs[j], List.getElem_mem hj, atI_nat (List.getElem?_eq_getElem hj)⟩
def spPickS : Sp := fun vs H Q _ => ∃ (p : PenI) (H0 : Hp) (n : Nat) (z : Str), vs = [.ref p.d, .str z] ∧ PenAt p H0 H n ∧ n < 1000000 ∧ 0 < z.length ∧ z.length < 1000 ∧ ∀ H' c, PenAt p H0 H' (n + 1) → c ∈ z.cps.toList → Q (.str ⟨#[c]⟩) H'
def spPickL : Sp := fun vs H Q _ => ∃ (p : PenI) (H0 : Hp) (a : Addr) (n : Nat) (xs : List V), vs = [.ref p.d, .ref a] ∧ PenAt p H0 H n ∧ n < 1000000 ∧ H a = some (.lst xs) ∧ 0 < xs.length ∧ xs.length < 1000 ∧ ∀ H' v, PenAt p H0 H' (n + 1) → v ∈ xs → Q v H'
section
variable {P : Program} {w : World} {K : PySem.W.Frag} {mg : Str → Option Value} {base : Heap}
theorem ok_pickS {f : Addr} {fd : FuncData} (F : Fun K "_law_pick" "_law_pick" s_lpick f fd) (T : Tx mg) (c_ldraw : Kn P w K mg base "_law_draw" ["_law_pen_here", "_law_many"] 1 spDraw) : FnOk P w K mg base CX0 2 f fd ["_law_pen_here", "_law_some"] spPickS := by
  refine F.ok sc_lpick (fun vs H Q E h => ?_) (fun cdv A outer s H vs Q E hr h => ?_)
  · obtain ⟨p, H0, n, z, rfl, _⟩ := h
    rfl
  · obtain ⟨p, H0, n, z, rfl, P0, hn, hz0, hz1, q⟩ := h
    have ez : z.length = z.cps.toList.length := by simp [Str.length]
    refine ⟨_, (pss_one (ps_ret (pe_ix ix_str (pv 1) (pe_call c_ldraw.ok (hr.mono (by decide)) (by rfl) c_ldraw.g c_ldraw.kp c_ldraw.b .nil pass0 (pa_cons (pv 0) (pa_cons (pe_callB call_len_str (by rfl) T.len PySem.boot_len (pa_cons (pv 1) pa_nil)) pa_nil))) (fun _ _ => rfl)))), ?_⟩
    refine ⟨_, rfl, _, rfl, _, rfl, z, rfl, sz_le hz1, p, H0, n, _, rfl, P0, hn, by omega, by omega, fun H' r P1 r0 r1 => ?_⟩
    obtain ⟨c, hc, ha⟩ := at_draw (xs := z.cps.toList) r0 (by rw [← ez]; exact r1)
    exact ⟨z, r, c, rfl, rfl, sz_le hz1, ha, q _ _ P1 hc⟩
theorem ok_pickL {f : Addr} {fd : FuncData} (F : Fun K "_law_pick" "_law_pick" s_lpick f fd) (T : Tx mg) (c_ldraw : Kn P w K mg base "_law_draw" ["_law_pen_here", "_law_many"] 1 spDraw) : FnOk P w K mg base CX0 2 f fd ["_law_pen_here", "_law_some"] spPickL := by
  refine F.ok sc_lpick (fun vs H Q E h => ?_) (fun cdv A outer s H vs Q E hr h => ?_)
  · obtain ⟨p, H0, a, n, xs, rfl, _⟩ := h
    rfl
  · obtain ⟨p, H0, a, n, xs, rfl, P0, hn, hx, hz0, hz1, q⟩ := h
    refine ⟨_, (pss_one (ps_ret (pe_ix ix_list (pv 1) (pe_call c_ldraw.ok (hr.mono (by decide)) (by rfl) c_ldraw.g c_ldraw.kp c_ldraw.b .nil pass0 (pa_cons (pv 0) (pa_cons (pe_callB call_len_seq (by rfl) T.len PySem.boot_len (pa_cons (pv 1) pa_nil)) pa_nil))) (fun _ _ => rfl)))), ?_⟩
    refine ⟨_, rfl, _, rfl, _, rfl, a, xs, rfl, .inl (sq_of hx), p, upd H0 a (.lst xs), n, _, rfl, P0.keep hx (P0.lst_ne hx), hn, by omega, by omega, fun H' r P1 r0 r1 => ?_⟩
    obtain ⟨v, hv, ha⟩ := at_draw (xs := xs) r0 r1
    exact ⟨a, xs, r, v, rfl, rfl, sq_of (P1.1 _ _ upd_same), ha, q _ _ (P0.drop hx P1) hv⟩
end
end Law

namespace Law
open PySem PySem.Spec PyProof.Rows L2 Evl
def sg (c : Nat) : Str := ⟨#[c]⟩
def tx (l : List Nat) : Str := ⟨l.toArray⟩
theorem tx_len (l : List Nat) : (tx l).length = l.length := by simp [tx, Str.length]
theorem tx_list (l : List Nat) : (tx l).cps.toList = l := rfl
theorem tx_of (z : Str) : tx z.cps.toList = z := TL.ext_tl rfl
theorem sg_len (c : Nat) : (sg c).length = 1 := rfl
theorem joinL_nil : ∀ cs : List Nat, TL.joinL [] (cs.map fun c => [c]) = cs
  | [] => rfl
  | [c] => rfl
  | c :: d :: r => by
    show [c] ++ ([] ++ TL.joinL [] ((d :: r).map fun c => [c])) = c :: d :: r
    rw [joinL_nil (d :: r)]
    rfl
theorem join_sg (cs : List Nat) : Txt.join (Str.ofString "") (cs.map sg) = tx cs := by
  refine TL.ext_tl ?_
  rw [TL.join_eq, TL.tl_join, List.map_map, show TL.tl (Str.ofString "") = [] by decide +kernel]
  exact joinL_nil cs
theorem join_size (cs : List Nat) : ((cs.map sg).map (·.length)).sum = cs.length := by
  induction cs with
  | nil => rfl
  | cons c r ih =>
    show 1 + ((r.map sg).map (·.length)).sum = r.length + 1
    rw [ih, Nat.add_comm]
/-- the signs joined -/
theorem join_done {K : PySem.W.Frag} {H : Hp} {D : Addr} {cs : List Nat} {Q : VK} (hD : H D = some (.lst ((cs.map sg).map V.str))) (hl : cs.length ≤ 1000000) (q : Q (.str (tx cs)) H) :
    ∃ (a : Str) (p : Addr), ∃ ys : List Str, V.str (Str.ofString "") = .str a ∧ [V.ref D] = [.ref p] ∧ (SqL K H p (ys.map V.str) ∨ SqT K H p (ys.map V.str)) ∧ (ys.map (·.length)).sum + ys.length * a.length ≤ 16777216 ∧ Q (.str (Txt.join a ys)) H := by
  refine ⟨_, D, cs.map sg, rfl, rfl, .inl (sq_of hD), ?_, ?_⟩
  · rw [join_size, show (Str.ofString "").length = 0 from rfl]
    omega
  · rw [join_sg]
    exact q
def lets (f p n : Nat) : List Nat := (List.range n).map fun k => 97 + (f + p * k) % 26
def paces : List Nat := [1, 3, 5, 7, 9, 11, 15, 17, 19, 21, 23, 25]
def spLetters : Sp := fun vs H Q _ => ∃ (p : PenI) (H0 : Hp) (n : Nat), vs = [.ref p.d] ∧ PenAt p H0 H n ∧ n < 900000 ∧ ∀ H' f q m, PenAt p H0 H' (n + 3) → f < 26 → q ∈ paces → 2 ≤ m → m ≤ 4 → Q (.str (tx (lets f q m))) H'
theorem abc_at (r : Int) : ∃ c, atI (Str.ofString "abcdefghijklmnopqrstuvwxyz").cps.toList (r % 26) = some c ∧ c = 97 + (r % 26).toNat := by
  have h0 : 0 ≤ r % 26 := Int.emod_nonneg _ (by decide)
  have h1 : r % 26 < 26 := Int.emod_lt_of_pos _ (by decide)
  generalize hi : (r % 26) = i at h0 h1
  obtain ⟨j, rfl⟩ : ∃ j : Nat, i = (j : Int) := ⟨i.toNat, (Int.toNat_of_nonneg h0).symm⟩
  have hj : j < 26 := by omega
  have key : ∀ j : Nat, j < 26 → (Str.ofString "abcdefghijklmnopqrstuvwxyz").cps.toList[j]? = some (97 + j) := by decide +kernel
  exact ⟨97 + j, atI_nat (key j hj), by simp⟩
theorem paces_le : ∀ x ∈ paces, x ≤ 25 := by decide
theorem lets_succ (f p n : Nat) : lets f p (n + 1) = lets f p n ++ [97 + (f + p * n) % 26] := by
  unfold lets
  rw [List.range_succ, List.map_append]
  rfl
theorem lets_len (f p n : Nat) : (lets f p n).length = n := by
  unfold lets
  rw [List.length_map, List.length_range]
theorem sg_snoc (cs : List Nat) (c : Nat) : ((cs.map sg).map V.str) ++ [.str (sg c)] = ((cs ++ [c]).map sg).map V.str := by
  rw [List.map_append, List.map_append]
  rfl
theorem fresh0 {p : PenI} {H0 H : Hp} {n : Nat} {a : Addr} (P : PenAt p H0 H n) (h : H a = none) : H0 a = none := fresh_back P.1 h
theorem fresh_ne {p : PenI} {H0 H : Hp} {n : Nat} {a : Addr} (P : PenAt p H0 H n) (h : H a = none) : a ≠ p.d := by
  obtain ⟨kvs, h2⟩ := P.dict
  intro e
  rw [e, h2] at h
  cases h
section
variable {P : Program} {w : World} {K : PySem.W.Frag} {mg : Str → Option Value} {base : Heap}
theorem ok_letters {f : Addr} {fd : FuncData} (F : Fun K "_law_letters" "_law_letters" s_lletters f fd) (T : Tx mg) (c_ldraw : Kn P w K mg base "_law_draw" ["_law_pen_here", "_law_many"] 1 spDraw)
    (c_pickL : Kn P w K mg base "_law_pick" ["_law_pen_here", "_law_some"] 2 spPickL) : FnOk P w K mg base CX0 3 f fd ["_law_pen_here"] spLetters := by
  refine F.ok sc_lletters (fun vs H Q E h => ?_) (fun cdv A outer s H vs Q E hr h => ?_)
  · obtain ⟨p, H0, n, rfl, _⟩ := h
    rfl
  · obtain ⟨p, H0, n, rfl, P0, hn, q⟩ := h
    refine ⟨_, (pss_cons (ps_asg (pe_tup (pa_cons pe_str (pa_cons (pe_call c_ldraw.ok (hr.mono (by decide)) (by rfl) c_ldraw.g c_ldraw.kp c_ldraw.b .nil pass0 (pa_cons (pv 0) (pa_cons pe_int pa_nil))) pa_nil))) (pg_tup (by rfl) (pgs_cons (pg_name (i := 1) sc_lletters.nd rfl (Or.inr rfl)) (pgs_cons (pg_name (i := 2) sc_lletters.nd rfl (Or.inr rfl)) pgs_nil))))
      (pss_cons (ps_set (i := 3) sc_lletters.nd rfl (Or.inr rfl) (pe_call c_pickL.ok (hr.mono (by decide)) (by rfl) c_pickL.g c_pickL.kp c_pickL.b .nil pass0 (pa_cons (pv 0) (pa_cons (pe_lst (pa_cons pe_int (pa_cons pe_int (pa_cons pe_int (pa_cons pe_int (pa_cons pe_int (pa_cons pe_int (pa_cons pe_int (pa_cons pe_int (pa_cons pe_int (pa_cons pe_int (pa_cons pe_int (pa_cons pe_int pa_nil))))))))))))) pa_nil))))
      (pss_one (ps_ret (pe_join pe_str (pe_lc (own := [("_law_k", 4)]) (g := gName 4) (tt := tYes) rfl sc_lletters.nd (pi_range1 (by rfl) T.range (pa_cons (pe_op op_add pe_int (pe_call c_ldraw.ok (hr.mono (by decide)) (by rfl) c_ldraw.g c_ldraw.kp c_ldraw.b .nil pass0 (pa_cons (pv 0) (pa_cons pe_int pa_nil)))) pa_nil)) (blkOk_by (N := N_lletters) (sc := defScope s_lletters) (by decide +kernel)) (fun _ _ _ _ _ => (pg_name (i := 4) sc_lletters.nd rfl (Or.inl rfl))) (fun _ _ _ _ _ => pts_nil) (fun _ _ _ _ _ => (pe_ix ix_str (pv 1) (pe_op op_mod (pe_callTy call_int1 (by rfl) T.int PyProof.Rows.boot_int (pa_cons (pe_op op_add (pv 2) (pe_op op_mul (pv 3) (pv 4))) pa_nil)) pe_int) (fun _ _ => rfl))))))))), ?_⟩
    refine ⟨_, rfl, p, H0, n, 26, rfl, P0, by omega, by decide, by decide, fun H1 r P1 r0 r1 => ⟨by show 2 ≤ sizeLine; decide, fun t ht => ?_⟩⟩
    refine ⟨t, _, rfl, .inl (.inl upd_same), rfl, _, _, rfl, _, _, rfl, rfl, ?_⟩
    have P2 := P1.ex (Ex.new (o := .tup [V.str (Str.ofString "abcdefghijklmnopqrstuvwxyz"), V.int r]) ht)
    generalize (upd H1 t (.tup [V.str (Str.ofString "abcdefghijklmnopqrstuvwxyz"), V.int r])) = H2 at P2 ⊢
    refine ⟨_, rfl, by show 12 ≤ sizeLine; decide, fun l hl => ⟨p, H0, l, n + 1, _, rfl, P2.ex (Ex.new hl), by omega, upd_same, by show 0 < 12; decide, by show 12 < 1000; decide, fun H3 v P3 hv => ?_⟩⟩
    obtain ⟨pc, hpc, rfl⟩ : ∃ pc : Nat, pc ∈ paces ∧ v = .int pc := by
      have hv2 : v ∈ paces.map fun pc => V.int ((pc : Nat) : Int) := hv
      obtain ⟨x, h1, h2⟩ := List.mem_map.mp hv2
      exact ⟨x, h1, h2.symm⟩
    refine ⟨⟨_, rfl⟩, _, rfl, p, H0, n + 2, 3, rfl, P3, by omega, by decide, by decide, fun H4 r2 P4 s0 s1 => ⟨_, _, rfl, rfl, _, rfl, by omega, by omega, fun D hD => ?_⟩⟩
    obtain ⟨m, hm⟩ : ∃ m : Nat, (2 + r2).toNat = m := ⟨_, rfl⟩
    obtain ⟨fr, rfl⟩ : ∃ fr : Nat, r = (fr : Int) := ⟨r.toNat, (Int.toNat_of_nonneg r0).symm⟩
    rw [hm]
    have pc1 := paces_le pc hpc
    have d0 := fresh0 P4 hD
    have d1 := fresh_ne P4 hD
    refine lc_range (lo := 0) (n := m) (fun i H => PenAt p H0 H (n + 3) ∧ H D = some (.lst (((lets fr pc i).map sg).map V.str))) ⟨(P4.upd d0 d1).le (by omega), upd_same⟩ (fun i H hi hw => ?_) (fun H hw => ?_)
    · refine ⟨rfl, _, rfl, _, rfl, _, rfl, _, rfl, _, _, rfl, rfl, .inl ⟨by omega, by omega⟩, _, _, rfl, rfl, .inl ⟨_, rfl, _, _, rfl, rfl, (by show (0 : Int) < 26; decide), ?_⟩⟩
      obtain ⟨c, hc1, hc2⟩ := abc_at ((fr : Int) + (pc : Int) * ((0 : Int) + (i : Int)))
      refine ⟨_, _, c, rfl, rfl, by decide +kernel, hc1, _, hw.2, ?_, hw.1.upd d0 d1, ?_⟩
      · rw [List.length_map, List.length_map, lets_len]
        exact Nat.lt_of_lt_of_le (show i < 100 by omega) (by decide)
      · rw [upd_same]
        refine congrArg (fun l => some (HO.lst l)) ?_
        rw [lets_succ, ← sg_snoc]
        have e : c = 97 + (fr + pc * i) % 26 := by
          rw [hc2]
          have e1 : ((fr : Int) + (pc : Int) * ((0 : Int) + (i : Int))) = ((fr + pc * i : Nat) : Int) := by
            rw [Int.zero_add]
            simp
          rw [e1]
          omega
        rw [e]
        rfl
    · exact join_done hw.2 (by unfold lets; rw [List.length_map, List.length_range]; omega) (q _ _ _ _ hw.1 (by omega) hpc (by omega) (by omega))
end
end Law

namespace Law
open PySem PySem.Spec PyProof.Rows L2 Evl
theorem fold_app (l : List (Array Nat)) : ∀ a : Array Nat, (l.foldl (· ++ ·) a).toList = a.toList ++ (l.map Array.toList).flatten := by
  induction l with
  | nil => intro a; simp
  | cons x r ih =>
    intro a
    rw [List.foldl_cons, ih, List.map_cons, List.flatten_cons, Array.toList_append, List.append_assoc]
theorem mul_tx (l : List Nat) {n : Int} (h : 1 ≤ n) : Txt.mul (tx l) n = tx (List.replicate n.toNat l).flatten := by
  refine TL.ext_tl ?_
  unfold Txt.mul
  rw [if_neg (by omega)]
  by_cases q : (n == 1 || (tx l).length == 0) = true
  · rw [if_pos q]
    rw [Bool.or_eq_true, beq_iff_eq, beq_iff_eq] at q
    rcases q with q | q
    · subst q
      show l = (List.replicate 1 l).flatten
      simp
    · rw [tx_len] at q
      have e : l = [] := List.length_eq_zero_iff.mp q
      subst e
      show ([] : List Nat) = (List.replicate n.toNat []).flatten
      simp
  · rw [if_neg q]
    show (List.foldl (· ++ ·) #[] (List.replicate n.toNat (tx l).cps)).toList = (List.replicate n.toNat l).flatten
    rw [fold_app, List.map_replicate]
    rfl
theorem rep_len (n : Nat) (l : List Nat) : (List.replicate n l).flatten.length = n * l.length := by
  induction n with
  | zero => simp
  | succ k ih => rw [List.replicate_succ, List.flatten_cons, List.length_append, ih, Nat.succ_mul, Nat.add_comm]
theorem cut_to (l : List Nat) (k : Nat) : cutS (tx l) none (some (k : Int)) = tx (l.take k) := by
  refine TL.ext_tl ?_
  show (List.take _ (List.drop _ l)) = l.take k
  rw [HT.sIx_none, HT.sIx_nat, tx_len, Nat.sub_zero, List.drop_zero]
  rw [List.take_eq_take_iff]
  omega
theorem cut_from (l : List Nat) (k : Nat) : cutS (tx l) (some (k : Int)) none = tx (l.drop k) := by
  refine TL.ext_tl ?_
  show (List.take _ (List.drop _ l)) = l.drop k
  rw [HT.sIx_none, HT.sIx_nat, tx_len]
  by_cases h : k ≤ l.length
  · rw [Nat.min_eq_left h, List.take_of_length_le (by rw [List.length_drop]; omega)]
  · rw [Nat.min_eq_right (by omega), Nat.sub_self, List.take_zero, List.drop_eq_nil_of_le (by omega)]
theorem cut_mid (l : List Nat) (a b : Nat) : cutS (tx l) (some (a : Int)) (some ((a : Int) + (b : Int))) = tx ((l.drop a).take b) := by
  refine TL.ext_tl ?_
  show (List.take _ (List.drop _ l)) = (l.drop a).take b
  rw [show (a : Int) + (b : Int) = ((a + b : Nat) : Int) by omega, HT.sIx_nat, HT.sIx_nat, tx_len]
  by_cases h : a ≤ l.length
  · rw [Nat.min_eq_left h, List.take_eq_take_iff, List.length_drop]
    omega
  · have x1 : min a l.length = l.length := by omega
    have x2 : min (a + b) l.length = l.length := by omega
    rw [x1, x2, List.drop_length, List.drop_eq_nil_of_le (show l.length ≤ a by omega), List.take_nil, List.take_nil]
theorem join_bound (cs : List Nat) (h : cs.length ≤ 1000000) : ((cs.map sg).map (·.length)).sum + (cs.map sg).length * (Str.ofString "").length ≤ 16777216 := by
  rw [join_size, show (Str.ofString "").length = 0 from rfl]
  omega
theorem tx_le {l : List Nat} (h : l.length < 1000) : (tx l).length ≤ sizeLine := by
  rw [tx_len]
  exact sz_le h
theorem sg_tx (c : Nat) : sg c = tx [c] := rfl
theorem mem_rep {n : Nat} {l : List Nat} {c : Nat} (h : c ∈ (List.replicate n l).flatten) : c ∈ l := by
  obtain ⟨m, hm, hc⟩ := List.mem_flatten.mp h
  rw [List.eq_of_mem_replicate hm] at hc
  exact hc
theorem tx_app (l m : List Nat) : tx l ++ tx m = tx (l ++ m) := by
  refine TL.ext_tl ?_
  rw [TL.tl_append]
  rfl
def spWord : Sp := fun vs H Q _ => ∃ (p : PenI) (H0 : Hp) (n wd : Nat) (z : Str), vs = [.ref p.d, .str z, .int (wd : Int)] ∧ PenAt p H0 H n ∧ n < 800000 ∧ 0 < z.length ∧ z.length < 1000 ∧ 1 ≤ wd ∧ wd ≤ 8 ∧
  ∀ H' cs, PenAt p H0 H' (n + 15) → cs.length = wd → (∀ c ∈ cs, c ∈ z.cps.toList) → Q (.str (tx cs)) H'
/-- signs picked one by one -/
def Picks (p : PenI) (H0 : Hp) (n : Nat) (z : Str) (D : Addr) (i : Nat) (H : Hp) : Prop := PenAt p H0 H (n + i) ∧ ∃ cs : List Nat, cs.length = i ∧ (∀ c ∈ cs, c ∈ z.cps.toList) ∧ H D = some (.lst ((cs.map sg).map V.str))
section
variable {P : Program} {w : World} {K : PySem.W.Frag} {mg : Str → Option Value} {base : Heap}
theorem ok_word {f : Addr} {fd : FuncData} (F : Fun K "_law_word" "_law_word" s_lword f fd) (T : Tx mg) (c_ldraw : Kn P w K mg base "_law_draw" ["_law_pen_here", "_law_many"] 1 spDraw)
    (c_pickS : Kn P w K mg base "_law_pick" ["_law_pen_here", "_law_some"] 2 spPickS) : FnOk P w K mg base CX0 3 f fd ["_law_pen_here", "_law_letters_here", "_law_width"] spWord := by
  refine F.ok sc_lword (fun vs H Q E h => ?_) (fun cdv A outer s H vs Q E hr h => ?_)
  · obtain ⟨p, H0, n, wd, z, rfl, _⟩ := h
    rfl
  · obtain ⟨p, H0, n, wd, z, rfl, P0, hn, hz0, hz1, hw0, hw1, q⟩ := h
    refine ⟨_, (pss_cons (ps_par (i := 3) (j := 4) (by rfl) sc_lword.nd rfl rfl (by decide) rfl rfl (pa_cons (pe_call c_ldraw.ok (hr.mono (by decide)) (by rfl) c_ldraw.g c_ldraw.kp c_ldraw.b .nil pass0 (pa_cons (pv 0) (pa_cons pe_int pa_nil))) (pa_cons (pe_call c_ldraw.ok (hr.mono (by decide)) (by rfl) c_ldraw.g c_ldraw.kp c_ldraw.b .nil pass0 (pa_cons (pv 0) (pa_cons (pv 2) pa_nil))) pa_nil)) (by rfl))
      (pss_cons (ps_set (i := 5) sc_lword.nd rfl (Or.inl rfl) (pe_join pe_str (pe_lc (own := [("_law_k", 6)]) (g := gName 6) (tt := tYes) rfl sc_lword.nd (pi_range1 (by rfl) T.range (pa_cons (pe_op op_add pe_int (pe_call c_ldraw.ok (hr.mono (by decide)) (by rfl) c_ldraw.g c_ldraw.kp c_ldraw.b .nil pass0 (pa_cons (pv 0) (pa_cons pe_int pa_nil)))) pa_nil)) (blkOk_by (N := N_lword) (sc := defScope s_lword) (by decide +kernel)) (fun _ _ _ _ _ => (pg_name (i := 6) sc_lword.nd rfl (Or.inl rfl))) (fun _ _ _ _ _ => pts_nil) (fun _ _ _ _ _ => (pe_call c_pickS.ok (hr.mono (by decide)) (by rfl) c_pickS.g c_pickS.kp c_pickS.b .nil pass0 (pa_cons (pv 0) (pa_cons (pv 1) pa_nil)))))))
      (pss_cons (ps_set (i := 7) sc_lword.nd rfl (Or.inl rfl) (pe_slice sl_str (pe_op ZS.op_mulS (pv 5) (pv 2)) po_none (po_some (pv 2))))
      (pss_cons (ps_if (pt_cmpR op_eq (pv 3) pe_int (nomark _)) (pss_one (ps_ret (pe_join pe_str (pe_lc (own := [("_law_k", 6)]) (g := gName 6) (tt := tYes) rfl sc_lword.nd (pi_range1 (by rfl) T.range (pa_cons (pv 2) pa_nil)) (blkOk_by (N := N_lword) (sc := defScope s_lword) (by decide +kernel)) (fun _ _ _ _ _ => (pg_name (i := 6) sc_lword.nd rfl (Or.inl rfl))) (fun _ _ _ _ _ => pts_nil) (fun _ _ _ _ _ => (pe_call c_pickS.ok (hr.mono (by decide)) (by rfl) c_pickS.g c_pickS.kp c_pickS.b .nil pass0 (pa_cons (pv 0) (pa_cons (pv 1) pa_nil)))))))) pss_nil)
      (pss_one (ps_ret (pe_ifExp (pt_cmpR op_eq (pv 3) pe_int (nomark _)) (pe_op op_add_str (pe_op op_add_str (pe_slice sl_str (pv 7) po_none (po_some (pv 4))) (pe_call c_pickS.ok (hr.mono (by decide)) (by rfl) c_pickS.g c_pickS.kp c_pickS.b .nil pass0 (pa_cons (pv 0) (pa_cons (pv 1) pa_nil)))) (pe_slice sl_str (pv 7) (po_some (pe_op op_add (pv 4) pe_int)) po_none)) (pv 7)))))))), ?_⟩
    refine ⟨_, rfl, p, H0, n, 4, rfl, P0, by omega, by decide, by decide, fun H1 r1 P1 r10 r11 => ?_⟩
    refine ⟨_, rfl, _, rfl, p, H0, n + 1, wd, rfl, P1, by omega, by omega, by omega, fun H2 r2 P2 r20 r21 => ⟨_, _, rfl, ?_⟩⟩
    obtain ⟨at_, rfl⟩ : ∃ k : Nat, r2 = (k : Int) := ⟨r2.toNat, (Int.toNat_of_nonneg r20).symm⟩
    refine ⟨⟨_, rfl⟩, _, rfl, p, H0, n + 2, 3, rfl, P2, by omega, by decide, by decide, fun H3 r3 P3 r30 r31 => ⟨_, _, rfl, rfl, _, rfl, by omega, by omega, fun D hD => ?_⟩⟩
    obtain ⟨m, hm⟩ : ∃ m : Nat, (1 + r3).toNat = m := ⟨_, rfl⟩
    rw [hm]
    have d0 := fresh0 P3 hD
    have d1 := fresh_ne P3 hD
    refine lc_range (lo := 0) (n := m) (Picks p H0 (n + 3) z D) ⟨P3.upd d0 d1, [], rfl, (fun c h => nomatch h), upd_same⟩ (fun i H hi hw => ?_) (fun H hw => ?_)
    · obtain ⟨Q1, cs, hcs, hcz, hL⟩ := hw
      refine ⟨rfl, _, rfl, _, rfl, p, upd H0 D (.lst ((cs.map sg).map V.str)), n + 3 + i, z, rfl, Q1.keep hL d1, by omega, hz0, hz1, fun H5 c P5 hc => ?_⟩
      have hL5 := P5.1 _ _ upd_same
      refine ⟨_, hL5, ?_, (Q1.drop hL P5).upd d0 d1, cs ++ [c], by rw [List.length_append, hcs]; rfl, fun x hx => ?_, ?_⟩
      · rw [List.length_map, List.length_map, hcs]
        exact Nat.lt_of_lt_of_le (show i < 100 by omega) (by decide)
      · rcases List.mem_append.mp hx with h | h
        · exact hcz x h
        · rw [List.mem_singleton.mp h]
          exact hc
      · rw [upd_same, ← sg_snoc]
        rfl
    · obtain ⟨Q1, cs, hcs, hcz, hL⟩ := hw
      refine ⟨_, D, cs.map sg, rfl, rfl, .inl (sq_of hL), join_bound cs (by omega), ?_⟩
      rw [join_sg]
      refine ⟨_, rfl, _, rfl, _, _, rfl, rfl, mulOk_of 16 16 (by rw [tx_len]; omega) (by omega) (by omega) (by decide) (by decide), _, rfl, _, rfl, _, rfl, ?_, ?_⟩
      · rw [mul_tx cs (by omega), tx_len, rep_len, hcs]
        have b : (wd : Int).toNat * m ≤ 8 * 3 := Nat.mul_le_mul (by omega) (by omega)
        exact sz_le (by omega)
      rw [mul_tx cs (by omega), cut_to]
      obtain ⟨W, hW⟩ : ∃ W, (List.replicate (wd : Int).toNat cs).flatten.take wd = W := ⟨_, rfl⟩
      have lW : W.length = wd := by
        rw [← hW, List.length_take, rep_len, hcs, show (wd : Int).toNat = wd by omega]
        have b : wd * 1 ≤ wd * m := Nat.mul_le_mul_left _ (by omega)
        omega
      have mW : ∀ c ∈ W, c ∈ z.cps.toList := fun c hc => by
        rw [← hW] at hc
        exact hcz c (mem_rep (List.mem_of_mem_take hc))
      rw [hW]
      refine ⟨_, rfl, rfl, _, rfl, ite2 (fun hway => ?_) (fun hway => ?_)⟩
      · refine ⟨⟨_, rfl⟩, _, rfl, _, rfl, by omega, by omega, fun D2 hD2 => ?_⟩
        have g0 := fresh0 Q1 hD2
        have g1 := fresh_ne Q1 hD2
        rw [show (wd : Int).toNat = wd by omega]
        refine lc_range (lo := 0) (n := wd) (Picks p H0 (n + 6) z D2) ⟨(Q1.le (by omega)).upd g0 g1, [], rfl, (fun c h => nomatch h), upd_same⟩ (fun i H hi hw => ?_) (fun H hw => ?_)
        · obtain ⟨Q1, cs, hcs, hcz, hL⟩ := hw
          refine ⟨rfl, _, rfl, _, rfl, p, upd H0 D2 (.lst ((cs.map sg).map V.str)), n + 6 + i, z, rfl, Q1.keep hL g1, by omega, hz0, hz1, fun H5 c P5 hc => ?_⟩
          have hL5 := P5.1 _ _ upd_same
          refine ⟨_, hL5, ?_, (Q1.drop hL P5).upd g0 g1, cs ++ [c], by rw [List.length_append, hcs]; rfl, fun x hx => ?_, ?_⟩
          · rw [List.length_map, List.length_map, hcs]
            exact Nat.lt_of_lt_of_le (show i < 100 by omega) (by decide)
          · rcases List.mem_append.mp hx with h | h
            · exact hcz x h
            · rw [List.mem_singleton.mp h]
              exact hc
          · rw [upd_same, ← sg_snoc]
            rfl
        · obtain ⟨Q2, cs2, hcs2, hcz2, hL2⟩ := hw
          refine ⟨_, D2, cs2.map sg, rfl, rfl, .inl (sq_of hL2), join_bound cs2 (by omega), ?_⟩
          rw [join_sg]
          exact q _ _ (Q2.le (by omega)) hcs2 hcz2
      · refine ⟨_, rfl, rfl, _, rfl, ite2 (fun hw1 => ?_) (fun hw1 => ?_)⟩
        · refine ⟨_, rfl, _, rfl, _, rfl, _, rfl, tx_le (by omega), _, rfl, _, rfl, p, H0, n + 6, z, rfl, Q1.le (by omega), by omega, hz0, hz1, fun H6 c P6 hc => ?_⟩
          rw [cut_to]
          refine ⟨_, _, rfl, rfl, ?_, _, rfl, _, rfl, _, _, rfl, rfl, _, rfl, _, rfl, tx_le (by omega), ?_⟩
          · rw [tx_len, List.length_take]
            exact sz_le (show min at_ W.length + 1 < 1000 by omega)
          rw [show (at_ : Int) + 1 = ((at_ + 1 : Nat) : Int) by omega, cut_from]
          have e1 : tx (W.take at_) ++ (⟨#[c]⟩ : Str) = tx (W.take at_ ++ [c]) := tx_app _ [c]
          rw [e1]
          refine ⟨_, _, rfl, rfl, ?_, ?_⟩
          · rw [tx_len, tx_len, List.length_append, List.length_take, List.length_drop]
            exact sz_le (show (min at_ W.length + 1) + (W.length - (at_ + 1)) < 1000 by omega)
          rw [tx_app]
          refine q _ _ (P6.le (by omega)) ?_ ?_
          · rw [List.length_append, List.length_append, List.length_take, List.length_drop]
            show (min at_ W.length + 1) + (W.length - (at_ + 1)) = wd
            omega
          · intro x hx
            rcases List.mem_append.mp hx with h | h
            · rcases List.mem_append.mp h with h | h
              · exact mW x (List.mem_of_mem_take h)
              · rw [List.mem_singleton.mp h]
                exact hc
            · exact mW x (List.mem_of_mem_drop h)
        · refine ⟨_, rfl, ?_⟩
          exact q _ _ (Q1.le (by omega)) lW mW
end
end Law

namespace Law
open PySem PySem.Spec PyProof.Rows L2 Evl
theorem sgs_of (l : List Nat) : ST.signsOf (tx l) = l.map sg := rfl
theorem tx_size (l : List Nat) : (tx l).cps.size = l.length := by simp [tx]
theorem tx_at {l : List Nat} {i c : Nat} (h : (tx l).cps[i]? = some c) : l[i]? = some c := by
  rw [← h]
  simp [tx]
theorem sg_inj2 {c d : Nat} (h : sg c = sg d) : c = d := by
  have h2 : (sg c).cps.toList = (sg d).cps.toList := by rw [h]
  exact List.head_eq_of_cons_eq h2
theorem dct_nodup {l : List Nat} (h : l.Nodup) : ∀ i, i ≤ l.length → ST.dct (l.map sg) i = i
  | 0, _ => rfl
  | i + 1, hi => by
    have ih := dct_nodup h i (by omega)
    unfold ST.dct
    have hno : (((l.map sg).take i).any (· == (l.map sg).getD i Str.empty)) = false := by
      rw [Bool.eq_false_iff]
      intro q
      rw [List.any_eq_true] at q
      obtain ⟨x, hx, he⟩ := q
      rw [beq_iff_eq] at he
      have hi2 : i < l.length := by omega
      have e1 : (l.map sg).getD i Str.empty = sg l[i] := by
        rw [List.getD_eq_getElem?_getD, List.getElem?_map, List.getElem?_eq_getElem hi2]
        rfl
      rw [e1] at he
      obtain ⟨j, hj, ej⟩ := List.mem_iff_getElem.mp hx
      rw [List.length_take, List.length_map] at hj
      have ej2 : sg (l[j]'(by omega)) = x := by
        rw [← ej, List.getElem_take, List.getElem_map]
      have e2 : l[j]'(by omega) = l[i] := sg_inj2 (ej2.trans he)
      exact List.pairwise_iff_getElem.mp h j i (by omega) hi2 (by omega) e2
    rw [hno]
    show (if false = true then _ else _) = i + 1
    rw [if_neg (by decide), ih]
/-- letters: two to four different small ones -/
structure LG (l : List Nat) : Prop where
  lo : 2 ≤ l.length
  hi : l.length ≤ 4
  az : ∀ c ∈ l, 97 ≤ c ∧ c ≤ 122
  nd : l.Nodup
theorem lets_good {f p m : Nat} (hf : f < 26) (hp : p ∈ paces) (h1 : 2 ≤ m) (h2 : m ≤ 4) : LG (lets f p m) := by
  refine ⟨by rw [lets_len]; exact h1, by rw [lets_len]; exact h2, fun c hc => ?_, ?_⟩
  · unfold lets at hc
    obtain ⟨k, _, rfl⟩ := List.mem_map.mp hc
    omega
  · have key : ∀ f : Nat, f < 26 → ∀ p ∈ paces, (lets f p 2).Nodup ∧ (lets f p 3).Nodup ∧ (lets f p 4).Nodup := by decide +kernel
    obtain ⟨a, b, c⟩ := key f hf p hp
    have hm : m = 2 ∨ m = 3 ∨ m = 4 := by omega
    rcases hm with rfl | rfl | rfl <;> assumption
/-- a word of these letters -/
structure WG (L : List Nat) (m : Nat) (w : List Nat) : Prop where
  len : w.length = m
  of : ∀ c ∈ w, c ∈ L
/-- one to three different words of one length -/
structure WsG (L : List Nat) (m : Nat) (ws : List (List Nat)) : Prop where
  lo : 1 ≤ ws.length
  hi : ws.length ≤ 3
  m1 : 1 ≤ m
  m8 : m ≤ 8
  all : ∀ w ∈ ws, WG L m w
  nd : ws.Nodup
def wv (ws : List (List Nat)) : List V := ws.map fun w => V.str (tx w)
def spIsL : Sp := fun vs H Q _ => ∃ (a : Addr) (xs : List V), vs = [.ref a] ∧ H a = some (.lst xs) ∧ ∀ H', Ex H H' → Q (.bl true) H'
def spIsT : Sp := fun vs H Q _ => ∃ (a : Addr) (xs : List V), vs = [.ref a] ∧ H a = some (.tup xs) ∧ ∀ H', Ex H H' → Q (.bl true) H'
def spAreL : Sp := fun vs H Q _ => ∃ L : List Nat, vs = [.str (tx L)] ∧ LG L ∧ ∀ H', Ex H H' → Q (.bl true) H'
def spWSign : Sp := fun vs H Q _ => ∃ L t : List Nat, vs = [.str (tx L), .str (tx t)] ∧ L.length < 500 ∧ t.length < 500 ∧ (∀ c ∈ t, c ∈ L) ∧ ∀ H', Ex H H' → Q .non H'
def spIsWord : Sp := fun vs H Q _ => ∃ (L w : List Nat) (m : Nat), vs = [.str (tx L), .str (tx w)] ∧ L.length < 500 ∧ WG L m w ∧ 1 ≤ m ∧ m ≤ 8 ∧ ∀ H', Ex H H' → Q (.bl true) H'
def spWWordL : Sp := fun vs H Q _ => ∃ (L : List Nat) (a : Addr) (ws : List (List Nat)) (m : Nat), vs = [.str (tx L), .ref a] ∧ L.length < 500 ∧ H a = some (.lst (wv ws)) ∧ WsG L m ws ∧ ∀ H', Ex H H' → Q .non H'
def spWWordT : Sp := fun vs H Q _ => ∃ (L : List Nat) (a : Addr) (ws : List (List Nat)) (m : Nat), vs = [.str (tx L), .ref a] ∧ L.length < 500 ∧ H a = some (.tup (wv ws)) ∧ WsG L m ws ∧ ∀ H', Ex H H' → Q .non H'
def spCheckL : Sp := fun vs H Q _ => ∃ (L : List Nat) (a : Addr) (ws : List (List Nat)) (m : Nat), vs = [.str (tx L), .ref a] ∧ LG L ∧ H a = some (.lst (wv ws)) ∧ WsG L m ws ∧ ∀ H', Ex H H' → Q .non H'
def spCheckT : Sp := fun vs H Q _ => ∃ (L : List Nat) (a : Addr) (ws : List (List Nat)) (m : Nat), vs = [.str (tx L), .ref a] ∧ LG L ∧ H a = some (.tup (wv ws)) ∧ WsG L m ws ∧ ∀ H', Ex H H' → Q .non H'
theorem kit_lt {K : PySem.W.Frag} : PySem.W.kitAny K (.type "list") [.type "list", .type "tuple"] = some true :=
  kitAny_cons (b := true) (kit_ty (by decide +kernel)) (fun h => by cases h) fun _ => rfl
theorem kit_tt {K : PySem.W.Frag} : PySem.W.kitAny K (.type "tuple") [.type "list", .type "tuple"] = some true :=
  kitAny_cons (b := false) (kit_ty (by decide +kernel)) (fun _ => kitAny_cons (b := true) (kit_ty (by decide +kernel)) (fun h => by cases h) fun _ => rfl) fun h => by cases h
theorem kit_ss {K : PySem.W.Frag} : PySem.W.kitOne K (.type "str") (.type "str") = some true := kit_ty (by decide +kernel)
section
variable {P : Program} {w : World} {K : PySem.W.Frag} {mg : Str → Option Value} {base : Heap}
theorem ok_isL {f : Addr} {fd : FuncData} (F : Fun K "is_list" "is_list" s_is_list f fd) (T : Tx mg) : FnOk P w K mg base CX0 1 f fd ["value"] spIsL := by
  refine F.ok sc_is_list (fun vs H Q E h => ?_) (fun cdv A outer s H vs Q E hr h => ?_)
  · obtain ⟨a, xs, rfl, _⟩ := h
    rfl
  · obtain ⟨a, xs, rfl, ha, q⟩ := h
    refine ⟨_, (pss_one (ps_ret (pe_callB call_isiT (by rfl) T.isinstance PyProof.Rows.boot_isinstance (pa_cons (pv 0) (pa_cons (pe_tup (pa_cons (pe_bltn (v := .ty "list") (by rfl) T.list PyProof.Rows.boot_list rfl) (pa_cons (pe_bltn (v := .ty "tuple") (by rfl) T.tuple PyProof.Rows.boot_tuple rfl) pa_nil))) pa_nil))))), ?_⟩
    refine ⟨_, rfl, by show 2 ≤ sizeLine; decide, fun t ht => ?_⟩
    exact ⟨_, t, _, _, _, true, rfl, upd_same, .cons (.ty _) (.cons (.ty _) .nil), .base (.lst (Ex.new ht _ _ ha)), kit_lt, q _ (Ex.new ht)⟩
theorem ok_isT {f : Addr} {fd : FuncData} (F : Fun K "is_list" "is_list" s_is_list f fd) (T : Tx mg) : FnOk P w K mg base CX0 1 f fd ["value"] spIsT := by
  refine F.ok sc_is_list (fun vs H Q E h => ?_) (fun cdv A outer s H vs Q E hr h => ?_)
  · obtain ⟨a, xs, rfl, _⟩ := h
    rfl
  · obtain ⟨a, xs, rfl, ha, q⟩ := h
    refine ⟨_, (pss_one (ps_ret (pe_callB call_isiT (by rfl) T.isinstance PyProof.Rows.boot_isinstance (pa_cons (pv 0) (pa_cons (pe_tup (pa_cons (pe_bltn (v := .ty "list") (by rfl) T.list PyProof.Rows.boot_list rfl) (pa_cons (pe_bltn (v := .ty "tuple") (by rfl) T.tuple PyProof.Rows.boot_tuple rfl) pa_nil))) pa_nil))))), ?_⟩
    refine ⟨_, rfl, by show 2 ≤ sizeLine; decide, fun t ht => ?_⟩
    exact ⟨_, t, _, _, _, true, rfl, upd_same, .cons (.ty _) (.cons (.ty _) .nil), .base (.tup (Ex.new ht _ _ ha)), kit_tt, q _ (Ex.new ht)⟩
theorem ok_wsign {f : Addr} {fd : FuncData} (F : Fun K "wrong_sign" "wrong_sign" s_wrong_sign f fd) (T : Tx mg) : FnOk P w K mg base CX0 1 f fd ["letters", "text"] spWSign := by
  refine F.ok sc_wrong_sign (fun vs H Q E h => ?_) (fun cdv A outer s H vs Q E hr h => ?_)
  · obtain ⟨L, t, rfl, _⟩ := h
    rfl
  · obtain ⟨L, t, rfl, hL, ht, hc, q⟩ := h
    refine ⟨_, (pss_cons (ps_if (pt_not (pt_val (pe_callB call_isi (by rfl) T.isinstance PyProof.Rows.boot_isinstance (pa_cons (pv 1) (pa_cons (pe_bltn (v := .ty "str") (by rfl) T.str PyProof.Rows.boot_str rfl) pa_nil))))) (pss_one (ps_ret pe_int)) pss_nil)
      (pss_cons (ps_for PassesOwn.never rfl (EN.pi_enumS (by rfl) T.enumerate (pa_cons (pv 1) pa_nil)) (pg_tup (by rfl) (pgs_cons (pg_name (i := 2) sc_wrong_sign.nd rfl (Or.inl rfl)) (pgs_cons (pg_name (i := 3) sc_wrong_sign.nd rfl (Or.inl rfl)) pgs_nil))) (pss_one (ps_if (pt_cmpR op_notIn_sign (pv 3) (pv 0) rfl) (pss_one (ps_ret (pv 2))) pss_nil)))
      (pss_one (ps_ret pe_non)))), ?_⟩
    refine ⟨_, rfl, _, _, _, _, true, rfl, .ty _, .base (.str _), kit_ss, true, rfl, ?_⟩
    refine ⟨_, rfl, _, rfl, ?_⟩
    refine EN.for_enumS (x := tx t) (fun i σ H' => ∃ y2 y3 : Option V, σ = [some (.str (tx L)), some (.str (tx t)), y2, y3] ∧ Ex H H') ⟨none, none, rfl, Ex.refl _⟩ (fun i c T' σ H' hic hw hT => ?_) (fun σ H' hw => ?_)
    · obtain ⟨y2, y3, rfl, e⟩ := hw
      have hm : c ∈ L := hc c (List.mem_of_getElem? (tx_at hic))
      refine ⟨T', _, rfl, .inl (.inl upd_same), rfl, _, _, rfl, _, _, rfl, rfl, ?_⟩
      refine ⟨_, rfl, _, rfl, c, _, rfl, rfl, _, rfl, ?_⟩
      rw [show (tx L).cps.toList = L from rfl, decide_eq_true hm]
      exact ⟨_, _, rfl, e.trans (Ex.new hT)⟩
    · obtain ⟨y2, y3, rfl, e⟩ := hw
      exact q _ e
theorem le_a {c : Nat} (h : 97 ≤ c) : (!decide ((sg c).cps.toList < (Str.ofString "a").cps.toList)) = true := by
  rw [show (Str.ofString "a").cps.toList = [97] by decide +kernel, show (sg c).cps.toList = [c] from rfl]
  rw [decide_eq_false]
  · rfl
  · intro q
    rw [List.cons_lt_cons_iff] at q
    rcases q with q | ⟨_, q⟩
    · omega
    · exact absurd q (by simp)
theorem le_z {c : Nat} (h : c ≤ 122) : (!decide ((Str.ofString "z").cps.toList < (sg c).cps.toList)) = true := by
  rw [show (Str.ofString "z").cps.toList = [122] by decide +kernel, show (sg c).cps.toList = [c] from rfl]
  rw [decide_eq_false]
  · rfl
  · intro q
    rw [List.cons_lt_cons_iff] at q
    rcases q with q | ⟨_, q⟩
    · omega
    · exact absurd q (by simp)
theorem lc_str {x : Str} {g : TG} {tt : TT} {te : TE} {vs : List Nat} {σ : L2.St} {H1 : Hp} {D : Addr} {Qd : Hp → Prop} (Pv : Nat → Hp → Prop) (h0 : Pv 0 (upd H1 D (.lst [])))
    (hs : ∀ i c H, x.cps[i]? = some c → Pv i H → g (.str ⟨#[c]⟩) (wipe σ vs) H fun σ2 H2 => wipe σ2 vs = wipe σ vs ∧ tt σ2 H2 fun b H3 =>
      if b = true then te σ2 H3 fun z H4 => ∃ acc, H4 D = some (.lst acc) ∧ acc.length < sizeLine ∧ Pv (i + 1) (upd H4 D (.lst (acc ++ [z]))) else Pv (i + 1) H3) (hd : ∀ H, Pv x.cps.size H → Qd H) :
    ∃ W : Nat → Nat → Hp → Prop, (∃ m, W 0 m (upd H1 D (.lst []))) ∧ ∀ i m H, W i m H →
      ((Its x).stop i H ∧ Qd H) ∨ ((Its x).go i H ∧ ∃ Nx : Hp → Prop, (∀ H', Nx H' → ∃ m', m' < m ∧ W (i + 1) m' H') ∧ ∀ v H', (Its x).yld i H v H' → g v (wipe σ vs) H' fun σ2 H2 => wipe σ2 vs = wipe σ vs ∧ tt σ2 H2 fun b H3 =>
        if b = true then te σ2 H3 fun z H4 => ∃ acc, H4 D = some (.lst acc) ∧ acc.length < sizeLine ∧ Nx (upd H4 D (.lst (acc ++ [z]))) else Nx H3) := by
  refine ⟨fun i m H => i + m = x.cps.size ∧ Pv i H, ⟨_, Nat.zero_add _, h0⟩, ?_⟩
  rintro i m H ⟨e, p⟩
  by_cases hm : m = 0
  · have e2 : i = x.cps.size := by omega
    refine .inl ⟨by show x.cps.size ≤ i; omega, hd H ?_⟩
    rw [← e2]
    exact p
  · refine .inr ⟨by show i < x.cps.size; omega, Pv (i + 1), fun H' p' => ⟨m - 1, by omega, by omega, p'⟩, ?_⟩
    rintro v H' ⟨rfl, c, hc, rfl⟩
    exact hs i c _ hc p
theorem bl_snoc' (bs : List Bool) (b : Bool) : bs.map V.bl ++ [.bl b] = (bs ++ [b]).map V.bl := by
  rw [List.map_append]
  rfl
theorem all_yes (n : Nat) : (List.replicate n true).all id = true := by
  rw [List.all_eq_true]
  intro x hx
  rw [List.eq_of_mem_replicate hx]
  rfl
theorem ok_areL {f : Addr} {fd : FuncData} (F : Fun K "are_letters" "are_letters" s_are_letters f fd) (T : Tx mg) : FnOk P w K mg base CX0 1 f fd ["value"] spAreL := by
  refine F.ok sc_are_letters (fun vs H Q E h => ?_) (fun cdv A outer s H vs Q E hr h => ?_)
  · obtain ⟨L, rfl, _⟩ := h
    rfl
  · obtain ⟨L, rfl, hL, q⟩ := h
    have h1 := hL.lo
    have h2 := hL.hi
    refine ⟨_, (pss_cons (ps_if (PW.pt (pw_or (pt_not (pt_val (pe_callB call_isi (by rfl) T.isinstance PyProof.Rows.boot_isinstance (pa_cons (pv 0) (pa_cons (pe_bltn (v := .ty "str") (by rfl) T.str PyProof.Rows.boot_str rfl) pa_nil))))) (pw_or1 (pt_not (pt_chain op_le op_le pe_int (pe_callB call_len_str (by rfl) T.len PySem.boot_len (pa_cons (pv 0) pa_nil)) pe_int))))) (pss_one (ps_ret pe_bl)) pss_nil)
      (pss_one (ps_ret (pe_and (pe_callB (cr_all rfl) (by rfl) T.all PyProof.Rows.boot_all (pa_cons (pe_lc (own := [("sign", 1)]) (g := gName 1) (tt := tYes) rfl sc_are_letters.nd (pi_str (pv 0)) (blkOk_by (N := N_are_letters) (sc := defScope s_are_letters) (by decide +kernel)) (fun _ _ _ _ _ => (pg_name (i := 1) sc_are_letters.nd rfl (Or.inl rfl))) (fun _ _ _ _ _ => pts_nil) (fun _ _ _ _ _ => (pe_chain op_le_str op_le_str pe_str (pv 1) pe_str))) pa_nil)) (pe_one (pe_cmpR op_eq (EN.pe_lenSetS rfl (by rfl) T.len (by rfl) T.set (pv 0)) (pe_callB call_len_str (by rfl) T.len PySem.boot_len (pa_cons (pv 0) pa_nil)) (nomark _))))))), ?_⟩
    refine ⟨_, rfl, _, _, _, _, true, rfl, .ty _, .base (.str _), kit_ss, true, rfl, ?_⟩
    refine ⟨_, rfl, _, rfl, tx_le (by omega), _, _, rfl, rfl, _, rfl, ite2 (fun _ => ?_) (fun hn => absurd (decide_eq_true (by rw [tx_len]; omega)) hn)⟩
    refine ⟨_, _, rfl, rfl, _, rfl, ite2 (fun hb => ?_) (fun _ => ?_)⟩
    · rw [tx_len, decide_eq_true (by omega)] at hb
      cases hb
    refine ⟨_, rfl, _, rfl, fun D hD => ?_⟩
    refine lc_str (x := tx L) (fun i H' => Ex H H' ∧ H' D = some (.lst ((List.replicate i true).map V.bl))) ⟨Ex.new hD, upd_same⟩ (fun i c H' hic hw => ?_) (fun H' hw => ?_)
    · obtain ⟨e, hl⟩ := hw
      have hc := tx_at hic
      have az := hL.az c (List.mem_of_getElem? hc)
      have hi := (List.getElem?_eq_some_iff.mp hc).1
      refine ⟨rfl, _, rfl, _, _, rfl, rfl, _, rfl, ite2 (fun _ => ?_) (fun hn => absurd (le_a az.1) hn)⟩
      refine ⟨_, _, rfl, rfl, _, hl, ?_, e.mut hD, ?_⟩
      · rw [List.length_map, List.length_replicate]
        exact sz_lt (by omega)
      · rw [upd_same]
        refine congrArg (fun l => some (HO.lst l)) ?_
        show (List.replicate i true).map V.bl ++ [V.bl (!decide ((Str.ofString "z").cps.toList < (sg c).cps.toList))] = _
        rw [le_z az.2, bl_snoc', List.replicate_succ']
    · obtain ⟨e, hl⟩ := hw
      refine ⟨D, _, rfl, sq_of hl, _, rfl, ?_⟩
      rw [all_yes]
      refine ⟨_, rfl, _, rfl, by rw [tx_size]; omega, _, rfl, _, rfl, tx_le (by omega), rfl, ?_⟩
      have e2 : decide (V.int ((ST.dct (ST.signsOf (tx L)) (tx L).cps.size : Nat) : Int) = V.int (((tx L).length : Nat) : Int)) = true := decide_eq_true (by
        rw [sgs_of, tx_size, dct_nodup hL.nd _ (Nat.le_refl _), tx_len])
      show Q (V.bl (decide (V.int ((ST.dct (ST.signsOf (tx L)) (tx L).cps.size : Nat) : Int) = V.int (((tx L).length : Nat) : Int)))) H'
      rw [e2]
      exact q _ e
theorem ok_isword {f : Addr} {fd : FuncData} (F : Fun K "_is_word" "_is_word" s_is_word f fd) (T : Tx mg) (c_wrong_sign : Kn P w K mg base "wrong_sign" ["letters", "text"] 1 spWSign) : FnOk P w K mg base CX0 2 f fd ["letters", "value"] spIsWord := by
  refine F.ok sc_is_word (fun vs H Q E h => ?_) (fun cdv A outer s H vs Q E hr h => ?_)
  · obtain ⟨L, u, m, rfl, _⟩ := h
    rfl
  · obtain ⟨L, u, m, rfl, hL, hu, h1, h8, q⟩ := h
    have hl := hu.len
    refine ⟨_, (pss_one (ps_ret (pe_and (pe_callB call_isi (by rfl) T.isinstance PyProof.Rows.boot_isinstance (pa_cons (pv 1) (pa_cons (pe_bltn (v := .ty "str") (by rfl) T.str PyProof.Rows.boot_str rfl) pa_nil))) (pe_and (pe_chain op_le op_le pe_int (pe_callB call_len_str (by rfl) T.len PySem.boot_len (pa_cons (pv 1) pa_nil)) pe_int) (pe_one (pe_cmpR op_isN (pe_call c_wrong_sign.ok (hr.mono (by decide)) (by rfl) c_wrong_sign.g c_wrong_sign.kp c_wrong_sign.b .nil pass0 (pa_cons (pv 0) (pa_cons (pv 1) pa_nil))) pe_non (nomark _))))))), ?_⟩
    refine ⟨_, rfl, _, _, _, _, true, rfl, .ty _, .base (.str _), kit_ss, true, rfl, ?_⟩
    refine ⟨_, rfl, _, rfl, tx_le (by omega), _, _, rfl, rfl, _, rfl, ite2 (fun _ => ?_) (fun hn => absurd (decide_eq_true (by rw [tx_len]; omega)) hn)⟩
    refine ⟨_, _, rfl, rfl, _, rfl, ite2 (fun _ => ?_) (fun hn => absurd (decide_eq_true (by rw [tx_len]; omega)) hn)⟩
    exact ⟨_, rfl, _, rfl, L, u, rfl, hL, by omega, hu.of, fun H' e => ⟨rfl, q _ e⟩⟩
theorem flat_wv (ws : List (List Nat)) : (wv ws).all flatV = true := by
  unfold wv
  rw [List.all_map, List.all_eq_true]
  intro x _
  rfl
theorem tx_inj {a b : List Nat} (h : tx a = tx b) : a = b := by
  have h2 : (tx a).cps.toList = (tx b).cps.toList := by rw [h]
  exact h2
theorem inV_wv {u : List Nat} {ws : List (List Nat)} : inV (.str (tx u)) (wv ws) = decide (u ∈ ws) := by
  unfold inV wv
  rw [List.any_map, Bool.eq_iff_iff, List.any_eq_true, decide_eq_true_eq]
  constructor
  · rintro ⟨x, hx, he⟩
    have he2 : (tx x == tx u) = true := he
    rw [beq_iff_eq] at he2
    rw [← tx_inj he2]
    exact hx
  · intro h
    refine ⟨u, h, ?_⟩
    show (tx u == tx u) = true
    rw [beq_iff_eq]
theorem wv_cut (ws : List (List Nat)) (k : Nat) : cutV (wv ws) none (some (k : Int)) = wv (ws.take k) := by
  unfold cutV wv
  rw [HT.sIx_none, HT.sIx_nat, List.length_map, Nat.sub_zero, List.drop_zero, ← List.map_take]
  refine congrArg (List.map _) ?_
  rw [List.take_eq_take_iff]
  omega
theorem wv_len (ws : List (List Nat)) : (wv ws).length = ws.length := List.length_map _
theorem wv_at {ws : List (List Nat)} {i : Nat} {x : V} (h : (wv ws)[i]? = some x) : ∃ u, ws[i]? = some u ∧ x = .str (tx u) := by
  unfold wv at h
  rw [List.getElem?_map] at h
  cases e : ws[i]? with
  | none =>
    rw [e] at h
    cases h
  | some u =>
    rw [e] at h
    exact ⟨u, rfl, (Option.some.inj h).symm⟩
theorem wv_zero {L : List Nat} {m : Nat} {ws : List (List Nat)} (W : WsG L m ws) : ∃ u, atI (wv ws) 0 = some (.str (tx u)) ∧ u.length = m := by
  have h := W.lo
  have e : ws[0]? = some ws[0] := List.getElem?_eq_getElem (by omega)
  refine ⟨ws[0], atI_nat (j := 0) ?_, (W.all _ (List.getElem_mem _)).len⟩
  unfold wv
  rw [List.getElem?_map, e]
  rfl
theorem fresh_word {L : List Nat} {m : Nat} {ws : List (List Nat)} (W : WsG L m ws) {i : Nat} {u : List Nat} (h : ws[i]? = some u) : decide (u ∈ ws.take i) = false := by
  refine decide_eq_false fun hm => ?_
  obtain ⟨j, hj, ej⟩ := List.mem_iff_getElem.mp hm
  rw [List.length_take] at hj
  obtain ⟨hi, ei⟩ := List.getElem?_eq_some_iff.mp h
  rw [List.getElem_take] at ej
  exact List.pairwise_iff_getElem.mp W.nd j i (by omega) hi (by omega) (ej.trans ei.symm)
theorem ok_wwordL {f : Addr} {fd : FuncData} (F : Fun K "wrong_word" "wrong_word" s_wrong_word f fd) (T : Tx mg) (c_islistL : Kn P w K mg base "is_list" ["value"] 1 spIsL)
    (c_is_word : Kn P w K mg base "_is_word" ["letters", "value"] 2 spIsWord) : FnOk P w K mg base CX0 3 f fd ["letters", "words"] spWWordL := by
  refine F.ok sc_wrong_word (fun vs H Q E h => ?_) (fun cdv A outer s H vs Q E hr h => ?_)
  · obtain ⟨L, a, ws, m, rfl, _⟩ := h
    rfl
  · obtain ⟨L, a, ws, m, rfl, hL, ha, W, q⟩ := h
    have w1 := W.lo
    have w3 := W.hi
    have w8 := W.m8
    refine ⟨_, (pss_cons (ps_if (PW.pt (pw_or (pt_not (pt_val (pe_call c_islistL.ok (hr.mono (by decide)) (by rfl) c_islistL.g c_islistL.kp c_islistL.b .nil pass0 (pa_cons (pv 1) pa_nil)))) (pw_or1 (pt_cmpR op_eq (pe_callB call_len_seq (by rfl) T.len PySem.boot_len (pa_cons (pv 1) pa_nil)) pe_int (nomark _))))) (pss_one (ps_ret pe_int)) pss_nil)
      (pss_cons (ps_for PassesOwn.never rfl (pi_enum (by rfl) T.enumerate (pa_cons (pe_slice sl_list (pv 1) po_none (po_some pe_int)) pa_nil)) (pg_tup (by rfl) (pgs_cons (pg_name (i := 2) sc_wrong_word.nd rfl (Or.inl rfl)) (pgs_cons (pg_name (i := 3) sc_wrong_word.nd rfl (Or.inl rfl)) pgs_nil))) (pss_one (ps_if (PW.pt (pw_or (pt_not (pt_val (pe_call c_is_word.ok (hr.mono (by decide)) (by rfl) c_is_word.g c_is_word.kp c_is_word.b .nil pass0 (pa_cons (pv 0) (pa_cons (pv 3) pa_nil))))) (pw_or (pt_cmpR op_ne (pe_callB call_len_str (by rfl) T.len PySem.boot_len (pa_cons (pv 3) pa_nil)) (pe_callB call_len_str (by rfl) T.len PySem.boot_len (pa_cons (pe_ix ix_list (pv 1) pe_int (fun _ _ => rfl)) pa_nil)) (nomark _)) (pw_or1 (pt_cmpR op_in_seq (pv 3) (pe_slice sl_list (pv 1) po_none (po_some (pv 2))) rfl))))) (pss_one (ps_ret (pv 2))) pss_nil)))
      (pss_one (ps_ret (pe_ifExp (pt_cmpR op_gt (pe_callB call_len_seq (by rfl) T.len PySem.boot_len (pa_cons (pv 1) pa_nil)) pe_int (nomark _)) pe_int pe_non))))), ?_⟩
    refine ⟨_, rfl, a, _, rfl, ha, fun H1 e1 => ⟨true, rfl, ?_⟩⟩
    refine ⟨_, rfl, a, _, rfl, .inl (sq_of (e1 _ _ ha)), rfl, _, rfl, ite2 (fun hb => ?_) (fun _ => ?_)⟩
    · have hb2 := V.int.inj (of_decide_eq_true hb)
      rw [wv_len] at hb2
      omega
    refine ⟨_, rfl, _, rfl, a, _, rfl, sq_of (e1 _ _ ha), fun D hD => ?_⟩
    rw [show (3 : Int) = ((3 : Nat) : Int) from rfl, wv_cut, List.take_of_length_le w3]
    have e2 := e1.trans (Ex.new (o := .lst (wv ws)) hD)
    have hD2 : (upd H1 D (.lst (wv ws))) D = some (.lst (wv ws)) := upd_same
    generalize (upd H1 D (.lst (wv ws))) = H2 at e2 hD2 ⊢
    refine ⟨D, _, rfl, sq_of hD2, ?_⟩
    refine EN.for_enumL (K := K) (a := D) (xs := wv ws) (fun i σ H' => ∃ y2 y3 : Option V, σ = [some (.str (tx L)), some (.ref a), y2, y3] ∧ Ex H H' ∧ Ex H2 H') ⟨none, none, rfl, e2, Ex.refl _⟩ (fun i σ H' hw => ?_) (fun i x T' σ H' hx hw hT => ?_) (fun σ H' hw => ?_)
    · obtain ⟨_, _, _, _, e⟩ := hw
      exact sq_of (e _ _ hD2)
    · obtain ⟨y2, y3, rfl, e3, e4⟩ := hw
      obtain ⟨u, hu, rfl⟩ := wv_at hx
      have gu := W.all u (List.mem_of_getElem? hu)
      have lu := gu.len
      have e5 := e3.trans (Ex.new (o := .tup [.int (i : Nat), .str (tx u)]) hT)
      have e6 := e4.trans (Ex.new (o := .tup [.int (i : Nat), .str (tx u)]) hT)
      refine ⟨T', _, rfl, .inl (.inl upd_same), rfl, _, _, rfl, _, _, rfl, rfl, ?_⟩
      refine ⟨_, rfl, _, rfl, L, u, m, rfl, hL, gu, W.m1, w8, fun H3 e7 => ⟨true, rfl, ?_⟩⟩
      obtain ⟨u0, h0, l0⟩ := wv_zero W
      have e8 := e5.trans e7
      refine ⟨_, rfl, _, rfl, tx_le (by omega), _, rfl, a, _, _, _, rfl, rfl, sq_of (e8 _ _ ha), h0, _, rfl, tx_le (by omega), rfl, _, rfl, ite2 (fun hb => ?_) (fun _ => ?_)⟩
      · have e9 : decide (V.int ((tx u).length : Int) = V.int ((tx u0).length : Int)) = true := decide_eq_true (by rw [tx_len, tx_len, lu, l0])
        rw [e9] at hb
        cases hb
      refine ⟨_, rfl, _, rfl, _, rfl, _, rfl, a, _, rfl, sq_of (e8 _ _ ha), fun D2 hD3 => ?_⟩
      refine ⟨D2, _, rfl, .inl (sq_of upd_same), rfl, ?_, ?_⟩
      · rw [wv_cut]
        exact flat_wv _
      · refine ⟨_, rfl, ?_⟩
        rw [wv_cut, inV_wv, fresh_word W hu]
        exact ⟨_, _, rfl, e8.trans (Ex.new hD3), (e6.trans e7).trans (Ex.new hD3)⟩
    · obtain ⟨y2, y3, rfl, e3, e4⟩ := hw
      refine ⟨_, rfl, a, _, rfl, .inl (sq_of (e3 _ _ ha)), _, _, rfl, rfl, _, rfl, ite2 (fun hb => ?_) (fun _ => ?_)⟩
      · have hb2 := of_decide_eq_true hb
        rw [wv_len] at hb2
        omega
      · exact q _ e3
end
end Law

namespace Law
open PySem PySem.Spec PyProof.Rows L2 Evl
def wishes : List Str := [Str.ofString "all", Str.ofString "apart", Str.ofString "first"]
def spWish : Sp := fun vs H Q _ => ∃ z : Str, vs = [.str z] ∧ z ∈ wishes ∧ ∀ H', Ex H H' → Q (.bl true) H'
theorem in_wish {z : Str} (h : z ∈ wishes) : inV (.str z) (wishes.map V.str) = true := by
  unfold inV
  rw [List.any_map, List.any_eq_true]
  exact ⟨z, h, by show (z == z) = true; rw [beq_iff_eq]⟩
section
variable {P : Program} {w : World} {K : PySem.W.Frag} {mg : Str → Option Value} {base : Heap}
theorem ok_wish {f : Addr} {fd : FuncData} (F : Fun K "is_wish" "is_wish" s_is_wish f fd) (T : Tx mg) : FnOk P w K mg base CX0 1 f fd ["value"] spWish := by
  refine F.ok sc_is_wish (fun vs H Q E h => ?_) (fun cdv A outer s H vs Q E hr h => ?_)
  · obtain ⟨z, rfl, _⟩ := h
    rfl
  · obtain ⟨z, rfl, hz, q⟩ := h
    refine ⟨_, (pss_one (ps_ret (pe_and (pe_callB call_isi (by rfl) T.isinstance PyProof.Rows.boot_isinstance (pa_cons (pv 0) (pa_cons (pe_bltn (v := .ty "str") (by rfl) T.str PyProof.Rows.boot_str rfl) pa_nil))) (pe_one (pe_cmpR op_in_seq (pv 0) (pe_tup (pa_cons pe_str (pa_cons pe_str (pa_cons pe_str pa_nil)))) rfl))))), ?_⟩
    refine ⟨_, rfl, _, _, _, _, true, rfl, .ty _, .base (.str _), kit_ss, true, rfl, ?_⟩
    refine ⟨_, rfl, by show 3 ≤ sizeLine; decide, fun t ht => ?_⟩
    refine ⟨t, wishes.map V.str, rfl, .inr (st_of upd_same), rfl, rfl, ?_⟩
    rw [in_wish hz]
    exact q _ (Ex.new ht)
theorem ok_wwordT {f : Addr} {fd : FuncData} (F : Fun K "wrong_word" "wrong_word" s_wrong_word f fd) (T : Tx mg) (c_islistT : Kn P w K mg base "is_list" ["value"] 1 spIsT)
    (c_is_word : Kn P w K mg base "_is_word" ["letters", "value"] 2 spIsWord) : FnOk P w K mg base CX0 3 f fd ["letters", "words"] spWWordT := by
  refine F.ok sc_wrong_word (fun vs H Q E h => ?_) (fun cdv A outer s H vs Q E hr h => ?_)
  · obtain ⟨L, a, ws, m, rfl, _⟩ := h
    rfl
  · obtain ⟨L, a, ws, m, rfl, hL, ha, W, q⟩ := h
    have w1 := W.lo
    have w3 := W.hi
    have w8 := W.m8
    refine ⟨_, (pss_cons (ps_if (PW.pt (pw_or (pt_not (pt_val (pe_call c_islistT.ok (hr.mono (by decide)) (by rfl) c_islistT.g c_islistT.kp c_islistT.b .nil pass0 (pa_cons (pv 1) pa_nil)))) (pw_or1 (pt_cmpR op_eq (pe_callB call_len_seq (by rfl) T.len PySem.boot_len (pa_cons (pv 1) pa_nil)) pe_int (nomark _))))) (pss_one (ps_ret pe_int)) pss_nil)
      (pss_cons (ps_for PassesOwn.never rfl (EN.pi_enumT (by rfl) T.enumerate (pa_cons (pe_slice sl_tupA (pv 1) po_none (po_some pe_int)) pa_nil)) (pg_tup (by rfl) (pgs_cons (pg_name (i := 2) sc_wrong_word.nd rfl (Or.inl rfl)) (pgs_cons (pg_name (i := 3) sc_wrong_word.nd rfl (Or.inl rfl)) pgs_nil))) (pss_one (ps_if (PW.pt (pw_or (pt_not (pt_val (pe_call c_is_word.ok (hr.mono (by decide)) (by rfl) c_is_word.g c_is_word.kp c_is_word.b .nil pass0 (pa_cons (pv 0) (pa_cons (pv 3) pa_nil))))) (pw_or (pt_cmpR op_ne (pe_callB call_len_str (by rfl) T.len PySem.boot_len (pa_cons (pv 3) pa_nil)) (pe_callB call_len_str (by rfl) T.len PySem.boot_len (pa_cons (pe_ix ix_tup (pv 1) pe_int (fun _ _ => rfl)) pa_nil)) (nomark _)) (pw_or1 (pt_cmpR op_in_seq (pv 3) (pe_slice sl_tupA (pv 1) po_none (po_some (pv 2))) rfl))))) (pss_one (ps_ret (pv 2))) pss_nil)))
      (pss_one (ps_ret (pe_ifExp (pt_cmpR op_gt (pe_callB call_len_seq (by rfl) T.len PySem.boot_len (pa_cons (pv 1) pa_nil)) pe_int (nomark _)) pe_int pe_non))))), ?_⟩
    refine ⟨_, rfl, a, _, rfl, ha, fun H1 e1 => ⟨true, rfl, ?_⟩⟩
    refine ⟨_, rfl, a, _, rfl, .inr (st_of (e1 _ _ ha)), rfl, _, rfl, ite2 (fun hb => ?_) (fun _ => ?_)⟩
    · have hb2 := V.int.inj (of_decide_eq_true hb)
      rw [wv_len] at hb2
      omega
    have full : HT.sIx (wv ws).length 0 none = 0 ∧ HT.sIx (wv ws).length (wv ws).length (some 3) = (wv ws).length := by
      refine ⟨rfl, ?_⟩
      rw [show (3 : Int) = ((3 : Nat) : Int) from rfl, HT.sIx_nat, wv_len]
      omega
    have hD2 := e1 _ _ ha
    refine ⟨_, rfl, _, rfl, a, _, rfl, st_of hD2, fun _ => ?_, fun hn => absurd full hn⟩
    refine ⟨a, _, rfl, st_of hD2, ?_⟩
    refine EN.for_enumT (K := K) (a := a) (xs := wv ws) (fun i σ H' => ∃ y2 y3 : Option V, σ = [some (.str (tx L)), some (.ref a), y2, y3] ∧ Ex H H') ⟨none, none, rfl, e1⟩ (fun i σ H' hw => ?_) (fun i x T' σ H' hx hw hT => ?_) (fun σ H' hw => ?_)
    · obtain ⟨_, _, _, e⟩ := hw
      exact st_of (e _ _ ha)
    · obtain ⟨y2, y3, rfl, e3⟩ := hw
      obtain ⟨u, hu, rfl⟩ := wv_at hx
      have gu := W.all u (List.mem_of_getElem? hu)
      have lu := gu.len
      have hi := (List.getElem?_eq_some_iff.mp hu).1
      have e5 := e3.trans (Ex.new (o := .tup [.int (i : Nat), .str (tx u)]) hT)
      refine ⟨T', _, rfl, .inl (.inl upd_same), rfl, _, _, rfl, _, _, rfl, rfl, ?_⟩
      refine ⟨_, rfl, _, rfl, L, u, m, rfl, hL, gu, W.m1, w8, fun H3 e7 => ⟨true, rfl, ?_⟩⟩
      obtain ⟨u0, h0, l0⟩ := wv_zero W
      have e8 := e5.trans e7
      refine ⟨_, rfl, _, rfl, tx_le (by omega), _, rfl, a, _, _, _, rfl, rfl, st_of (e8 _ _ ha), h0, _, rfl, tx_le (by omega), rfl, _, rfl, ite2 (fun hb => ?_) (fun _ => ?_)⟩
      · have e9 : decide (V.int ((tx u).length : Int) = V.int ((tx u0).length : Int)) = true := decide_eq_true (by rw [tx_len, tx_len, lu, l0])
        rw [e9] at hb
        cases hb
      have part : ¬ (HT.sIx (wv ws).length 0 none = 0 ∧ HT.sIx (wv ws).length (wv ws).length (some (i : Int)) = (wv ws).length) := by
        rintro ⟨_, hh⟩
        rw [HT.sIx_nat, wv_len] at hh
        omega
      refine ⟨_, rfl, _, rfl, _, rfl, _, rfl, a, _, rfl, st_of (e8 _ _ ha), fun hf => absurd hf part, fun _ D2 hD3 => ?_⟩
      refine ⟨D2, _, rfl, .inr (st_of upd_same), rfl, ?_, ?_⟩
      · rw [wv_cut]
        exact flat_wv _
      · refine ⟨_, rfl, ?_⟩
        rw [wv_cut, inV_wv, fresh_word W hu]
        exact ⟨_, _, rfl, e8.trans (Ex.new hD3)⟩
    · obtain ⟨y2, y3, rfl, e3⟩ := hw
      refine ⟨_, rfl, a, _, rfl, .inr (st_of (e3 _ _ ha)), _, _, rfl, rfl, _, rfl, ite2 (fun hb => ?_) (fun _ => ?_)⟩
      · have hb2 := of_decide_eq_true hb
        rw [wv_len] at hb2
        omega
      · exact q _ e3
end
end Law

namespace Law
open PySem PySem.Spec PyProof.Rows L2 Evl
/-! ### a name that a dict comprehension is stored to -/
theorem swD {kx vx : Expr} {gs : List Comprehension} {scope : Scope} {pos py : Pos} {y : Str} {l : Nat} {env : Env} (hk : env.scope.kind = .function) (hy : env.scope.names.lookup y = some .local) (hl : (py.line == pos.line) = true)
    (ha : (scope.names.any fun (n, k) => n == y && (k == .local || k == .cell)) = false) : swapsWith (.DictComp kx vx gs scope pos) (some (.Name y py)) l env = pure true := by
  have k1 : env.kindOf y = some .local := hy
  have k2 : env.blockKind = .function := by
    unfold Env.blockKind
    rw [hk]
    rfl
  unfold swapsWith
  simp only [k2, k1, ha, Expr.pos, hl]
  rfl
theorem ps_setDc {X : Cx} {i : Nat} {y : Str} {py : Pos} {kx vx tg iter : Expr} {ifs : List Expr} {scope : Scope} {own : List (Str × Nat)} {pos spos : Pos} {wi : TI} {g : TG} {tt : TT} {tk tv : TE}
    (hc : X.calm = true) (hN : X.N.Nodup) (hy : X.N[i]? = some y) (hyl : X.env.scope.names.lookup y = some .local)
    (hsw : swapsWith (.DictComp kx vx [⟨tg, iter, ifs, 0⟩] scope pos) (some (.Name y py)) spos.line X.env = pure true) (hi : PI X tg iter wi) (ok : BlkOk X.N X.env.scope scope own)
    (hg : ∀ (s : Shared) (H : Hp) (C : Addr) (cl : List (Str × Addr)) (fp : List Addr), PG (X.blk s H scope (compEnvC scope cl C X.env) fp) tg g)
    (ht : ∀ (s : Shared) (H : Hp) (C : Addr) (cl : List (Str × Addr)) (fp : List Addr), PTs (X.blk s H scope (compEnvC scope cl C X.env) fp) ifs tt)
    (hk : ∀ (s : Shared) (H : Hp) (C : Addr) (cl : List (Str × Addr)) (fp : List Addr), PE (X.blk s H scope (compEnvC scope cl C X.env) fp) kx tk)
    (he : ∀ (s : Shared) (H : Hp) (C : Addr) (cl : List (Str × Addr)) (fp : List Addr), PE (X.blk s H scope (compEnvC scope cl C X.env) fp) vx tv) (hs : ∀ x, foldedSetIterable iter X.env x = pure x := by intro _; rfl) :
    PS X (.Assign [.Name y py] (.DictComp kx vx [⟨tg, iter, ifs, 0⟩] scope pos) spos) (tAsg (tDc wi g tt tk tv (own.map (·.2))) (gName i)) := by
  refine ⟨fun pins s σ H D I h => ?_⟩
  rw [exec_Assign_Name_used _ _ _ _ hsw]
  refine wpAny_bind (wpAny_standAt (wpAny_bind ?_))
  have h2 : tDc wi g tt tk tv (own.map (·.2)) σ H (fun x H1 => gName i x σ H1 D.nx) := h
  refine wpAny_bind (thn (dc_core (Qf := fun _ s' => SP X pins D .next s') hc hN I hi ok hg ht hk he hs h2 fun A C s' m H' I' q hn f => ?_) fun _ s' hq => wpAny_pure (wpAny_pure hq))
  refine wpAny_assign_Name (store_ok2 (v := V.ref A) I' hN hy (.inl hyl) rfl (fun s2 I2 ⟨a, sb, ha⟩ => ?_) (.inr hyl))
  obtain ⟨f0, f1, f2, f3, f4, f5⟩ := f
  have ne : C ≠ a := by
    rcases ha with z | z
    · rw [z]
      exact f1
    · exact fun e => f4 y a z e.symm
  exact ⟨m, hn.sameBut sb ne, fun h3 sb3 => ⟨_, H', I2.turned (t' := s2.toks) (fun b o hb e => (sb3.2 b hb).trans e) f0 f1 f3 f4 f5, q⟩⟩
/-! ### the pairs that are wanted -/
def idx (ws : List (List Nat)) (u : List Nat) : Option Nat := (List.range ws.length).find? fun k => ws.getD k [] == u
def part (t : List Nat) (m p : Nat) : List Nat := (t.drop p).take m
def standN (ws : List (List Nat)) (t : List Nat) (m n : Nat) : List (Nat × Nat) := (List.range n).filterMap fun p => (idx ws (part t m p)).map fun k => (p, k)
theorem standN_succ (ws : List (List Nat)) (t : List Nat) (m n : Nat) : standN ws t m (n + 1) = standN ws t m n ++ ((idx ws (part t m n)).map fun k => (n, k)).toList := by
  unfold standN
  rw [List.range_succ, List.filterMap_append]
  refine congrArg (_ ++ ·) ?_
  rw [List.filterMap_cons, List.filterMap_nil]
  cases (idx ws (part t m n)).map fun k => (n, k) <;> rfl
theorem standN_len (ws : List (List Nat)) (t : List Nat) (m n : Nat) : (standN ws t m n).length ≤ n := by
  unfold standN
  have h := List.length_filterMap_le (fun p => (idx ws (part t m p)).map fun k => (p, k)) (List.range n)
  rw [List.length_range] at h
  exact h
def nums (ws : List (List Nat)) (n : Nat) : List (Key × V) := (List.range n).map fun k => (.inr (tx (ws.getD k [])), .int (k : Nat))
theorem nums_succ (ws : List (List Nat)) (n : Nat) : nums ws (n + 1) = nums ws n ++ [(.inr (tx (ws.getD n [])), .int (n : Nat))] := by
  unfold nums
  rw [List.range_succ, List.map_append]
  rfl
theorem nums_len (ws : List (List Nat)) (n : Nat) : (nums ws n).length = n := by
  unfold nums
  rw [List.length_map, List.length_range]
theorem key_eq {a b : List Nat} : ((Sum.inr (tx a) : Key) = Sum.inr (tx b)) ↔ a = b := by
  constructor
  · intro h
    exact tx_inj (Sum.inr.inj h)
  · intro h
    rw [h]
theorem nums_get (ws : List (List Nat)) (u : List Nat) (n : Nat) : valV (nums ws n) (.inr (tx u)) = ((List.range n).find? fun k => ws.getD k [] == u).map fun k => V.int (k : Nat) := by
  unfold valV nums
  rw [List.find?_map]
  have e : ((fun kv : Key × V => decide (kv.1 = Sum.inr (tx u))) ∘ fun k : Nat => ((Sum.inr (tx (ws.getD k [])) : Key), V.int (k : Nat))) = fun k => ws.getD k [] == u := by
    funext k
    show decide ((Sum.inr (tx (ws.getD k [])) : Key) = Sum.inr (tx u)) = (ws.getD k [] == u)
    by_cases q : ws.getD k [] = u
    · rw [decide_eq_true (key_eq.mpr q), q]
      simp
    · rw [decide_eq_false fun h => q (key_eq.mp h)]
      simpa using q
  rw [e, Option.map_map]
  rfl
theorem getD_ws {ws : List (List Nat)} {i : Nat} {u : List Nat} (h : ws[i]? = some u) : ws.getD i [] = u := by
  rw [List.getD_eq_getElem?_getD, h]
  rfl
theorem nums_put {L : List Nat} {m : Nat} {ws : List (List Nat)} (W : WsG L m ws) {i : Nat} {u : List Nat} (h : ws[i]? = some u) : putK (nums ws i) (.inr (tx u)) (.int (i : Nat)) = nums ws (i + 1) := by
  unfold putK
  rw [valV_any, nums_get]
  have hn : (List.range i).find? (fun k => ws.getD k [] == u) = none := by
    rw [List.find?_eq_none]
    intro j hj hh
    rw [List.mem_range] at hj
    obtain ⟨hi, ei⟩ := List.getElem?_eq_some_iff.mp h
    have ej : ws.getD j [] = ws[j] := getD_ws (List.getElem?_eq_getElem (by omega))
    rw [ej, beq_iff_eq] at hh
    exact List.pairwise_iff_getElem.mp W.nd j i (by omega) hi hj (hh.trans ei.symm)
  rw [hn]
  show (if false = true then _ else _) = _
  rw [if_neg (by decide), nums_succ, getD_ws h]
/-- a list of pairs as it stands -/
inductive Prs (H : Hp) : List V → List (Nat × Nat) → Prop
  | nil : Prs H [] []
  | cons {r : Addr} {p : Nat × Nat} {vs : List V} {ps : List (Nat × Nat)} : H r = some (.tup [.int (p.1 : Nat), .int (p.2 : Nat)]) → Prs H vs ps → Prs H (.ref r :: vs) (p :: ps)
theorem Prs.ex {H H' : Hp} (e : Ex H H') : ∀ {vs : List V} {ps : List (Nat × Nat)}, Prs H vs ps → Prs H' vs ps
  | _, _, .nil => .nil
  | _, _, .cons h r => .cons (e _ _ h) (Prs.ex e r)
theorem Prs.len {H : Hp} : ∀ {vs : List V} {ps : List (Nat × Nat)}, Prs H vs ps → vs.length = ps.length
  | _, _, .nil => rfl
  | _, _, .cons _ r => by rw [List.length_cons, List.length_cons, Prs.len r]
theorem Prs.snoc {H : Hp} {r : Addr} {p : Nat × Nat} (h : H r = some (.tup [.int (p.1 : Nat), .int (p.2 : Nat)])) : ∀ {vs : List V} {ps : List (Nat × Nat)}, Prs H vs ps → Prs H (vs ++ [.ref r]) (ps ++ [p])
  | _, _, .nil => .cons h .nil
  | _, _, .cons h1 r1 => .cons h1 (Prs.snoc h r1)
theorem Prs.get {H : Hp} : ∀ {vs : List V} {ps : List (Nat × Nat)} {i : Nat} {x : V}, Prs H vs ps → vs[i]? = some x → ∃ r p, x = .ref r ∧ ps[i]? = some p ∧ H r = some (.tup [.int (p.1 : Nat), .int (p.2 : Nat)])
  | _, _, _, _, .nil, h => by cases h
  | _, _, 0, _, .cons (r := r) (p := p) h1 _, h => ⟨r, p, (Option.some.inj h).symm, rfl, h1⟩
  | _, _, i + 1, _, .cons _ r1, h => Prs.get (i := i) r1 h
theorem Prs.take {H : Hp} : ∀ {vs : List V} {ps : List (Nat × Nat)} (k : Nat), Prs H vs ps → Prs H (vs.take k) (ps.take k)
  | _, _, 0, _ => by
    rw [List.take_zero, List.take_zero]
    exact .nil
  | _, _, _ + 1, .nil => .nil
  | _, _, k + 1, .cons h r => .cons h (Prs.take k r)
theorem Prs.app {H : Hp} : ∀ {vs : List V} {ps : List (Nat × Nat)} {us : List V} {qs : List (Nat × Nat)}, Prs H vs ps → Prs H us qs → Prs H (vs ++ us) (ps ++ qs)
  | _, _, _, _, .nil, h => h
  | _, _, _, _, .cons h r, h2 => .cons h (Prs.app r h2)
/-- what does not change: all but one object -/
theorem Prs.upd {H : Hp} {a : Addr} {o : HO} : ∀ {vs : List V} {ps : List (Nat × Nat)}, Prs H vs ps → (∀ xs, H a ≠ some (.tup xs)) → Prs (L2.upd H a o) vs ps
  | _, _, .nil, _ => .nil
  | _, _, .cons (r := r) h r1, hn => .cons (by rw [upd_ne (fun q : r = a => hn _ (by rw [← q]; exact h))]; exact h) (Prs.upd r1 hn)
def PairsAt (H : Hp) (a : Addr) (ps : List (Nat × Nat)) : Prop := ∃ vs, H a = some (.lst vs) ∧ Prs H vs ps
theorem PairsAt.ex {H H' : Hp} {a : Addr} {ps : List (Nat × Nat)} (e : Ex H H') (h : PairsAt H a ps) : PairsAt H' a ps := by
  obtain ⟨vs, h1, h2⟩ := h
  exact ⟨vs, e _ _ h1, h2.ex e⟩
def spStandL : Sp := fun vs H Q _ => ∃ (L : List Nat) (a : Addr) (ws : List (List Nat)) (m : Nat) (t : List Nat), vs = [.ref a, .str (tx t)] ∧ H a = some (.lst (wv ws)) ∧ WsG L m ws ∧ t.length < 400 ∧ ∀ r H', Ex H H' → H r = none → PairsAt H' r (standN ws t m (t.length + 1 - m)) → Q (.ref r) H'
def spStandT : Sp := fun vs H Q _ => ∃ (L : List Nat) (a : Addr) (ws : List (List Nat)) (m : Nat) (t : List Nat), vs = [.ref a, .str (tx t)] ∧ H a = some (.tup (wv ws)) ∧ WsG L m ws ∧ t.length < 400 ∧ ∀ r H', Ex H H' → H r = none → PairsAt H' r (standN ws t m (t.length + 1 - m)) → Q (.ref r) H'
/-- dict comprehensions over enumerate -/
theorem dc_enumL {K : PySem.W.Frag} {a : Addr} {xs : List V} {g : TG} {tt : TT} {tk tv : TE} {vs : List Nat} {σ : L2.St} {H1 : Hp} {D : Addr} {Qd : Hp → Prop} (Pv : Nat → Hp → Prop) (h0 : Pv 0 (L2.upd H1 D (.dK []))) (hl : ∀ i H, Pv i H → SqL K H a xs)
    (hs : ∀ i x T H, xs[i]? = some x → Pv i H → H T = none → g (.ref T) (wipe σ vs) (L2.upd H T (.tup [.int (i : Nat), x])) fun σ2 H2 => wipe σ2 vs = wipe σ vs ∧ tt σ2 H2 fun b H3 =>
      if b = true then tk σ2 H3 fun y H4 => tv σ2 H4 fun z H5 => ∃ kvs k, y = kV k ∧ H5 D = some (.dK kvs) ∧ kvs.length < sizeLine ∧ Pv (i + 1) (L2.upd H5 D (.dK (putK kvs k z))) else Pv (i + 1) H3) (hd : ∀ H, Pv xs.length H → Qd H) :
    ∃ W : Nat → Nat → Hp → Prop, (∃ m, W 0 m (L2.upd H1 D (.dK []))) ∧ ∀ i m H, W i m H →
      ((Ite K a).stop i H ∧ Qd H) ∨ ((Ite K a).go i H ∧ ∃ Nx : Hp → Prop, (∀ H', Nx H' → ∃ m', m' < m ∧ W (i + 1) m' H') ∧ ∀ x H', (Ite K a).yld i H x H' → g x (wipe σ vs) H' fun σ2 H2 => wipe σ2 vs = wipe σ vs ∧ tt σ2 H2 fun b H3 =>
        if b = true then tk σ2 H3 fun y H4 => tv σ2 H4 fun z H5 => ∃ kvs k, y = kV k ∧ H5 D = some (.dK kvs) ∧ kvs.length < sizeLine ∧ Nx (L2.upd H5 D (.dK (putK kvs k z))) else Nx H3) := by
  refine ⟨fun i m H => i + m = xs.length ∧ Pv i H, ⟨_, Nat.zero_add _, h0⟩, ?_⟩
  rintro i m H ⟨e, p⟩
  by_cases hm : m = 0
  · have e2 : i = xs.length := by omega
    refine .inl ⟨⟨xs, hl i H p, by omega⟩, hd H ?_⟩
    rw [← e2]
    exact p
  · have hi : i < xs.length := by omega
    refine .inr ⟨⟨xs, xs[i], hl i H p, List.getElem?_eq_getElem hi⟩, Pv (i + 1), fun H' p' => ⟨m - 1, by omega, by omega, p'⟩, ?_⟩
    rintro v H' ⟨T, x, rfl, hT, rfl, hx⟩
    exact hs i x T H (hx xs (hl i H p)) p hT
theorem dc_enumT {K : PySem.W.Frag} {a : Addr} {xs : List V} {g : TG} {tt : TT} {tk tv : TE} {vs : List Nat} {σ : L2.St} {H1 : Hp} {D : Addr} {Qd : Hp → Prop} (Pv : Nat → Hp → Prop) (h0 : Pv 0 (L2.upd H1 D (.dK []))) (hl : ∀ i H, Pv i H → SqT K H a xs)
    (hs : ∀ i x T H, xs[i]? = some x → Pv i H → H T = none → g (.ref T) (wipe σ vs) (L2.upd H T (.tup [.int (i : Nat), x])) fun σ2 H2 => wipe σ2 vs = wipe σ vs ∧ tt σ2 H2 fun b H3 =>
      if b = true then tk σ2 H3 fun y H4 => tv σ2 H4 fun z H5 => ∃ kvs k, y = kV k ∧ H5 D = some (.dK kvs) ∧ kvs.length < sizeLine ∧ Pv (i + 1) (L2.upd H5 D (.dK (putK kvs k z))) else Pv (i + 1) H3) (hd : ∀ H, Pv xs.length H → Qd H) :
    ∃ W : Nat → Nat → Hp → Prop, (∃ m, W 0 m (L2.upd H1 D (.dK []))) ∧ ∀ i m H, W i m H →
      ((EN.ItT K a).stop i H ∧ Qd H) ∨ ((EN.ItT K a).go i H ∧ ∃ Nx : Hp → Prop, (∀ H', Nx H' → ∃ m', m' < m ∧ W (i + 1) m' H') ∧ ∀ x H', (EN.ItT K a).yld i H x H' → g x (wipe σ vs) H' fun σ2 H2 => wipe σ2 vs = wipe σ vs ∧ tt σ2 H2 fun b H3 =>
        if b = true then tk σ2 H3 fun y H4 => tv σ2 H4 fun z H5 => ∃ kvs k, y = kV k ∧ H5 D = some (.dK kvs) ∧ kvs.length < sizeLine ∧ Nx (L2.upd H5 D (.dK (putK kvs k z))) else Nx H3) := by
  refine ⟨fun i m H => i + m = xs.length ∧ Pv i H, ⟨_, Nat.zero_add _, h0⟩, ?_⟩
  rintro i m H ⟨e, p⟩
  by_cases hm : m = 0
  · have e2 : i = xs.length := by omega
    refine .inl ⟨⟨xs, hl i H p, e2⟩, hd H ?_⟩
    rw [← e2]
    exact p
  · have hi : i < xs.length := by omega
    refine .inr ⟨⟨xs, xs[i], hl i H p, List.getElem?_eq_getElem hi⟩, Pv (i + 1), fun H' p' => ⟨m - 1, by omega, by omega, p'⟩, ?_⟩
    rintro v H' ⟨T, x, rfl, hT, rfl, hx⟩
    exact hs i x T H (hx xs (hl i H p)) p hT
section
variable {P : Program} {w : World} {K : PySem.W.Frag} {mg : Str → Option Value} {base : Heap}
theorem ok_standL {f : Addr} {fd : FuncData} (F : Fun K "_standing" "_standing" s_standing f fd) (T : Tx mg) : FnOk P w K mg base CX0 1 f fd ["words", "text"] spStandL := by
  refine F.ok sc_standing (fun vs H Q E h => ?_) (fun cdv A outer s H vs Q E hr h => ?_)
  · obtain ⟨L, a, ws, m, t, rfl, _⟩ := h
    rfl
  · obtain ⟨L, a, ws, m, t, rfl, ha, W, ht, q⟩ := h
    have w1 := W.lo
    have w3 := W.hi
    have w8 := W.m8
    have m1 := W.m1
    refine ⟨_, (pss_cons (ps_setDc (i := 2) (own := [("number", 3), ("word", 4)]) (g := gTup K 2 (gCons (gName 3) (gCons (gName 4) gNil))) (tt := tYes) rfl sc_standing.nd rfl rfl (swD rfl rfl rfl (by decide +kernel)) (pi_enum (by rfl) T.enumerate (pa_cons (pv 0) pa_nil)) (blkOk_by (N := N_standing) (sc := defScope s_standing) (by decide +kernel)) (fun _ _ _ _ _ => (pg_tup (by rfl) (pgs_cons (pg_name (i := 3) sc_standing.nd rfl (Or.inl rfl)) (pgs_cons (pg_name (i := 4) sc_standing.nd rfl (Or.inl rfl)) pgs_nil)))) (fun _ _ _ _ _ => pts_nil) (fun _ _ _ _ _ => (pv 4)) (fun _ _ _ _ _ => (pv 3)))
      (pss_cons (ps_set (i := 5) sc_standing.nd rfl (Or.inl rfl) (pe_callB call_len_str (by rfl) T.len PySem.boot_len (pa_cons (pe_ix ix_list (pv 0) pe_int (fun _ _ => rfl)) pa_nil)))
      (pss_cons (ps_set (i := 6) sc_standing.nd rfl (Or.inl rfl) (pe_lst pa_nil))
      (pss_cons (ps_for PassesOwn.never rfl (pi_range1 (by rfl) T.range (pa_cons (pe_op op_add (pe_op op_sub (pe_callB call_len_str (by rfl) T.len PySem.boot_len (pa_cons (pv 1) pa_nil)) (pv 5)) pe_int) pa_nil)) (pg_name (i := 7) sc_standing.nd rfl (Or.inl rfl)) (pss_cons (ps_set (i := 8) sc_standing.nd rfl (Or.inl rfl) (pe_slice sl_str (pv 1) (po_some (pv 7)) (po_some (pe_op op_add (pv 7) (pv 5)))))
      (pss_one (ps_if (pt_cmp (pc_din (hu_of hr) (pv 8) (pv 2))) (pss_one (ps_expr (pe_bm PySem.F.plainAttrs_list PySem.F.slot_list_append PySem.F.type_list_append mt_append (pv 6) (pa_cons (pe_tup (pa_cons (pv 7) (pa_cons (pe_dget (hu_of hr) (pv 2) (pv 8) (fun _ _ => rfl)) pa_nil))) pa_nil)))) pss_nil))))
      (pss_one (ps_ret (pv 6))))))), ?_⟩
    refine ⟨_, rfl, a, _, rfl, sq_of ha, fun D hD => ?_⟩
    refine dc_enumL (K := K) (a := a) (xs := wv ws) (fun i H' => Ex H H' ∧ H' D = some (.dK (nums ws i))) ⟨Ex.new hD, upd_same⟩ (fun i H' hw => ?_) (fun i x T' H' hx hw hT => ?_) (fun H1 hw => ?_)
    · exact sq_of (hw.1 _ _ ha)
    · obtain ⟨e1, hk⟩ := hw
      obtain ⟨u, hu, rfl⟩ := wv_at hx
      have hi := (List.getElem?_eq_some_iff.mp hu).1
      refine ⟨T', _, rfl, .inl (.inl upd_same), rfl, _, _, rfl, _, _, rfl, rfl, rfl, ?_⟩
      refine ⟨_, rfl, _, rfl, _, .inr (tx u), rfl, Ex.new hT _ _ hk, ?_, (e1.trans (Ex.new hT)).mut hD, ?_⟩
      · rw [nums_len]
        exact sz_lt (by omega)
      · rw [nums_put W hu]
        exact upd_same
    obtain ⟨e1, hk⟩ := hw
    rw [wv_len] at hk
    obtain ⟨u0, h0, l0⟩ := wv_zero W
    refine ⟨_, rfl, a, _, _, _, rfl, rfl, sq_of (e1 _ _ ha), h0, _, rfl, tx_le (by omega), ?_⟩
    rw [tx_len, l0]
    refine ⟨Nat.zero_le _, fun r hr1 => ?_⟩
    have hr0 : H r = none := fresh_back e1 hr1
    have nDr : D ≠ r := fun z => by
      rw [← z, hk] at hr1
      cases hr1
    refine ⟨_, rfl, _, rfl, tx_le (by omega), _, rfl, _, _, rfl, rfl, _, _, rfl, rfl, _, rfl, by rw [tx_len]; omega, by rw [tx_len]; omega, ?_⟩
    rw [tx_len, show ((t.length : Int) - (m : Int) + 1).toNat = t.length + 1 - m by omega]
    refine for_range (lo := 0) (n := t.length + 1 - m) (fun i σ H' => ∃ y3 y4 y7 y8 : Option V, σ = [some (.ref a), some (.str (tx t)), some (.ref D), y3, y4, some (.int (m : Int)), some (.ref r), y7, y8] ∧ Ex H H' ∧ H' D = some (.dK (nums ws ws.length)) ∧ PairsAt H' r (standN ws t m i))
      ⟨_, _, _, _, rfl, (e1.trans (Ex.new hr1)), Ex.new hr1 _ _ hk, [], upd_same, .nil⟩ (fun i σ H' hi hw => ?_) (fun σ H' hw => ?_)
    · obtain ⟨y3, y4, y7, y8, rfl, e2, hk2, vs, hv, pv_⟩ := hw
      rw [Int.zero_add]
      refine ⟨_, rfl, _, rfl, _, rfl, _, rfl, _, rfl, _, _, rfl, rfl, _, rfl, _, rfl, tx_le (by omega), ?_⟩
      rw [cut_mid]
      have hg : DGet H' D (.str (tx (part t m i))) ((idx ws (part t m i)).map fun k => V.int (k : Nat)) := by
        have h2 := DGet.k (k := Sum.inr (tx (part t m i))) hk2
        rw [nums_get] at h2
        exact h2
      refine ⟨_, rfl, _, rfl, D, _, rfl, hg, _, rfl, ?_⟩
      cases hx : idx ws (part t m i) with
      | none =>
        rw [hx] at hg
        refine iteF ⟨_, _, _, _, rfl, e2, hk2, vs, hv, ?_⟩
        rw [standN_succ, hx]
        show Prs H' vs (standN ws t m i ++ [])
        rw [List.append_nil]
        exact pv_
      | some k =>
        rw [hx] at hg
        refine iteT ⟨_, rfl, .inl ⟨rfl, _, sq_of hv⟩, _, rfl, _, rfl, _, rfl, D, _, rfl, hg, by show 2 ≤ sizeLine; decide, fun q2 hq2 => ?_⟩
        have lv := pv_.len
        have lv2 := standN_len ws t m i
        refine ⟨r, vs, _, rfl, rfl, Ex.new hq2 _ _ hv, ?_, ?_⟩
        · exact sz_lt (by omega)
        have nrq : r ≠ q2 := fun z => by
          rw [z, hq2] at hv
          cases hv
        refine ⟨_, _, _, _, rfl, (e2.trans (Ex.new hq2)).mut hr0, ?_, vs ++ [.ref q2], upd_same, ?_⟩
        · rw [upd_ne nDr]
          exact Ex.new hq2 _ _ hk2
        · rw [standN_succ, hx]
          refine Prs.upd (Prs.snoc (p := (i, k)) upd_same (pv_.ex (Ex.new hq2))) fun xs hh => ?_
          rw [upd_ne nrq, hv] at hh
          cases hh
    · obtain ⟨y3, y4, y7, y8, rfl, e2, hk2, hp⟩ := hw
      exact ⟨_, rfl, q _ _ e2 hr0 hp⟩
theorem ok_standT {f : Addr} {fd : FuncData} (F : Fun K "_standing" "_standing" s_standing f fd) (T : Tx mg) : FnOk P w K mg base CX0 1 f fd ["words", "text"] spStandT := by
  refine F.ok sc_standing (fun vs H Q E h => ?_) (fun cdv A outer s H vs Q E hr h => ?_)
  · obtain ⟨L, a, ws, m, t, rfl, _⟩ := h
    rfl
  · obtain ⟨L, a, ws, m, t, rfl, ha, W, ht, q⟩ := h
    have w1 := W.lo
    have w3 := W.hi
    have w8 := W.m8
    have m1 := W.m1
    refine ⟨_, (pss_cons (ps_setDc (i := 2) (own := [("number", 3), ("word", 4)]) (g := gTup K 2 (gCons (gName 3) (gCons (gName 4) gNil))) (tt := tYes) rfl sc_standing.nd rfl rfl (swD rfl rfl rfl (by decide +kernel)) (EN.pi_enumT (by rfl) T.enumerate (pa_cons (pv 0) pa_nil)) (blkOk_by (N := N_standing) (sc := defScope s_standing) (by decide +kernel)) (fun _ _ _ _ _ => (pg_tup (by rfl) (pgs_cons (pg_name (i := 3) sc_standing.nd rfl (Or.inl rfl)) (pgs_cons (pg_name (i := 4) sc_standing.nd rfl (Or.inl rfl)) pgs_nil)))) (fun _ _ _ _ _ => pts_nil) (fun _ _ _ _ _ => (pv 4)) (fun _ _ _ _ _ => (pv 3)))
      (pss_cons (ps_set (i := 5) sc_standing.nd rfl (Or.inl rfl) (pe_callB call_len_str (by rfl) T.len PySem.boot_len (pa_cons (pe_ix ix_tup (pv 0) pe_int (fun _ _ => rfl)) pa_nil)))
      (pss_cons (ps_set (i := 6) sc_standing.nd rfl (Or.inl rfl) (pe_lst pa_nil))
      (pss_cons (ps_for PassesOwn.never rfl (pi_range1 (by rfl) T.range (pa_cons (pe_op op_add (pe_op op_sub (pe_callB call_len_str (by rfl) T.len PySem.boot_len (pa_cons (pv 1) pa_nil)) (pv 5)) pe_int) pa_nil)) (pg_name (i := 7) sc_standing.nd rfl (Or.inl rfl)) (pss_cons (ps_set (i := 8) sc_standing.nd rfl (Or.inl rfl) (pe_slice sl_str (pv 1) (po_some (pv 7)) (po_some (pe_op op_add (pv 7) (pv 5)))))
      (pss_one (ps_if (pt_cmp (pc_din (hu_of hr) (pv 8) (pv 2))) (pss_one (ps_expr (pe_bm PySem.F.plainAttrs_list PySem.F.slot_list_append PySem.F.type_list_append mt_append (pv 6) (pa_cons (pe_tup (pa_cons (pv 7) (pa_cons (pe_dget (hu_of hr) (pv 2) (pv 8) (fun _ _ => rfl)) pa_nil))) pa_nil)))) pss_nil))))
      (pss_one (ps_ret (pv 6))))))), ?_⟩
    refine ⟨_, rfl, a, _, rfl, st_of ha, fun D hD => ?_⟩
    refine dc_enumT (K := K) (a := a) (xs := wv ws) (fun i H' => Ex H H' ∧ H' D = some (.dK (nums ws i))) ⟨Ex.new hD, upd_same⟩ (fun i H' hw => ?_) (fun i x T' H' hx hw hT => ?_) (fun H1 hw => ?_)
    · exact st_of (hw.1 _ _ ha)
    · obtain ⟨e1, hk⟩ := hw
      obtain ⟨u, hu, rfl⟩ := wv_at hx
      have hi := (List.getElem?_eq_some_iff.mp hu).1
      refine ⟨T', _, rfl, .inl (.inl upd_same), rfl, _, _, rfl, _, _, rfl, rfl, rfl, ?_⟩
      refine ⟨_, rfl, _, rfl, _, .inr (tx u), rfl, Ex.new hT _ _ hk, ?_, (e1.trans (Ex.new hT)).mut hD, ?_⟩
      · rw [nums_len]
        exact sz_lt (by omega)
      · rw [nums_put W hu]
        exact upd_same
    obtain ⟨e1, hk⟩ := hw
    rw [wv_len] at hk
    obtain ⟨u0, h0, l0⟩ := wv_zero W
    refine ⟨_, rfl, a, _, _, _, rfl, rfl, st_of (e1 _ _ ha), h0, _, rfl, tx_le (by omega), ?_⟩
    rw [tx_len, l0]
    refine ⟨Nat.zero_le _, fun r hr1 => ?_⟩
    have hr0 : H r = none := fresh_back e1 hr1
    have nDr : D ≠ r := fun z => by
      rw [← z, hk] at hr1
      cases hr1
    refine ⟨_, rfl, _, rfl, tx_le (by omega), _, rfl, _, _, rfl, rfl, _, _, rfl, rfl, _, rfl, by rw [tx_len]; omega, by rw [tx_len]; omega, ?_⟩
    rw [tx_len, show ((t.length : Int) - (m : Int) + 1).toNat = t.length + 1 - m by omega]
    refine for_range (lo := 0) (n := t.length + 1 - m) (fun i σ H' => ∃ y3 y4 y7 y8 : Option V, σ = [some (.ref a), some (.str (tx t)), some (.ref D), y3, y4, some (.int (m : Int)), some (.ref r), y7, y8] ∧ Ex H H' ∧ H' D = some (.dK (nums ws ws.length)) ∧ PairsAt H' r (standN ws t m i))
      ⟨_, _, _, _, rfl, (e1.trans (Ex.new hr1)), Ex.new hr1 _ _ hk, [], upd_same, .nil⟩ (fun i σ H' hi hw => ?_) (fun σ H' hw => ?_)
    · obtain ⟨y3, y4, y7, y8, rfl, e2, hk2, vs, hv, pv_⟩ := hw
      rw [Int.zero_add]
      refine ⟨_, rfl, _, rfl, _, rfl, _, rfl, _, rfl, _, _, rfl, rfl, _, rfl, _, rfl, tx_le (by omega), ?_⟩
      rw [cut_mid]
      have hg : DGet H' D (.str (tx (part t m i))) ((idx ws (part t m i)).map fun k => V.int (k : Nat)) := by
        have h2 := DGet.k (k := Sum.inr (tx (part t m i))) hk2
        rw [nums_get] at h2
        exact h2
      refine ⟨_, rfl, _, rfl, D, _, rfl, hg, _, rfl, ?_⟩
      cases hx : idx ws (part t m i) with
      | none =>
        rw [hx] at hg
        refine iteF ⟨_, _, _, _, rfl, e2, hk2, vs, hv, ?_⟩
        rw [standN_succ, hx]
        show Prs H' vs (standN ws t m i ++ [])
        rw [List.append_nil]
        exact pv_
      | some k =>
        rw [hx] at hg
        refine iteT ⟨_, rfl, .inl ⟨rfl, _, sq_of hv⟩, _, rfl, _, rfl, _, rfl, D, _, rfl, hg, by show 2 ≤ sizeLine; decide, fun q2 hq2 => ?_⟩
        have lv := pv_.len
        have lv2 := standN_len ws t m i
        refine ⟨r, vs, _, rfl, rfl, Ex.new hq2 _ _ hv, ?_, ?_⟩
        · exact sz_lt (by omega)
        have nrq : r ≠ q2 := fun z => by
          rw [z, hq2] at hv
          cases hv
        refine ⟨_, _, _, _, rfl, (e2.trans (Ex.new hq2)).mut hr0, ?_, vs ++ [.ref q2], upd_same, ?_⟩
        · rw [upd_ne nDr]
          exact Ex.new hq2 _ _ hk2
        · rw [standN_succ, hx]
          refine Prs.upd (Prs.snoc (p := (i, k)) upd_same (pv_.ex (Ex.new hq2))) fun xs hh => ?_
          rw [upd_ne nrq, hv] at hh
          cases hh
    · obtain ⟨y3, y4, y7, y8, rfl, e2, hk2, hp⟩ := hw
      exact ⟨_, rfl, q _ _ e2 hr0 hp⟩
end
end Law

namespace Law
open PySem PySem.Spec PyProof.Rows L2 Evl
/-! ### the ones that do not overlap -/
def apS (m : Nat) (s : List (Nat × Nat) × Nat) (p : Nat × Nat) : List (Nat × Nat) × Nat := if s.2 ≤ p.1 then (s.1 ++ [p], p.1 + m) else s
def apF (m : Nat) (ps : List (Nat × Nat)) : List (Nat × Nat) := (ps.foldl (apS m) ([], 0)).1
theorem ap_len (m : Nat) : ∀ (ps : List (Nat × Nat)) (s : List (Nat × Nat) × Nat), (ps.foldl (apS m) s).1.length ≤ s.1.length + ps.length
  | [], _ => Nat.le_refl _
  | p :: r, s => by
    have h := ap_len m r (apS m s p)
    rw [List.foldl_cons, List.length_cons]
    have h2 : (apS m s p).1.length ≤ s.1.length + 1 := by
      unfold apS
      split
      · show (s.1 ++ [p]).length ≤ _
        rw [List.length_append]
        exact Nat.le_refl _
      · omega
    omega
theorem take_next {α : Type} {l : List α} {i : Nat} {x : α} (h : l[i]? = some x) : l.take (i + 1) = l.take i ++ [x] := by
  rw [List.take_add_one, h]
  rfl
def spApart : Sp := fun vs H Q _ => ∃ (a : Addr) (ps : List (Nat × Nat)) (m : Nat), vs = [.ref a, .int (m : Nat)] ∧ PairsAt H a ps ∧ ps.length < 1000 ∧ ∀ r H', Ex H H' → H r = none → PairsAt H' r (apF m ps) → Q (.ref r) H'
/-! ### the law's own look -/
theorem filter_find {f : Nat → Bool} : ∀ {l : List Nat}, l.Nodup → (∀ a ∈ l, ∀ b ∈ l, f a = true → f b = true → a = b) → l.filter f = (l.find? f).toList
  | [], _, _ => rfl
  | x :: r, nd, h => by
    rw [List.nodup_cons] at nd
    by_cases q : f x = true
    · rw [List.filter_cons, if_pos q, List.find?_cons_of_pos q]
      have e : r.filter f = [] := by
        rw [List.filter_eq_nil_iff]
        intro b hb hfb
        exact nd.1 (by rw [h x List.mem_cons_self b (List.mem_cons_of_mem _ hb) q hfb]; exact hb)
      rw [e]
      rfl
    · rw [List.filter_cons, if_neg q, List.find?_cons_of_neg q]
      exact filter_find nd.2 fun a ha b hb => h a (List.mem_cons_of_mem _ ha) b (List.mem_cons_of_mem _ hb)
def hits (ws : List (List Nat)) (u : List Nat) (i n : Nat) : List (Nat × Nat) := ((List.range n).filter fun k => ws.getD k [] == u).map fun k => (i, k)
theorem hits_all {L : List Nat} {m : Nat} {ws : List (List Nat)} (W : WsG L m ws) (u : List Nat) (i : Nat) : hits ws u i ws.length = ((idx ws u).map fun k => (i, k)).toList := by
  unfold hits idx
  rw [filter_find List.nodup_range]
  · cases (List.range ws.length).find? fun k => ws.getD k [] == u <;> rfl
  · intro a ha b hb h1 h2
    rw [List.mem_range] at ha hb
    rw [beq_iff_eq] at h1 h2
    rw [getD_ws (List.getElem?_eq_getElem ha)] at h1
    rw [getD_ws (List.getElem?_eq_getElem hb)] at h2
    rcases Nat.lt_trichotomy a b with q | q | q
    · exact absurd (h1.trans h2.symm) (List.pairwise_iff_getElem.mp W.nd a b ha hb q)
    · exact q
    · exact absurd (h2.trans h1.symm) (List.pairwise_iff_getElem.mp W.nd b a hb ha q)
theorem hits_succ (ws : List (List Nat)) (u : List Nat) (i n : Nat) : hits ws u i (n + 1) = if ws.getD n [] = u then hits ws u i n ++ [(i, n)] else hits ws u i n := by
  unfold hits
  rw [List.range_succ, List.filter_append, List.map_append]
  by_cases q : ws.getD n [] = u
  · rw [if_pos q, List.filter_cons, if_pos (by rw [q]; simp)]
    rfl
  · rw [if_neg q, List.filter_cons, if_neg (by simpa using q)]
    simp
theorem hits_len (ws : List (List Nat)) (u : List Nat) (i n : Nat) : (hits ws u i n).length ≤ n := by
  unfold hits
  rw [List.length_map]
  have := List.length_filter_le (fun k => ws.getD k [] == u) (List.range n)
  rw [List.length_range] at this
  exact this
theorem idx_short {L : List Nat} {m : Nat} {ws : List (List Nat)} (W : WsG L m ws) {u : List Nat} (h : u.length ≠ m) : idx ws u = none := by
  unfold idx
  rw [List.find?_eq_none]
  intro k hk hh
  rw [List.mem_range] at hk
  rw [getD_ws (List.getElem?_eq_getElem hk), beq_iff_eq] at hh
  exact h (by rw [← hh]; exact (W.all _ (List.getElem_mem hk)).len)
theorem stand_stop {L : List Nat} {m : Nat} {ws : List (List Nat)} (W : WsG L m ws) (t : List Nat) : ∀ d : Nat, standN ws t m (t.length + 1 - m + d) = standN ws t m (t.length + 1 - m)
  | 0 => rfl
  | d + 1 => by
    show standN ws t m (t.length + 1 - m + d + 1) = _
    have m1 := W.m1
    rw [standN_succ, stand_stop W t d, idx_short W (u := part t m (t.length + 1 - m + d))]
    · exact List.append_nil _
    · unfold part
      rw [List.length_take, List.length_drop]
      omega
theorem stand_all {L : List Nat} {m : Nat} {ws : List (List Nat)} (W : WsG L m ws) (t : List Nat) : standN ws t m t.length = standN ws t m (t.length + 1 - m) := by
  have m1 := W.m1
  have h := stand_stop W t (t.length - (t.length + 1 - m))
  rw [show t.length + 1 - m + (t.length - (t.length + 1 - m)) = t.length by omega] at h
  exact h
def spWords : Sp := fun vs H Q _ => ∃ (p : PenI) (H0 : Hp) (n wd mn : Nat) (L : List Nat), vs = [.ref p.d, .str (tx L), .int (wd : Int), .int (mn : Int)] ∧ PenAt p H0 H n ∧ n < 700000 ∧ 0 < L.length ∧ L.length < 900 ∧ 1 ≤ wd ∧ wd ≤ 8 ∧ 1 ≤ mn ∧ mn ≤ 3 ∧
  ∀ H' r ws, PenAt p H0 H' (n + 45) → H0 r = none → H' r = some (.lst (wv ws)) → WsG L wd ws → Q (.ref r) H'
def spText : Sp := fun vs H Q _ => ∃ (p : PenI) (H0 : Hp) (n m : Nat) (L : List Nat) (a : Addr) (ws : List (List Nat)), vs = [.ref p.d, .str (tx L), .ref a, .int 12] ∧ PenAt p H0 H n ∧ n < 700000 ∧ H0 a = some (.lst (wv ws)) ∧ WsG L m ws ∧ 0 < L.length ∧ L.length < 900 ∧
  ∀ H' T, PenAt p H0 H' (n + 250) → T.length ≤ 24 → (∀ c ∈ T, c ∈ L) → Q (.str (tx T)) H'
section
variable {P : Program} {w : World} {K : PySem.W.Frag} {mg : Str → Option Value} {base : Heap}
theorem ok_apart {f : Addr} {fd : FuncData} (F : Fun K "_apart" "_apart" s_apart f fd) (T : Tx mg) : FnOk P w K mg base CX0 1 f fd ["found", "size"] spApart := by
  refine F.ok sc_apart (fun vs H Q E h => ?_) (fun cdv A outer s H vs Q E hr h => ?_)
  · obtain ⟨a, ps, m, rfl, _⟩ := h
    rfl
  · obtain ⟨a, ps, m, rfl, ⟨vs, ha, hp⟩, hl, q⟩ := h
    have lv := hp.len
    refine ⟨_, (pss_cons (ps_set (i := 2) sc_apart.nd rfl (Or.inl rfl) (pe_lst pa_nil))
      (pss_cons (ps_set (i := 3) sc_apart.nd rfl (Or.inl rfl) pe_int)
      (pss_cons (ps_for PassesOwn.never rfl (pi_list (pv 0)) (pg_tup (by rfl) (pgs_cons (pg_name (i := 4) sc_apart.nd rfl (Or.inl rfl)) (pgs_cons (pg_name (i := 5) sc_apart.nd rfl (Or.inl rfl)) pgs_nil))) (pss_one (ps_if (pt_cmpR op_ge (pv 4) (pv 3) (nomark _)) (pss_cons (ps_expr (pe_bm PySem.F.plainAttrs_list PySem.F.slot_list_append PySem.F.type_list_append mt_append (pv 2) (pa_cons (pe_tup (pa_cons (pv 4) (pa_cons (pv 5) pa_nil))) pa_nil)))
      (pss_one (ps_set (i := 3) sc_apart.nd rfl (Or.inl rfl) (pe_op op_add (pv 4) (pv 1))))) pss_nil)))
      (pss_one (ps_ret (pv 2)))))), ?_⟩
    refine ⟨Nat.zero_le _, fun r hr0 => ?_⟩
    have e1 := Ex.new (o := .lst []) hr0
    refine ⟨_, rfl, a, rfl, ⟨_, sq_of (e1 _ _ ha)⟩, for_list (K := K) (a := a) (xs := vs) (fun i σ H' => ∃ y4 y5 : Option V, σ = [some (.ref a), some (.int (m : Nat)), some (.ref r), some (.int ((((ps.take i).foldl (apS m) ([], 0)).2 : Nat) : Int)), y4, y5] ∧ Ex H H' ∧ PairsAt H' r ((ps.take i).foldl (apS m) ([], 0)).1)
      ⟨_, _, rfl, e1, [], upd_same, .nil⟩ (fun i σ H' _ hw => ?_) (fun i x σ H' hx hw => ?_) (fun σ H' hw => ?_)⟩
    · obtain ⟨_, _, _, e, _⟩ := hw
      exact sq_of (e _ _ ha)
    · obtain ⟨y4, y5, rfl, e2, us, hu, pu⟩ := hw
      obtain ⟨r0, p0, rfl, hp0, hr⟩ := hp.get hx
      refine ⟨r0, _, rfl, st_of (e2 _ _ hr), rfl, _, _, rfl, _, _, rfl, rfl, ?_⟩
      refine ⟨_, rfl, _, rfl, _, _, rfl, rfl, _, rfl, ?_⟩
      rw [take_next hp0, List.foldl_append]
      have lu := pu.len
      have lt := ap_len m (ps.take i) ([], 0)
      rw [List.length_take] at lt
      have lt2 : ((ps.take i).foldl (apS m) ([], 0)).1.length ≤ 1000 := by
        have : ([] : List (Nat × Nat)).length = 0 := rfl
        simp only [List.length_nil] at lt
        omega
      generalize (ps.take i).foldl (apS m) ([], 0) = S at *
      show if decide (((S.2 : Nat) : Int) ≤ ((p0.1 : Nat) : Int)) = true then _ else _
      by_cases hle : S.2 ≤ p0.1
      · rw [decide_eq_true (by omega)]
        refine iteT ⟨_, rfl, .inl ⟨rfl, _, sq_of hu⟩, _, rfl, _, rfl, by show 2 ≤ sizeLine; decide, fun q2 hq2 => ?_⟩
        refine ⟨r, us, _, rfl, rfl, Ex.new hq2 _ _ hu, sz_lt (by omega), ?_⟩
        have nrq : r ≠ q2 := fun z => by
          rw [z, hq2] at hu
          cases hu
        refine ⟨_, rfl, _, rfl, _, _, rfl, rfl, ?_⟩
        have ea : List.foldl (apS m) S [p0] = (S.1 ++ [p0], p0.1 + m) := by
          show apS m S p0 = _
          unfold apS
          rw [if_pos hle]
        rw [ea]
        refine ⟨some (V.int (p0.1 : Nat)), some (V.int (p0.2 : Nat)), rfl, (e2.trans (Ex.new hq2)).mut hr0, us ++ [.ref q2], upd_same, ?_⟩
        · refine Prs.upd (Prs.snoc (p := p0) upd_same (pu.ex (Ex.new hq2))) fun xs hh => ?_
          rw [upd_ne nrq, hu] at hh
          cases hh
      · rw [decide_eq_false (by omega)]
        have ea : List.foldl (apS m) S [p0] = S := by
          show apS m S p0 = _
          unfold apS
          rw [if_neg hle]
        rw [ea]
        exact iteF ⟨_, _, rfl, e2, us, hu, pu⟩
    · obtain ⟨y4, y5, rfl, e2, hu⟩ := hw
      rw [lv, List.take_length] at hu
      exact ⟨_, rfl, q _ _ e2 hr0 hu⟩
end
end Law

namespace Law
open PySem PySem.Spec PyProof.Rows L2 Evl
theorem WsG.snoc {L : List Nat} {m : Nat} {ws : List (List Nat)} {u : List Nat} (W : WsG L m ws) (hu : WG L m u) (hn : u ∉ ws) (hl : ws.length ≤ 2) : WsG L m (ws ++ [u]) := by
  refine ⟨?_, ?_, W.m1, W.m8, fun x hx => ?_, ?_⟩
  · rw [List.length_append]
    have := W.lo
    omega
  · rw [List.length_append]
    show ws.length + 1 ≤ 3
    omega
  · rcases List.mem_append.mp hx with h | h
    · exact W.all x h
    · rw [List.mem_singleton.mp h]
      exact hu
  · rw [List.nodup_append]
    refine ⟨W.nd, by simp, fun a ha b hb => ?_⟩
    rw [List.mem_singleton.mp hb]
    intro e
    exact hn (by rw [← e]; exact ha)
theorem wv_snoc (ws : List (List Nat)) (u : List Nat) : wv ws ++ [.str (tx u)] = wv (ws ++ [u]) := by
  unfold wv
  rw [List.map_append]
  rfl
section
variable {P : Program} {w : World} {K : PySem.W.Frag} {mg : Str → Option Value} {base : Heap}
theorem ok_words {f : Addr} {fd : FuncData} (F : Fun K "_law_words" "_law_words" s_lwords f fd) (T : Tx mg) (c_lword : Kn P w K mg base "_law_word" ["_law_pen_here", "_law_letters_here", "_law_width"] 3 spWord) :
    FnOk P w K mg base CX0 4 f fd ["_law_pen_here", "_law_letters_here", "_law_width", "_law_many"] spWords := by
  refine F.ok sc_lwords (fun vs H Q E h => ?_) (fun cdv A outer s H vs Q E hr h => ?_)
  · obtain ⟨p, H0, n, wd, mn, L, rfl, _⟩ := h
    rfl
  · obtain ⟨p, H0, n, wd, mn, L, rfl, P0, hn, hl0, hl1, hw1, hw8, hm1, hm3, q⟩ := h
    refine ⟨_, (pss_cons (ps_set (i := 4) sc_lwords.nd rfl (Or.inl rfl) (pe_lst (pa_cons (pe_call c_lword.ok (hr.mono (by decide)) (by rfl) c_lword.g c_lword.kp c_lword.b .nil pass0 (pa_cons (pv 0) (pa_cons (pv 1) (pa_cons (pv 2) pa_nil)))) pa_nil)))
      (pss_cons (ps_for PassesOwn.never rfl (pi_range1 (by rfl) T.range (pa_cons (pe_op op_sub (pv 3) pe_int) pa_nil)) (pg_name (i := 5) sc_lwords.nd rfl (Or.inl rfl)) (pss_cons (ps_set (i := 6) sc_lwords.nd rfl (Or.inl rfl) (pe_call c_lword.ok (hr.mono (by decide)) (by rfl) c_lword.g c_lword.kp c_lword.b .nil pass0 (pa_cons (pv 0) (pa_cons (pv 1) (pa_cons (pv 2) pa_nil)))))
      (pss_one (ps_if (pt_cmpR op_notIn_seq (pv 6) (pv 4) rfl) (pss_one (ps_expr (pe_bm PySem.F.plainAttrs_list PySem.F.slot_list_append PySem.F.type_list_append mt_append (pv 4) (pa_cons (pv 6) pa_nil)))) pss_nil))))
      (pss_one (ps_ret (pv 4))))), ?_⟩
    refine ⟨_, rfl, _, rfl, _, rfl, p, H0, n, wd, tx L, rfl, P0, by omega, by rw [tx_len]; omega, by rw [tx_len]; omega, hw1, hw8, fun H1 u P1 lu mu => ⟨by show 1 ≤ sizeLine; decide, fun r hr1 => ?_⟩⟩
    have r0 := fresh0 P1 hr1
    have r1 := fresh_ne P1 hr1
    have W1 : WsG L wd [u] := ⟨Nat.le_refl _, by show 1 ≤ 3; omega, hw1, hw8, fun x hx => by rw [List.mem_singleton.mp hx]; exact ⟨lu, mu⟩, by simp⟩
    refine ⟨_, rfl, _, _, rfl, rfl, _, rfl, by omega, by omega, ?_⟩
    rw [show ((mn : Int) - 1).toNat = mn - 1 by omega]
    refine for_range (lo := 0) (n := mn - 1) (fun i σ H' => ∃ y5 y6 : Option V, σ = [some (.ref p.d), some (.str (tx L)), some (.int (wd : Int)), some (.int (mn : Int)), some (.ref r), y5, y6] ∧ PenAt p H0 H' (n + 15 + 15 * i) ∧ ∃ ws, H' r = some (.lst (wv ws)) ∧ WsG L wd ws ∧ ws.length ≤ i + 1)
      ⟨none, none, rfl, P1.upd r0 r1, [u], upd_same, W1, Nat.le_refl _⟩ (fun i σ H' hi hw => ?_) (fun σ H' hw => ?_)
    · obtain ⟨y5, y6, rfl, P2, ws, hr2, W, lw⟩ := hw
      refine ⟨_, rfl, _, rfl, _, rfl, p, L2.upd H0 r (.lst (wv ws)), _, wd, tx L, rfl, P2.keep hr2 r1, by omega, by rw [tx_len]; omega, by rw [tx_len]; omega, hw1, hw8, fun H3 u2 P3 lu2 mu2 => ?_⟩
      have hr3 : H3 r = some (.lst (wv ws)) := P3.1 _ _ upd_same
      have P4 := P2.drop hr2 P3
      refine ⟨_, rfl, _, rfl, r, _, rfl, .inl (sq_of hr3), rfl, flat_wv ws, ?_⟩
      refine ⟨_, rfl, ?_⟩
      show if (!inV (V.str (tx u2)) (wv ws)) = true then _ else _
      rw [inV_wv]
      by_cases hin : u2 ∈ ws
      · rw [decide_eq_true hin]
        refine iteF ⟨_, _, rfl, P4.le (by omega), ws, hr3, W, by omega⟩
      · rw [decide_eq_false hin]
        refine iteT ⟨_, rfl, .inl ⟨rfl, _, sq_of hr3⟩, _, rfl, r, _, _, rfl, rfl, hr3, ?_, ?_⟩
        · rw [wv_len]
          exact sz_lt (by omega)
        · exact ⟨_, _, rfl, (P4.upd r0 r1).le (by omega), ws ++ [u2], by rw [upd_same, wv_snoc], W.snoc ⟨lu2, mu2⟩ hin (by omega), by rw [List.length_append]; show ws.length + 1 ≤ _; omega⟩
    · obtain ⟨y5, y6, rfl, P2, ws, hr2, W, lw⟩ := hw
      exact ⟨_, rfl, q _ _ ws (P2.le (by omega)) r0 hr2 W⟩
theorem ok_text {f : Addr} {fd : FuncData} (F : Fun K "_law_text" "_law_text" s_ltext f fd) (T : Tx mg) (c_ldraw : Kn P w K mg base "_law_draw" ["_law_pen_here", "_law_many"] 1 spDraw)
    (c_pickS : Kn P w K mg base "_law_pick" ["_law_pen_here", "_law_some"] 2 spPickS) (c_pickL : Kn P w K mg base "_law_pick" ["_law_pen_here", "_law_some"] 2 spPickL) :
    FnOk P w K mg base CX0 3 f fd ["_law_pen_here", "_law_letters_here", "_law_words_here", "_law_most"] spText := by
  refine F.ok sc_ltext (fun vs H Q E h => ?_) (fun cdv A outer s H vs Q E hr h => ?_)
  · obtain ⟨p, H0, n, m, L, a, ws, rfl, _⟩ := h
    rfl
  · obtain ⟨p, H0, n, m, L, a, ws, rfl, P0, hn, ha, W, hl0, hl1, q⟩ := h
    have w1 := W.lo
    have w3 := W.hi
    have w8 := W.m8
    have m1 := W.m1
    have nad : a ≠ p.d := fun z => by
      rw [z, P0.2.1] at ha
      cases ha
    refine ⟨_, (pss_cons (ps_par (i := 4) (j := 5) (by rfl) sc_ltext.nd rfl rfl (by decide) rfl rfl (pa_cons pe_str (pa_cons (pe_call c_ldraw.ok (hr.mono (by decide)) (by rfl) c_ldraw.g c_ldraw.kp c_ldraw.b .nil pass0 (pa_cons (pv 0) (pa_cons (pe_op op_add (pv 3) pe_int) pa_nil))) pa_nil)) (by rfl))
      (pss_cons (ps_while PassesOwn.never (pt_cmpR op_lt (pe_callB call_len_str (by rfl) T.len PySem.boot_len (pa_cons (pv 4) pa_nil)) (pv 5) (nomark _)) (pss_cons (ps_set (i := 6) sc_ltext.nd rfl (Or.inl rfl) (pe_call c_pickL.ok (hr.mono (by decide)) (by rfl) c_pickL.g c_pickL.kp c_pickL.b .nil pass0 (pa_cons (pv 0) (pa_cons (pv 2) pa_nil))))
      (pss_cons (ps_set (i := 7) sc_ltext.nd rfl (Or.inl rfl) (pe_op op_add_str (pe_slice sl_str (pv 6) po_none (po_some (pe_call c_ldraw.ok (hr.mono (by decide)) (by rfl) c_ldraw.g c_ldraw.kp c_ldraw.b .nil pass0 (pa_cons (pv 0) (pa_cons (pe_callB call_len_str (by rfl) T.len PySem.boot_len (pa_cons (pv 6) pa_nil)) pa_nil))))) (pe_call c_pickS.ok (hr.mono (by decide)) (by rfl) c_pickS.g c_pickS.kp c_pickS.b .nil pass0 (pa_cons (pv 0) (pa_cons (pv 1) pa_nil)))))
      (pss_one (ps_set (i := 4) sc_ltext.nd rfl (Or.inl rfl) (pe_op op_add_str (pv 4) (pe_call c_pickL.ok (hr.mono (by decide)) (by rfl) c_pickL.g c_pickL.kp c_pickL.b .nil pass0 (pa_cons (pv 0) (pa_cons (pe_lst (pa_cons (pv 6) (pa_cons (pv 7) (pa_cons (pe_call c_pickS.ok (hr.mono (by decide)) (by rfl) c_pickS.g c_pickS.kp c_pickS.b .nil pass0 (pa_cons (pv 0) (pa_cons (pv 1) pa_nil))) pa_nil)))) pa_nil)))))))))
      (pss_one (ps_ret (pe_slice sl_str (pv 4) po_none (po_some (pv 5))))))), ?_⟩
    refine ⟨_, rfl, _, rfl, _, _, rfl, rfl, p, H0, n, 12 + 1, rfl, P0, by omega, by omega, by omega, fun H1 r P1 r0 r1 => ⟨_, _, rfl, ?_⟩⟩
    obtain ⟨sz, rfl⟩ : ∃ k : Nat, r = (k : Int) := ⟨r.toNat, (Int.toNat_of_nonneg r0).symm⟩
    refine ⟨fun k σ H' => ∃ (X : List Nat) (y6 y7 : Option V), σ = [some (.ref p.d), some (.str (tx L)), some (.ref a), some (.int 12), some (.str (tx X)), some (.int (sz : Int)), y6, y7] ∧ PenAt p H0 H' (n + 1 + 5 * X.length) ∧ k = sz - X.length ∧ X.length ≤ 40 ∧ ∀ c ∈ X, c ∈ L,
      ⟨sz, [], none, none, ?_, P1, by simp, by simp, fun c hc => nomatch hc⟩, fun k σ H' hw => ?_⟩
    · show [some (V.ref p.d), some (V.str (tx L)), some (V.ref a), some (V.int 12), some (V.str (Str.ofString "")), some (V.int (sz : Int)), none, none] = _
      rw [show Str.ofString "" = tx [] by decide +kernel]
    obtain ⟨X, y6, y7, rfl, P2, hk, hX, mX⟩ := hw
    refine ⟨_, rfl, _, rfl, tx_le (by omega), _, rfl, _, _, rfl, rfl, _, rfl, ite2 (fun hb => ?_) (fun hb => ?_)⟩
    · have hlt : X.length < sz := by
        have := of_decide_eq_true hb
        rw [tx_len] at this
        omega
      refine ⟨fun σ2 H2 => ∃ k', k' < k ∧ ∃ (X : List Nat) (y6 y7 : Option V), σ2 = [some (.ref p.d), some (.str (tx L)), some (.ref a), some (.int 12), some (.str (tx X)), some (.int (sz : Int)), y6, y7] ∧ PenAt p H0 H2 (n + 1 + 5 * X.length) ∧ k' = sz - X.length ∧ X.length ≤ 40 ∧ ∀ c ∈ X, c ∈ L, fun σ2 H2 h => h, ?_⟩
      -- a word
      refine ⟨_, rfl, _, rfl, p, H0, a, _, wv ws, rfl, P2, by omega, P2.1 _ _ ha, by rw [wv_len]; omega, by rw [wv_len]; omega, fun H3 v P3 hv => ?_⟩
      obtain ⟨u, hu, rfl⟩ := List.mem_map.mp hv
      have gu := W.all u hu
      have lu := gu.len
      -- near
      refine ⟨_, rfl, _, rfl, _, rfl, _, rfl, tx_le (by omega), p, H0, _, _, rfl, P3, by omega, by rw [tx_len]; omega, by rw [tx_len]; omega, fun H4 r4 P4 r40 r41 => ?_⟩
      obtain ⟨at_, rfl⟩ : ∃ k : Nat, r4 = (k : Int) := ⟨r4.toNat, (Int.toNat_of_nonneg r40).symm⟩
      refine ⟨_, rfl, _, rfl, tx_le (by omega), _, rfl, _, rfl, p, H0, _, tx L, rfl, P4, by omega, by rw [tx_len]; omega, by rw [tx_len]; omega, fun H5 c P5 hc => ?_⟩
      rw [cut_to]
      refine ⟨_, _, rfl, rfl, ?_, ?_⟩
      · rw [tx_len, List.length_take]
        exact sz_le (show _ + 1 < 1000 by omega)
      have en : tx (u.take at_) ++ (⟨#[c]⟩ : Str) = tx (u.take at_ ++ [c]) := tx_app _ [c]
      rw [en]
      obtain ⟨nr, hnr⟩ : ∃ nr, u.take at_ ++ [c] = nr := ⟨_, rfl⟩
      have lnr : 1 ≤ nr.length ∧ nr.length ≤ 9 := by
        rw [← hnr, List.length_append, List.length_take]
        exact ⟨by show 1 ≤ _ + 1; omega, by show _ + 1 ≤ 9; omega⟩
      have mnr : ∀ x ∈ nr, x ∈ L := fun x hx => by
        rw [← hnr] at hx
        rcases List.mem_append.mp hx with h | h
        · exact gu.of x (List.mem_of_mem_take h)
        · rw [List.mem_singleton.mp h]
          exact hc
      rw [hnr]
      -- the piece
      refine ⟨_, rfl, _, rfl, _, rfl, _, rfl, _, rfl, _, rfl, p, H0, _, tx L, rfl, P5, by omega, by rw [tx_len]; omega, by rw [tx_len]; omega, fun H6 c2 P6 hc2 => ⟨by show 3 ≤ sizeLine; decide, fun l hl => ?_⟩⟩
      refine ⟨p, H0, l, _, _, rfl, P6.ex (Ex.new hl), by omega, upd_same, by show 0 < 3; decide, by show 3 < 1000; decide, fun H7 v P7 hv => ?_⟩
      obtain ⟨pc, rfl, lp1, lp9, mp⟩ : ∃ pc : List Nat, v = .str (tx pc) ∧ 1 ≤ pc.length ∧ pc.length ≤ 9 ∧ ∀ x ∈ pc, x ∈ L := by
        rcases List.mem_cons.mp hv with h | h
        · exact ⟨u, h, by omega, by omega, gu.of⟩
        rcases List.mem_cons.mp h with h | h
        · exact ⟨nr, h, lnr.1, lnr.2, mnr⟩
        · exact ⟨[c2], List.mem_singleton.mp h, by show 1 ≤ 1; omega, by show 1 ≤ 9; omega, fun x hx => by rw [List.mem_singleton.mp hx]; exact hc2⟩
      refine ⟨_, _, rfl, rfl, ?_, ?_⟩
      · rw [tx_len, tx_len]
        exact sz_le (by omega)
      rw [tx_app]
      refine ⟨sz - (X ++ pc).length, ?_, X ++ pc, some (V.str (tx u)), some (V.str (tx nr)), rfl, P7.le ?_, rfl, ?_, fun x hx => ?_⟩
      · rw [List.length_append]
        omega
      · rw [List.length_append]
        omega
      · rw [List.length_append]
        omega
      · rcases List.mem_append.mp hx with h | h
        · exact mX x h
        · exact mp x h
    · refine ⟨_, rfl, _, rfl, _, rfl, _, rfl, tx_le (by omega), ?_⟩
      rw [cut_to]
      refine q _ _ (P2.le (by omega)) ?_ fun c hc => mX c (List.mem_of_mem_take hc)
      rw [List.length_take]
      omega
def wantF (wish : Str) (S : List (Nat × Nat)) (m : Nat) : List (Nat × Nat) := if wish = Str.ofString "first" then S.take 1 else if wish = Str.ofString "apart" then apF m S else S
def spWantL : Sp := fun vs H Q _ => ∃ (L : List Nat) (a : Addr) (ws : List (List Nat)) (m : Nat) (t : List Nat) (wish : Str), vs = [.str (tx L), .ref a, .str (tx t), .str wish] ∧ LG L ∧ H a = some (.lst (wv ws)) ∧ WsG L m ws ∧ t.length < 400 ∧ (∀ c ∈ t, c ∈ L) ∧ wish ∈ wishes ∧
  ∀ r H', Ex H H' → H r = none → PairsAt H' r (wantF wish (standN ws t m (t.length + 1 - m)) m) → Q (.ref r) H'
def spWantT : Sp := fun vs H Q _ => ∃ (L : List Nat) (a : Addr) (ws : List (List Nat)) (m : Nat) (t : List Nat) (wish : Str), vs = [.str (tx L), .ref a, .str (tx t), .str wish] ∧ LG L ∧ H a = some (.tup (wv ws)) ∧ WsG L m ws ∧ t.length < 400 ∧ (∀ c ∈ t, c ∈ L) ∧ wish ∈ wishes ∧
  ∀ r H', Ex H H' → H r = none → PairsAt H' r (wantF wish (standN ws t m (t.length + 1 - m)) m) → Q (.ref r) H'
theorem prs_cut {H : Hp} {vs : List V} {ps : List (Nat × Nat)} (h : Prs H vs ps) : Prs H (cutV vs none (some 1)) (ps.take 1) := by
  have e : cutV vs none (some 1) = vs.take 1 := by
    unfold cutV
    rw [show (1 : Int) = ((1 : Nat) : Int) from rfl, HT.sIx_none, HT.sIx_nat, Nat.sub_zero, List.drop_zero, List.take_eq_take_iff]
    omega
  rw [e]
  exact h.take 1
end
end Law


namespace Law
open PySem PySem.Spec PyProof.Rows L2 Evl
/-- a value that is no text -/
def NoS (K : PySem.W.Frag) (H : Hp) (v : V) : Prop := ∃ t, TyX K H v t ∧ PySem.W.kitOne K t (.type "str") = some false
def azB (c : Nat) : Bool := decide (97 ≤ c) && decide (c ≤ 122)
def areB (x : List Nat) : Bool := decide (2 ≤ x.length ∧ x.length ≤ 4) && (x.all azB && decide (ST.dct (x.map sg) x.length = x.length))
theorem areB_good {L : List Nat} (h : LG L) : areB L = true := by
  unfold areB
  rw [decide_eq_true (show 2 ≤ L.length ∧ L.length ≤ 4 from ⟨h.lo, h.hi⟩), decide_eq_true (dct_nodup h.nd _ (Nat.le_refl _)), Bool.and_true, Bool.true_and, List.all_eq_true]
  intro c hc
  have := h.az c hc
  unfold azB
  rw [decide_eq_true this.1, decide_eq_true this.2]
  rfl
theorem a_dec (c : Nat) : (!decide ((sg c).cps.toList < (Str.ofString "a").cps.toList)) = decide (97 ≤ c) := by
  by_cases h : 97 ≤ c
  · rw [le_a h, decide_eq_true h]
  · rw [decide_eq_false h, show (Str.ofString "a").cps.toList = [97] by decide +kernel, show (sg c).cps.toList = [c] from rfl, decide_eq_true]
    · rfl
    · rw [List.cons_lt_cons_iff]
      exact .inl (by omega)
theorem z_dec (c : Nat) : (!decide ((Str.ofString "z").cps.toList < (sg c).cps.toList)) = decide (c ≤ 122) := by
  by_cases h : c ≤ 122
  · rw [le_z h, decide_eq_true h]
  · rw [decide_eq_false h, show (Str.ofString "z").cps.toList = [122] by decide +kernel, show (sg c).cps.toList = [c] from rfl, decide_eq_true]
    · rfl
    · rw [List.cons_lt_cons_iff]
      exact .inl (by omega)
def wdB (L x : List Nat) : Bool := decide (1 ≤ x.length ∧ x.length ≤ 8 ∧ ∀ c ∈ x, c ∈ L)
def spAreG (K : PySem.W.Frag) : Sp := fun vs H Q _ => ∃ v, vs = [v] ∧ ((∃ x, v = .str (tx x) ∧ x.length < 500 ∧ ∀ H', Ex H H' → Q (.bl (areB x)) H') ∨ (NoS K H v ∧ Q (.bl false) H))
def spWS (K : PySem.W.Frag) : Sp := fun vs H Q _ => ∃ L : List Nat, L.length ≤ 10 ∧ ((∃ T, vs = [.str (tx L), .str (tx T)] ∧ (∀ H', Ex H H' → (∀ c ∈ T, c ∈ L) → Q .non H') ∧
    ∀ H' i c, Ex H H' → T[i]? = some c → c ∉ L → (∀ j d, j < i → T[j]? = some d → d ∈ L) → Q (.int (i : Nat)) H') ∨
  ∃ v, vs = [.str (tx L), v] ∧ NoS K H v ∧ Q (.int 0) H)
def spWdG (K : PySem.W.Frag) : Sp := fun vs H Q _ => ∃ (L : List Nat) (v : V), vs = [.str (tx L), v] ∧ L.length ≤ 10 ∧ ((∃ x, v = .str (tx x) ∧ x.length < 900 ∧ ∀ H', Ex H H' → Q (.bl (wdB L x)) H') ∨ (NoS K H v ∧ Q (.bl false) H))
def wishB (z : Str) : Bool := decide (z ∈ wishes)
def spWishG (K : PySem.W.Frag) : Sp := fun vs H Q _ => ∃ v, vs = [v] ∧ ((∃ z, v = .str z ∧ ∀ H', Ex H H' → Q (.bl (wishB z)) H') ∨ (NoS K H v ∧ Q (.bl false) H))
theorem tx_all (z : Str) : z = tx z.cps.toList := by
  cases z
  simp [tx]
section
variable {P : Program} {w : World} {K : PySem.W.Frag} {mg : Str → Option Value} {base : Heap}
theorem ok_areG {f : Addr} {fd : FuncData} (F : Fun K "are_letters" "are_letters" s_are_letters f fd) (T : Tx mg) : FnOk P w K mg base CX0 1 f fd ["value"] (spAreG K) := by
  refine F.ok sc_are_letters (fun vs H Q E h => ?_) (fun cdv A outer s H vs Q E hr h => ?_)
  · obtain ⟨v, rfl, _⟩ := h
    rfl
  · obtain ⟨v, rfl, h⟩ := h
    refine ⟨_, (pss_cons (ps_if (PW.pt (pw_or (pt_not (pt_val (pe_callB call_isi (by rfl) T.isinstance PyProof.Rows.boot_isinstance (pa_cons (pv 0) (pa_cons (pe_bltn (v := .ty "str") (by rfl) T.str PyProof.Rows.boot_str rfl) pa_nil))))) (pw_or1 (pt_not (pt_chain op_le op_le pe_int (pe_callB call_len_str (by rfl) T.len PySem.boot_len (pa_cons (pv 0) pa_nil)) pe_int))))) (pss_one (ps_ret pe_bl)) pss_nil)
      (pss_one (ps_ret (pe_and (pe_callB (cr_all rfl) (by rfl) T.all PyProof.Rows.boot_all (pa_cons (pe_lc (own := [("sign", 1)]) (g := gName 1) (tt := tYes) rfl sc_are_letters.nd (pi_str (pv 0)) (blkOk_by (N := N_are_letters) (sc := defScope s_are_letters) (by decide +kernel)) (fun _ _ _ _ _ => (pg_name (i := 1) sc_are_letters.nd rfl (Or.inl rfl))) (fun _ _ _ _ _ => pts_nil) (fun _ _ _ _ _ => (pe_chain op_le_str op_le_str pe_str (pv 1) pe_str))) pa_nil)) (pe_one (pe_cmpR op_eq (EN.pe_lenSetS rfl (by rfl) T.len (by rfl) T.set (pv 0)) (pe_callB call_len_str (by rfl) T.len PySem.boot_len (pa_cons (pv 0) pa_nil)) (nomark _))))))), ?_⟩
    rcases h with ⟨x, rfl, hx, q⟩ | ⟨⟨t, ty, kk⟩, q⟩
    · refine ⟨_, rfl, _, _, _, _, true, rfl, .ty _, .base (.str _), kit_ss, true, rfl, ?_⟩
      have q0 := q H (Ex.refl _)
      by_cases h2 : 2 ≤ x.length
      · by_cases h4 : x.length ≤ 4
        · refine ⟨_, rfl, _, rfl, tx_le (by omega), _, _, rfl, rfl, _, rfl, ite2 (fun _ => ?_) (fun hn => absurd (decide_eq_true (by rw [tx_len]; omega)) hn)⟩
          refine ⟨_, _, rfl, rfl, _, rfl, ite2 (fun hb => ?_) (fun _ => ?_)⟩
          · rw [tx_len, decide_eq_true (by omega)] at hb
            cases hb
          refine ⟨_, rfl, _, rfl, fun D hD => ?_⟩
          refine lc_str (x := tx x) (fun i H' => Ex H H' ∧ H' D = some (.lst (((x.take i).map azB).map V.bl))) ⟨Ex.new hD, upd_same⟩ (fun i c H' hic hw => ?_) (fun H' hw => ?_)
          · obtain ⟨e, hl⟩ := hw
            have hc := tx_at hic
            have hi := (List.getElem?_eq_some_iff.mp hc).1
            have fin : ∀ b : Bool, azB c = b → ∃ acc, H' D = some (.lst acc) ∧ acc.length < sizeLine ∧ Ex H (L2.upd H' D (.lst (acc ++ [V.bl b]))) ∧ (L2.upd H' D (.lst (acc ++ [V.bl b]))) D = some (.lst (((x.take (i + 1)).map azB).map V.bl)) := fun b hb => by
              refine ⟨_, hl, ?_, e.mut hD, ?_⟩
              · rw [List.length_map, List.length_map, List.length_take]
                exact sz_lt (by omega)
              · rw [upd_same, List.take_add_one, hc, List.map_append, List.map_append]
                show _ = some (HO.lst (_ ++ [V.bl (azB c)]))
                rw [hb]
            refine ⟨rfl, _, rfl, _, _, rfl, rfl, _, rfl, ite2 (fun hb => ?_) (fun hn => ?_)⟩
            · refine ⟨_, _, rfl, rfl, ?_⟩
              refine fin _ ?_
              have hb2 : (!decide ((sg c).cps.toList < (Str.ofString "a").cps.toList)) = true := hb
              rw [a_dec] at hb2
              unfold azB
              rw [hb2, Bool.true_and]
              exact (z_dec c).symm
            · refine fin _ ?_
              have hb2 : ¬ (!decide ((sg c).cps.toList < (Str.ofString "a").cps.toList)) = true := hn
              rw [a_dec, Bool.not_eq_true] at hb2
              unfold azB
              rw [hb2, Bool.false_and]
          · obtain ⟨e, hl⟩ := hw
            rw [tx_size, List.take_length] at hl
            refine ⟨D, _, rfl, sq_of hl, _, rfl, ?_⟩
            have q1 := q H' e
            have ea : areB x = ((x.map azB).all id && decide (ST.dct (x.map sg) x.length = x.length)) := by
              unfold areB
              rw [decide_eq_true (show 2 ≤ x.length ∧ x.length ≤ 4 from ⟨h2, h4⟩), Bool.true_and, List.all_map]
              rfl
            rw [ea] at q1
            cases hall : (x.map azB).all id with
            | false =>
              rw [hall, Bool.false_and] at q1
              exact q1
            | true =>
              rw [hall, Bool.true_and] at q1
              refine ⟨_, rfl, _, rfl, by rw [tx_size]; omega, _, rfl, _, rfl, tx_le (by omega), rfl, ?_⟩
              have e2 : decide (V.int ((ST.dct (ST.signsOf (tx x)) (tx x).cps.size : Nat) : Int) = V.int (((tx x).length : Nat) : Int)) = decide (ST.dct (x.map sg) x.length = x.length) := by
                rw [decide_eq_decide, sgs_of, tx_size, tx_len]
                constructor
                · intro z
                  have := V.int.inj z
                  omega
                · intro z
                  rw [z]
              show Q (V.bl (decide (V.int ((ST.dct (ST.signsOf (tx x)) (tx x).cps.size : Nat) : Int) = V.int (((tx x).length : Nat) : Int)))) H'
              rw [e2]
              exact q1
        · have ea : areB x = false := by
            unfold areB
            rw [decide_eq_false (fun z => h4 z.2), Bool.false_and]
          rw [ea] at q0
          refine ⟨_, rfl, _, rfl, tx_le (by omega), _, _, rfl, rfl, _, rfl, ite2 (fun _ => ?_) (fun _ => ?_)⟩
          · refine ⟨_, _, rfl, rfl, _, rfl, ite2 (fun _ => q0) (fun hb => absurd (by rw [tx_len, decide_eq_false (by omega)]; rfl) hb)⟩
          · exact ⟨_, rfl, q0⟩
      · have ea : areB x = false := by
          unfold areB
          rw [decide_eq_false (fun z => h2 z.1), Bool.false_and]
        rw [ea] at q0
        refine ⟨_, rfl, _, rfl, tx_le (by omega), _, _, rfl, rfl, _, rfl, ite2 (fun hb => absurd (of_decide_eq_true hb) (by rw [tx_len]; omega)) (fun _ => ?_)⟩
        exact ⟨_, rfl, q0⟩
    · exact ⟨_, rfl, _, _, _, _, false, rfl, .ty _, ty, kk, false, rfl, q⟩
theorem ok_ws {f : Addr} {fd : FuncData} (F : Fun K "wrong_sign" "wrong_sign" s_wrong_sign f fd) (T : Tx mg) : FnOk P w K mg base CX0 1 f fd ["letters", "text"] (spWS K) := by
  refine F.ok sc_wrong_sign (fun vs H Q E h => ?_) (fun cdv A outer s H vs Q E hr h => ?_)
  · obtain ⟨L, _, ⟨T, rfl, _⟩ | ⟨v, rfl, _⟩⟩ := h <;> rfl
  · obtain ⟨L, hL, h⟩ := h
    refine ⟨_, (pss_cons (ps_if (pt_not (pt_val (pe_callB call_isi (by rfl) T.isinstance PyProof.Rows.boot_isinstance (pa_cons (pv 1) (pa_cons (pe_bltn (v := .ty "str") (by rfl) T.str PyProof.Rows.boot_str rfl) pa_nil))))) (pss_one (ps_ret pe_int)) pss_nil)
      (pss_cons (ps_for PassesOwn.never rfl (EN.pi_enumS (by rfl) T.enumerate (pa_cons (pv 1) pa_nil)) (pg_tup (by rfl) (pgs_cons (pg_name (i := 2) sc_wrong_sign.nd rfl (Or.inl rfl)) (pgs_cons (pg_name (i := 3) sc_wrong_sign.nd rfl (Or.inl rfl)) pgs_nil))) (pss_one (ps_if (pt_cmpR op_notIn_sign (pv 3) (pv 0) rfl) (pss_one (ps_ret (pv 2))) pss_nil)))
      (pss_one (ps_ret pe_non)))), ?_⟩
    rcases h with ⟨T, rfl, q1, q2⟩ | ⟨v, rfl, ⟨t, ty, kk⟩, q⟩
    · refine ⟨_, rfl, _, _, _, _, true, rfl, .ty _, .base (.str _), kit_ss, true, rfl, ?_⟩
      refine ⟨_, rfl, _, rfl, ?_⟩
      refine EN.for_enumS (x := tx T) (fun i σ H' => ∃ y2 y3 : Option V, σ = [some (.str (tx L)), some (.str (tx T)), y2, y3] ∧ Ex H H' ∧ ∀ j d, j < i → T[j]? = some d → d ∈ L) ⟨none, none, rfl, Ex.refl _, fun j d hj => absurd hj (Nat.not_lt_zero _)⟩ (fun i c T' σ H' hic hw hT => ?_) (fun σ H' hw => ?_)
      · obtain ⟨y2, y3, rfl, e, ih⟩ := hw
        have hc := tx_at hic
        refine ⟨T', _, rfl, .inl (.inl upd_same), rfl, _, _, rfl, _, _, rfl, rfl, ?_⟩
        refine ⟨_, rfl, _, rfl, c, _, rfl, rfl, _, rfl, ?_⟩
        rw [show (tx L).cps.toList = L from rfl]
        by_cases hm : c ∈ L
        · rw [decide_eq_true hm]
          refine ⟨_, _, rfl, e.trans (Ex.new hT), fun j d hj hd => ?_⟩
          by_cases hji : j = i
          · rw [hji, hc] at hd
            rw [← Option.some.inj hd]
            exact hm
          · exact ih j d (by omega) hd
        · rw [decide_eq_false hm]
          exact ⟨_, rfl, q2 _ i c (e.trans (Ex.new hT)) hc hm ih⟩
      · obtain ⟨y2, y3, rfl, e, ih⟩ := hw
        refine q1 _ e fun c hc => ?_
        obtain ⟨j, hj, rfl⟩ := List.mem_iff_getElem.mp hc
        exact ih j _ (by rw [tx_size]; exact hj) (List.getElem?_eq_getElem hj)
    · refine ⟨_, rfl, _, _, _, _, false, rfl, .ty _, ty, kk, false, rfl, ?_⟩
      exact q
theorem ok_wdG {f : Addr} {fd : FuncData} (F : Fun K "_is_word" "_is_word" s_is_word f fd) (T : Tx mg) (c_wrong_sign : Kn P w K mg base "wrong_sign" ["letters", "text"] 1 (spWS K)) : FnOk P w K mg base CX0 2 f fd ["letters", "value"] (spWdG K) := by
  refine F.ok sc_is_word (fun vs H Q E h => ?_) (fun cdv A outer s H vs Q E hr h => ?_)
  · obtain ⟨L, v, rfl, _⟩ := h
    rfl
  · obtain ⟨L, v, rfl, hL, h⟩ := h
    refine ⟨_, (pss_one (ps_ret (pe_and (pe_callB call_isi (by rfl) T.isinstance PyProof.Rows.boot_isinstance (pa_cons (pv 1) (pa_cons (pe_bltn (v := .ty "str") (by rfl) T.str PyProof.Rows.boot_str rfl) pa_nil))) (pe_and (pe_chain op_le op_le pe_int (pe_callB call_len_str (by rfl) T.len PySem.boot_len (pa_cons (pv 1) pa_nil)) pe_int) (pe_one (pe_cmpR op_isN (pe_call c_wrong_sign.ok (hr.mono (by decide)) (by rfl) c_wrong_sign.g c_wrong_sign.kp c_wrong_sign.b .nil pass0 (pa_cons (pv 0) (pa_cons (pv 1) pa_nil))) pe_non (nomark _))))))), ?_⟩
    rcases h with ⟨x, rfl, hx, q⟩ | ⟨⟨t, ty, kk⟩, q⟩
    · have q0 := q H (Ex.refl _)
      refine ⟨_, rfl, _, _, _, _, true, rfl, .ty _, .base (.str _), kit_ss, true, rfl, ?_⟩
      by_cases h1 : 1 ≤ x.length
      · by_cases h8 : x.length ≤ 8
        · refine ⟨_, rfl, _, rfl, tx_le (by omega), _, _, rfl, rfl, _, rfl, ite2 (fun _ => ?_) (fun hn => absurd (decide_eq_true (by rw [tx_len]; omega)) hn)⟩
          refine ⟨_, _, rfl, rfl, _, rfl, ite2 (fun _ => ?_) (fun hn => absurd (decide_eq_true (by rw [tx_len]; omega)) hn)⟩
          refine ⟨_, rfl, _, rfl, L, hL, .inl ⟨x, rfl, fun H' e hall => ⟨rfl, ?_⟩, fun H' i c e hi hc _ => ⟨rfl, ?_⟩⟩⟩
          · have ew : wdB L x = true := decide_eq_true ⟨h1, h8, hall⟩
            have q1 := q H' e
            rw [ew] at q1
            exact q1
          · have ew : wdB L x = false := decide_eq_false fun z => hc (z.2.2 c (List.mem_of_getElem? hi))
            have q1 := q H' e
            rw [ew] at q1
            exact q1
        · have ew : wdB L x = false := decide_eq_false fun z => h8 z.2.1
          rw [ew] at q0
          refine ⟨_, rfl, _, rfl, tx_le (by omega), _, _, rfl, rfl, _, rfl, ite2 (fun _ => ?_) (fun hn => absurd (decide_eq_true (by rw [tx_len]; omega)) hn)⟩
          exact ⟨_, _, rfl, rfl, _, rfl, ite2 (fun hb => absurd (of_decide_eq_true hb) (by rw [tx_len]; omega)) (fun _ => q0)⟩
      · have ew : wdB L x = false := decide_eq_false fun z => h1 z.1
        rw [ew] at q0
        exact ⟨_, rfl, _, rfl, tx_le (by omega), _, _, rfl, rfl, _, rfl, ite2 (fun hb => absurd (of_decide_eq_true hb) (by rw [tx_len]; omega)) (fun _ => ⟨false, rfl, q0⟩)⟩
    · exact ⟨_, rfl, _, _, _, _, false, rfl, .ty _, ty, kk, false, rfl, q⟩
theorem inW (z : Str) : inV (.str z) (wishes.map V.str) = wishB z := by
  unfold inV wishB
  rw [List.any_map, Bool.eq_iff_iff, List.any_eq_true, decide_eq_true_eq]
  constructor
  · rintro ⟨y, hy, he⟩
    have he2 : (y == z) = true := he
    rw [beq_iff_eq] at he2
    rw [← he2]
    exact hy
  · intro h
    exact ⟨z, h, by show (z == z) = true; rw [beq_iff_eq]⟩
theorem ok_wishG {f : Addr} {fd : FuncData} (F : Fun K "is_wish" "is_wish" s_is_wish f fd) (T : Tx mg) : FnOk P w K mg base CX0 1 f fd ["value"] (spWishG K) := by
  refine F.ok sc_is_wish (fun vs H Q E h => ?_) (fun cdv A outer s H vs Q E hr h => ?_)
  · obtain ⟨z, rfl, _⟩ := h
    rfl
  · obtain ⟨v, rfl, h⟩ := h
    refine ⟨_, (pss_one (ps_ret (pe_and (pe_callB call_isi (by rfl) T.isinstance PyProof.Rows.boot_isinstance (pa_cons (pv 0) (pa_cons (pe_bltn (v := .ty "str") (by rfl) T.str PyProof.Rows.boot_str rfl) pa_nil))) (pe_one (pe_cmpR op_in_seq (pv 0) (pe_tup (pa_cons pe_str (pa_cons pe_str (pa_cons pe_str pa_nil)))) rfl))))), ?_⟩
    rcases h with ⟨z, rfl, q⟩ | ⟨⟨t, ty, kk⟩, q⟩
    · refine ⟨_, rfl, _, _, _, _, true, rfl, .ty _, .base (.str _), kit_ss, true, rfl, ?_⟩
      refine ⟨_, rfl, by show 3 ≤ sizeLine; decide, fun t ht => ?_⟩
      refine ⟨t, wishes.map V.str, rfl, .inr (st_of upd_same), rfl, rfl, ?_⟩
      rw [inW z]
      exact q _ (Ex.new ht)
    · exact ⟨_, rfl, _, _, _, _, false, rfl, .ty _, ty, kk, false, rfl, q⟩
end
end Law


namespace Law
open PySem PySem.Spec PyProof.Rows L2 Evl
/-- an element of the words: a text, or no text -/
inductive El (K : PySem.W.Frag) (H : Hp) : V → Option (List Nat) → Prop
  | txt (x : List Nat) : x.length < 900 → El K H (.str (tx x)) (some x)
  | odd {v : V} : NoS K H v → El K H v none
inductive Els (K : PySem.W.Frag) (H : Hp) : List V → List (Option (List Nat)) → Prop
  | nil : Els K H [] []
  | cons {v : V} {e : Option (List Nat)} {vs : List V} {es : List (Option (List Nat))} : El K H v e → Els K H vs es → Els K H (v :: vs) (e :: es)
theorem Els.len {K : PySem.W.Frag} {H : Hp} {vs : List V} {es : List (Option (List Nat))} (h : Els K H vs es) : vs.length = es.length := by
  induction h with
  | nil => rfl
  | cons _ _ ih => rw [List.length_cons, List.length_cons, ih]
theorem Els.get {K : PySem.W.Frag} {H : Hp} {vs : List V} {es : List (Option (List Nat))} (h : Els K H vs es) : ∀ {i : Nat} {v : V}, vs[i]? = some v → ∃ e, es[i]? = some e ∧ El K H v e := by
  induction h with
  | nil => intro i v h; cases h
  | @cons v e vs es h1 h2 ih =>
    intro i u hu
    cases i with
    | zero => cases hu; exact ⟨e, rfl, h1⟩
    | succ i => exact ih hu
theorem Els.get' {K : PySem.W.Frag} {H : Hp} {vs : List V} {es : List (Option (List Nat))} (h : Els K H vs es) : ∀ {i : Nat} {e : Option (List Nat)}, es[i]? = some e → ∃ v, vs[i]? = some v ∧ El K H v e := by
  induction h with
  | nil => intro i v h; cases h
  | @cons v e vs es h1 h2 ih =>
    intro i u hu
    cases i with
    | zero => cases hu; exact ⟨v, rfl, h1⟩
    | succ i => exact ih hu
theorem TyOf_ex {K : PySem.W.Frag} {H H' : Hp} {v : V} {t : Value} (h : TyOf K H v t) (e : Ex H H') : TyOf K H' v t := by
  cases h with
  | non => exact .non
  | bl x => exact .bl x
  | int i => exact .int i
  | str x => exact .str x
  | flt x => exact .flt x
  | lst h => exact .lst (e _ _ h)
  | frz h => exact .frz (e _ _ h)
  | tup h => exact .tup (e _ _ h)
  | dK h => exact .dK (e _ _ h)
  | dT h => exact .dT (e _ _ h)
  | ins h a b c d f => exact .ins (e _ _ h) a b c d f
theorem TyX_ex {K : PySem.W.Frag} {H H' : Hp} {v : V} {t : Value} (h : TyX K H v t) (e : Ex H H') : TyX K H' v t := by
  cases h with
  | base h => exact .base (TyOf_ex h e)
  | byt b => exact .byt b
  | set h => exact .set (e _ _ h)
  | kList h c => exact .kList h c
  | kTuple h c => exact .kTuple h c
  | kDict h c => exact .kDict h c
  | fTuple h => exact .fTuple (e _ _ h)
  | fDict h => exact .fDict (e _ _ h)
theorem NoS.ex {K : PySem.W.Frag} {H H' : Hp} {v : V} (h : NoS K H v) (e : Ex H H') : NoS K H' v := by
  obtain ⟨t, ty, k⟩ := h
  exact ⟨t, TyX_ex ty e, k⟩
theorem El.ex {K : PySem.W.Frag} {H H' : Hp} {v : V} {x : Option (List Nat)} (h : El K H v x) (e : Ex H H') : El K H' v x := by
  cases h with
  | txt x l => exact .txt x l
  | odd n => exact .odd (n.ex e)
theorem Els.ex {K : PySem.W.Frag} {H H' : Hp} {vs : List V} {es : List (Option (List Nat))} (h : Els K H vs es) (e : Ex H H') : Els K H' vs es := by
  induction h with
  | nil => exact .nil
  | cons h1 _ ih => exact .cons (h1.ex e) ih
def lenB (es : List (Option (List Nat))) (x : List Nat) : Bool := match es[0]? with | some (some y) => decide (x.length = y.length) | _ => false
/-- the word at i is right, those ahead of it being so -/
def goodB (L : List Nat) (es : List (Option (List Nat))) (i : Nat) : Bool :=
  match es[i]? with
  | some (some x) => wdB L x && lenB es x && !decide (some x ∈ es.take i)
  | _ => false
/-- the first wrong place of the words -/
def badW (L : List Nat) (es : List (Option (List Nat))) : Option Nat :=
  if es.length = 0 then some 0 else if !goodB L es 0 then some 0 else if es.length = 1 then none else if !goodB L es 1 then some 1 else if es.length = 2 then none else if !goodB L es 2 then some 2 else if es.length = 3 then none else some 3
theorem bad_nil {L : List Nat} {es : List (Option (List Nat))} (h : es.length = 0) : badW L es = some 0 := if_pos h
theorem bad_at {L : List Nat} {es : List (Option (List Nat))} {i : Nat} (h3 : i < 3) (hl : i < es.length) (hg : ∀ j, j < i → goodB L es j = true) (hb : goodB L es i = false) : badW L es = some i := by
  unfold badW
  rw [if_neg (by omega)]
  by_cases h0 : i = 0
  · subst h0
    rw [hb]
    rfl
  rw [hg 0 (by omega), if_neg (by decide), if_neg (by omega)]
  by_cases h1 : i = 1
  · subst h1
    rw [hb]
    rfl
  have h2 : i = 2 := by omega
  subst h2
  rw [hg 1 (by omega), if_neg (by decide), if_neg (by omega), hb]
  rfl
theorem bad_none {L : List Nat} {es : List (Option (List Nat))} (h0 : es.length ≠ 0) (h3 : es.length ≤ 3) (hg : ∀ j, j < es.length → goodB L es j = true) : badW L es = none := by
  unfold badW
  rw [if_neg h0, hg 0 (by omega), if_neg (by decide)]
  by_cases h1 : es.length = 1
  · rw [if_pos h1]
  rw [if_neg h1, hg 1 (by omega), if_neg (by decide)]
  by_cases h2 : es.length = 2
  · rw [if_pos h2]
  rw [if_neg h2, hg 2 (by omega), if_neg (by decide), if_pos (by omega)]
theorem bad_3 {L : List Nat} {es : List (Option (List Nat))} (h3 : 3 < es.length) (hg : ∀ j, j < 3 → goodB L es j = true) : badW L es = some 3 := by
  unfold badW
  rw [if_neg (by omega), hg 0 (by omega), if_neg (by decide), if_neg (by omega), hg 1 (by omega), if_neg (by decide), if_neg (by omega), hg 2 (by omega), if_neg (by decide), if_neg (by omega)]
def spWWG (K : PySem.W.Frag) : Sp := fun vs H Q _ => ∃ (L : List Nat) (a : Addr) (xs : List V) (es : List (Option (List Nat))), vs = [.str (tx L), .ref a] ∧ L.length ≤ 10 ∧ H a = some (.lst xs) ∧ Els K H xs es ∧ xs.length < 100 ∧
  ∀ H', Ex H H' → (∀ i : Nat, badW L es = some i → Q (.int i) H') ∧ (badW L es = none → Q .non H')
theorem good_txt {L : List Nat} {es : List (Option (List Nat))} {i : Nat} (h : goodB L es i = true) : ∃ x, es[i]? = some (some x) := by
  unfold goodB at h
  split at h
  · exact ⟨_, by assumption⟩
  · cases h
/-- the words ahead, all of them texts -/
theorem els_texts {K : PySem.W.Frag} {H : Hp} {xs : List V} {es : List (Option (List Nat))} (E : Els K H xs es) : ∀ i, (∀ j, j < i → ∃ x, es[j]? = some (some x)) → i ≤ xs.length → ∃ ws : List (List Nat), xs.take i = wv ws ∧ es.take i = ws.map some
  | 0, _, _ => ⟨[], rfl, rfl⟩
  | i + 1, h, hl => by
    obtain ⟨ws, e1, e2⟩ := els_texts E i (fun j hj => h j (by omega)) (by omega)
    obtain ⟨x, hx⟩ := h i (by omega)
    obtain ⟨v, hv, hE⟩ := E.get' hx
    cases hE with
    | txt x l =>
      refine ⟨ws ++ [x], ?_, ?_⟩
      · rw [List.take_add_one, hv, e1]
        unfold wv
        rw [List.map_append]
        rfl
      · rw [List.take_add_one, hx, e2, List.map_append]
        rfl
section
variable {P : Program} {w : World} {K : PySem.W.Frag} {mg : Str → Option Value} {base : Heap}
theorem ok_wwG {f : Addr} {fd : FuncData} (F : Fun K "wrong_word" "wrong_word" s_wrong_word f fd) (T : Tx mg) (c_islistL : Kn P w K mg base "is_list" ["value"] 1 spIsL)
    (c_is_word : Kn P w K mg base "_is_word" ["letters", "value"] 2 (spWdG K)) : FnOk P w K mg base CX0 3 f fd ["letters", "words"] (spWWG K) := by
  refine F.ok sc_wrong_word (fun vs H Q E h => ?_) (fun cdv A outer s H vs Q E hr h => ?_)
  · obtain ⟨L, a, xs, es, rfl, _⟩ := h
    rfl
  · obtain ⟨L, a, xs, es, rfl, hL, ha, EE, hx, q⟩ := h
    have le := EE.len
    refine ⟨_, (pss_cons (ps_if (PW.pt (pw_or (pt_not (pt_val (pe_call c_islistL.ok (hr.mono (by decide)) (by rfl) c_islistL.g c_islistL.kp c_islistL.b .nil pass0 (pa_cons (pv 1) pa_nil)))) (pw_or1 (pt_cmpR op_eq (pe_callB call_len_seq (by rfl) T.len PySem.boot_len (pa_cons (pv 1) pa_nil)) pe_int (nomark _))))) (pss_one (ps_ret pe_int)) pss_nil)
      (pss_cons (ps_for PassesOwn.never rfl (pi_enum (by rfl) T.enumerate (pa_cons (pe_slice sl_list (pv 1) po_none (po_some pe_int)) pa_nil)) (pg_tup (by rfl) (pgs_cons (pg_name (i := 2) sc_wrong_word.nd rfl (Or.inl rfl)) (pgs_cons (pg_name (i := 3) sc_wrong_word.nd rfl (Or.inl rfl)) pgs_nil))) (pss_one (ps_if (PW.pt (pw_or (pt_not (pt_val (pe_call c_is_word.ok (hr.mono (by decide)) (by rfl) c_is_word.g c_is_word.kp c_is_word.b .nil pass0 (pa_cons (pv 0) (pa_cons (pv 3) pa_nil))))) (pw_or (pt_cmpR op_ne (pe_callB call_len_str (by rfl) T.len PySem.boot_len (pa_cons (pv 3) pa_nil)) (pe_callB call_len_str (by rfl) T.len PySem.boot_len (pa_cons (pe_ix ix_list (pv 1) pe_int (fun _ _ => rfl)) pa_nil)) (nomark _)) (pw_or1 (pt_cmpR op_in_seq (pv 3) (pe_slice sl_list (pv 1) po_none (po_some (pv 2))) rfl))))) (pss_one (ps_ret (pv 2))) pss_nil)))
      (pss_one (ps_ret (pe_ifExp (pt_cmpR op_gt (pe_callB call_len_seq (by rfl) T.len PySem.boot_len (pa_cons (pv 1) pa_nil)) pe_int (nomark _)) pe_int pe_non))))), ?_⟩
    refine ⟨_, rfl, a, _, rfl, ha, fun H1 e1 => ⟨true, rfl, ?_⟩⟩
    refine ⟨_, rfl, a, _, rfl, .inl (sq_of (e1 _ _ ha)), rfl, _, rfl, ite2 (fun hb => ?_) (fun hn => ?_)⟩
    · have hb2 := V.int.inj (of_decide_eq_true hb)
      exact (q _ e1).1 0 (bad_nil (by omega))
    have hn0 : es.length ≠ 0 := fun z => hn (decide_eq_true (by rw [le, z]; rfl))
    refine ⟨_, rfl, _, rfl, a, _, rfl, sq_of (e1 _ _ ha), fun D hD => ?_⟩
    have hcut : cutV xs none (some (3 : Int)) = xs.take 3 := by
      unfold cutV
      rw [show (3 : Int) = ((3 : Nat) : Int) from rfl, HT.sIx_none, HT.sIx_nat, Nat.sub_zero, List.drop_zero, List.take_eq_take_iff]
      omega
    rw [hcut]
    have e2 := e1.trans (Ex.new (o := .lst (xs.take 3)) hD)
    have hD2 : (upd H1 D (.lst (xs.take 3))) D = some (.lst (xs.take 3)) := upd_same
    generalize (upd H1 D (.lst (xs.take 3))) = H2 at e2 hD2 ⊢
    refine ⟨D, _, rfl, sq_of hD2, ?_⟩
    refine EN.for_enumL (K := K) (a := D) (xs := xs.take 3) (fun i σ H' => ∃ y2 y3 : Option V, σ = [some (.str (tx L)), some (.ref a), y2, y3] ∧ Ex H H' ∧ Ex H2 H' ∧ ∀ j, j < i → goodB L es j = true) ⟨none, none, rfl, e2, Ex.refl _, fun j hj => absurd hj (Nat.not_lt_zero _)⟩ (fun i σ H' hw => ?_) (fun i x T' σ H' hx hw hT => ?_) (fun σ H' hw => ?_)
    · obtain ⟨_, _, _, _, e, _⟩ := hw
      exact sq_of (e _ _ hD2)
    · obtain ⟨y2, y3, rfl, e3, e4, hg⟩ := hw
      have hi3 : i < 3 := by
        have := (List.getElem?_eq_some_iff.mp hx).1
        rw [List.length_take] at this
        omega
      have hxi : xs[i]? = some x := by
        rw [List.getElem?_take_of_lt hi3] at hx
        exact hx
      have hil := (List.getElem?_eq_some_iff.mp hxi).1
      obtain ⟨ex, hex, hE⟩ := EE.get hxi
      have e5 := e3.trans (Ex.new (o := .tup [.int (i : Nat), x]) hT)
      have e6 := e4.trans (Ex.new (o := .tup [.int (i : Nat), x]) hT)
      refine ⟨T', _, rfl, .inl (.inl upd_same), rfl, _, _, rfl, _, _, rfl, rfl, ?_⟩
      cases hE with
      | odd hn =>
        refine ⟨_, rfl, _, rfl, L, _, rfl, hL, .inr ⟨hn.ex e5, false, rfl, ?_⟩⟩
        refine ⟨_, rfl, (q _ e5).1 i (bad_at hi3 (by omega) hg ?_)⟩
        unfold goodB
        rw [hex]
      | txt u lu =>
        refine ⟨_, rfl, _, rfl, L, _, rfl, hL, .inl ⟨u, rfl, by omega, fun H3 e7 => ?_⟩⟩
        have e8 := e5.trans e7
        cases hwd : wdB L u with
        | false =>
          refine ⟨false, rfl, _, rfl, (q _ e8).1 i (bad_at hi3 (by omega) hg ?_)⟩
          unfold goodB
          rw [hex]
          show (wdB L u && lenB es u && !decide (some u ∈ es.take i)) = false
          rw [hwd]
          rfl
        | true =>
          obtain ⟨y, hy⟩ : ∃ y, es[0]? = some (some y) := by
            by_cases h0 : i = 0
            · subst h0
              exact ⟨u, hex⟩
            · exact good_txt (hg 0 (by omega))
          obtain ⟨v0, hv0, hE0⟩ := EE.get' hy
          have gd : goodB L es i = (decide (u.length = y.length) && !decide (some u ∈ es.take i)) := by
            unfold goodB lenB
            rw [hex, hy]
            show (wdB L u && decide (u.length = y.length) && !decide (some u ∈ es.take i)) = _
            rw [hwd, Bool.true_and]
          cases hE0 with
          | txt y ly =>
            refine ⟨true, rfl, _, rfl, _, rfl, tx_le (by omega), _, rfl, a, _, _, _, rfl, rfl, sq_of (e8 _ _ ha), atI_nat (j := 0) hv0, _, rfl, tx_le (by omega), rfl, _, rfl, ite2 (fun hb => ?_) (fun hb => ?_)⟩
            · refine ⟨_, rfl, (q _ e8).1 i (bad_at hi3 (by omega) hg ?_)⟩
              rw [gd, decide_eq_false, Bool.false_and]
              intro z
              rw [decide_eq_true (show V.int ((tx u).length : Int) = V.int ((tx y).length : Int) by rw [tx_len, tx_len, z])] at hb
              cases hb
            have hlen : u.length = y.length := by
              by_cases z : u.length = y.length
              · exact z
              · refine absurd ?_ hb
                rw [decide_eq_false]
                · rfl
                · intro z2
                  have := V.int.inj z2
                  rw [tx_len, tx_len] at this
                  exact z (by omega)
            obtain ⟨ws, w1, w2⟩ := els_texts EE i (fun j hj => good_txt (hg j hj)) (by omega)
            have hcut2 : cutV xs none (some (i : Int)) = wv ws := by
              unfold cutV
              rw [HT.sIx_none, HT.sIx_nat, Nat.sub_zero, List.drop_zero, ← w1, List.take_eq_take_iff]
              omega
            refine ⟨_, rfl, _, rfl, _, rfl, _, rfl, a, _, rfl, sq_of (e8 _ _ ha), fun D2 hD3 => ?_⟩
            rw [hcut2]
            have mem : decide (some u ∈ es.take i) = decide (u ∈ ws) := by
              rw [w2, decide_eq_decide]
              constructor
              · intro h
                obtain ⟨z, hz, e⟩ := List.mem_map.mp h
                cases e
                exact hz
              · intro h
                exact List.mem_map.mpr ⟨u, h, rfl⟩
            rw [decide_eq_true hlen, Bool.true_and, mem] at gd
            refine ⟨D2, _, rfl, .inl (sq_of upd_same), rfl, flat_wv _, ?_⟩
            refine ⟨_, rfl, ?_⟩
            rw [inV_wv]
            cases hm : decide (u ∈ ws) with
            | true =>
              rw [hm] at gd
              exact ⟨_, rfl, (q _ (e8.trans (Ex.new hD3))).1 i (bad_at hi3 (by omega) hg gd)⟩
            | false =>
              rw [hm] at gd
              refine ⟨_, _, rfl, e8.trans (Ex.new hD3), (e6.trans e7).trans (Ex.new hD3), fun j hj => ?_⟩
              by_cases hji : j = i
              · rw [hji]
                exact gd
              · exact hg j (by omega)
    · obtain ⟨y2, y3, rfl, e3, e4, hg⟩ := hw
      rw [List.length_take] at hg
      refine ⟨_, rfl, a, _, rfl, .inl (sq_of (e3 _ _ ha)), _, _, rfl, rfl, _, rfl, ite2 (fun hb => ?_) (fun hb => ?_)⟩
      · have hb2 : (3 : Int) < (xs.length : Int) := of_decide_eq_true hb
        exact (q _ e3).1 3 (bad_3 (by omega) fun j hj => hg j (by omega))
      · have hb2 : ¬ (3 : Int) < (xs.length : Int) := fun z => hb (decide_eq_true z)
        exact (q _ e3).2 (bad_none hn0 (by omega) fun j hj => hg j (by omega))
end
end Law


namespace Law
open PySem PySem.Spec PyProof.Rows L2 Evl EK
/-- a value without parts, as data -/
inductive Fl : V → PyData → Prop
  | non : Fl .non .none
  | bl (b : Bool) : Fl (.bl b) (.bool b)
  | int (i : Int) : Fl (.int i) (.int i)
  | str (z : Str) : Fl (.str z) (.str z)
inductive Fls : List V → List PyData → Prop
  | nil : Fls [] []
  | cons {v : V} {d : PyData} {vs : List V} {ds : List PyData} : Fl v d → Fls vs ds → Fls (v :: vs) (d :: ds)
theorem Fls.get {vs : List V} {ds : List PyData} (h : Fls vs ds) : ∀ {i : Nat} {v : V}, vs[i]? = some v → ∃ d, Fl v d := by
  induction h with
  | nil => intro i v h; cases h
  | @cons v d vs ds h1 _ ih =>
    intro i u hu
    cases i with
    | zero => cases hu; exact ⟨d, h1⟩
    | succ i => exact ih hu
/-- the values that errors keep -/
inductive AV (H : Hp) : V → PyData → Prop
  | flat {v : V} {d : PyData} : Fl v d → AV H v d
  | tup {a : Addr} {vs : List V} {ds : List PyData} : H a = some (.tup vs) → Fls vs ds → vs.length ≤ 50 → AV H (.ref a) (.tuple ds)
  | lst {a : Addr} {vs : List V} {ds : List PyData} : H a = some (.lst vs) → Fls vs ds → vs.length ≤ 50 → AV H (.ref a) (.list ds)
  | emp {a : Addr} : H a = some (.dK []) → AV H (.ref a) (.dict [])
  | one {a : Addr} {k : Str} {i : Int} : H a = some (.dK [(.inr k, .int i)]) → AV H (.ref a) (.dict [(.str k, .int i)])
theorem AV.ex {H H' : Hp} {v : V} {d : PyData} (h : AV H v d) (e : Ex H H') : AV H' v d := by
  cases h with
  | flat f => exact .flat f
  | tup h f l => exact .tup (e _ _ h) f l
  | lst h f l => exact .lst (e _ _ h) f l
  | emp h => exact .emp (e _ _ h)
  | one h => exact .one (e _ _ h)
theorem Fl.de {K : PySem.W.Frag} {H : Hp} {v : V} {d : PyData} (h : Fl v d) : DY.DE K H v d := by
  cases h with
  | non => exact .non
  | bl b => exact .bl b
  | int i => exact .int i
  | str z => exact .str z
theorem Fls.de {K : PySem.W.Frag} {H : Hp} {vs : List V} {ds : List PyData} (h : Fls vs ds) : DY.DEs K H vs ds := by
  induction h with
  | nil => exact .nil
  | cons h1 _ ih => exact .cons h1.de ih
theorem AV.de {K : PySem.W.Frag} {H : Hp} {v : V} {d : PyData} (h : AV H v d) : DY.DE K H v d := by
  cases h with
  | flat f => exact f.de
  | tup h f l => exact .tup (st_of h) f.de
  | lst h f l => exact .lst (sq_of h) f.de
  | emp h => exact .emp h
  | one h => exact .one h
theorem Fl.kinds {K : PySem.W.Frag} {v : V} {d : PyData} (h : Fl v d) (H : Hp) : ∃ t, TyX K H v t ∧ PySem.W.kitOne K t (.type "list") = some false ∧ PySem.W.kitOne K t (.type "tuple") = some false ∧ PySem.W.kitOne K t (.type "dict") = some false := by
  cases h with
  | non => exact ⟨_, .base .non, kit_ty (by decide +kernel), kit_ty (by decide +kernel), kit_ty (by decide +kernel)⟩
  | bl b => exact ⟨_, .base (.bl b), kit_ty (by decide +kernel), kit_ty (by decide +kernel), kit_ty (by decide +kernel)⟩
  | int n => exact ⟨_, .base (.int n), kit_ty (by decide +kernel), kit_ty (by decide +kernel), kit_ty (by decide +kernel)⟩
  | str z => exact ⟨_, .base (.str z), kit_ty (by decide +kernel), kit_ty (by decide +kernel), kit_ty (by decide +kernel)⟩
theorem kl_l {K : PySem.W.Frag} : PySem.W.kitOne K (.type "list") (.type "list") = some true := kit_ty (by decide +kernel)
theorem kt_l {K : PySem.W.Frag} : PySem.W.kitOne K (.type "tuple") (.type "list") = some false := kit_ty (by decide +kernel)
theorem kt_t {K : PySem.W.Frag} : PySem.W.kitOne K (.type "tuple") (.type "tuple") = some true := kit_ty (by decide +kernel)
theorem kd_l {K : PySem.W.Frag} : PySem.W.kitOne K (.type "dict") (.type "list") = some false := kit_ty (by decide +kernel)
theorem kd_t {K : PySem.W.Frag} : PySem.W.kitOne K (.type "dict") (.type "tuple") = some false := kit_ty (by decide +kernel)
theorem kd_d {K : PySem.W.Frag} : PySem.W.kitOne K (.type "dict") (.type "dict") = some true := kit_ty (by decide +kernel)
def spKf : Sp := fun vs H Q _ => ∃ v d, vs = [v] ∧ Fl v d ∧ Q v H
def spKept : Sp := fun vs H Q _ => ∃ v d, vs = [v] ∧ AV H v d ∧ ∀ v' H', Ex H H' → AV H' v' d → Q v' H'
section
variable {P : Program} {w : World} {K : PySem.W.Frag} {mg : Str → Option Value} {base : Heap}
theorem ok_kf {f : Addr} {fd : FuncData} (F : Fun K "_kept" "_kept" s_kept f fd) (T : Tx mg) : FnOk P w K mg base CX0 1 f fd ["value"] spKf := by
  refine F.ok sc_kept (fun vs H Q E h => ?_) (fun cdv A outer s H vs Q E hr h => ?_)
  · obtain ⟨v, d, rfl, _⟩ := h
    rfl
  · obtain ⟨v, d, rfl, hv, q⟩ := h
    refine ⟨_, (pss_cons (ps_if (pt_val (pe_callB call_isi (by rfl) T.isinstance PyProof.Rows.boot_isinstance (pa_cons (pv 0) (pa_cons (pe_bltn (v := .ty "list") (by rfl) T.list PyProof.Rows.boot_list rfl) pa_nil)))) (pss_one ps_never) pss_nil)
      (pss_cons (ps_if (pt_val (pe_callB call_isi (by rfl) T.isinstance PyProof.Rows.boot_isinstance (pa_cons (pv 0) (pa_cons (pe_bltn (v := .ty "tuple") (by rfl) T.tuple PyProof.Rows.boot_tuple rfl) pa_nil)))) (pss_one ps_never) pss_nil)
      (pss_cons (ps_if (pt_val (pe_callB call_isi (by rfl) T.isinstance PyProof.Rows.boot_isinstance (pa_cons (pv 0) (pa_cons (pe_bltn (v := .ty "dict") (by rfl) T.dict PyProof.Rows.boot_dict rfl) pa_nil)))) (pss_one ps_never) pss_nil)
      (pss_one (ps_ret (pv 0)))))), ?_⟩
    obtain ⟨t, ty, k1, k2, k3⟩ := hv.kinds (K := K) H
    refine ⟨_, rfl, _, _, _, _, false, rfl, .ty _, ty, k1, false, rfl, iteF ?_⟩
    refine ⟨_, rfl, _, _, _, _, false, rfl, .ty _, ty, k2, false, rfl, iteF ?_⟩
    refine ⟨_, rfl, _, _, _, _, false, rfl, .ty _, ty, k3, false, rfl, iteF ?_⟩
    exact ⟨_, rfl, q⟩
theorem ok_kept {f : Addr} {fd : FuncData} (F : Fun K "_kept" "_kept" s_kept f fd) (T : Tx mg) (c_kept : Kn P w K mg base "_kept" ["value"] 1 spKf) : FnOk P w K mg base CX0 2 f fd ["value"] spKept := by
  refine F.ok sc_kept (fun vs H Q E h => ?_) (fun cdv A outer s H vs Q E hr h => ?_)
  · obtain ⟨v, d, rfl, _⟩ := h
    rfl
  · obtain ⟨v, d, rfl, hv, q⟩ := h
    refine ⟨_, (pss_cons (ps_if (pt_val (pe_callB call_isi (by rfl) T.isinstance PyProof.Rows.boot_isinstance (pa_cons (pv 0) (pa_cons (pe_bltn (v := .ty "list") (by rfl) T.list PyProof.Rows.boot_list rfl) pa_nil)))) (pss_one (ps_ret (pe_lc (own := [("part", 1)]) (g := gName 1) (tt := tYes) rfl sc_kept.nd (pi_list (pv 0)) (blkOk_by (N := N_kept) (sc := defScope s_kept) (by decide +kernel)) (fun _ _ _ _ _ => (pg_name (i := 1) sc_kept.nd rfl (Or.inl rfl))) (fun _ _ _ _ _ => pts_nil) (fun _ _ _ _ _ => (pe_call c_kept.ok (hr.mono (by decide)) (by rfl) c_kept.g c_kept.kp c_kept.b .nil pass0 (pa_cons (pv 1) pa_nil)))))) pss_nil)
      (pss_cons (ps_if (pt_val (pe_callB call_isi (by rfl) T.isinstance PyProof.Rows.boot_isinstance (pa_cons (pv 0) (pa_cons (pe_bltn (v := .ty "tuple") (by rfl) T.tuple PyProof.Rows.boot_tuple rfl) pa_nil)))) (pss_one (ps_ret (pe_callTy call_tuple_of (by rfl) T.tuple PyProof.Rows.boot_tuple (pa_cons (pe_lc (own := [("part", 1)]) (g := gName 1) (tt := tYes) rfl sc_kept.nd (pi_tup (pv 0)) (blkOk_by (N := N_kept) (sc := defScope s_kept) (by decide +kernel)) (fun _ _ _ _ _ => (pg_name (i := 1) sc_kept.nd rfl (Or.inl rfl))) (fun _ _ _ _ _ => pts_nil) (fun _ _ _ _ _ => (pe_call c_kept.ok (hr.mono (by decide)) (by rfl) c_kept.g c_kept.kp c_kept.b .nil pass0 (pa_cons (pv 1) pa_nil)))) pa_nil)))) pss_nil)
      (pss_cons (ps_if (pt_val (pe_callB call_isi (by rfl) T.isinstance PyProof.Rows.boot_isinstance (pa_cons (pv 0) (pa_cons (pe_bltn (v := .ty "dict") (by rfl) T.dict PyProof.Rows.boot_dict rfl) pa_nil)))) (pss_one (ps_ret (pe_lock (pe_dc (own := [("key", 2)]) (g := gName 2) (tt := tYes) rfl sc_kept.nd (pi_keys (pv 0)) (blkOk_by (N := N_kept) (sc := defScope s_kept) (by decide +kernel)) (fun _ _ _ _ _ => (pg_name (i := 2) sc_kept.nd rfl (Or.inl rfl))) (fun _ _ _ _ _ => pts_nil) (fun _ _ _ _ _ => (pv 2)) (fun _ _ _ _ _ => (pe_call c_kept.ok (hr.mono (by decide)) (by rfl) c_kept.g c_kept.kp c_kept.b .nil pass0 (pa_cons (pe_dget (hu_of hr) (pv 0) (pv 2) (fun _ _ => rfl)) pa_nil))))))) pss_nil)
      (pss_one (ps_ret (pv 0)))))), ?_⟩
    cases hv with
    | flat hv =>
      obtain ⟨t, ty, k1, k2, k3⟩ := hv.kinds (K := K) H
      refine ⟨_, rfl, _, _, _, _, false, rfl, .ty _, ty, k1, false, rfl, iteF ?_⟩
      refine ⟨_, rfl, _, _, _, _, false, rfl, .ty _, ty, k2, false, rfl, iteF ?_⟩
      refine ⟨_, rfl, _, _, _, _, false, rfl, .ty _, ty, k3, false, rfl, iteF ?_⟩
      exact ⟨_, rfl, q _ _ (Ex.refl _) (.flat hv)⟩
    | @lst a xs ds ha fx hl =>
      refine ⟨_, rfl, _, _, _, _, true, rfl, .ty _, .base (.lst ha), kl_l, true, rfl, iteT ?_⟩
      refine ⟨_, rfl, a, rfl, ⟨_, sq_of ha⟩, fun D hD => ?_⟩
      refine lc_list (fun i H' => Ex H H' ∧ H D = none ∧ H' D = some (.lst (xs.take i))) ⟨Ex.new hD, hD, upd_same⟩ (fun i H' _ p => sq_of (p.1 _ _ ha)) (fun i x H' hx p => ?_) (fun H' p => ?_)
      · obtain ⟨e, h0, hz⟩ := p
        obtain ⟨d, fd⟩ := fx.get hx
        refine ⟨rfl, ?_⟩
        refine ⟨_, rfl, _, _, rfl, fd, _, hz, ?_, e.mut h0, h0, ?_⟩
        · rw [List.length_take]
          exact Nat.lt_of_le_of_lt (Nat.min_le_right _ _) (Nat.lt_of_le_of_lt hl (by decide))
        · rw [upd_same, List.take_add_one, hx]
          rfl
      · obtain ⟨e, h0, hz⟩ := p
        rw [List.take_length] at hz
        exact q _ _ e (.lst hz fx hl)
    | @tup a xs ds ha fx hl =>
      refine ⟨_, rfl, _, _, _, _, false, rfl, .ty _, .base (.tup ha), kt_l, false, rfl, iteF ?_⟩
      refine ⟨_, rfl, _, _, _, _, true, rfl, .ty _, .base (.tup ha), kt_t, true, rfl, iteT ?_⟩
      refine ⟨_, rfl, a, rfl, ⟨_, st_of ha⟩, fun D hD => ?_⟩
      refine lc_tup (fun i H' => Ex H H' ∧ H D = none ∧ H' D = some (.lst (xs.take i))) ⟨Ex.new hD, hD, upd_same⟩ (fun i H' _ p => st_of (p.1 _ _ ha)) (fun i x H' hx p => ?_) (fun H' p => ?_)
      · obtain ⟨e, h0, hz⟩ := p
        obtain ⟨d, fd⟩ := fx.get hx
        refine ⟨rfl, ?_⟩
        refine ⟨_, rfl, _, _, rfl, fd, _, hz, ?_, e.mut h0, h0, ?_⟩
        · rw [List.length_take]
          exact Nat.lt_of_le_of_lt (Nat.min_le_right _ _) (Nat.lt_of_le_of_lt hl (by decide))
        · rw [upd_same, List.take_add_one, hx]
          rfl
      · obtain ⟨e, h0, hz⟩ := p
        rw [List.take_length] at hz
        refine ⟨D, _, rfl, .inl ⟨sq_of hz, fun p hp => ?_⟩⟩
        exact q _ _ (e.trans (Ex.new hp)) (.tup upd_same fx hl)
    | @emp a ha =>
      refine ⟨_, rfl, _, _, _, _, false, rfl, .ty _, .base (.dK ha), kd_l, false, rfl, iteF ?_⟩
      refine ⟨_, rfl, _, _, _, _, false, rfl, .ty _, .base (.dK ha), kd_t, false, rfl, iteF ?_⟩
      refine ⟨_, rfl, _, _, _, _, true, rfl, .ty _, .base (.dK ha), kd_d, true, rfl, iteT ?_⟩
      refine ⟨a, _, ha, True.intro, fun od => ?_⟩
      refine ⟨_, rfl, a, od, rfl, .inl ⟨[], upd_same, fun D hD => ⟨fun i m H' => i = 0 ∧ H' = upd (upd H a (.frz od (.dK []))) D (.dK []), ⟨0, rfl, rfl⟩, ?_⟩⟩⟩
      rintro i m H' ⟨rfl, rfl⟩
      have ne : D ≠ a := fun z => by
        rw [z, upd_same] at hD
        cases hD
      have hD2 : H D = none := by
        rw [upd_ne ne] at hD
        exact hD
      have hfz : (upd (upd H a (.frz od (.dK []))) D (.dK [])) a = some (.frz od (.dK [])) := by
        rw [upd_ne ne.symm, upd_same]
      refine .inl ⟨⟨hfz, Nat.le_refl _⟩, hfz, ?_⟩
      refine q _ _ (fun b o e => ?_) (.emp (by rw [upd_ne ne, upd_same]))
      by_cases hb : b = a
      · subst hb
        rw [upd_same, ← ha, e]
      · rw [upd_ne hb, upd_ne (fun z => by rw [z, hD2] at e; cases e), upd_ne hb]
        exact e
    | @one a k n ha =>
      refine ⟨_, rfl, _, _, _, _, false, rfl, .ty _, .base (.dK ha), kd_l, false, rfl, iteF ?_⟩
      refine ⟨_, rfl, _, _, _, _, false, rfl, .ty _, .base (.dK ha), kd_t, false, rfl, iteF ?_⟩
      refine ⟨_, rfl, _, _, _, _, true, rfl, .ty _, .base (.dK ha), kd_d, true, rfl, iteT ?_⟩
      refine ⟨a, _, ha, True.intro, fun od => ?_⟩
      refine ⟨_, rfl, a, od, rfl, .inl ⟨[(.inr k, .int n)], upd_same, fun D hD => ⟨fun i m H' => (i = 0 ∧ m = 1 ∧ H' = upd (upd H a (.frz od (.dK [(.inr k, .int n)]))) D (.dK [])) ∨ (i = 1 ∧ m = 0 ∧ H' = upd (upd H a (.frz od (.dK [(.inr k, .int n)]))) D (.dK [(.inr k, .int n)])), ⟨1, .inl ⟨rfl, rfl, rfl⟩⟩, ?_⟩⟩⟩
      have ne : D ≠ a := fun z => by
        rw [z, upd_same] at hD
        cases hD
      have hD2 : H D = none := by
        rw [upd_ne ne] at hD
        exact hD
      have hfz : ∀ o, (upd (upd H a (.frz od (.dK [(.inr k, .int n)]))) D o) a = some (.frz od (.dK [(.inr k, .int n)])) := fun o => by
        rw [upd_ne ne.symm, upd_same]
      rintro i m H' (⟨rfl, rfl, rfl⟩ | ⟨rfl, rfl, rfl⟩)
      · refine .inr ⟨⟨hfz _, by show 0 < 1; decide⟩, fun H' => H' = upd (upd H a (.frz od (.dK [(.inr k, .int n)]))) D (.dK [(.inr k, .int n)]), fun H' h => ⟨0, by omega, .inr ⟨rfl, rfl, h⟩⟩, ?_⟩
        rintro x H' ⟨rfl, kk, vv, hkv, rfl⟩
        cases hkv
        refine ⟨rfl, ?_⟩
        refine ⟨_, rfl, _, rfl, _, rfl, a, .int n, rfl, .inl ⟨_, .inr k, .inr ⟨od, hfz _⟩, rfl, ?_⟩, _, _, rfl, .int n, [], .inr k, rfl, upd_same, by show 0 < sizeLine; decide, ?_⟩
        · simp [valV]
        · rw [upd_upd]
          rfl
      · refine .inl ⟨⟨hfz _, Nat.le_refl _⟩, hfz _, ?_⟩
        refine q _ _ (fun b o e => ?_) (.one (by rw [upd_ne ne, upd_same]))
        by_cases hb : b = a
        · subst hb
          rw [upd_same, ← ha, e]
        · rw [upd_ne hb, upd_ne (fun z => by rw [z, hD2] at e; cases e), upd_ne hb]
          exact e
end
/-- what the __init__ of an error leaves -/
def ErE (H : Hp) (a C : Addr) (fs : List (Str × V)) (H' : Hp) : Prop := ∃ dx, H' a = some (exo a C (some dx)) ∧ H' dx = some (exd dx fs) ∧ H dx = none ∧ dx ≠ a ∧ ∀ b o, H b = some o → b ≠ a → H' b = some o
/-- the error stands -/
structure Ers (H : Hp) (a C dx : Addr) (fs : List (Str × V)) (H' : Hp) : Prop where
  o : H' a = some (exo a C (some dx))
  x : H' dx = some (exd dx fs)
  n : H dx = none
  ne : dx ≠ a
  k : ∀ b o, H b = some o → b ≠ a → H' b = some o
theorem AV.keep {H H' : Hp} {a C : Addr} {d : Option Addr} {v : V} {x : PyData} (h : AV H v x) (ha : H a = some (exo a C d)) (k : ∀ b o, H b = some o → b ≠ a → H' b = some o) : AV H' v x := by
  cases h with
  | flat f => exact .flat f
  | tup h f l => exact .tup (k _ _ h (fun z => by rw [z, ha] at h; cases h)) f l
  | lst h f l => exact .lst (k _ _ h (fun z => by rw [z, ha] at h; cases h)) f l
  | emp h => exact .emp (k _ _ h (fun z => by rw [z, ha] at h; cases h))
  | one h => exact .one (k _ _ h (fun z => by rw [z, ha] at h; cases h))
theorem ers_new {H H1 : Hp} {a C dx : Addr} {f : Str} {v : V} (ha : H a = some (exo a C none)) (e : Ex H H1) (hd : H1 dx = none) (hne : dx ≠ a) : Ers H a C dx [(f, v)] (upd (upd H1 dx (exd dx [(f, v)])) a (exo a C (some dx))) where
  o := upd_same
  x := by rw [upd_ne hne, upd_same]
  n := by
    cases q : H dx with
    | none => rfl
    | some o =>
      have := e _ _ q
      rw [hd] at this
      cases this
  ne := hne
  k := fun b o z nb => by
    have z1 := e _ _ z
    rw [upd_ne nb, upd_ne (fun y => by rw [y, hd] at z1; cases z1)]
    exact z1
theorem ers_put {H H1 H2 : Hp} {a C dx : Addr} {f : Str} {v : V} {fs : List (Str × V)} (E : Ers H a C dx fs H1) (e : Ex H1 H2) : Ers H a C dx ((f, v) :: fs) (upd H2 dx (exd dx ((f, v) :: fs))) where
  o := by rw [upd_ne E.ne.symm]; exact e _ _ E.o
  x := upd_same
  n := E.n
  ne := E.ne
  k := fun b o z nb => by
    rw [upd_ne (fun y => by rw [y, E.n] at z; cases z)]
    exact e _ _ (E.k b o z nb)
/-- a value that stood when the first field was stored -/
theorem AV.over {H : Hp} {dx : Addr} {x : PyData} {fs gs : List (Str × V)} {v : V} (h : AV H v x) (hd : H dx = some (exd dx gs)) : AV (upd H dx (exd dx fs)) v x := by
  have ne : ∀ {b : Addr} {o : HO}, H b = some o → (∀ z : exd dx gs = o, False) → b ≠ dx := fun hb hn z => by
    rw [z, hd] at hb
    exact hn (Option.some.inj hb)
  cases h with
  | flat f => exact .flat f
  | tup h f l => exact .tup (by rw [upd_ne (ne h (fun z => by cases z))]; exact h) f l
  | lst h f l => exact .lst (by rw [upd_ne (ne h (fun z => by cases z))]; exact h) f l
  | emp h => exact .emp (by rw [upd_ne (ne h (fun z => by cases z))]; exact h)
  | one h => exact .one (by rw [upd_ne (ne h (fun z => by cases z))]; exact h)
theorem AV.newx {H : Hp} {a C dx : Addr} {fs : List (Str × V)} {v : V} {x : PyData} (h : AV H v x) (ha : H a = some (exo a C none)) (hd : H dx = none) : AV (upd (upd H dx (exd dx fs)) a (exo a C (some dx))) v x :=
  h.keep ha fun b o z nb => by
    rw [upd_ne nb, upd_ne (fun y => by rw [y, hd] at z; cases z)]
    exact z
def spE1 (C : Addr) (f : Str) : Sp := fun vs H Q _ => ∃ a v d, vs = [.ref a, v] ∧ H a = some (exo a C none) ∧ AV H v d ∧ ∀ dx v' H', Ers H a C dx [(f, v')] H' → AV H' v' d → Q .non H'
def spE2 (C : Addr) (f g : Str) : Sp := fun vs H Q _ => ∃ a v d u e, vs = [.ref a, v, u] ∧ H a = some (exo a C none) ∧ AV H v d ∧ AV H u e ∧ ∀ dx v' u' H', Ers H a C dx [(g, u'), (f, v')] H' → AV H' v' d → AV H' u' e → Q .non H'
def spE3 (C : Addr) (f g h : Str) : Sp := fun vs H Q _ => ∃ a v d u e w b, vs = [.ref a, v, u, w] ∧ H a = some (exo a C none) ∧ AV H v d ∧ AV H u e ∧ AV H w b ∧ ∀ dx v' u' w' H', Ers H a C dx [(h, w'), (g, u'), (f, v')] H' → AV H' v' d → AV H' u' e → AV H' w' b → Q .non H'
/-- the base -/
structure BaseC (K : PySem.W.Frag) (mg : Str → Option Value) (C0 : Addr) : Prop where
  g : mg "SkipsError" = some (.ref C0)
  r : ClX.CRead K C0 (.type "type")
  v : PySem.W.findCls K (.ref C0) (.type "type") "__init__" = some (.val (.builtin "ValueError.__init__"))
section
variable {P : Program} {w : World} {K : PySem.W.Frag} {mg : Str → Option Value} {base : Heap}
theorem ok_BadLetters {f C C0 : Addr} {fd : FuncData} (F : Fun K "__init__" "BadLetters.__init__" s_BadLetters_init f fd) (T : Tx mg) (B0 : BaseC K mg C0) (O : OexC K C) (N : PySem.W.findIn K (.ref C) "letters" = some none) (c_kept : Kn P w K mg base "_kept" ["value"] 2 spKept) :
    FnOk P w K mg base CX0 3 f fd ["self", "letters"] (spE1 C "letters") := by
  refine F.ok sc_BadLetters_init (fun vs H Q E h => ?_) (fun cdv A outer s H vs Q E hr h => ?_)
  · obtain ⟨a, v, d, rfl, _⟩ := h
    rfl
  · obtain ⟨a, v, d, rfl, ha, hv, q⟩ := h
    obtain ⟨g_SkipsError, R_SkipsError, V_SkipsError⟩ := B0
    refine ⟨_, (pss_cons (ps_expr (EK.pe_skinit (by rfl) g_SkipsError R_SkipsError V_SkipsError (pa_cons (pv 0) (pa_cons pe_str pa_nil))))
      (pss_one (ps_ost (pv 0) (pe_call c_kept.ok (hr.mono (by decide)) (by rfl) c_kept.g c_kept.kp c_kept.b .nil pass0 (pa_cons (pv 1) pa_nil))))), ?_⟩
    refine ⟨_, rfl, a, C, _, rfl, by show 1 ≤ 1000; decide, O, ha, ?_⟩
    refine ⟨_, rfl, v, d, rfl, hv, fun v' H1 e1 hv1 => ⟨_, rfl, a, C, rfl, O, N, .inl ⟨e1 _ _ ha, fun dx hd hne => ?_⟩⟩⟩
    exact q dx v' _ (ers_new ha e1 hd hne) (hv1.newx (e1 _ _ ha) hd)
theorem ok_BadWords {f C C0 : Addr} {fd : FuncData} (F : Fun K "__init__" "BadWords.__init__" s_BadWords_init f fd) (T : Tx mg) (B0 : BaseC K mg C0) (O : OexC K C) (N : PySem.W.findIn K (.ref C) "place" = some none) (c_kept : Kn P w K mg base "_kept" ["value"] 2 spKept) :
    FnOk P w K mg base CX0 3 f fd ["self", "place"] (spE1 C "place") := by
  refine F.ok sc_BadWords_init (fun vs H Q E h => ?_) (fun cdv A outer s H vs Q E hr h => ?_)
  · obtain ⟨a, v, d, rfl, _⟩ := h
    rfl
  · obtain ⟨a, v, d, rfl, ha, hv, q⟩ := h
    obtain ⟨g_SkipsError, R_SkipsError, V_SkipsError⟩ := B0
    refine ⟨_, (pss_cons (ps_expr (EK.pe_skinit (by rfl) g_SkipsError R_SkipsError V_SkipsError (pa_cons (pv 0) (pa_cons pe_str pa_nil))))
      (pss_one (ps_ost (pv 0) (pe_call c_kept.ok (hr.mono (by decide)) (by rfl) c_kept.g c_kept.kp c_kept.b .nil pass0 (pa_cons (pv 1) pa_nil))))), ?_⟩
    refine ⟨_, rfl, a, C, _, rfl, by show 1 ≤ 1000; decide, O, ha, ?_⟩
    refine ⟨_, rfl, v, d, rfl, hv, fun v' H1 e1 hv1 => ⟨_, rfl, a, C, rfl, O, N, .inl ⟨e1 _ _ ha, fun dx hd hne => ?_⟩⟩⟩
    exact q dx v' _ (ers_new ha e1 hd hne) (hv1.newx (e1 _ _ ha) hd)
theorem ok_BadText {f C C0 : Addr} {fd : FuncData} (F : Fun K "__init__" "BadText.__init__" s_BadText_init f fd) (T : Tx mg) (B0 : BaseC K mg C0) (O : OexC K C) (N : PySem.W.findIn K (.ref C) "place" = some none) (c_kept : Kn P w K mg base "_kept" ["value"] 2 spKept) :
    FnOk P w K mg base CX0 3 f fd ["self", "place"] (spE1 C "place") := by
  refine F.ok sc_BadText_init (fun vs H Q E h => ?_) (fun cdv A outer s H vs Q E hr h => ?_)
  · obtain ⟨a, v, d, rfl, _⟩ := h
    rfl
  · obtain ⟨a, v, d, rfl, ha, hv, q⟩ := h
    obtain ⟨g_SkipsError, R_SkipsError, V_SkipsError⟩ := B0
    refine ⟨_, (pss_cons (ps_expr (EK.pe_skinit (by rfl) g_SkipsError R_SkipsError V_SkipsError (pa_cons (pv 0) (pa_cons pe_str pa_nil))))
      (pss_one (ps_ost (pv 0) (pe_call c_kept.ok (hr.mono (by decide)) (by rfl) c_kept.g c_kept.kp c_kept.b .nil pass0 (pa_cons (pv 1) pa_nil))))), ?_⟩
    refine ⟨_, rfl, a, C, _, rfl, by show 1 ≤ 1000; decide, O, ha, ?_⟩
    refine ⟨_, rfl, v, d, rfl, hv, fun v' H1 e1 hv1 => ⟨_, rfl, a, C, rfl, O, N, .inl ⟨e1 _ _ ha, fun dx hd hne => ?_⟩⟩⟩
    exact q dx v' _ (ers_new ha e1 hd hne) (hv1.newx (e1 _ _ ha) hd)
theorem ok_BadWish {f C C0 : Addr} {fd : FuncData} (F : Fun K "__init__" "BadWish.__init__" s_BadWish_init f fd) (T : Tx mg) (B0 : BaseC K mg C0) (O : OexC K C) (N : PySem.W.findIn K (.ref C) "wish" = some none) (c_kept : Kn P w K mg base "_kept" ["value"] 2 spKept) :
    FnOk P w K mg base CX0 3 f fd ["self", "wish"] (spE1 C "wish") := by
  refine F.ok sc_BadWish_init (fun vs H Q E h => ?_) (fun cdv A outer s H vs Q E hr h => ?_)
  · obtain ⟨a, v, d, rfl, _⟩ := h
    rfl
  · obtain ⟨a, v, d, rfl, ha, hv, q⟩ := h
    obtain ⟨g_SkipsError, R_SkipsError, V_SkipsError⟩ := B0
    refine ⟨_, (pss_cons (ps_expr (EK.pe_skinit (by rfl) g_SkipsError R_SkipsError V_SkipsError (pa_cons (pv 0) (pa_cons pe_str pa_nil))))
      (pss_one (ps_ost (pv 0) (pe_call c_kept.ok (hr.mono (by decide)) (by rfl) c_kept.g c_kept.kp c_kept.b .nil pass0 (pa_cons (pv 1) pa_nil))))), ?_⟩
    refine ⟨_, rfl, a, C, _, rfl, by show 1 ≤ 1000; decide, O, ha, ?_⟩
    refine ⟨_, rfl, v, d, rfl, hv, fun v' H1 e1 hv1 => ⟨_, rfl, a, C, rfl, O, N, .inl ⟨e1 _ _ ha, fun dx hd hne => ?_⟩⟩⟩
    exact q dx v' _ (ers_new ha e1 hd hne) (hv1.newx (e1 _ _ ha) hd)
end
end Law


namespace Law
open PySem PySem.Spec PyProof.Rows L2 Evl EK
/-- an error with one field, whose value is the data x -/
def RzD (E : XK) (H : Hp) (C : Addr) (f : Str) (x : PyData) : Prop := ∀ d v' H', Ex H H' → H d = none → H' d = some (.xd [(f, v')]) → AV H' v' x → E (.ref C) (some d) H'
theorem AV.via {H H' : Hp} {v : V} {x : PyData} (h : AV H v x) (k : ∀ b o, H b = some o → (∀ xs, o = .tup xs → H' b = some o) ∧ (∀ xs, o = .lst xs → H' b = some o) ∧ (∀ xs, o = .dK xs → H' b = some o)) : AV H' v x := by
  cases h with
  | flat f => exact .flat f
  | tup h f l => exact .tup ((k _ _ h).1 _ rfl) f l
  | lst h f l => exact .lst ((k _ _ h).2.1 _ rfl) f l
  | emp h => exact .emp ((k _ _ h).2.2 _ rfl)
  | one h => exact .one ((k _ _ h).2.2 _ rfl)
theorem raise_endD {H1 H2 : Hp} {a C dx : Addr} {f : Str} {v' : V} {x : PyData} {E : XK} (ha : H1 a = none) (e : Ers (upd H1 a (exo a C none)) a C dx [(f, v')] H2) (hv : AV H2 v' x) (q : RzD E H1 C f x) :
    V.non = .non ∧ ∃ (d : Addr) (fs' : List (Str × V)), H2 a = some (exo a C (some d)) ∧ H2 d = some (exd d fs') ∧ H1 d = none ∧ E (.ref C) (some d) (upd (del H2 a) d (.xd fs')) := by
  have hd : H1 dx = none := by
    have := e.n
    rw [upd_ne e.ne] at this
    exact this
  have keep : ∀ b o, H2 b = some o → b ≠ a → b ≠ dx → (upd (del H2 a) dx (.xd [(f, v')])) b = some o := fun b o h n1 n2 => by
    rw [upd_ne n2, del_ne n1]
    exact h
  refine ⟨rfl, dx, _, e.o, e.x, hd, q dx v' _ (fun b o h => ?_) hd upd_same ?_⟩
  · have nb : b ≠ a := fun z => by rw [z, ha] at h; cases h
    have nx : b ≠ dx := fun z => by rw [z, hd] at h; cases h
    exact keep b o (e.k b o (by rw [upd_ne nb]; exact h) nb) nb nx
  · refine hv.via fun b o h => ?_
    have go : (∀ z : exo a C (some dx) = o, False) → (∀ z : exd dx [(f, v')] = o, False) → (upd (del H2 a) dx (.xd [(f, v')])) b = some o := fun h1 h2 => by
      refine keep b o h (fun z => ?_) (fun z => ?_)
      · rw [z, e.o] at h
        exact h1 (Option.some.inj h)
      · rw [z, e.x] at h
        exact h2 (Option.some.inj h)
    refine ⟨fun xs z => ?_, fun xs z => ?_, fun xs z => ?_⟩ <;> subst z <;> exact go (fun z => by cases z) (fun z => by cases z)
structure ErrC (K : PySem.W.Frag) (C f C0 : Addr) : Prop where
  o : OexC K C
  i : PySem.W.findIn K (.ref C) "__init__" = some (some (.ref f))
  t : PySem.W.typeIn K (.ref f) = some (.type "function")
  x : XfC K C
  e : ExcC K C
  s : PySem.W.kitOne K (.ref C) (.ref C0) = some true
structure Kn' (P : Program) (w : World) (K : PySem.W.Frag) (mg : Str → Option Value) (base : Heap) (CX : CXT) (x : Str) (ps : List Str) (k : Nat) (sp : Sp) where
  f : Addr
  fd : FuncData
  ok : FnOk P w K mg base CX k f fd ps sp
  g : mg x = some (.ref f)
  kp : PySem.W.keepIn K (.ref f) = true
  b : Binds K fd ps []
/-- letters that are none -/
def OddL (K : PySem.W.Frag) (H : Hp) (v : V) : Prop := (∃ x, v = .str (tx x) ∧ x.length < 500 ∧ areB x = false) ∨ NoS K H v
def spCheckG (K : PySem.W.Frag) (CL CW : Addr) : Sp := fun vs H Q E => ∃ (v : V) (a : Addr) (xs : List V), vs = [v, .ref a] ∧ H a = some (.lst xs) ∧
  ((∃ L es, v = .str (tx L) ∧ LG L ∧ Els K H xs es ∧ xs.length < 100 ∧ ∀ H', Ex H H' → (∀ i : Nat, badW L es = some i → RzD E H' CW "place" (.int i)) ∧ (badW L es = none → Q .non H')) ∨
   (∃ d, AV H v d ∧ OddL K H v ∧ ∀ H', Ex H H' → RzD E H' CL "letters" d))
section
variable {P : Program} {w : World} {K : PySem.W.Frag} {mg : Str → Option Value} {base : Heap} {C_BadLetters C_BadWords C_BadText C_BadWish fL fW fT fX C0 : Addr} {fdL fdW fdT fdX : FuncData}
theorem ok_checkG {f : Addr} {fd : FuncData} (F : Fun K "check_words" "check_words" s_check_words f fd) (T : Tx mg) (E1 : ErrC K C_BadLetters fL C0) (E2 : ErrC K C_BadWords fW C0) (g_BadLetters : mg "BadLetters" = some (.ref C_BadLetters)) (g_BadWords : mg "BadWords" = some (.ref C_BadWords))
    (I_BadLetters : FnOk P w K mg base CX0 3 fL fdL ["self", "letters"] (spE1 C_BadLetters "letters")) (B_BadLetters : Binds K fdL ["self", "letters"] []) (I_BadWords : FnOk P w K mg base CX0 3 fW fdW ["self", "place"] (spE1 C_BadWords "place")) (B_BadWords : Binds K fdW ["self", "place"] [])
    (c_are_letters : Kn P w K mg base "are_letters" ["value"] 1 (spAreG K)) (c_wwordL : Kn P w K mg base "wrong_word" ["letters", "words"] 3 (spWWG K)) : FnOk P w K mg base (L2.CX P w) 5 f fd ["letters", "words"] (spCheckG K C_BadLetters C_BadWords) := by
  refine F.okX sc_check_words (fun vs H Q E h => ?_) (fun cdv A outer s H vs Q E hr h => ?_)
  · obtain ⟨v, a, xs, rfl, _⟩ := h
    rfl
  · obtain ⟨v, a, xs, rfl, ha, h⟩ := h
    obtain ⟨O_BadLetters, i_BadLetters, t_BadLetters, _, _, _⟩ := E1
    obtain ⟨O_BadWords, i_BadWords, t_BadWords, _, _, _⟩ := E2
    refine ⟨_, (pss_cons (ps_if (pt_not (pt_val (pe_call c_are_letters.ok (hr.mono (by decide)) (by rfl) c_are_letters.g c_are_letters.kp c_are_letters.b .nil pass0 (pa_cons (pv 0) pa_nil)))) (pss_one (ps_raise rfl (takes_of rfl rfl rfl rfl) (pmk_oex O_BadLetters i_BadLetters t_BadLetters I_BadLetters (hr.mono (by decide)) B_BadLetters .nil pass0 (by rfl) g_BadLetters (pa_cons (pv 0) pa_nil)))) pss_nil)
      (pss_cons (ps_set (i := 2) sc_check_words.nd rfl (Or.inl rfl) (pe_call c_wwordL.ok (hr.mono (by decide)) (by rfl) c_wwordL.g c_wwordL.kp c_wwordL.b .nil pass0 (pa_cons (pv 0) (pa_cons (pv 1) pa_nil))))
      (pss_one (ps_if (pt_cmpR op_notN (pv 2) pe_non (nomark _)) (pss_one (ps_raise rfl (takes_of rfl rfl rfl rfl) (pmk_oex O_BadWords i_BadWords t_BadWords I_BadWords (hr.mono (by decide)) B_BadWords .nil pass0 (by rfl) g_BadWords (pa_cons (pv 2) pa_nil)))) pss_nil)))), ?_⟩
    rcases h with ⟨L, es, rfl, hL, EE, hx, q⟩ | ⟨d, hv, ho, q⟩
    · have h4 := hL.hi
      refine ⟨_, rfl, _, rfl, .inl ⟨L, rfl, by omega, fun H1 e1 => ?_⟩⟩
      rw [areB_good hL]
      refine ⟨true, rfl, ?_⟩
      refine ⟨_, rfl, _, rfl, L, a, xs, es, rfl, by omega, e1 _ _ ha, EE.ex e1, hx, fun H2 e2 => ?_⟩
      have q2 := q H2 (e1.trans e2)
      refine ⟨fun i hi => ?_, fun hn => ?_⟩
      · refine ⟨_, rfl, rfl, _, rfl, ite2 (fun _ => ?_) (fun hb => absurd (by simp) hb)⟩
        exact ⟨_, rfl, by show 1 ≤ 1000; decide, fun a ha => ⟨a, _, _, rfl, upd_same, .flat (.int _), fun dx v' H3 er av => raise_endD ha er av (q2.1 i hi)⟩⟩
      · exact ⟨_, rfl, rfl, _, rfl, ite2 (fun hb => absurd hb (by decide)) (fun _ => q2.2 hn)⟩
    · rcases ho with ⟨x, rfl, hx, hb⟩ | hn
      · refine ⟨_, rfl, _, rfl, .inl ⟨x, rfl, hx, fun H1 e1 => ?_⟩⟩
        rw [hb]
        refine ⟨false, rfl, ?_⟩
        exact ⟨_, rfl, by show 1 ≤ 1000; decide, fun a ha => ⟨a, _, d, rfl, upd_same, (hv.ex e1).ex (Ex.new ha), fun dx v' H3 er av => raise_endD ha er av (q H1 e1)⟩⟩
      · refine ⟨_, rfl, _, rfl, .inr ⟨hn, false, rfl, ?_⟩⟩
        exact ⟨_, rfl, by show 1 ≤ 1000; decide, fun a ha => ⟨a, _, d, rfl, upd_same, hv.ex (Ex.new ha), fun dx v' H3 er av => raise_endD ha er av (q H (Ex.refl _))⟩⟩
end
end Law


namespace Law
open PySem PySem.Spec PyProof.Rows L2 Evl EK
/-- the first sign that is none of the letters -/
def badT (L : List Nat) : List Nat → Option Nat
  | [] => none
  | c :: r => if c ∈ L then (badT L r).map (· + 1) else some 0
theorem badT_none {L : List Nat} : ∀ {x : List Nat}, (∀ c ∈ x, c ∈ L) → badT L x = none
  | [], _ => rfl
  | c :: r, h => by
    unfold badT
    rw [if_pos (h c (List.mem_cons_self ..)), badT_none fun d hd => h d (List.mem_cons_of_mem _ hd)]
    rfl
theorem badT_at {L : List Nat} : ∀ {x : List Nat} {i c : Nat}, x[i]? = some c → c ∉ L → (∀ j d, j < i → x[j]? = some d → d ∈ L) → badT L x = some i
  | [], _, _, h, _, _ => by cases h
  | c :: r, 0, d, h, hn, _ => by
    cases h
    unfold badT
    rw [if_neg hn]
  | c :: r, i + 1, d, h, hn, hl => by
    unfold badT
    rw [if_pos (hl 0 c (Nat.succ_pos _) rfl), badT_at (i := i) h hn fun j e hj he => hl (j + 1) e (by omega) he]
    rfl
theorem badW_inv {L : List Nat} {es : List (Option (List Nat))} (h : badW L es = none) : es.length ≠ 0 ∧ es.length ≤ 3 ∧ ∀ j, j < es.length → goodB L es j = true := by
  unfold badW at h
  by_cases h0 : es.length = 0
  · rw [if_pos h0] at h; cases h
  rw [if_neg h0] at h
  cases g0 : goodB L es 0 with
  | false => rw [g0] at h; cases h
  | true =>
    rw [g0, if_neg (by decide)] at h
    by_cases h1 : es.length = 1
    · exact ⟨h0, by omega, fun j hj => by rw [show j = 0 by omega]; exact g0⟩
    rw [if_neg h1] at h
    cases g1 : goodB L es 1 with
    | false => rw [g1] at h; cases h
    | true =>
      rw [g1, if_neg (by decide)] at h
      by_cases h2 : es.length = 2
      · refine ⟨h0, by omega, fun j hj => ?_⟩
        rcases (show j = 0 ∨ j = 1 by omega) with rfl | rfl
        · exact g0
        · exact g1
      rw [if_neg h2] at h
      cases g2 : goodB L es 2 with
      | false => rw [g2] at h; cases h
      | true =>
        rw [g2, if_neg (by decide)] at h
        by_cases h3 : es.length = 3
        · refine ⟨h0, by omega, fun j hj => ?_⟩
          rcases (show j = 0 ∨ j = 1 ∨ j = 2 by omega) with rfl | rfl | rfl
          · exact g0
          · exact g1
          · exact g2
        rw [if_neg h3] at h
        cases h
theorem all_some : ∀ {es : List (Option (List Nat))}, (∀ j, j < es.length → ∃ x, es[j]? = some (some x)) → ∃ ws : List (List Nat), es = ws.map some
  | [], _ => ⟨[], rfl⟩
  | e :: r, h => by
    obtain ⟨x, hx⟩ := h 0 (by show 0 < r.length + 1; omega)
    obtain ⟨ws, hw⟩ := all_some (es := r) fun j hj => h (j + 1) (by show j + 1 < r.length + 1; omega)
    cases hx
    exact ⟨x :: ws, by rw [hw]; rfl⟩
theorem ws_none {L : List Nat} {es : List (Option (List Nat))} (h : badW L es = none) : ∃ ws m, es = ws.map some ∧ WsG L m ws := by
  obtain ⟨h0, h3, hg⟩ := badW_inv h
  obtain ⟨ws, rfl⟩ := all_some fun j hj => good_txt (hg j hj)
  rw [List.length_map] at h0 h3 hg
  have w0 : ws[0]? = some (ws[0]'(by omega)) := List.getElem?_eq_getElem (by omega)
  have gi : ∀ i (hi : i < ws.length), (wdB L ws[i] = true ∧ ws[i].length = (ws[0]'(by omega)).length) ∧ some ws[i] ∉ (ws.map some).take i := fun i hi => by
    have g := hg i hi
    unfold goodB lenB at g
    rw [List.getElem?_map, List.getElem?_map, List.getElem?_eq_getElem hi, w0] at g
    have g2 : (wdB L ws[i] && decide (ws[i].length = (ws[0]'(by omega)).length) && !decide (some ws[i] ∈ (ws.map some).take i)) = true := g
    rw [Bool.and_eq_true, Bool.and_eq_true, Bool.not_eq_true', decide_eq_true_eq, decide_eq_false_iff_not] at g2
    exact g2
  have wd0 := (gi 0 (by omega)).1.1
  unfold wdB at wd0
  have wd0 := of_decide_eq_true wd0
  refine ⟨ws, (ws[0]'(by omega)).length, rfl, ⟨by omega, h3, wd0.1, wd0.2.1, fun w hw => ?_, ?_⟩⟩
  · obtain ⟨i, hi, rfl⟩ := List.mem_iff_getElem.mp hw
    have := (gi i hi).1
    have wd := this.1
    unfold wdB at wd
    exact ⟨this.2, (of_decide_eq_true wd).2.2⟩
  · refine List.pairwise_iff_getElem.mpr fun i j hi hj hij => ?_
    intro e
    refine (gi j hj).2 ?_
    rw [← e]
    refine List.mem_iff_getElem.mpr ⟨i, by rw [List.length_take, List.length_map]; omega, ?_⟩
    rw [List.getElem_take, List.getElem_map]
/-- what is due -/
inductive Due where
  | ok
  | words (i : Nat)
  | text (i : Nat)
  | wish
def dueF (L : List Nat) (es : List (Option (List Nat))) (t : Option (List Nat)) (b : Bool) : Due :=
  match badW L es with
  | some i => .words i
  | none => match t with
    | none => .text 0
    | some x => match badT L x with
      | some i => .text i
      | none => if b = true then .ok else .wish
/-- a text, or none -/
def TxtV (K : PySem.W.Frag) (H : Hp) (v : V) (t : Option (List Nat)) : Prop := (∃ x, v = .str (tx x) ∧ t = some x ∧ x.length < 300) ∨ (NoS K H v ∧ t = none)
/-- a wish, or none -/
def WishV (K : PySem.W.Frag) (H : Hp) (v : V) (b : Bool) : Prop := (∃ z, v = .str z ∧ b = wishB z) ∨ (NoS K H v ∧ b = false)
theorem TxtV.ex {K : PySem.W.Frag} {H H' : Hp} {v : V} {t : Option (List Nat)} (h : TxtV K H v t) (e : Ex H H') : TxtV K H' v t := by
  rcases h with h | ⟨h, r⟩
  · exact .inl h
  · exact .inr ⟨h.ex e, r⟩
theorem WishV.ex {K : PySem.W.Frag} {H H' : Hp} {v : V} {b : Bool} (h : WishV K H v b) (e : Ex H H') : WishV K H' v b := by
  rcases h with h | ⟨h, r⟩
  · exact .inl h
  · exact .inr ⟨h.ex e, r⟩
def spWantG (K : PySem.W.Frag) (CL CW CT CX : Addr) : Sp := fun vs H Q E => ∃ (v : V) (a : Addr) (xs : List V) (tv wv : V), vs = [v, .ref a, tv, wv] ∧ H a = some (.lst xs) ∧
  ((∃ L es t b d, v = .str (tx L) ∧ LG L ∧ Els K H xs es ∧ xs.length < 100 ∧ TxtV K H tv t ∧ WishV K H wv b ∧ AV H wv d ∧ ∀ H', Ex H H' → match dueF L es t b with
      | .words i => RzD E H' CW "place" (.int i)
      | .text i => RzD E H' CT "place" (.int i)
      | .wish => RzD E H' CX "wish" d
      | .ok => ∀ r, Q (.ref r) H') ∨
   (∃ d, AV H v d ∧ OddL K H v ∧ ∀ H', Ex H H' → RzD E H' CL "letters" d))
section
variable {P : Program} {w : World} {K : PySem.W.Frag} {mg : Str → Option Value} {base : Heap} {C_BadLetters C_BadWords C_BadText C_BadWish fL fW fT fX C0 : Addr} {fdL fdW fdT fdX : FuncData}
theorem ok_wantG {f : Addr} {fd : FuncData} (F : FunD K "wanted" "wanted" (defArgs s_wanted) (defBody s_wanted) (defScope s_wanted) [.str "all"] [] f fd) (T : Tx mg) (E1 : ErrC K C_BadText fT C0) (E2 : ErrC K C_BadWish fX C0) (g_BadText : mg "BadText" = some (.ref C_BadText)) (g_BadWish : mg "BadWish" = some (.ref C_BadWish))
    (I_BadText : FnOk P w K mg base CX0 3 fT fdT ["self", "place"] (spE1 C_BadText "place")) (B_BadText : Binds K fdT ["self", "place"] []) (I_BadWish : FnOk P w K mg base CX0 3 fX fdX ["self", "wish"] (spE1 C_BadWish "wish")) (B_BadWish : Binds K fdX ["self", "wish"] [])
    (c_checkL : Kn' P w K mg base (L2.CX P w) "check_words" ["letters", "words"] 5 (spCheckG K C_BadLetters C_BadWords)) (c_wrong_sign : Kn P w K mg base "wrong_sign" ["letters", "text"] 1 (spWS K)) (c_is_wish : Kn P w K mg base "is_wish" ["value"] 1 (spWishG K))
    (c_standL : Kn P w K mg base "_standing" ["words", "text"] 1 spStandL) (c_apart : Kn P w K mg base "_apart" ["found", "size"] 1 spApart) : FnOk P w K mg base (L2.CX P w) 6 f fd ["letters", "words", "text", "wish"] (spWantG K C_BadLetters C_BadWords C_BadText C_BadWish) := by
  refine F.ok sc_wanted (fun vs H Q E h => ?_) (fun cdv A outer s H vs Q E hr h => ?_)
  · obtain ⟨v, a, xs, tv, yw, rfl, _⟩ := h
    rfl
  · obtain ⟨v, a, xs, tv, yw, rfl, ha, h⟩ := h
    obtain ⟨O_BadText, i_BadText, t_BadText, _, _, _⟩ := E1
    obtain ⟨O_BadWish, i_BadWish, t_BadWish, _, _, _⟩ := E2
    refine ⟨_, (pss_cons (ps_expr (pe_callS c_checkL.ok (hr.mono (by decide)) (by rfl) c_checkL.g c_checkL.kp c_checkL.b (fun σ => passAt (takes_of rfl rfl rfl rfl) σ) (pa_cons (pv 0) (pa_cons (pv 1) pa_nil))))
      (pss_cons (ps_set (i := 4) sc_wanted.nd rfl (Or.inl rfl) (pe_call c_wrong_sign.ok (hr.mono (by decide)) (by rfl) c_wrong_sign.g c_wrong_sign.kp c_wrong_sign.b .nil pass0 (pa_cons (pv 0) (pa_cons (pv 2) pa_nil))))
      (pss_cons (ps_if (pt_cmpR op_notN (pv 4) pe_non (nomark _)) (pss_one (ps_raise rfl (takes_of rfl rfl rfl rfl) (pmk_oex O_BadText i_BadText t_BadText I_BadText (hr.mono (by decide)) B_BadText .nil pass0 (by rfl) g_BadText (pa_cons (pv 4) pa_nil)))) pss_nil)
      (pss_cons (ps_if (pt_not (pt_val (pe_call c_is_wish.ok (hr.mono (by decide)) (by rfl) c_is_wish.g c_is_wish.kp c_is_wish.b .nil pass0 (pa_cons (pv 3) pa_nil)))) (pss_one (ps_raise rfl (takes_of rfl rfl rfl rfl) (pmk_oex O_BadWish i_BadWish t_BadWish I_BadWish (hr.mono (by decide)) B_BadWish .nil pass0 (by rfl) g_BadWish (pa_cons (pv 3) pa_nil)))) pss_nil)
      (pss_cons (ps_set (i := 5) sc_wanted.nd rfl (Or.inl rfl) (pe_call c_standL.ok (hr.mono (by decide)) (by rfl) c_standL.g c_standL.kp c_standL.b .nil pass0 (pa_cons (pv 1) (pa_cons (pv 2) pa_nil))))
      (pss_cons (ps_if (pt_cmpR op_eq (pv 3) pe_str (nomark _)) (pss_one (ps_ret (pe_slice sl_list (pv 5) po_none (po_some pe_int)))) pss_nil)
      (pss_cons (ps_if (pt_cmpR op_eq (pv 3) pe_str (nomark _)) (pss_one (ps_ret (pe_call c_apart.ok (hr.mono (by decide)) (by rfl) c_apart.g c_apart.kp c_apart.b .nil pass0 (pa_cons (pv 5) (pa_cons (pe_callB call_len_str (by rfl) T.len PySem.boot_len (pa_cons (pe_ix ix_list (pv 1) pe_int (fun _ _ => rfl)) pa_nil)) pa_nil))))) pss_nil)
      (pss_one (ps_ret (pv 5)))))))))), ?_⟩
    rcases h with ⟨L, es, t, b, d, rfl, hL, EE, hx, hT, hW, hA, q⟩ | ⟨d, hv, ho, q⟩
    rotate_left
    · exact ⟨_, rfl, _, rfl, v, a, xs, rfl, ha, .inr ⟨d, hv, ho, q⟩⟩
    have h4 := hL.hi
    refine ⟨_, rfl, _, rfl, _, a, xs, rfl, ha, .inl ⟨L, es, rfl, hL, EE, hx, fun H1 e1 => ⟨fun i hi => ?_, fun hn => ?_⟩⟩⟩
    · have q1 := q H1 e1
      unfold dueF at q1
      rw [hi] at q1
      exact q1
    unfold dueF at q
    rw [hn] at q
    rcases hT with ⟨x, rfl, rfl, hxl⟩ | ⟨hno, rfl⟩
    rotate_left
    · refine ⟨_, rfl, _, rfl, L, by omega, .inr ⟨_, rfl, hno.ex e1, ?_⟩⟩
      refine ⟨_, rfl, rfl, _, rfl, ite2 (fun _ => ?_) (fun hb => absurd (by simp) hb)⟩
      exact ⟨_, rfl, by show 1 ≤ 1000; decide, fun a ha => ⟨a, _, _, rfl, upd_same, .flat (.int _), fun dx v' H3 er av => raise_endD ha er av (q H1 e1)⟩⟩
    refine ⟨_, rfl, _, rfl, L, by omega, .inl ⟨x, rfl, fun H2 e2 hall => ?_, fun H2 i c e2 hi hc hlo => ?_⟩⟩
    rotate_left
    · have q1 := q H2 (e1.trans e2)
      simp only [badT_at hi hc hlo] at q1
      refine ⟨_, rfl, rfl, _, rfl, ite2 (fun _ => ?_) (fun hb => absurd (by simp) hb)⟩
      exact ⟨_, rfl, by show 1 ≤ 1000; decide, fun a ha => ⟨a, _, _, rfl, upd_same, .flat (.int _), fun dx v' H3 er av => raise_endD ha er av q1⟩⟩
    simp only [badT_none hall] at q
    refine ⟨_, rfl, rfl, _, rfl, ite2 (fun hb => absurd hb (by decide)) (fun _ => ?_)⟩
    have e12 := e1.trans e2
    have bad : ∀ H3, Ex H H3 → b = false → ∀ a, H3 a = none → spE1 C_BadWish "wish" (.ref a :: ([yw] ++ [])) (L2.upd H3 a (exo a C_BadWish none))
        (fun v' H2 => v' = .non ∧ ∃ (d : Addr) (fs : List (Str × V)), H2 a = some (exo a C_BadWish (some d)) ∧ H2 d = some (exd d fs) ∧ H3 d = none ∧ E (.ref C_BadWish) (some d) (L2.upd (del H2 a) d (.xd fs))) (fun _ _ _ => False) := fun H3 e3 hb a ha => by
      have q1 := q H3 e3
      rw [hb, if_neg (by decide)] at q1
      exact ⟨a, yw, d, rfl, upd_same, (hA.ex e3).ex (Ex.new ha), fun dx v' H3 er av => raise_endD ha er av q1⟩
    rcases hW with ⟨z, rfl, rfl⟩ | ⟨hno, rfl⟩
    rotate_left
    · refine ⟨_, rfl, yw, rfl, .inr ⟨hno.ex e12, false, rfl, ?_⟩⟩
      exact ⟨_, rfl, by show 1 ≤ 1000; decide, bad H2 e12 rfl⟩
    refine ⟨_, rfl, _, rfl, .inl ⟨z, rfl, fun H3 e3 => ?_⟩⟩
    have e13 := e12.trans e3
    cases hz : wishB z with
    | false => exact ⟨false, rfl, _, rfl, by show 1 ≤ 1000; decide, bad H3 e13 hz⟩
    | true =>
      refine ⟨true, rfl, ?_⟩
      have q2 : ∀ H', Ex H H' → ∀ r, Q (.ref r) H' := fun H' e r => by
        have q1 := q H' e
        rw [hz, if_pos rfl] at q1
        exact q1 r
      obtain ⟨ws, m, rfl, W⟩ := ws_none hn
      have hxs : xs = wv ws := by
        obtain ⟨ws', u1, u2⟩ := els_texts EE xs.length (fun j hj => by
          rw [EE.len, List.length_map] at hj
          exact ⟨ws[j], by rw [List.getElem?_map, List.getElem?_eq_getElem hj]; rfl⟩) (Nat.le_refl _)
        rw [List.take_length] at u1
        rw [EE.len, List.take_length] at u2
        have : ws = ws' := by
          have h2 := congrArg (List.map fun o : Option (List Nat) => o.getD []) u2
          rw [List.map_map, List.map_map] at h2
          have e3 : ∀ l : List (List Nat), l.map ((fun o : Option (List Nat) => o.getD []) ∘ some) = l := fun l => by
            have : ((fun o : Option (List Nat) => o.getD []) ∘ some) = (id : List Nat → List Nat) := rfl
            rw [this, List.map_id]
          rw [e3, e3] at h2
          exact h2
        rw [u1, this]
      subst hxs
      refine ⟨_, rfl, _, rfl, L, a, ws, m, x, rfl, e13 _ _ ha, W, by omega, fun r H4 e4 hr3 hp => ?_⟩
      have e14 := e13.trans e4
      obtain ⟨vs, hv, pp⟩ := hp
      have ls := standN_len ws x m (x.length + 1 - m)
      refine ⟨_, rfl, rfl, _, rfl, ite2 (fun hf => ?_) (fun hf => ?_)⟩
      · refine ⟨_, rfl, _, rfl, r, vs, rfl, sq_of hv, fun r2 hr2 => ?_⟩
        exact q2 _ (e14.trans (Ex.new hr2)) _
      refine ⟨_, rfl, rfl, _, rfl, ite2 (fun hf2 => ?_) (fun hf2 => ?_)⟩
      · obtain ⟨u0, h0, l0⟩ := wv_zero W
        have w8 := W.m8
        refine ⟨_, rfl, _, rfl, a, _, _, _, rfl, rfl, sq_of (e14 _ _ ha), h0, _, rfl, tx_le (by omega), ?_⟩
        rw [tx_len, l0]
        refine ⟨r, _, m, rfl, ⟨vs, hv, pp⟩, by omega, fun r2 H5 e5 hr5 hp5 => ?_⟩
        exact q2 _ (e14.trans e5) _
      exact ⟨_, rfl, q2 _ e14 _⟩
end
end Law

/-! xs == [] and xs != [], whatever stands in xs -/
namespace NL
open PySem PySem.Spec PyProof.Rows L2
def rEqNil (K : PySem.W.Frag) : R2 := fun x y H Q => ∃ a b xs, x = .ref a ∧ y = .ref b ∧ SqL K H a xs ∧ SqL K H b [] ∧ Q (.bl (decide (xs.length = 0))) H
def rNeNil (K : PySem.W.Frag) : R2 := fun x y H Q => ∃ a b xs, x = .ref a ∧ y = .ref b ∧ SqL K H a xs ∧ SqL K H b [] ∧ Q (.bl (!decide (xs.length = 0))) H
section
variable {X : Cx}
theorem op_eqNil (hu : X.A.units + 64 < cLine) : OpR X (compareOp .Eq) (rEqNil X.K) := by
  intro pins s σ H x y v u Q I rx ry h
  obtain ⟨a, b, xs, rfl, rfl, ha, hb, q⟩ := h
  cases (show v = Value.ref a from rx)
  cases (show u = Value.ref b from ry)
  obtain ⟨us, r1, p1, _⟩ := I.list ha
  obtain ⟨ws, r2, p2, _⟩ := I.list hb
  cases r2
  have l1 := r1.length
  have un : X.A.units < cLine := by omega
  show wpAny _ _ (richCompare .Eq _ _) _ _ _
  by_cases hx : xs.length = 0
  · rw [decide_eq_true hx] at q
    have hz : us.toArray.size = ([] : List Value).toArray.size := by rw [List.size_toArray, List.size_toArray, ← l1, hx]; rfl
    refine (SeqAt.RcAt.lists (e := fun _ => true) p1.isList p2.isList hz un fun j h1 h2 => absurd h2 (Nat.not_lt_zero j)) X.prog X.w _ _ ?_
    refine ⟨.bl true, H, I, ?_, q⟩
    show Value.bool _ = Value.bool true
    rw [show ((List.range us.toArray.size).all fun _ => true) = true from List.all_eq_true.mpr fun _ _ => rfl]
  · rw [decide_eq_false hx] at q
    refine (SeqAt.RcAt.lists_lengths p1.isList p2.isList ?_ un) X.prog X.w _ _ ⟨.bl false, H, I, rfl, q⟩
    rw [bne_iff_ne, List.size_toArray, List.size_toArray, ← l1]
    exact hx
theorem op_neNil (hu : X.A.units + 64 < cLine) : OpR X (compareOp .NotEq) (rNeNil X.K) := by
  intro pins s σ H x y v u Q I rx ry h
  obtain ⟨a, b, xs, rfl, rfl, ha, hb, q⟩ := h
  cases (show v = Value.ref a from rx)
  cases (show u = Value.ref b from ry)
  obtain ⟨us, r1, p1, _⟩ := I.list ha
  obtain ⟨ws, r2, p2, _⟩ := I.list hb
  cases r2
  have l1 := r1.length
  have un : X.A.units < cLine := by omega
  show wpAny _ _ (richCompare .NotEq _ _) _ _ _
  by_cases hx : xs.length = 0
  · rw [decide_eq_true hx] at q
    have hz : us.toArray.size = ([] : List Value).toArray.size := by rw [List.size_toArray, List.size_toArray, ← l1, hx]; rfl
    refine (SeqAt.RcNeAt.lists (e := fun _ => true) p1.isList p2.isList hz un fun j h1 h2 => absurd h2 (Nat.not_lt_zero j)) X.prog X.w _ _ ?_
    refine ⟨.bl false, H, I, ?_, q⟩
    show Value.bool _ = Value.bool false
    rw [show ((List.range us.toArray.size).all fun _ => true) = true from List.all_eq_true.mpr fun _ _ => rfl]
    rfl
  · rw [decide_eq_false hx] at q
    refine (SeqAt.RcNeAt.lists_lengths p1.isList p2.isList ?_ un) X.prog X.w _ _ ⟨.bl true, H, I, rfl, q⟩
    rw [bne_iff_ne, List.size_toArray, List.size_toArray, ← l1]
    exact hx
end
end NL


namespace Law
open PySem PySem.Spec PyProof.Rows L2 Evl EK
def offs (L x : List Nat) (i : Nat) : List Nat := (x.take i).filter fun c => !decide (c ∈ L)
theorem offs_step {L x : List Nat} {i c : Nat} (h : x[i]? = some c) : offs L x (i + 1) = if c ∈ L then offs L x i else offs L x i ++ [c] := by
  unfold offs
  rw [List.take_add_one, h, List.filter_append]
  by_cases hm : c ∈ L
  · rw [if_pos hm]
    simp [hm]
  · rw [if_neg hm]
    simp [hm]
theorem offs_nil {L x : List Nat} (h : (offs L x x.length).length = 0) : ∀ c ∈ x, c ∈ L := by
  intro c hc
  unfold offs at h
  rw [List.take_length] at h
  have h2 := List.length_eq_zero_iff.mp h
  rw [List.filter_eq_nil_iff] at h2
  have := h2 c hc
  simpa using this
theorem offs_some {L x : List Nat} (h : (offs L x x.length).length ≠ 0) : ¬ ∀ c ∈ x, c ∈ L := by
  intro hall
  apply h
  unfold offs
  rw [List.take_length, List.length_eq_zero_iff, List.filter_eq_nil_iff]
  intro c hc
  simp [hall c hc]
section
variable {P : Program} {w : World} {K : PySem.W.Frag} {mg : Str → Option Value} {base : Heap}
theorem ok_lisword {f : Addr} {fd : FuncData} (F : Fun K "_law_is_word" "_law_is_word" s_lis_word f fd) (T : Tx mg) : FnOk P w K mg base CX0 1 f fd ["_law_letters_here", "_law_value"] (spWdG K) := by
  refine F.ok sc_lis_word (fun vs H Q E h => ?_) (fun cdv A outer s H vs Q E hr h => ?_)
  · obtain ⟨L, v, rfl, _⟩ := h
    rfl
  · obtain ⟨L, v, rfl, hL, h⟩ := h
    refine ⟨_, (pss_cons (ps_if (PW.pt (pw_or (pt_not (pt_val (pe_callB call_isi (by rfl) T.isinstance PyProof.Rows.boot_isinstance (pa_cons (pv 1) (pa_cons (pe_bltn (v := .ty "str") (by rfl) T.str PyProof.Rows.boot_str rfl) pa_nil))))) (pw_or (pt_cmpR op_lt (pe_callB call_len_str (by rfl) T.len PySem.boot_len (pa_cons (pv 1) pa_nil)) pe_int (nomark _)) (pw_or1 (pt_cmpR op_gt (pe_callB call_len_str (by rfl) T.len PySem.boot_len (pa_cons (pv 1) pa_nil)) pe_int (nomark _)))))) (pss_one (ps_ret pe_bl)) pss_nil)
      (pss_one (ps_ret (pe_cmpR (NL.op_eqNil hr.units) (pe_lc (own := [("_law_sign", 2)]) (g := gName 2) rfl sc_lis_word.nd (pi_str (pv 1)) (blkOk_by (N := N_lis_word) (sc := defScope s_lis_word) (by decide +kernel)) (fun _ _ _ _ _ => (pg_name (i := 2) sc_lis_word.nd rfl (Or.inl rfl))) (fun _ _ _ _ _ => (pts_one (pt_cmpR op_notIn_sign (pv 2) (pv 0) rfl))) (fun _ _ _ _ _ => (pv 2))) (pe_lst pa_nil) (nomark _))))), ?_⟩
    rcases h with ⟨x, rfl, hx, q⟩ | ⟨⟨t, ty, kk⟩, q⟩
    rotate_left
    · exact ⟨_, rfl, _, _, _, _, false, rfl, .ty _, ty, kk, false, rfl, q⟩
    have q0 := q H (Ex.refl _)
    refine ⟨_, rfl, _, _, _, _, true, rfl, .ty _, .base (.str _), kit_ss, true, rfl, ?_⟩
    by_cases h1 : x.length < 1
    · have ew : wdB L x = false := decide_eq_false fun z => by omega
      rw [ew] at q0
      refine ⟨_, rfl, _, rfl, tx_le (by omega), _, _, rfl, rfl, _, rfl, ite2 (fun _ => ?_) (fun hn => absurd (decide_eq_true (by rw [tx_len]; omega)) hn)⟩
      exact q0
    refine ⟨_, rfl, _, rfl, tx_le (by omega), _, _, rfl, rfl, _, rfl, ite2 (fun hb => absurd (of_decide_eq_true hb) (by rw [tx_len]; omega)) (fun _ => ?_)⟩
    by_cases h8 : 8 < x.length
    · have ew : wdB L x = false := decide_eq_false fun z => by omega
      rw [ew] at q0
      refine ⟨_, rfl, _, rfl, tx_le (by omega), _, _, rfl, rfl, _, rfl, ite2 (fun _ => ?_) (fun hn => absurd (decide_eq_true (by rw [tx_len]; omega)) hn)⟩
      exact q0
    refine ⟨_, rfl, _, rfl, tx_le (by omega), _, _, rfl, rfl, _, rfl, ite2 (fun hb => absurd (of_decide_eq_true hb) (by rw [tx_len]; omega)) (fun _ => ?_)⟩
    refine ⟨_, rfl, _, rfl, fun D hD => ?_⟩
    refine lc_str (x := tx x) (fun i H' => Ex H H' ∧ H' D = some (.lst (((offs L x i).map sg).map V.str))) ⟨Ex.new hD, upd_same⟩ (fun i c H' hic hw => ?_) (fun H' hw => ?_)
    · obtain ⟨e, hl⟩ := hw
      have hc := tx_at hic
      refine ⟨rfl, _, rfl, _, rfl, c, _, rfl, rfl, _, rfl, ?_⟩
      rw [show (tx L).cps.toList = L from rfl, offs_step hc]
      by_cases hm : c ∈ L
      · rw [decide_eq_true hm, if_pos hm]
        exact ⟨e, hl⟩
      · rw [decide_eq_false hm, if_neg hm]
        refine ⟨_, rfl, _, hl, ?_, e.mut hD, ?_⟩
        · rw [List.length_map, List.length_map]
          have := List.length_filter_le (fun c => !decide (c ∈ L)) (x.take i)
          rw [List.length_take] at this
          unfold offs
          exact sz_lt (by omega)
        · rw [upd_same, List.map_append, List.map_append]
          rfl
    · obtain ⟨e, hl⟩ := hw
      rw [tx_size] at hl
      refine ⟨by show 0 ≤ sizeLine; decide, fun r hr2 => ?_⟩
      refine ⟨D, r, _, rfl, rfl, sq_of ((Ex.new hr2) _ _ hl), sq_of upd_same, ?_⟩
      have q1 := q _ (e.trans (Ex.new (o := .lst []) hr2))
      rw [List.length_map, List.length_map]
      by_cases hz : (offs L x x.length).length = 0
      · rw [decide_eq_true hz]
        rw [show wdB L x = true from decide_eq_true ⟨by omega, by omega, offs_nil hz⟩] at q1
        exact q1
      · rw [decide_eq_false hz]
        rw [show wdB L x = false from decide_eq_false fun z => offs_some hz z.2.2] at q1
        exact q1
end
end Law


namespace Law
open PySem PySem.Spec PyProof.Rows L2 Evl EK
/-- what is told of a fault, or nothing -/
def ResV (H : Hp) (v : V) (due : Due) (d : PyData) : Prop := match due with
  | .ok => v = .non
  | .words i => ∃ r, v = .ref r ∧ H r = some (.tup [.str "words", .int (i : Nat), .bl true])
  | .text i => ∃ r, v = .ref r ∧ H r = some (.tup [.str "text", .int (i : Nat), .bl true])
  | .wish => ∃ r u, v = .ref r ∧ H r = some (.tup [.str "wish", u, .bl true]) ∧ AV H u d
theorem ResV.ex {H H' : Hp} {v : V} {due : Due} {d : PyData} (h : ResV H v due d) (e : Ex H H') : ResV H' v due d := by
  cases due with
  | ok => exact h
  | words i => obtain ⟨r, rfl, h⟩ := h; exact ⟨r, rfl, e _ _ h⟩
  | text i => obtain ⟨r, rfl, h⟩ := h; exact ⟨r, rfl, e _ _ h⟩
  | wish => obtain ⟨r, u, rfl, h, a⟩ := h; exact ⟨r, u, rfl, e _ _ h, a.ex e⟩
section
variable {H : Hp} {r : Addr} {L : List Nat} {es : List (Option (List Nat))} {t : Option (List Nat)} {b : Bool} {i : Nat} {d : PyData}
theorem res_words (h : badW L es = some i) (hr : H r = some (.tup [.str "words", .int (i : Nat), .bl true])) : ResV H (.ref r) (dueF L es t b) d := by
  unfold dueF
  rw [h]
  exact ⟨r, rfl, hr⟩
theorem res_text0 (h : badW L es = none) (hr : H r = some (.tup [.str "text", .int 0, .bl true])) : ResV H (.ref r) (dueF L es none b) d := by
  unfold dueF
  rw [h]
  exact ⟨r, rfl, hr⟩
theorem res_text {x : List Nat} (h : badW L es = none) (ht : badT L x = some i) (hr : H r = some (.tup [.str "text", .int (i : Nat), .bl true])) : ResV H (.ref r) (dueF L es (some x) b) d := by
  unfold dueF
  rw [h]
  simp only [ht]
  exact ⟨r, rfl, hr⟩
theorem res_ok {x : List Nat} (h : badW L es = none) (ht : badT L x = none) : ResV H .non (dueF L es (some x) true) d := by
  unfold dueF
  rw [h]
  simp only [ht]
  exact rfl
theorem res_wish {x : List Nat} {u : V} (h : badW L es = none) (ht : badT L x = none) (hr : H r = some (.tup [.str "wish", u, .bl true])) (ha : AV H u d) : ResV H (.ref r) (dueF L es (some x) false) d := by
  unfold dueF
  rw [h]
  simp only [ht]
  exact ⟨r, u, rfl, hr, ha⟩
end
/-- the places of wrong signs so far -/
def WrT (L x : List Nat) (i : Nat) (ns : List Nat) : Prop := (ns = [] ∧ ∀ j c, j < i → x[j]? = some c → c ∈ L) ∨ ∃ j r c, ns = j :: r ∧ x[j]? = some c ∧ c ∉ L ∧ ∀ k d, k < j → x[k]? = some d → d ∈ L
theorem WrT.yes {L x : List Nat} {i c : Nat} {ns : List Nat} (h : WrT L x i ns) (hc : x[i]? = some c) (hm : c ∈ L) : WrT L x (i + 1) ns := by
  rcases h with ⟨e, h⟩ | h
  · refine .inl ⟨e, fun j d hj hd => ?_⟩
    by_cases hji : j = i
    · rw [hji, hc] at hd
      cases hd
      exact hm
    · exact h j d (by omega) hd
  · exact .inr h
theorem WrT.no {L x : List Nat} {i c : Nat} {ns : List Nat} (h : WrT L x i ns) (hc : x[i]? = some c) (hm : c ∉ L) : WrT L x (i + 1) (ns ++ [i]) := by
  rcases h with ⟨rfl, h⟩ | ⟨j, r, d, rfl, h⟩
  · exact .inr ⟨i, [], c, rfl, hc, hm, fun k d hk hd => h k d hk hd⟩
  · exact .inr ⟨j, r ++ [i], d, rfl, h⟩
def spDue (K : PySem.W.Frag) : Sp := fun vs H Q _ => ∃ (L : List Nat) (a : Addr) (xs : List V) (es : List (Option (List Nat))) (tv : V) (t : Option (List Nat)) (wv : V) (b : Bool) (d : PyData), vs = [.str (tx L), .ref a, tv, wv] ∧ LG L ∧ H a = some (.lst xs) ∧ Els K H xs es ∧ xs.length < 100 ∧
  TxtV K H tv t ∧ WishV K H wv b ∧ AV H wv d ∧ ∀ v H', Ex H H' → ResV H' v (dueF L es t b) d → Q v H'
section
variable {P : Program} {w : World} {K : PySem.W.Frag} {mg : Str → Option Value} {base : Heap}
theorem ok_ldue {f : Addr} {fd : FuncData} (F : Fun K "_law_due" "_law_due" s_ldue f fd) (T : Tx mg) (c_lis_word : Kn P w K mg base "_law_is_word" ["_law_letters_here", "_law_value"] 1 (spWdG K)) : FnOk P w K mg base CX0 2 f fd ["_law_letters_here", "_law_words_here", "_law_text_here", "_law_wish"] (spDue K) := by
  refine F.ok sc_ldue (fun vs H Q E h => ?_) (fun cdv A outer s H vs Q E hr h => ?_)
  · obtain ⟨L, a, xs, es, tv, t, yw, b, d, rfl, _⟩ := h
    rfl
  · obtain ⟨L, a, xs, es, tv, t, yw, b, d, rfl, hL, ha, EE, hx, hT, hW, hA, q⟩ := h
    have le := EE.len
    have h4 := hL.hi
    refine ⟨_, (pss_cons (ps_for PassesOwn.never rfl (pi_range1 (by rfl) T.range (pa_cons (pe_callB call_len_seq (by rfl) T.len PySem.boot_len (pa_cons (pv 1) pa_nil)) pa_nil)) (pg_name (i := 4) sc_ldue.nd rfl (Or.inr rfl)) (pss_cons (ps_if (PW.pt (pw_or (pt_cmpR op_eq (pv 4) pe_int (nomark _)) (pw_or (pt_not (pt_val (pe_call c_lis_word.ok (hr.mono (by decide)) (by rfl) c_lis_word.g c_lis_word.kp c_lis_word.b .nil pass0 (pa_cons (pv 0) (pa_cons (pe_ix ix_list (pv 1) (pv 4) (fun _ _ => rfl)) pa_nil))))) (pw_or1 (pt_cmpR op_ne (pe_callB call_len_str (by rfl) T.len PySem.boot_len (pa_cons (pe_ix ix_list (pv 1) (pv 4) (fun _ _ => rfl)) pa_nil)) (pe_callB call_len_str (by rfl) T.len PySem.boot_len (pa_cons (pe_ix ix_list (pv 1) pe_int (fun _ _ => rfl)) pa_nil)) (nomark _)))))) (pss_one (ps_ret (pe_tup (pa_cons pe_str (pa_cons (pv 4) (pa_cons pe_bl pa_nil)))))) pss_nil)
      (pss_one (ps_if (pt_cmpR (NL.op_neNil hr.units) (pe_lc (own := [("_law_other", 5)]) (g := gName 5) rfl sc_ldue.nd (pi_list (pe_slice sl_list (pv 1) po_none (po_some (pv 4)))) (blkOk_by (N := N_ldue) (sc := defScope s_ldue) (by decide +kernel)) (fun _ _ _ _ _ => (pg_name (i := 5) sc_ldue.nd rfl (Or.inl rfl))) (fun _ _ _ _ _ => (pts_one (pt_cmpR op_eq (pv 5) (pe_ix (show IxR _ (rIxL K) from ix_list) (pv 1) (pv 4) (fun _ _ => rfl)) (nomark _)))) (fun _ _ _ _ _ => (pv 5))) (pe_lst pa_nil) (nomark _)) (pss_one (ps_ret (pe_tup (pa_cons pe_str (pa_cons (pv 4) (pa_cons pe_bl pa_nil)))))) pss_nil))))
      (pss_cons (ps_if (pt_cmpR op_eq (pe_callB call_len_seq (by rfl) T.len PySem.boot_len (pa_cons (pv 1) pa_nil)) pe_int (nomark _)) (pss_one (ps_ret (pe_tup (pa_cons pe_str (pa_cons pe_int (pa_cons pe_bl pa_nil)))))) pss_nil)
      (pss_cons (ps_if (pt_not (pt_val (pe_callB call_isi (by rfl) T.isinstance PyProof.Rows.boot_isinstance (pa_cons (pv 2) (pa_cons (pe_bltn (v := .ty "str") (by rfl) T.str PyProof.Rows.boot_str rfl) pa_nil))))) (pss_one (ps_ret (pe_tup (pa_cons pe_str (pa_cons pe_int (pa_cons pe_bl pa_nil)))))) pss_nil)
      (pss_cons (ps_setLc (i := 6) (own := [("_law_place", 4)]) (g := gName 4) rfl sc_ldue.nd rfl rfl (sw_true rfl rfl rfl (by decide +kernel)) (pi_range1 (by rfl) T.range (pa_cons (pe_callB call_len_str (by rfl) T.len PySem.boot_len (pa_cons (pv 2) pa_nil)) pa_nil)) (blkOk_by (N := N_ldue) (sc := defScope s_ldue) (by decide +kernel)) (fun _ _ _ _ _ => (pg_name (i := 4) sc_ldue.nd rfl (Or.inl rfl))) (fun _ _ _ _ _ => (pts_one (pt_cmpR op_notIn_sign (pe_ix ix_str (pv 2) (pv 4) (fun _ _ => rfl)) (pv 0) rfl))) (fun _ _ _ _ _ => (pv 4)))
      (pss_cons (ps_if (pt_cmpR (NL.op_neNil hr.units) (pv 6) (pe_lst pa_nil) (nomark _)) (pss_one (ps_ret (pe_tup (pa_cons pe_str (pa_cons (pe_ix ix_list (pv 6) pe_int (fun _ _ => rfl)) (pa_cons pe_bl pa_nil)))))) pss_nil)
      (pss_one (ps_ret (pe_ifExp (PW.pt (pw_and (pt_val (pe_callB call_isi (by rfl) T.isinstance PyProof.Rows.boot_isinstance (pa_cons (pv 3) (pa_cons (pe_bltn (v := .ty "str") (by rfl) T.str PyProof.Rows.boot_str rfl) pa_nil)))) (pw_and1 (pt_cmpR op_in_seq (pv 3) (pe_tup (pa_cons pe_str (pa_cons pe_str (pa_cons pe_str pa_nil)))) rfl)))) pe_non (pe_tup (pa_cons pe_str (pa_cons (pv 3) (pa_cons pe_bl pa_nil)))))))))))), ?_⟩
    refine ⟨_, rfl, a, _, rfl, .inl (sq_of ha), _, rfl, by omega, by omega, ?_⟩
    rw [show ((xs.length : Nat) : Int).toNat = xs.length by omega]
    refine for_range (lo := 0) (n := xs.length) (fun i σ H' => ∃ y4 y5 y6 : Option V, σ = [some (.str (tx L)), some (.ref a), some tv, some yw, y4, y5, y6] ∧ Ex H H' ∧ i ≤ 3 ∧ ∀ j, j < i → goodB L es j = true) ⟨none, none, none, rfl, Ex.refl _, by omega, fun j hj => absurd hj (Nat.not_lt_zero _)⟩ (fun i σ H1 hi hw => ?_) (fun σ H1 hw => ?_)
    · obtain ⟨y4, y5, y6, rfl, e1, hi3, hg⟩ := hw
      rw [Int.zero_add]
      refine ⟨_, rfl, ?_⟩
      by_cases h3 : i = 3
      · subst h3
        refine ⟨rfl, _, rfl, ite2 (fun _ => ?_) (fun hb => absurd (by decide) hb)⟩
        refine ⟨_, rfl, by show 3 ≤ sizeLine; decide, fun r hr2 => q _ _ (e1.trans (Ex.new hr2)) (res_words (bad_3 (by omega) hg) upd_same)⟩
      refine ⟨rfl, _, rfl, ite2 (fun hb => absurd (of_decide_eq_true hb) ?_) (fun _ => ?_)⟩
      · intro z
        have := V.int.inj z
        omega
      obtain ⟨x, hxi⟩ : ∃ x, xs[i]? = some x := ⟨_, List.getElem?_eq_getElem hi⟩
      obtain ⟨ex, hex, hE⟩ := EE.get hxi
      have ret : ∀ H2, Ex H H2 → goodB L es i = false → ∀ r, H2 r = none → Q (.ref r) (upd H2 r (.tup [.str "words", .int (i : Nat), .bl true])) := fun H2 e2 hgb r hr2 =>
        q _ _ (e2.trans (Ex.new hr2)) (res_words (bad_at (by omega) (by omega) hg hgb) upd_same)
      cases hE with
      | odd hn =>
        refine ⟨_, rfl, _, rfl, _, rfl, a, _, _, _, rfl, rfl, sq_of (e1 _ _ ha), atI_nat hxi, L, _, rfl, by omega, .inr ⟨hn.ex e1, ?_⟩⟩
        refine ⟨_, rfl, ?_⟩
        refine ⟨_, rfl, by show 3 ≤ sizeLine; decide, ret _ e1 ?_⟩
        unfold goodB
        rw [hex]
      | txt u lu =>
        refine ⟨_, rfl, _, rfl, _, rfl, a, _, _, _, rfl, rfl, sq_of (e1 _ _ ha), atI_nat hxi, L, _, rfl, by omega, .inl ⟨u, rfl, lu, fun H2 e2 => ?_⟩⟩
        have e12 := e1.trans e2
        cases hwd : wdB L u with
        | false =>
          refine ⟨_, rfl, ?_⟩
          refine ⟨_, rfl, by show 3 ≤ sizeLine; decide, ret _ e12 ?_⟩
          unfold goodB
          rw [hex]
          show (wdB L u && lenB es u && !decide (some u ∈ es.take i)) = false
          rw [hwd]
          rfl
        | true =>
          obtain ⟨y, hy⟩ : ∃ y, es[0]? = some (some y) := by
            by_cases h0 : i = 0
            · subst h0
              exact ⟨u, hex⟩
            · exact good_txt (hg 0 (by omega))
          obtain ⟨v0, hv0, hE0⟩ := EE.get' hy
          have gd : goodB L es i = (decide (u.length = y.length) && !decide (some u ∈ es.take i)) := by
            unfold goodB lenB
            rw [hex, hy]
            show (wdB L u && decide (u.length = y.length) && !decide (some u ∈ es.take i)) = _
            rw [hwd, Bool.true_and]
          cases hE0 with
          | txt y ly =>
            refine ⟨_, rfl, _, rfl, _, rfl, a, _, _, _, rfl, rfl, sq_of (e12 _ _ ha), atI_nat hxi, _, rfl, tx_le (by omega), _, rfl, a, _, _, _, rfl, rfl, sq_of (e12 _ _ ha), atI_nat (j := 0) hv0, _, rfl, tx_le (by omega), rfl, _, rfl, ite2 (fun hb => ?_) (fun hb => ?_)⟩
            · refine ⟨_, rfl, by show 3 ≤ sizeLine; decide, ret _ e12 ?_⟩
              rw [gd, decide_eq_false, Bool.false_and]
              intro z
              rw [decide_eq_true (show V.int ((tx u).length : Int) = V.int ((tx y).length : Int) by rw [tx_len, tx_len, z])] at hb
              cases hb
            have hlen : u.length = y.length := by
              by_cases z : u.length = y.length
              · exact z
              · refine absurd ?_ hb
                rw [decide_eq_false]
                · rfl
                · intro z2
                  have := V.int.inj z2
                  rw [tx_len, tx_len] at this
                  exact z (by omega)
            obtain ⟨ws, w1, w2⟩ := els_texts EE i (fun j hj => good_txt (hg j hj)) (by omega)
            have hcut2 : cutV xs none (some (i : Int)) = wv ws := by
              unfold cutV
              rw [HT.sIx_none, HT.sIx_nat, Nat.sub_zero, List.drop_zero, ← w1, List.take_eq_take_iff]
              omega
            have mem : decide (some u ∈ es.take i) = decide (u ∈ ws) := by
              rw [w2, decide_eq_decide]
              constructor
              · intro h
                obtain ⟨z, hz, e⟩ := List.mem_map.mp h
                cases e
                exact hz
              · intro h
                exact List.mem_map.mpr ⟨u, h, rfl⟩
            rw [decide_eq_true hlen, Bool.true_and, mem] at gd
            refine ⟨_, rfl, _, rfl, _, rfl, a, _, rfl, sq_of (e12 _ _ ha), fun D2 hD2 => ?_⟩
            rw [hcut2]
            have e13 := e12.trans (Ex.new (o := .lst (wv ws)) hD2)
            have hw2 : (upd H2 D2 (.lst (wv ws))) D2 = some (.lst (wv ws)) := upd_same
            generalize upd H2 D2 (.lst (wv ws)) = H3 at e13 hw2 ⊢
            refine ⟨D2, rfl, ⟨_, sq_of hw2⟩, fun D hD => ?_⟩
            refine lc_list (K := K) (a := D2) (xs := wv ws) (fun j H' => Ex H H' ∧ H' D2 = some (.lst (wv ws)) ∧ ∃ zs : List V, H' D = some (.lst zs) ∧ zs.length ≤ j ∧ ((zs.length = 0) ↔ u ∉ ws.take j)) ⟨e13.trans (Ex.new hD), (Ex.new hD) _ _ hw2, [], upd_same, Nat.le_refl _, ?_⟩ (fun j H' _ hw => sq_of hw.2.1) (fun j z H' hz hw => ?_) (fun H' hw => ?_)
            · exact ⟨fun _ h => (nomatch h), fun _ => rfl⟩
            · obtain ⟨e14, h2, zs, hzs, hzl, hiff⟩ := hw
              obtain ⟨yw2, hyw, rfl⟩ : ∃ y, ws[j]? = some y ∧ z = .str (tx y) := by
                unfold wv at hz
                rw [List.getElem?_map] at hz
                obtain ⟨y, h1, h2⟩ := Option.map_eq_some_iff.mp hz
                exact ⟨y, h1, h2.symm⟩
              refine ⟨rfl, _, rfl, _, rfl, _, rfl, a, _, _, _, rfl, rfl, sq_of (e14 _ _ ha), atI_nat hxi, rfl, _, rfl, ?_⟩
              have hin : u ∈ ws.take (j + 1) ↔ u ∈ ws.take j ∨ u = yw2 := by
                rw [List.take_add_one, hyw, List.mem_append]
                simp
              by_cases hu : u = yw2
              · rw [decide_eq_true (show V.str (tx yw2) = .str (tx u) by rw [hu])]
                refine ⟨_, rfl, _, hzs, sz_lt (by have := (List.getElem?_eq_some_iff.mp hyw).1; have : ws.length ≤ i := by { have := congrArg List.length w1; rw [List.length_take] at this; unfold wv at this; rw [List.length_map] at this; omega }; omega), e14.mut (fresh_back e13 hD), ?_, _, upd_same, ?_, ?_⟩
                · rw [upd_ne (fun z => by rw [z, hzs] at h2; rw [← z] at hD; rw [hD] at hw2; cases hw2)]
                  exact h2
                · rw [List.length_append]
                  show zs.length + 1 ≤ j + 1
                  omega
                · rw [hin, List.length_append]
                  constructor
                  · intro h
                    exact absurd h (by show zs.length + 1 ≠ 0; omega)
                  · intro h
                    exact absurd (.inr hu) h
              · rw [decide_eq_false (show ¬ V.str (tx yw2) = .str (tx u) from fun z => hu (tx_inj (V.str.inj z)).symm)]
                refine ⟨e14, h2, zs, hzs, by omega, ?_⟩
                rw [hin, hiff]
                constructor
                · intro h h3
                  rcases h3 with h3 | h3
                  · exact h h3
                  · exact hu h3
                · intro h h3
                  exact h (.inl h3)
            · obtain ⟨e14, h2, zs, hzs, hzl, hiff⟩ := hw
              rw [List.take_of_length_le (by unfold wv; rw [List.length_map]; exact Nat.le_refl _)] at hiff
              refine ⟨by show 0 ≤ sizeLine; decide, fun r hr2 => ⟨D, r, _, rfl, rfl, sq_of ((Ex.new hr2) _ _ hzs), sq_of upd_same, _, rfl, ite2 (fun hb => ?_) (fun hb => ?_)⟩⟩
              · have e15 := e14.trans (Ex.new (o := .lst []) hr2)
                refine ⟨_, rfl, by show 3 ≤ sizeLine; decide, ret _ e15 ?_⟩
                rw [gd, decide_eq_true, Bool.not_true]
                refine Decidable.byContradiction fun hn => ?_
                rw [decide_eq_true (hiff.mpr hn)] at hb
                cases hb
              · refine ⟨_, _, _, rfl, e14.trans (Ex.new (o := .lst []) hr2), by omega, fun k hk => ?_⟩
                by_cases hki : k = i
                · rw [hki, gd]
                  have hz0 : zs.length = 0 := by
                    refine Decidable.byContradiction fun hn => hb ?_
                    rw [decide_eq_false hn]
                    rfl
                  rw [decide_eq_false (hiff.mp hz0)]
                  rfl
                · exact hg k (by omega)
    · obtain ⟨y4, y5, y6, rfl, e1, hi3, hg⟩ := hw
      refine ⟨_, rfl, a, _, rfl, .inl (sq_of (e1 _ _ ha)), rfl, _, rfl, ite2 (fun hb => ?_) (fun hb => ?_)⟩
      · have hb2 := V.int.inj (of_decide_eq_true hb)
        refine ⟨by show 3 ≤ sizeLine; decide, fun r hr2 => q _ _ (e1.trans (Ex.new hr2)) (res_words (i := 0) (bad_nil (by omega)) upd_same)⟩
      have hn0 : es.length ≠ 0 := fun z => hb (decide_eq_true (by rw [le, z]; rfl))
      have hn := bad_none hn0 (by omega) fun j hj => hg j (by omega)
      rcases hT with ⟨x, rfl, rfl, hxl⟩ | ⟨⟨t, ty, kk⟩, rfl⟩
      rotate_left
      · refine ⟨_, rfl, _, _, _, _, false, rfl, .ty _, TyX_ex ty e1, kk, _, rfl, ?_⟩
        exact ⟨by show 3 ≤ sizeLine; decide, fun r hr2 => q _ _ (e1.trans (Ex.new hr2)) (res_text0 hn upd_same)⟩
      refine ⟨_, rfl, _, _, _, _, true, rfl, .ty _, .base (.str _), kit_ss, _, rfl, ?_⟩
      refine ⟨_, rfl, _, rfl, tx_le (by omega), _, rfl, by rw [tx_len]; omega, by rw [tx_len]; omega, fun D hD => ?_⟩
      rw [tx_len, show ((x.length : Nat) : Int).toNat = x.length by omega]
      refine lc_range (lo := 0) (n := x.length) (fun i H' => Ex H H' ∧ ∃ ns : List Nat, WrT L x i ns ∧ ns.length ≤ i ∧ H' D = some (.lst (ns.map fun n : Nat => V.int n))) ⟨e1.trans (Ex.new hD), [], .inl ⟨rfl, fun j c hj => absurd hj (Nat.not_lt_zero _)⟩, Nat.le_refl _, upd_same⟩ (fun i H' hi hw => ?_) (fun H' hw => ?_)
      · obtain ⟨e2, ns, hW2, hnl, hD2⟩ := hw
        rw [Int.zero_add]
        obtain ⟨c, hc⟩ : ∃ c, x[i]? = some c := ⟨_, List.getElem?_eq_getElem hi⟩
        refine ⟨rfl, _, rfl, _, rfl, _, _, _, rfl, rfl, tx_le (by omega), atI_nat hc, _, rfl, c, _, rfl, rfl, _, rfl, ?_⟩
        rw [show (tx L).cps.toList = L from rfl]
        by_cases hm : c ∈ L
        · rw [decide_eq_true hm]
          exact ⟨e2, ns, hW2.yes hc hm, by omega, hD2⟩
        · rw [decide_eq_false hm]
          refine ⟨_, rfl, _, hD2, sz_lt (by rw [List.length_map]; omega), e2.mut (fresh_back e1 hD), ns ++ [i], hW2.no hc hm, by rw [List.length_append]; show ns.length + 1 ≤ i + 1; omega, ?_⟩
          rw [upd_same, List.map_append]
          rfl
      · obtain ⟨e2, ns, hW2, hnl, hD2⟩ := hw
        refine ⟨_, rfl, by show 0 ≤ sizeLine; decide, fun r hr2 => ⟨D, r, _, rfl, rfl, sq_of ((Ex.new hr2) _ _ hD2), sq_of upd_same, _, rfl, ite2 (fun hb => ?_) (fun hb => ?_)⟩⟩
        · have e3 := e2.trans (Ex.new (o := .lst []) hr2)
          rcases hW2 with ⟨rfl, _⟩ | ⟨j, rs, c, rfl, hc, hm, hlo⟩
          · cases hb
          refine ⟨_, rfl, D, _, _, _, rfl, rfl, sq_of ((Ex.new hr2) _ _ hD2), atI_nat (j := 0) rfl, by show 3 ≤ sizeLine; decide, fun r3 hr3 => q _ _ (e3.trans (Ex.new hr3)) (res_text hn (badT_at hc hm hlo) upd_same)⟩
        · have e3 := e2.trans (Ex.new (o := .lst []) hr2)
          rcases hW2 with ⟨rfl, hall⟩ | ⟨j, rs, c, rfl, hc, hm, hlo⟩
          rotate_left
          · exact absurd rfl hb
          have hbt : badT L x = none := badT_none fun c hc => by
            obtain ⟨j, hj, rfl⟩ := List.mem_iff_getElem.mp hc
            exact hall j _ hj (List.getElem?_eq_getElem hj)
          rcases hW with ⟨z, rfl, rfl⟩ | ⟨⟨t, ty, kk⟩, rfl⟩
          rotate_left
          · refine ⟨_, rfl, _, _, _, _, false, rfl, .ty _, TyX_ex ty e3, kk, _, rfl, ?_⟩
            exact ⟨_, rfl, by show 3 ≤ sizeLine; decide, fun r3 hr3 => q _ _ (e3.trans (Ex.new hr3)) (res_wish hn hbt upd_same (hA.ex (e3.trans (Ex.new hr3))))⟩
          refine ⟨_, rfl, _, _, _, _, true, rfl, .ty _, .base (.str _), kit_ss, _, rfl, ?_⟩
          refine ⟨_, rfl, by show 3 ≤ sizeLine; decide, fun t ht => ?_⟩
          have e4 := e3.trans (Ex.new (o := .tup (wishes.map V.str)) ht)
          refine ⟨t, wishes.map V.str, rfl, .inr (st_of upd_same), rfl, rfl, ?_⟩
          rw [inW z]
          cases hz : wishB z with
          | true => 
            refine ⟨_, rfl, ?_⟩
            rw [hz] at q
            exact q _ _ e4 (res_ok hn hbt)
          | false =>
            refine ⟨_, rfl, ?_⟩
            rw [hz] at q
            exact ⟨_, rfl, by show 3 ≤ sizeLine; decide, fun r3 hr3 => q _ _ (e4.trans (Ex.new hr3)) (res_wish hn hbt upd_same (hA.ex (e4.trans (Ex.new hr3))))⟩
end
end Law


namespace Law
open PySem PySem.Spec PyProof.Rows L2 Evl EK LamX
structure Exm (K : PySem.W.Frag) (CL CW CT CX : Addr) : Prop where
  ll : PySem.W.exmOne K (.ref CL) (.ref CL) = some true
  wl : PySem.W.exmOne K (.ref CW) (.ref CL) = some false
  ww : PySem.W.exmOne K (.ref CW) (.ref CW) = some true
  tl : PySem.W.exmOne K (.ref CT) (.ref CL) = some false
  tw : PySem.W.exmOne K (.ref CT) (.ref CW) = some false
  tt : PySem.W.exmOne K (.ref CT) (.ref CT) = some true
  xl : PySem.W.exmOne K (.ref CX) (.ref CL) = some false
  xw : PySem.W.exmOne K (.ref CX) (.ref CW) = some false
  xt : PySem.W.exmOne K (.ref CX) (.ref CT) = some false
  xx : PySem.W.exmOne K (.ref CX) (.ref CX) = some true
structure NoF (K : PySem.W.Frag) (CL CW CT CX : Addr) : Prop where
  l : PySem.W.findIn K (.ref CL) "letters" = some none
  w : PySem.W.findIn K (.ref CW) "place" = some none
  t : PySem.W.findIn K (.ref CT) "place" = some none
  x : PySem.W.findIn K (.ref CX) "wish" = some none
structure Gs (mg : Str → Option Value) (CL CW CT CX C0 : Addr) : Prop where
  l : mg "BadLetters" = some (.ref CL)
  w : mg "BadWords" = some (.ref CW)
  t : mg "BadText" = some (.ref CT)
  x : mg "BadWish" = some (.ref CX)
  s : mg "SkipsError" = some (.ref C0)
/-- what _law_met makes of an error -/
def Emet (CL CW CT CX : Addr) (Q : VK) : XK := fun cls d H' => ∃ dd v, d = some dd ∧
  ((cls = .ref CL ∧ H' dd = some (.xd [("letters", v)]) ∧ ∀ r, H' r = none → Q (.ref r) (upd H' r (.tup [.str "letters", v, .bl true]))) ∨
   (cls = .ref CW ∧ H' dd = some (.xd [("place", v)]) ∧ ∀ r, H' r = none → Q (.ref r) (upd H' r (.tup [.str "words", v, .bl true]))) ∨
   (cls = .ref CT ∧ H' dd = some (.xd [("place", v)]) ∧ ∀ r, H' r = none → Q (.ref r) (upd H' r (.tup [.str "text", v, .bl true]))) ∨
   (cls = .ref CX ∧ H' dd = some (.xd [("wish", v)]) ∧ ∀ r, H' r = none → Q (.ref r) (upd H' r (.tup [.str "wish", v, .bl true]))))
theorem takes_len {X : Cx} {W : WX} (tk : Takes X W) : Takes X (fun cls d σ H => σ.length = X.N.length → W cls d σ H) := fun u s' ⟨a, B, sI, pins, σ, H, cls, d, e, I, nb, up, sky, na, os, ag, h⟩ =>
  tk u s' ⟨a, B, sI, pins, σ, H, cls, d, e, I, nb, up, sky, na, os, ag, h I.len⟩
def TTmet (CL CW CT CX : Addr) : (XK → Hp → VK → Prop) → Hp → VK → Prop := fun tl H Q => tl (Emet CL CW CT CX Q) H fun _ H' => Q .non H'
section
variable {X : Cx}
theorem met_gives {q : Str} {g C_BadLetters C_BadWords C_BadText C_BadWish fL fW fT fX C_SkipsError : Addr} {cdg : Value} (T : Tx X.mg) (E1 : ErrC X.K C_BadLetters fL C_SkipsError) (E2 : ErrC X.K C_BadWords fW C_SkipsError) (E3 : ErrC X.K C_BadText fT C_SkipsError) (E4 : ErrC X.K C_BadWish fX C_SkipsError)
    (G : Gs X.mg C_BadLetters C_BadWords C_BadText C_BadWish C_SkipsError) (NF : NoF X.K C_BadLetters C_BadWords C_BadText C_BadWish) (EX : Exm X.K C_BadLetters C_BadWords C_BadText C_BadWish) :
    GivesTo X N_lmet "_law_met" (defScope s_lmet) g cdg (defBody s_lmet) "_law_call" q (TTmet C_BadLetters C_BadWords C_BadText C_BadWish) := by
  intro f c' s H Q tl act hc h
  obtain ⟨_, _, _, XF_BadLetters, EX_BadLetters, k1⟩ := E1
  obtain ⟨_, _, _, XF_BadWords, EX_BadWords, k2⟩ := E2
  obtain ⟨_, _, _, XF_BadText, EX_BadText, k3⟩ := E3
  obtain ⟨_, _, _, XF_BadWish, EX_BadWish, k4⟩ := E4
  obtain ⟨g_BadLetters, g_BadWords, g_BadText, g_BadWish, g_SkipsError⟩ := G
  obtain ⟨N_BadLetters_letters, N_BadWords_place, N_BadText_place, N_BadWish_wish⟩ := NF
  refine ⟨_, pss_cons (EK.ps_tryN (X := (cxOf C8.CX0 X.prog X.w X.K X.mg X.base N_lmet "_law_met" (defScope s_lmet) g cdg X.A X.stack s H C8.E0).nox) (i := 1) (n := "e")
      (tb := fun W D σ H => ∃ Ech : XK, (∀ cls d σ' H', Ech cls d H' → σ'.length = 2 → W cls d σ' H') ∧ σ[0]? = some (some (.ref f)) ∧ H c' = some (CodeO c' q) ∧ tl Ech H fun _ H' => D.nx σ H')
      rfl rfl sc_lmet.nd rfl rfl LamX.takes0 (fun W pn xe tk _ => ?_)
      (EK.HdsN.cons ⟨(by rfl), (by decide), .inl g_BadLetters⟩ (fun a oe cls d pn hz hf => (pss_one (ps_ret (pe_tup (pa_cons pe_str (pa_cons (pe_xf XF_BadLetters N_BadLetters_letters hz hf (pv 1)) (pa_cons (pe_callB (EK.call_isE EX_BadLetters hz hf) (by rfl) T.isinstance PyProof.Rows.boot_isinstance (pa_cons (pv 1) (pa_cons (pe_glob (v := .ref C_SkipsError) rfl g_SkipsError rfl) pa_nil))) pa_nil))))))) (EK.HdsN.cons ⟨(by rfl), (by decide), .inl g_BadWords⟩ (fun a oe cls d pn hz hf => (pss_one (ps_ret (pe_tup (pa_cons pe_str (pa_cons (pe_xf XF_BadWords N_BadWords_place hz hf (pv 1)) (pa_cons (pe_callB (EK.call_isE EX_BadWords hz hf) (by rfl) T.isinstance PyProof.Rows.boot_isinstance (pa_cons (pv 1) (pa_cons (pe_glob (v := .ref C_SkipsError) rfl g_SkipsError rfl) pa_nil))) pa_nil))))))) (EK.HdsN.cons ⟨(by rfl), (by decide), .inl g_BadText⟩ (fun a oe cls d pn hz hf => (pss_one (ps_ret (pe_tup (pa_cons pe_str (pa_cons (pe_xf XF_BadText N_BadText_place hz hf (pv 1)) (pa_cons (pe_callB (EK.call_isE EX_BadText hz hf) (by rfl) T.isinstance PyProof.Rows.boot_isinstance (pa_cons (pv 1) (pa_cons (pe_glob (v := .ref C_SkipsError) rfl g_SkipsError rfl) pa_nil))) pa_nil))))))) (EK.HdsN.cons ⟨(by rfl), (by decide), .inl g_BadWish⟩ (fun a oe cls d pn hz hf => (pss_one (ps_ret (pe_tup (pa_cons pe_str (pa_cons (pe_xf XF_BadWish N_BadWish_wish hz hf (pv 1)) (pa_cons (pe_callB (EK.call_isE EX_BadWish hz hf) (by rfl) T.isinstance PyProof.Rows.boot_isinstance (pa_cons (pv 1) (pa_cons (pe_glob (v := .ref C_SkipsError) rfl g_SkipsError rfl) pa_nil))) pa_nil))))))) EK.HdsN.nil))))) (pss_one (ps_ret pe_non)), ?_⟩
  · refine ⟨fun pins s' σ H' D I h' => ?_⟩
    obtain ⟨Ech, hW, h1, h2, h3⟩ := h'
    exact (pss_one (ps_expr (act _ pn xe Ech _ _ (takes_len tk) hW))).run pins s' σ H' D I ⟨h1, h2, h3⟩
  · refine ⟨Emet C_BadLetters C_BadWords C_BadText C_BadWish Q, ?_, rfl, hc, h⟩
    rintro cls d σ' H' h2 h3
    obtain ⟨u1, u2, rfl⟩ : ∃ u1 u2, σ' = [u1, u2] := by
      match σ', h3 with
      | [a, b], _ => exact ⟨a, b, rfl⟩
    obtain ⟨dd, v, rfl, ⟨rfl, hx, q1⟩ | ⟨rfl, hx, q1⟩ | ⟨rfl, hx, q1⟩ | ⟨rfl, hx, q1⟩⟩ := h2
    · refine ⟨true, EX.ll, fun _ a ha => ?_, fun z => nomatch z⟩
      refine ⟨_, rfl, rfl, rfl, dd, _, _, rfl, hx, rfl, _, rfl, _, _, true, rfl, rfl, ⟨dd, _, rfl, hx⟩, .own _, k1, by show 3 ≤ sizeLine; decide, fun r hr2 => ?_⟩
      exact q1 r hr2
    · refine ⟨false, EX.wl, (fun z => nomatch z), fun _ => ⟨true, EX.ww, fun _ a ha => ?_, fun z => nomatch z⟩⟩
      refine ⟨_, rfl, rfl, rfl, dd, _, _, rfl, hx, rfl, _, rfl, _, _, true, rfl, rfl, ⟨dd, _, rfl, hx⟩, .own _, k2, by show 3 ≤ sizeLine; decide, fun r hr2 => ?_⟩
      exact q1 r hr2
    · refine ⟨false, EX.tl, (fun z => nomatch z), fun _ => ⟨false, EX.tw, (fun z => nomatch z), fun _ => ⟨true, EX.tt, fun _ a ha => ?_, fun z => nomatch z⟩⟩⟩
      refine ⟨_, rfl, rfl, rfl, dd, _, _, rfl, hx, rfl, _, rfl, _, _, true, rfl, rfl, ⟨dd, _, rfl, hx⟩, .own _, k3, by show 3 ≤ sizeLine; decide, fun r hr2 => ?_⟩
      exact q1 r hr2
    · refine ⟨false, EX.xl, (fun z => nomatch z), fun _ => ⟨false, EX.xw, (fun z => nomatch z), fun _ => ⟨false, EX.xt, (fun z => nomatch z), fun _ => ⟨true, EX.xx, fun _ a ha => ?_, fun z => nomatch z⟩⟩⟩⟩
      refine ⟨_, rfl, rfl, rfl, dd, _, _, rfl, hx, rfl, _, rfl, _, _, true, rfl, rfl, ⟨dd, _, rfl, hx⟩, .own _, k4, by show 3 ≤ sizeLine; decide, fun r hr2 => ?_⟩
      exact q1 r hr2
end
end Law

/-! list(text) -/
namespace LS
open PySem PySem.Spec PyProof.Rows L2
def rLstS : List V → Hp → VK → Prop := fun xs H Q => ∃ z : Str, xs = [.str z] ∧ z.cps.size ≤ sizeLine ∧ ∀ l, H l = none → Q (.ref l) (upd H l (.lst (z.cps.toList.map fun c => V.str ⟨#[c]⟩)))
theorem call_list_tx {X : Cx} (hc : X.calm = true) : CallR X (.type "list") rLstS := by
  intro pins s σ H xs us Q I r h
  obtain ⟨z, rfl, hz, q⟩ := h
  obtain ⟨u, rfl, t, rfl⟩ := vals1 r
  refine call_list_str (I.ok.hd hc) z t (hn := hz) fun h' tk acc' c' hkeep hS hacc => ?_
  refine ⟨.ref s.heap.objs.size, upd H s.heap.objs.size (.lst (z.cps.toList.map fun c => V.str ⟨#[c]⟩)), I.laid hkeep (Nat.le_refl _) (show ObjOk X.prog X.w _ _ _ (.lst (z.cps.toList.map fun c => V.str ⟨#[c]⟩)) from ⟨?_, acc'.toList, c', ?_, ?_⟩), rfl, q _ (I.hok.fresh (Nat.le_refl _))⟩
  · rw [List.length_map, Array.length_toList]; exact hz
  · have el : acc'.toList.length = acc'.size := by simp
    refine vals_of_at (by rw [List.length_map, el, hacc.1, Array.length_toList]) fun j x w h1 h2 => ?_
    obtain ⟨c, u, hcu, rfl⟩ := hacc.2 j w (by rw [← Array.getElem?_toList]; exact h2)
    rw [List.getElem?_map, Array.getElem?_toList, hcu] at h1
    cases h1
    exact ⟨u, rfl⟩
  · simpa using hS
end LS


namespace Law
open PySem PySem.Spec PyProof.Rows L2 Evl EK
section
variable {K : PySem.W.Frag} {H : Hp}
theorem nos_non : NoS K H .non := ⟨_, .base .non, kit_ty (by decide +kernel)⟩
theorem nos_int (i : Int) : NoS K H (.int i) := ⟨_, .base (.int i), kit_ty (by decide +kernel)⟩
theorem nos_bl (b : Bool) : NoS K H (.bl b) := ⟨_, .base (.bl b), kit_ty (by decide +kernel)⟩
theorem nos_lst {a : Addr} {xs : List V} (h : H a = some (.lst xs)) : NoS K H (.ref a) := ⟨_, .base (.lst h), kit_ty (by decide +kernel)⟩
theorem nos_tup {a : Addr} {xs : List V} (h : H a = some (.tup xs)) : NoS K H (.ref a) := ⟨_, .base (.tup h), kit_ty (by decide +kernel)⟩
theorem nos_dK {a : Addr} {xs : List (Key × V)} (h : H a = some (.dK xs)) : NoS K H (.ref a) := ⟨_, .base (.dK h), kit_ty (by decide +kernel)⟩
theorem Els.take {vs : List V} {es : List (Option (List Nat))} (h : Els K H vs es) : ∀ k, Els K H (vs.take k) (es.take k) := by
  induction h with
  | nil => intro k; rw [List.take_nil, List.take_nil]; exact .nil
  | cons h1 _ ih =>
    intro k
    cases k with
    | zero => exact .nil
    | succ k => exact .cons h1 (ih k)
theorem Els.drop {vs : List V} {es : List (Option (List Nat))} (h : Els K H vs es) : ∀ k, Els K H (vs.drop k) (es.drop k) := by
  induction h with
  | nil => intro k; rw [List.drop_nil, List.drop_nil]; exact .nil
  | cons h1 h2 ih =>
    intro k
    cases k with
    | zero => exact .cons h1 h2
    | succ k => exact ih k
theorem Els.app {vs us : List V} {es fs : List (Option (List Nat))} (h : Els K H vs es) (h2 : Els K H us fs) : Els K H (vs ++ us) (es ++ fs) := by
  induction h with
  | nil => exact h2
  | cons h1 _ ih => exact .cons h1 ih
end
def LeE (m : Nat) (es : List (Option (List Nat))) : Prop := ∀ x, some x ∈ es → x.length ≤ m
theorem PenAt.now {p : PenI} {H0 H : Hp} {n : Nat} (P : PenAt p H0 H n) : PenAt p (del H p.d) H n ∧ Ex H0 (del H p.d) := by
  obtain ⟨e0, h0, hc, hl, op, lf, ho, hd⟩ := P
  have nc : p.c ≠ p.d := fun z => by
    rw [z, h0] at hc
    cases hc
  refine ⟨⟨fun b o h => ?_, del_same, by rw [del_ne nc]; exact e0 _ _ hc, hl, op, lf, ho, hd⟩, fun b o h => ?_⟩
  · by_cases hb : b = p.d
    · rw [hb, del_same] at h
      cases h
    · rw [del_ne hb] at h
      exact h
  · rw [del_ne (fun z => by rw [z, h0] at h; cases h)]
    exact e0 _ _ h
theorem cutL_to (xs : List V) (k : Nat) : cutV xs none (some (k : Int)) = xs.take k := by
  unfold cutV
  rw [HT.sIx_none, HT.sIx_nat, Nat.sub_zero, List.drop_zero, List.take_eq_take_iff]
  omega
theorem cutL_from (xs : List V) (k : Nat) : cutV xs (some (k : Int)) none = xs.drop k := by
  unfold cutV
  rw [HT.sIx_nat]
  by_cases h : k ≤ xs.length
  · rw [show min k xs.length = k by omega]
    refine List.take_of_length_le ?_
    rw [List.length_drop]
    exact Nat.le_refl _
  · rw [show min k xs.length = xs.length by omega, List.drop_eq_nil_of_le (show xs.length ≤ xs.length by omega), List.drop_eq_nil_of_le (show xs.length ≤ k by omega), List.take_nil]
theorem cut_back (l : List Nat) (h : 1 ≤ l.length) : cutS (tx l) none (some (-1 : Int)) = tx (l.take (l.length - 1)) := by
  refine TL.ext_tl ?_
  show (List.take _ (List.drop _ l)) = l.take (l.length - 1)
  rw [HT.sIx_none, tx_len, Nat.sub_zero, List.drop_zero]
  unfold HT.sIx
  simp only []
  rw [if_pos (by decide), show ((-1 : Int) + (l.length : Nat)).toNat = l.length - 1 by omega]
def spOdd (K : PySem.W.Frag) : Sp := fun vs H Q _ => ∃ (p : PenI) (H0 : Hp) (n m : Nat) (L : List Nat) (a : Addr) (xs : List V) (es : List (Option (List Nat))) (x0 : List Nat), vs = [.ref p.d, .str (tx L), .ref a] ∧ PenAt p H0 H n ∧ n < 600000 ∧ LG L ∧ H0 a = some (.lst xs) ∧ Els K H0 xs es ∧ xs.length < 50 ∧
  es[0]? = some (some x0) ∧ 1 ≤ x0.length ∧ LeE m es ∧ 9 * m < 900 ∧
  ∀ H1 H' r xs' es', PenAt p H1 H' (n + 4) → Ex H0 H1 → H1 r = some (.lst xs') → Els K H1 xs' es' → xs'.length ≤ xs.length + 1 → LeE (9 * m) es' → Q (.ref r) H'
theorem pick_now {p : PenI} {H0 H : Hp} {n : Nat} {a : Addr} {xs : List V} {Q : VK} {E : XK} (P : PenAt p H0 H n) (hn : n < 1000000) (h : H a = some (.lst xs)) (h0 : 0 < xs.length) (h1 : xs.length < 1000)
    (q : ∀ B H' v, Ex H0 B → (∀ b o, H b = some o → b ≠ p.d → B b = some o) → PenAt p B H' (n + 1) → v ∈ xs → Q v H') : spPickL [.ref p.d, .ref a] H Q E :=
  ⟨p, del H p.d, a, n, xs, rfl, P.now.1, hn, h, h0, h1, fun H' v P' hv => q _ H' v P.now.2 (fun b o hb nb => by rw [del_ne nb]; exact hb) P' hv⟩
theorem ex_new2 {H : Hp} {d : Addr} {o1 o2 : HO} (h : H d = none) : Ex H (upd (upd H d o1) d o2) := (Ex.new h).mut h
def oddS : List Nat := [97, 113, 122, 65, 90, 49, 46, 32]
theorem oddS_tx : Str.ofString "aqzAZ1. " = tx oddS := by decide +kernel
theorem offs_odd {L : List Nat} (h : LG L) : 65 ∈ offs L oddS oddS.length := by
  unfold offs
  rw [List.take_length, List.mem_filter]
  refine ⟨by decide, ?_⟩
  rw [decide_eq_false]
  · rfl
  · intro z
    have := h.az 65 z
    omega
section
variable {P : Program} {w : World} {K : PySem.W.Frag} {mg : Str → Option Value} {base : Heap}
theorem ok_lodd {f : Addr} {fd : FuncData} (F : Fun K "_law_odd_words" "_law_odd_words" s_lodd_words f fd) (T : Tx mg) (c_ldraw : Kn P w K mg base "_law_draw" ["_law_pen_here", "_law_many"] 1 spDraw) (c_pickL : Kn P w K mg base "_law_pick" ["_law_pen_here", "_law_some"] 2 spPickL) :
    FnOk P w K mg base CX0 3 f fd ["_law_pen_here", "_law_letters_here", "_law_words_here"] (spOdd K) := by
  refine F.ok sc_lodd_words (fun vs H Q E h => ?_) (fun cdv A outer s H vs Q E hr h => ?_)
  · obtain ⟨p, H0, n, m, L, a, xs, es, x0, rfl, _⟩ := h
    rfl
  · obtain ⟨p, H0, n, m, L, a, xs, es, x0, rfl, P0, hn, hL, ha, EE, hx, he0, h0, hm, h9, q⟩ := h
    have le := EE.len
    have h4 := hL.hi
    have hm0 : x0.length ≤ m := hm x0 (List.mem_of_getElem? he0)
    obtain ⟨v0, hv0, hE0⟩ := EE.get' he0
    cases hE0 with
    | txt x0 l0 =>
    obtain ⟨c0, hc0⟩ : ∃ c, x0[0]? = some c := ⟨_, List.getElem?_eq_getElem (by omega)⟩
    refine ⟨_, (pss_cons (ps_par (i := 3) (j := 4) (by rfl) sc_lodd_words.nd rfl rfl (by decide) rfl rfl (pa_cons (pe_call c_ldraw.ok (hr.mono (by decide)) (by rfl) c_ldraw.g c_ldraw.kp c_ldraw.b .nil pass0 (pa_cons (pv 0) (pa_cons (pe_op op_add (pe_callB call_len_seq (by rfl) T.len PySem.boot_len (pa_cons (pv 2) pa_nil)) pe_int) pa_nil))) (pa_cons (pe_ix ix_list (pv 2) pe_int (fun _ _ => rfl)) pa_nil)) (by rfl))
      (pss_cons (ps_set (i := 5) sc_lodd_words.nd rfl (Or.inl rfl) (pe_call c_pickL.ok (hr.mono (by decide)) (by rfl) c_pickL.g c_pickL.kp c_pickL.b .nil pass0 (pa_cons (pv 0) (pa_cons (pe_lc (own := [("_law_sign", 6)]) (g := gName 6) rfl sc_lodd_words.nd (pi_str pe_str) (blkOk_by (N := N_lodd_words) (sc := defScope s_lodd_words) (by decide +kernel)) (fun _ _ _ _ _ => (pg_name (i := 6) sc_lodd_words.nd rfl (Or.inl rfl))) (fun _ _ _ _ _ => (pts_one (pt_cmpR op_notIn_sign (pv 6) (pv 1) rfl))) (fun _ _ _ _ _ => (pv 6))) pa_nil))))
      (pss_cons (ps_set (i := 7) sc_lodd_words.nd rfl (Or.inl rfl) (pe_lst (pa_cons pe_str (pa_cons (pe_op op_add_str (pv 4) (pe_ix ix_str (pv 4) pe_int (fun _ _ => rfl))) (pa_cons (pe_slice sl_str (pv 4) (po_some pe_int) po_none) (pa_cons (pe_op ZS.op_mulS (pv 4) pe_int) (pa_cons (pe_op op_add_str (pv 5) (pe_slice sl_str (pv 4) (po_some pe_int) po_none)) (pa_cons (pe_op op_add_str (pe_slice sl_str (pv 4) po_none (po_some (pe_un un_neg pe_int))) (pv 5)) (pa_cons (pv 4) pa_nil)))))))))
      (pss_cons (ps_set (i := 8) sc_lodd_words.nd rfl (Or.inl rfl) (pe_call c_pickL.ok (hr.mono (by decide)) (by rfl) c_pickL.g c_pickL.kp c_pickL.b .nil pass0 (pa_cons (pv 0) (pa_cons (pe_op op_cat (pv 7) (pe_lst (pa_cons pe_non (pa_cons pe_int (pa_cons pe_bl (pa_cons (pe_lst pa_nil) (pa_cons (pe_lst (pa_cons (pv 4) pa_nil)) (pa_cons (pe_disp (pps_cons (pv 4) pe_int pps_nil) (by rfl) (by rfl) (fun z => by cases z) (by decide)) (pa_cons (pe_tup (pa_cons (pv 4) pa_nil)) (pa_cons (pe_callTy (LS.call_list_tx rfl) (by rfl) T.list PyProof.Rows.boot_list (pa_cons (pv 4) pa_nil)) pa_nil)))))))))) pa_nil))))
      (pss_cons (ps_set (i := 9) sc_lodd_words.nd rfl (Or.inl rfl) (pe_call c_ldraw.ok (hr.mono (by decide)) (by rfl) c_ldraw.g c_ldraw.kp c_ldraw.b .nil pass0 (pa_cons (pv 0) (pa_cons pe_int pa_nil))))
      (pss_cons (ps_if (pt_cmpR op_eq (pv 9) pe_int (nomark _)) (pss_one (ps_ret (pe_op op_cat (pe_slice sl_list (pv 2) po_none (po_some (pv 3))) (pe_slice sl_list (pv 2) (po_some (pe_op op_add (pv 3) pe_int)) po_none)))) pss_nil)
      (pss_one (ps_ret (pe_op op_cat (pe_op op_cat (pe_slice sl_list (pv 2) po_none (po_some (pv 3))) (pe_lst (pa_cons (pv 8) pa_nil))) (pe_slice sl_list (pv 2) (po_some (pe_op op_add (pv 3) (pe_callTy call_int1 (by rfl) T.int PyProof.Rows.boot_int (pa_cons (pe_cmpR op_eq (pv 9) pe_int (nomark _)) pa_nil)))) po_none)))))))))), ?_⟩
    refine ⟨_, rfl, _, rfl, a, _, rfl, .inl (sq_of (P0.1 _ _ ha)), _, _, rfl, rfl, p, H0, n, _, rfl, P0, by omega, by omega, by omega, fun H1 r1 P1 r10 r11 => ?_⟩
    refine ⟨_, rfl, a, _, _, _, rfl, rfl, sq_of (P1.1 _ _ ha), atI_nat (j := 0) hv0, _, _, rfl, ?_⟩
    obtain ⟨at_, rfl⟩ : ∃ k : Nat, r1 = (k : Int) := ⟨r1.toNat, (Int.toNat_of_nonneg r10).symm⟩
    refine ⟨_, rfl, _, rfl, fun D hD => ?_⟩
    rw [oddS_tx]
    have d0 := fresh0 P1 hD
    have d1 := fresh_ne P1 hD
    refine lc_str (x := tx oddS) (fun i H' => PenAt p H0 H' (n + 1) ∧ H' D = some (.lst (((offs L oddS i).map sg).map V.str))) ⟨P1.upd d0 d1, upd_same⟩ (fun i c H' hic hw => ?_) (fun H2 hw => ?_)
    · obtain ⟨P2, hl⟩ := hw
      have hc := tx_at hic
      refine ⟨rfl, _, rfl, _, rfl, c, _, rfl, rfl, _, rfl, ?_⟩
      rw [show (tx L).cps.toList = L from rfl, offs_step hc]
      by_cases hm : c ∈ L
      · rw [decide_eq_true hm, if_pos hm]
        exact ⟨P2, hl⟩
      · rw [decide_eq_false hm, if_neg hm]
        refine ⟨_, rfl, _, hl, ?_, P2.upd d0 d1, ?_⟩
        · rw [List.length_map, List.length_map]
          have := List.length_filter_le (fun c => !decide (c ∈ L)) (oddS.take i)
          rw [List.length_take] at this
          unfold offs
          exact sz_lt (by have : oddS.length = 8 := rfl; omega)
        · rw [upd_same, List.map_append, List.map_append]
          rfl
    · obtain ⟨P2, hl⟩ := hw
      have hlo := List.length_filter_le (fun c => !decide (c ∈ L)) (oddS.take oddS.length)
      have hpos := List.length_pos_of_mem (offs_odd hL)
      have h8 : (oddS.take oddS.length).length = 8 := rfl
      refine ⟨p, H0, D, n + 1, _, rfl, P2, by omega, hl, by rw [List.length_map, List.length_map]; exact hpos, by rw [List.length_map, List.length_map]; unfold offs; rw [tx_size]; omega, fun H3 v3 P3 hv3 => ?_⟩
      obtain ⟨c3, rfl⟩ : ∃ c, v3 = .str (tx [c]) := by
        obtain ⟨z, hz, rfl⟩ := List.mem_map.mp hv3
        obtain ⟨c, _, rfl⟩ := List.mem_map.mp hz
        exact ⟨c, rfl⟩
      clear hv3
      refine ⟨_, rfl, _, rfl, _, _, _, rfl, rfl, tx_le (by omega), atI_nat (j := 0) hc0, _, _, rfl, rfl, ?_, ?_⟩
      · rw [tx_len]
        exact sz_le (by show x0.length + 1 < 1000; omega)
      refine ⟨_, rfl, _, rfl, _, rfl, tx_le (by omega), ?_⟩
      refine ⟨_, rfl, _, _, rfl, rfl, mulOk_of 128 16 (by rw [tx_len]; omega) (by decide) (by decide) (by decide) (by decide), ?_⟩
      refine ⟨_, rfl, _, rfl, _, rfl, _, rfl, tx_le (by omega), _, _, rfl, rfl, ?_, ?_⟩
      · rw [show (1 : Int) = ((1 : Nat) : Int) from rfl, cut_from, tx_len, tx_len, List.length_drop]
        exact sz_le (by show 1 + (x0.length - 1) < 1000; omega)
      refine ⟨_, rfl, _, rfl, _, rfl, _, rfl, tx_le (by omega), ?_⟩
      rw [show (-(1 : Int)) = (-1 : Int) from rfl, cut_back x0 h0]
      refine ⟨_, rfl, _, _, rfl, rfl, ?_, ?_⟩
      · rw [tx_len, tx_len, List.length_take]
        exact sz_le (by show min _ _ + 1 < 1000; omega)
      have cf : cutS (tx x0) (some (1 : Int)) none = tx (x0.drop 1) := cut_from x0 1
      refine ⟨_, rfl, by show 7 ≤ sizeLine; decide, fun l7 h7 => ?_⟩
      have n7 := fresh_ne P3 h7
      rw [cf, mul_tx _ (by decide), tx_app, tx_app, show tx x0 ++ { cps := #[c0] } = tx (x0 ++ [c0]) from tx_app x0 [c0]]
      have P4 := P3.ex (Ex.new (o := .lst [.str "", .str (tx (x0 ++ [c0])), .str (tx (x0.drop 1)), .str (tx (List.replicate (9 : Int).toNat x0).flatten), .str (tx ([c3] ++ x0.drop 1)), .str (tx (x0.take (x0.length - 1) ++ [c3])), .str (tx x0)]) h7)
      refine ⟨_, rfl, _, rfl, by show 0 ≤ sizeLine; decide, fun a1 h1 => ?_⟩
      have n1 := fresh_ne P4 h1
      have P5 := P4.ex (Ex.new (o := .lst []) h1)
      refine ⟨_, rfl, by show 1 ≤ sizeLine; decide, fun a2 h2 => ?_⟩
      have n2 := fresh_ne P5 h2
      have P6 := P5.ex (Ex.new (o := .lst [.str (tx x0)]) h2)
      refine fun d3 h3 => ?_
      have n3 := fresh_ne P6 h3
      have P7 := P6.ex (ex_new2 (o1 := .dK []) (o2 := .dK [(.inr (tx x0), .int 1)]) h3)
      refine ⟨_, rfl, upd_same, [(.inr (tx x0), .int 1)], rfl, by show 1 ≤ 15; decide, ?_⟩
      refine ⟨_, rfl, by show 1 ≤ sizeLine; decide, fun a4 h4 => ?_⟩
      have n4 := fresh_ne P7 h4
      have P8 := P7.ex (Ex.new (o := .tup [.str (tx x0)]) h4)
      refine ⟨_, rfl, tx x0, rfl, sz_le (by rw [tx_size]; omega), fun a5 h5 => ?_⟩
      have n5 := fresh_ne P8 h5
      have P9 := P8.ex (Ex.new (o := .lst (x0.map fun c => V.str ⟨#[c]⟩)) h5)
      refine ⟨by show 8 ≤ sizeLine; decide, fun l8 h8 => ?_⟩
      have P10 := P9.ex (Ex.new (o := .lst [.non, .int 3, .bl true, .ref a1, .ref a2, .ref d3, .ref a4, .ref a5]) h8)
      have x8 := Ex.new (o := .lst [.non, .int 3, .bl true, .ref a1, .ref a2, .ref d3, .ref a4, .ref a5]) h8
      have x5 := (Ex.new (o := .lst (x0.map fun c => V.str ⟨#[c]⟩)) h5).trans x8
      have x4 := (Ex.new (o := .tup [.str (tx x0)]) h4).trans x5
      have x3 := (ex_new2 (o1 := .dK []) (o2 := .dK [(.inr (tx x0), .int 1)]) h3).trans x4
      have x2 := (Ex.new (o := .lst [.str (tx x0)]) h2).trans x3
      have x1 := (Ex.new (o := .lst []) h1).trans x2
      refine ⟨l7, l8, _, _, rfl, rfl, x1 _ _ upd_same, upd_same, by show 15 ≤ sizeLine; decide, fun l9 h9 => ?_⟩
      have P11 := P10.ex (Ex.new (o := .lst ([.str "", .str (tx (x0 ++ [c0])), .str (tx (x0.drop 1)), .str (tx (List.replicate (9 : Int).toNat x0).flatten), .str (tx ([c3] ++ x0.drop 1)), .str (tx (x0.take (x0.length - 1) ++ [c3])), .str (tx x0)] ++ [.non, .int 3, .bl true, .ref a1, .ref a2, .ref d3, .ref a4, .ref a5])) h9)
      refine pick_now (E := fun _ _ _ => False) P11 (by omega) upd_same (by show 0 < 15; decide) (by show 15 < 1000; decide) fun B H5 v5 eB kB P12 hv5 => ?_
      obtain ⟨e5, hE5, hl5⟩ : ∃ e, El K B v5 e ∧ ∀ x, e = some x → x.length ≤ 9 * m := by
        have x9 := Ex.new (o := .lst ([.str "", .str (tx (x0 ++ [c0])), .str (tx (x0.drop 1)), .str (tx (List.replicate (9 : Int).toNat x0).flatten), .str (tx ([c3] ++ x0.drop 1)), .str (tx (x0.take (x0.length - 1) ++ [c3])), .str (tx x0)] ++ [.non, .int 3, .bl true, .ref a1, .ref a2, .ref d3, .ref a4, .ref a5])) h9
        have mk : ∀ x : List Nat, x.length ≤ 9 * m → ∃ e, El K B (.str (tx x)) e ∧ ∀ y, e = some y → y.length ≤ 9 * m := fun x hx => ⟨some x, .txt x (by omega), fun y hy => by cases hy; exact hx⟩
        have od : ∀ v, NoS K B v → ∃ e, El K B v e ∧ ∀ y, e = some y → y.length ≤ 9 * m := fun v hv => ⟨none, .odd hv, fun y hy => by cases hy⟩
        simp only [List.cons_append, List.nil_append, List.mem_cons, List.not_mem_nil, or_false] at hv5
        rcases hv5 with rfl | rfl | rfl | rfl | rfl | rfl | rfl | rfl | rfl | rfl | rfl | rfl | rfl | rfl | rfl
        · exact mk [] (Nat.zero_le _)
        · exact mk _ (by rw [List.length_append]; show x0.length + 1 ≤ 9 * m; omega)
        · exact mk _ (by rw [List.length_drop]; omega)
        · exact mk _ (by rw [rep_len]; show 9 * x0.length ≤ 9 * m; omega)
        · exact mk (c3 :: x0.drop 1) (by show (x0.drop 1).length + 1 ≤ 9 * m; rw [List.length_drop]; omega)
        · exact mk _ (by rw [List.length_append, List.length_take]; show min _ _ + 1 ≤ 9 * m; omega)
        · exact mk _ (by omega)
        · exact od _ nos_non
        · exact od _ (nos_int 3)
        · exact od _ (nos_bl true)
        · exact od _ (nos_lst (kB a1 _ (x9 _ _ (x2 _ _ upd_same)) n1))
        · exact od _ (nos_lst (kB a2 _ (x9 _ _ (x3 _ _ upd_same)) n2))
        · exact od _ (nos_dK (kB d3 _ (x9 _ _ (x4 _ _ upd_same)) n3))
        · exact od _ (nos_tup (kB a4 _ (x9 _ _ (x5 _ _ upd_same)) n4))
        · exact od _ (nos_lst (kB a5 _ (x9 _ _ (x8 _ _ upd_same)) n5))
      have hB := eB _ _ ha
      refine ⟨_, rfl, p, B, _, 4, rfl, P12, by omega, by decide, by decide, fun H6 r6 P13 r60 r61 => ?_⟩
      have h6 := P13.1 _ _ hB
      have fin : ∀ (HF : Hp) (r : Addr) (xs' : List V) (es' : List (Option (List Nat))), PenAt p B HF (n + 4) → HF r = some (.lst xs') → r ≠ p.d → Els K B xs' es' → xs'.length ≤ xs.length + 1 → LeE (9 * m) es' → Q (.ref r) HF := fun HF r xs' es' PF hrF nr E' l' m' => by
        have N := PF.now
        exact q _ HF r xs' es' N.1 (eB.trans N.2) (by rw [del_ne nr]; exact hrF) (E'.ex N.2) l' m'
      refine ⟨_, rfl, rfl, _, rfl, ite2 (fun hz => ?_) (fun hz => ?_)⟩
      · refine ⟨_, rfl, _, rfl, _, rfl, a, _, rfl, sq_of h6, fun s1 hs1 => ?_⟩
        have Q1 := P13.ex (Ex.new (o := .lst (cutV xs none (some (at_ : Int)))) hs1)
        refine ⟨_, rfl, _, rfl, _, _, rfl, rfl, _, rfl, a, _, rfl, sq_of ((Ex.new hs1) _ _ h6), fun s2 hs2 => ?_⟩
        have Q2 := Q1.ex (Ex.new (o := .lst (cutV xs (some ((at_ : Int) + 1)) none)) hs2)
        refine ⟨s1, s2, _, _, rfl, rfl, (Ex.new hs2) _ _ upd_same, upd_same, ?_, fun r hr3 => ?_⟩
        · rw [cutL_to, show ((at_ : Int) + 1) = ((at_ + 1 : Nat) : Int) from rfl, cutL_from, List.length_take, List.length_drop]
          exact sz_le (by omega)
        rw [cutL_to, show ((at_ : Int) + 1) = ((at_ + 1 : Nat) : Int) from rfl, cutL_from] at *
        refine fin _ r _ (es.take at_ ++ es.drop (at_ + 1)) (Q2.ex (Ex.new hr3)) upd_same (fresh_ne Q2 hr3) (((EE.ex eB).take at_).app ((EE.ex eB).drop (at_ + 1))) ?_ ?_
        · rw [List.length_append, List.length_take, List.length_drop]
          omega
        · intro x hx
          rcases List.mem_append.mp hx with h | h
          · have := hm x (List.mem_of_mem_take h); omega
          · have := hm x (List.mem_of_mem_drop h); omega
      · refine ⟨_, rfl, _, rfl, _, rfl, a, _, rfl, sq_of h6, fun s1 hs1 => ?_⟩
        have Q1 := P13.ex (Ex.new (o := .lst (cutV xs none (some (at_ : Int)))) hs1)
        refine ⟨_, rfl, by show 1 ≤ sizeLine; decide, fun s2 hs2 => ?_⟩
        have Q2 := Q1.ex (Ex.new (o := .lst [v5]) hs2)
        refine ⟨s1, s2, _, _, rfl, rfl, (Ex.new hs2) _ _ upd_same, upd_same, ?_, fun s3 hs3 => ?_⟩
        · rw [cutL_to, List.length_take]
          exact sz_le (by show min _ _ + 1 < 1000; omega)
        have Q3 := Q2.ex (Ex.new (o := .lst (cutV xs none (some (at_ : Int)) ++ [v5])) hs3)
        obtain ⟨w1, hw1, hw1l⟩ : ∃ k : Nat, (if decide (V.int r6 = V.int 1) = true then (1 : Int) else 0) = (k : Int) ∧ k ≤ 1 := by
          by_cases h : decide (V.int r6 = V.int 1) = true
          · exact ⟨1, by rw [if_pos h]; rfl, Nat.le_refl _⟩
          · exact ⟨0, by rw [if_neg h]; rfl, Nat.zero_le _⟩
        refine ⟨_, rfl, _, rfl, _, rfl, rfl, .inr ⟨_, rfl, ?_⟩⟩
        rw [hw1]
        refine ⟨_, _, rfl, rfl, _, rfl, a, _, rfl, sq_of ((Ex.new hs3) _ _ ((Ex.new hs2) _ _ ((Ex.new hs1) _ _ h6))), fun s4 hs4 => ?_⟩
        have Q4 := Q3.ex (Ex.new (o := .lst (cutV xs (some ((at_ : Int) + (w1 : Int))) none)) hs4)
        refine ⟨s3, s4, _, _, rfl, rfl, (Ex.new hs4) _ _ upd_same, upd_same, ?_, fun r hr3 => ?_⟩
        · rw [cutL_to, show ((at_ : Int) + (w1 : Int)) = ((at_ + w1 : Nat) : Int) from rfl, cutL_from, List.length_append, List.length_take, List.length_drop]
          exact sz_le (by show min _ _ + 1 + _ < 1000; omega)
        rw [cutL_to, show ((at_ : Int) + (w1 : Int)) = ((at_ + w1 : Nat) : Int) from rfl, cutL_from] at *
        refine fin _ r _ ((es.take at_ ++ [e5]) ++ es.drop (at_ + w1)) (Q4.ex (Ex.new hr3)) upd_same (fresh_ne Q4 hr3) ((((EE.ex eB).take at_).app (.cons hE5 .nil)).app ((EE.ex eB).drop (at_ + w1))) ?_ ?_
        · rw [List.length_append, List.length_append, List.length_take, List.length_drop]
          show min _ _ + 1 + _ ≤ _
          omega
        · intro x hx
          rcases List.mem_append.mp hx with h | h
          · rcases List.mem_append.mp h with h | h
            · have := hm x (List.mem_of_mem_take h); omega
            · exact hl5 x (List.mem_singleton.mp h).symm
          · have := hm x (List.mem_of_mem_drop h); omega
end
end Law

/-! a law that makes lambdas and the text of values: its code object and that one's table -/
namespace GT
open PySem PySem.Spec PyProof.Rows L2 GD
/-- a def of which the code object is known -/
structure FunC (K : PySem.W.Frag) (x qual : Str) (st : Stmt) (f : Addr) (fd : FuncData) (c : Addr) : Prop where
  ex : ∃ (oc : Value) (od : Option Addr) (kV doc pm : Value) (an : Option Addr) (ct : Value) (osl : Array (Option Value)),
    fd = PySem.W.fnOf x qual (defArgs st) (defBody st) (defScope st) .none kV doc pm an (.ref c) ct ∧ K.lookup f = some ⟨oc, od, .func fd, osl⟩ ∧ PySem.W.codeIn K (.ref c) qual = true
section
variable {P : Program} {w : World} {K : PySem.W.Frag} {mg : Str → Option Value} {base : Heap}
theorem okGC {x qual : Str} {st : Stmt} {f c : Addr} {fd : FuncData} {N ps : List Str} {k : Nat} {sp : Sp} (F : FunC K x qual st f fd c) (S : FnScope N ps (defScope st)) (len : ∀ vs H Q E, sp vs H Q E → vs.length = ps.length)
    (hbody : ∀ (A : Around) (outer : List Env) (s : Shared) (H : Hp) (vs : List V) (Q : VK) (E : XK), Room k (A.deeper (envOfC qual (defScope st) s.heap.objs.size f (.ref c))) → (A.deeper (envOfC qual (defScope st) s.heap.objs.size f (.ref c))).guards = some [] → sp vs H Q E →
      ∃ t, PSs (cxOf CX0 P w K mg base N qual (defScope st) f (.ref c) A outer s H E).nox (defBody st) t ∧ t { nx := fun _ H' => Q .non H', rt := Q } (start N vs) H) : Gd P w K mg base (k + 1) f fd ps sp := by
  obtain ⟨oc, od, kV, doc, pm, an, ct, osl, rfl, known, code⟩ := F.ex
  refine ⟨fun A outer s H args us vs Q E room free e0 bound rel told => ?_⟩
  have kin : K.In s.heap := e0.mod.kin.keeps fun b o e => (e0.bs b o e).1
  have nolim : s.heap.NoLimit := e0.mod.nolimit.keeps fun b o e => (e0.bs b o e).1
  have names : ∀ y ∈ ps.zip us, (defScope st).names.lookup y.1 = some .local ∨ ((defScope st).names.lookup y.1 = some .cell ∧ ((cellsFrom (s.heap.objs.size + 1) (defScope st).names []).lookup y.1).isSome = true) := by
    rintro ⟨n, v⟩ hy
    rcases S.par n (List.of_mem_zip hy).1 with q | q
    · exact .inl q
    · exact .inr ⟨q, PySem.W.cellsFrom_some _ _ _ (.inl q)⟩
  refine codeAny_call_function room.depth (kin _ _ known) rfl S.co S.gen rfl (PySem.W.codeRec_of kin code) (bound _ _ _ _ (wpAny_newFunctionEnv_cells S.kind names fun env made s1 z => ?_))
  subst made
  refine ⟨nolim.keeps z.toInCall.keep, codeAny_func ?_⟩
  obtain ⟨t, ht, hq⟩ := hbody A outer s H vs Q E (room.deeper _) (deeper_guards free) told
  have I := inv_start (CX := CX0) (E := E) S room.hd e0 (len _ _ _ _ told) rel z
  refine wpAny_mono (ht.nox.run [] s1 (start N vs) H _ I hq) (fun fl s' hs => ?_) fun e s' hs => hs
  cases fl with
  | ret u =>
    obtain ⟨v, σ', H', J, rv, q⟩ := hs
    exact ⟨v, H', J.os, J.bare, J.base, J.hok, rv, q⟩
  | next =>
    obtain ⟨σ', H', J, q⟩ := hs
    exact ⟨V.non, H', J.os, J.bare, J.base, J.hok, rfl, q⟩
  | brk =>
    obtain ⟨_, _, _, q⟩ := hs
    exact q.elim
  | cont =>
    obtain ⟨_, _, _, q⟩ := hs
    exact q.elim
end
/-- the script, where it is tracked, and the table -/
def two (t : Addr) (s : Hp) : Hp := fun b => if b = t then some (.tbl #[]) else s b
theorem two_t {t : Addr} {s : Hp} : two t s t = some (.tbl #[]) := if_pos rfl
theorem two_ne {t b : Addr} {s : Hp} (h : b ≠ t) : two t s b = s b := if_neg h
/-- the module's builtins -/
def Bm (mg : Str → Option Value) (h : Heap) : Prop := ∃ (bm : Addr) (ob : Obj), mg "__builtins__" = some (.ref bm) ∧ bm ≠ builtinsNs ∧ h.get? bm = some ob ∧ ob.cls = .type "module" ∧ ob.dict = some builtinsNs ∧ ob.data = .plain
theorem callGT {P : Program} {w : World} {K : PySem.W.Frag} {mg mb : Str → Option Value} {k : Nat} {fa a c t : Addr} {fd : FuncData} {x : Str} {sp : Sp} {s : Shared} {vs : List Value} {ns : List Int}
    (kin : K.In s.heap) (hns : s.heap.Ns mainGlobals mg) (hb : s.heap.Ns builtinsNs mb) (hbb : ∀ x : Str, x ≠ "__name__" → mb x = bootBuiltins x) (nolim : s.heap.NoLimit) (gens : s.gens = #[])
    (tab : s.heap.get? t = some { cls := .none, data := .fields #[] }) (tabK : K.lookup t = none) (code : PySem.W.CodeHd s.heap c t) (hbm : Bm mg s.heap)
    (ha : s.heap.get? a = some { cls := .type "list", data := .seq vs.toArray }) (hi : IntsAre vs ns) (hl : ns.length ≤ sizeLine) (room : Room k callerA)
    (F : ∀ base : Heap, K.In base → base.Ns mainGlobals mg → LamX.TabB base mg c t → Gd P w K mg base k fa fd [x] sp) (binds : ∀ (s : Shared) (u : Value), BindsTo s fd ⟨[u], []⟩ [(x, u)])
    (hsp : ∀ H : Hp, H t = some (.tbl #[]) → SqL K H a (ns.map V.int) → sp [.ref a] H (fun v _ => v = .bl true) E0) :
    codeAny (model P w) callerA (.call (.ref fa) ⟨[.ref a], []⟩) (fun r s' => r = .ok (.ret (.bool true)) ∧ OldK s.heap s'.heap ∧ s'.os = s.os ∧ AllBare s'.gens) s := by
  have rv := vals_ints hi
  have nat : a ≠ t := fun z => by
    rw [z, tab] at ha
    cases ha
  have step : ∀ H : Hp, (∀ b u, H b = some u → b ≠ t → b = a ∧ K.lookup a = none ∧ ∃ o xs, u = .frz o (.lst xs)) → H t = some (.tbl #[]) → HOk P w H s.heap → SqL K H a (ns.map V.int) →
      codeAny (model P w) callerA (.call (.ref fa) ⟨[.ref a], []⟩) (fun r s' => r = .ok (.ret (.bool true)) ∧ OldK s.heap s'.heap ∧ s'.os = s.os ∧ AllBare s'.gens) s := by
    intro H only hT hok hS
    have free : ∀ {b : Addr}, b ≠ a → b ≠ t → H b = none := fun {b} n nt => by
      cases e : H b with
      | none => rfl
      | some u => exact absurd (only b u e nt).1 n
    -- what stands at neither of the two stays in sight
    have sees : ∀ {b : Addr} {o : Obj}, s.heap.get? b = some o → (∀ us m, o.data ≠ .seq us m) → o.data ≠ .fields #[] → (hidT s.heap H).get? b = some o := fun {b o} e n1 n2 => by
      refine hidT_get e (free (fun z => ?_) fun z => ?_)
      · rw [z, ha] at e
        cases e
        exact n1 _ _ rfl
      · rw [z, tab] at e
        cases e
        exact n2 rfl
    have stays : ∀ {b : Addr} {m : Str → Option Value}, s.heap.Ns b m → (hidT s.heap H).Ns b m := fun {b m} ⟨o, es, ep, e, d, r⟩ => by
      refine ⟨o, es, ep, sees e (fun us m z => ?_) (fun z => ?_), d, r⟩
      · rw [show o.data = _ from d] at z
        cases z
      · rw [show o.data = _ from d] at z
        cases z
    have kinB : K.In (hidT s.heap H) := fun b o e => hidT_get (kin b o e) (by
      cases q : H b with
      | none => rfl
      | some u =>
        by_cases nt : b = t
        · rw [nt, tabK] at e
          cases e
        · obtain ⟨h1, h2, _⟩ := only b u q nt
          rw [h1, h2] at e
          cases e)
    have TB : LamX.TabB (hidT s.heap H) mg c t := by
      refine ⟨?_, ?_, fun z => ?_⟩
      · obtain ⟨o, us, y1, y2, y3, y4, y5, y6, y7, at_, cl, dat, v11, rest⟩ := code
        refine ⟨o, us, y1, y2, y3, y4, y5, y6, y7, sees at_ (fun _ _ z => ?_) (fun z => ?_), cl, dat, v11, rest⟩
        · rw [dat] at z
          cases z
        · rw [dat] at z
          cases z
          cases v11
      · obtain ⟨bm, ob, m1, m2, m3, m4, m5, m6⟩ := hbm
        have np : ∀ us : Array Value, ob.data ≠ .fields us := fun us z => by
          rw [m6] at z
          cases z
        refine ⟨bm, ob, m1, m2, fun z => ?_, fun z => ?_, sees m3 (fun _ _ z => ?_) (np _), m4, m5, m6⟩
        · obtain ⟨o, es, ep, e, d, _⟩ := hns
          rw [← z, m3] at e
          cases e
          rw [m6] at d
          cases d
        · rw [z, tab] at m3
          cases m3
          exact np _ rfl
        · rw [m6] at z
          cases z
      · obtain ⟨o, es, ep, e, d, _⟩ := hns
        rw [z, tab] at e
        cases e
        cases d
    have e0 : Env0 P w K mg (hidT s.heap H) callerA [] s H :=
      ⟨rfl, ⟨kinB, stays hns, ⟨mb, stays hb, hbb⟩, let ⟨mc, h1, h2⟩ := nolim; ⟨mc, stays h1, h2⟩⟩, fun b o e => of_hidT e, Nat.le_of_eq (hidT_size _ _), trivial, fun b hb => (nomatch (show b ∈ ([] : List Addr) from hb)), hok, .of_eq gens⟩
    refine codeAny_mono ((F _ kinB (stays hns) TB).run callerA [] s H ⟨[.ref a], []⟩ [.ref a] [.ref a] _ E0 room rfl e0 (binds s (.ref a)) (.cons rfl .nil) (hsp H hT hS)) fun r s' h => ?_
    cases r with
    | error e => exact h.elim
    | ok fl =>
      cases fl with
      | ret u =>
        obtain ⟨v, H', os, bare, un, hok', r', q⟩ := h
        obtain rfl : v = .bl true := q
        obtain rfl : u = Value.bool true := r'
        obtain ⟨more, hm⟩ := un.tbls t #[] hT
        have hm2 : s'.heap.get? t = some { cls := .none, data := .fields (#[] ++ more) } := hok' t _ hm
        rw [Array.empty_append] at hm2
        refine ⟨rfl, ⟨fun b o e => ?_, fun b o e => ?_⟩, os, bare⟩
        · by_cases nt : b = t
          · subst nt
            rw [tab] at e
            cases e
            exact .inr (.inl ⟨(code.tab tab).isCodeTable, rfl, #[], more, rfl, by rw [Array.empty_append]; exact hm2⟩)
          · refine .inl ?_
            cases q : H b with
            | none => exact un.keep b o e q (by intro z; exact (nomatch (show b ∈ ([] : List Addr) from z))) (by simp)
            | some u =>
              obtain ⟨_, _, ob, xs, rfl⟩ := only b u q nt
              obtain ⟨e1, _⟩ := hok b _ q
              obtain ⟨e2, _⟩ := hok' b _ (un.frzs b ob _ q)
              rw [e] at e1
              cases e1
              exact e2
        · by_cases nt : b = t
          · subst nt
            exact ⟨_, hm2⟩
          · cases q : H b with
            | none => exact ⟨o, un.keep b o e q (by intro z; exact (nomatch (show b ∈ ([] : List Addr) from z))) (by simp)⟩
            | some u =>
              obtain ⟨_, _, ob, xs, rfl⟩ := only b u q nt
              obtain ⟨e2, _⟩ := hok' b _ (un.frzs b ob _ q)
              exact ⟨_, e2⟩
      | next => exact h.elim
      | brk => exact h.elim
      | cont => exact h.elim
  cases hk : K.lookup a with
  | some o =>
    have e := kin a o hk
    rw [ha] at e
    cases e
    refine step (two t fun _ => none) (fun b u z nt => by rw [two_ne nt] at z; cases z) two_t (fun b u z => ?_) (.inr ⟨_, vs.toArray, _, hk, rfl, rfl, rfl, ?_, by simpa using rv⟩)
    · by_cases nt : b = t
      · subst nt
        rw [two_t] at z
        cases z
        exact tab
      · rw [two_ne nt] at z
        cases z
    · rw [List.size_toArray, hi.length]
      exact hl
  | none =>
    refine step (two t (one a vs ns)) (fun b u z nt => ?_) two_t (fun b u z => ?_) (.inl (.inr ⟨_, (two_ne nat).trans (if_pos rfl)⟩))
    · rw [two_ne nt] at z
      unfold one at z
      by_cases q : b = a
      · rw [if_pos q] at z
        cases z
        exact ⟨q, hk, _, _, rfl⟩
      · rw [if_neg q] at z
        cases z
    · by_cases nt : b = t
      · subst nt
        rw [two_t] at z
        cases z
        exact tab
      rw [two_ne nt] at z
      unfold one at z
      by_cases q : b = a
      · rw [if_pos q] at z
        cases z
        subst q
        exact ⟨ha, by rw [List.length_map]; exact hl, vs, _, rv, ha⟩
      · rw [if_neg q] at z
        cases z
theorem walkGT {l : PySem.W.OpenLaw} {n k : Nat} {q : Program} {loose : List Str} {XP : (Str → Option Value) → Heap → Prop} {YP : World → Heap → Prop} {d : DefRec} {K : Params → PySem.W.Frag} {x : Str}
    (hn : l.most = some n) (hn2 : n ≤ sizeLine) (hdf : d.params.defaults = []) (hr : Room k callerA) (hY : ∀ (w : World) (h : Heap), YP w h → (K w.params).In h)
    (F : ∀ (w : World) (mg : Str → Option Value) (fa : Addr) (h : Heap), YP w h → (K w.params).In h → h.Ns mainGlobals mg → mg d.name = some (.ref fa) →
      ∃ (fd : FuncData) (c t : Addr) (sp : Sp), h.get? t = some { cls := .none, data := .fields #[] } ∧ (K w.params).lookup t = none ∧ PySem.W.CodeHd h c t ∧ (∀ (s : Shared) (u : Value), BindsTo s fd ⟨[u], []⟩ [(x, u)]) ∧
        (∀ (H : Hp) (a : Addr) (ns : List Int), ns.length ≤ n → H t = some (.tbl #[]) → SqL (K w.params) H a (ns.map V.int) → sp [.ref a] H (fun v _ => v = .bl true) E0) ∧
        ∀ base : Heap, (K w.params).In base → base.Ns mainGlobals mg → LamX.TabB base mg c t → Gd l.prog w (K w.params) mg base k fa fd [x] sp) :
    PySem.W.WalkO q loose XP YP l.row.toRowW d [] (fun f vs => PySem.call f vs) := by
  refine Att.attach_call hn hdf fun w s₀ s₁ mg mb fa o pm cd doc a vs ns G Y ho hd hcd hmg hobj hints hlen hg => ?_
  have kin := hY w _ Y
  obtain ⟨fd, c, t, sp, tab, tabK, code, hb, hsp, hF⟩ := F w mg fa _ Y kin G.T.g hmg
  exact callGT kin G.T.g G.T.b G.T.builtins G.T.nolimit hg tab tabK code G.T.bmain hobj hints (Nat.le_trans hlen hn2) hr hF hb fun H hT hS => hsp H a ns hlen hT hS
end GT


namespace Law
open PySem PySem.Spec PyProof.Rows L2 Evl EK
open LamX (ExtN Tabs TabS CodeO)
theorem ExtN.nt {H H' : Hp} (e : ExtN H H') {b : Addr} {o : HO} (h : H b = some o) (n : ∀ ps, o ≠ .tbl ps) : H' b = some o := e b o h n
section
variable {K : PySem.W.Frag} {H H' : Hp}
theorem TyOf_exN {v : V} {t : Value} (h : TyOf K H v t) (e : ExtN H H') : TyOf K H' v t := by
  cases h with
  | non => exact .non
  | bl x => exact .bl x
  | int i => exact .int i
  | str x => exact .str x
  | flt x => exact .flt x
  | lst h => exact .lst (e _ _ h fun _ z => by cases z)
  | frz h => exact .frz (e _ _ h fun _ z => by cases z)
  | tup h => exact .tup (e _ _ h fun _ z => by cases z)
  | dK h => exact .dK (e _ _ h fun _ z => by cases z)
  | dT h => exact .dT (e _ _ h fun _ z => by cases z)
  | ins h a b c d f => exact .ins (e _ _ h fun _ z => by cases z) a b c d f
theorem TyX_exN {v : V} {t : Value} (h : TyX K H v t) (e : ExtN H H') : TyX K H' v t := by
  cases h with
  | base h => exact .base (TyOf_exN h e)
  | byt b => exact .byt b
  | set h => exact .set (e _ _ h fun _ z => by cases z)
  | kList h c => exact .kList h c
  | kTuple h c => exact .kTuple h c
  | kDict h c => exact .kDict h c
  | fTuple h => exact .fTuple (e _ _ h fun _ z => by cases z)
  | fDict h => exact .fDict (e _ _ h fun _ z => by cases z)
theorem NoS.exN {v : V} (h : NoS K H v) (e : ExtN H H') : NoS K H' v := by
  obtain ⟨t, ty, k⟩ := h
  exact ⟨t, TyX_exN ty e, k⟩
theorem El.exN {v : V} {x : Option (List Nat)} (h : El K H v x) (e : ExtN H H') : El K H' v x := by
  cases h with
  | txt x l => exact .txt x l
  | odd n => exact .odd (n.exN e)
theorem Els.exN {vs : List V} {es : List (Option (List Nat))} (h : Els K H vs es) (e : ExtN H H') : Els K H' vs es := by
  induction h with
  | nil => exact .nil
  | cons h1 _ ih => exact .cons (h1.exN e) ih
end
/-- no table in it -/
def NT (H : Hp) : Prop := ∀ b ps, H b ≠ some (.tbl ps)
def noT (H : Hp) : Hp := fun b => match H b with
  | some (.tbl _) => none
  | o => o
theorem noT_of {H : Hp} {b : Addr} {o : HO} (h : H b = some o) (n : ∀ ps, o ≠ .tbl ps) : noT H b = some o := by
  unfold noT
  rw [h]
  cases o with
  | tbl ps => exact absurd rfl (n ps)
  | _ => rfl
theorem noT_nt (H : Hp) : NT (noT H) := fun b ps z => by
  unfold noT at z
  split at z
  · cases z
  · rename_i h
    exact h ps z
theorem noT_ex (H : Hp) : Ex (noT H) H := fun b o z => by
  unfold noT at z
  split at z
  · cases z
  · exact z
theorem noT_none {H : Hp} {b : Addr} (h : H b = none) : noT H b = none := by
  unfold noT
  rw [h]
theorem noT_n (H : Hp) : ExtN H (noT H) := fun b o h n => noT_of h n
theorem tabs_del {T : List (Addr × Str)} {H : Hp} {d : Addr} {kvs : List (Key × V)} (h : Tabs T H) (hd : H d = some (.dK kvs)) : Tabs T (del H d) := fun q hq => by
  obtain ⟨ps, h1, h2, h3⟩ := h q hq
  refine ⟨ps, by rw [del_ne (fun z => by rw [z, hd] at h1; cases h1)]; exact h1, h2, fun pos cv hc => ?_⟩
  obtain ⟨c, e1, e2⟩ := h3 pos cv hc
  refine ⟨c, e1, ?_⟩
  rw [del_ne (fun z => by
    rw [z, hd] at e2
    unfold CodeO at e2
    cases e2)]
  exact e2
/-- the law's state: the pen over a base without tables, and the tables -/
structure Sta (T : List (Addr × Str)) (p : PenI) (B H : Hp) (n : Nat) : Prop where
  pen : PenAt p B H n
  nt : NT B
  tabs : Tabs T H
section
variable {T : List (Addr × Str)} {p : PenI} {B H H' H1 : Hp} {n m : Nat}
theorem Sta.plus (S : Sta T p B H n) : PenAt p (del H p.d) H n := S.pen.now.1
theorem Sta.up (S : Sta T p B H n) : Ex B (del H p.d) := S.pen.now.2
theorem Sta.td (S : Sta T p B H n) : Tabs T (del H p.d) := by
  obtain ⟨kvs, h⟩ := S.pen.dict
  exact tabs_del S.tabs h
theorem Sta.back (S : Sta T p B H n) (P' : PenAt p (del H p.d) H' m) : Sta T p B H' m where
  pen := ⟨S.up.trans P'.1, S.pen.2.1, S.pen.2.2.1, S.pen.2.2.2.1, P'.2.2.2.2⟩
  nt := S.nt
  tabs := S.td.ext P'.1
theorem Sta.ex (S : Sta T p B H n) (e : Ex H H') : Sta T p B H' n := ⟨S.pen.ex e, S.nt, S.tabs.ext e⟩
theorem Sta.le (S : Sta T p B H n) (h : n ≤ m) : Sta T p B H m := ⟨S.pen.le h, S.nt, S.tabs⟩
theorem Sta.exN (S : Sta T p B H n) (e : ExtN H H') (t : Tabs T H') : Sta T p B H' n where
  pen := by
    obtain ⟨e0, h0, hc, hl, op, lf, ho, hd⟩ := S.pen
    exact ⟨fun b o h => e b o (e0 b o h) (fun ps z => S.nt b ps (by rw [h, z])), h0, hc, hl, op, lf, ho, e _ _ hd (fun ps z => by cases z)⟩
  nt := S.nt
  tabs := t
theorem Sta.bn (S : Sta T p B H n) (e : ExtN H H') : Ex B H' := fun b o h => e b o (S.pen.1 b o h) (fun ps z => S.nt b ps (by rw [h, z]))
theorem Sta.grow (S : Sta T p B H n) (P' : PenAt p H1 H' m) (e : Ex (del H p.d) H1) : Sta T p (noT H1) H' m ∧ Ex B (noT H1) := by
  obtain ⟨e0, h0, hc, hl, op, lf, ho, hd⟩ := P'
  refine ⟨⟨⟨(noT_ex H1).trans e0, noT_none h0, noT_of hc (fun ps z => by cases z), hl, op, lf, ho, hd⟩, noT_nt H1, S.td.ext (e.trans e0)⟩, fun b o h => ?_⟩
  exact noT_of ((S.up.trans e) b o h) (fun ps z => S.nt b ps (by rw [h, z]))
/-- all that stands is kept -/
theorem Sta.hold (S : Sta T p B H n) : ∃ B', Sta T p B' H n ∧ Ex B B' ∧ ∀ b o, H b = some o → b ≠ p.d → (∀ ps, o ≠ .tbl ps) → B' b = some o := by
  obtain ⟨S', e⟩ := S.grow S.plus (Ex.refl _)
  exact ⟨_, S', e, fun b o h nb nt => noT_of (by rw [del_ne nb]; exact h) nt⟩
end
/-! ### what is told, as data and as text -/
def dataOf (due : Due) (d : PyData) : PyData := match due with
  | .ok => .none
  | .words i => .tuple [.str "words", .int (i : Nat), .bool true]
  | .text i => .tuple [.str "text", .int (i : Nat), .bool true]
  | .wish => .tuple [.str "wish", d, .bool true]
def textOf (due : Due) (d : PyData) : Str := match due with
  | .ok => "None"
  | due => (dataOf due d).shown
def okT (d : PyData) : Bool := d.showable && decide (d.depth ≤ 64) && decide (d.shown.length ≤ 1000)
theorem okT_words : ∀ i, i < 300 → okT (.tuple [.str "words", .int (i : Nat), .bool true]) = true := by decide +kernel
theorem okT_text : ∀ i, i < 300 → okT (.tuple [.str "text", .int (i : Nat), .bool true]) = true := by decide +kernel
/-- what is due can be shown -/
def OkD (due : Due) (d : PyData) : Prop := match due with
  | .ok => True
  | .words i => i < 300
  | .text i => i < 300
  | .wish => okT (.tuple [.str "wish", d, .bool true]) = true
theorem rx_tup {K : PySem.W.Frag} {H : Hp} {r : Addr} {xs : List V} {ds : List PyData} {Q : VK} (hr : H r = some (.tup xs)) (hd : DY.DEs K H xs ds) (ok : okT (.tuple ds) = true) (q : Q (.str (PyData.tuple ds).shown) H) : DY.RX K [.ref r] H Q := by
  unfold okT at ok
  rw [Bool.and_eq_true, Bool.and_eq_true, decide_eq_true_eq, decide_eq_true_eq] at ok
  exact ⟨.inr ⟨r, xs, ds, rfl, st_of hr, hd, ok.1.1, ok.1.2, Nat.le_trans ok.2 (by decide), q⟩⟩
theorem ResV.rx {K : PySem.W.Frag} {H : Hp} {v : V} {due : Due} {d : PyData} {Q : VK} (h : ResV H v due d) (ok : OkD due d) (q : Q (.str (textOf due d)) H) : DY.RX K [v] H Q := by
  cases due with
  | ok =>
    obtain rfl : v = .non := h
    exact ⟨.inl ⟨rfl, q⟩⟩
  | words i =>
    obtain ⟨r, rfl, hr⟩ := h
    exact rx_tup hr (.cons (.str _) (.cons (.int _) (.cons (.bl _) .nil))) (okT_words i ok) q
  | text i =>
    obtain ⟨r, rfl, hr⟩ := h
    exact rx_tup hr (.cons (.str _) (.cons (.int _) (.cons (.bl _) .nil))) (okT_text i ok) q
  | wish =>
    obtain ⟨r, u, rfl, hr, av⟩ := h
    exact rx_tup hr (.cons (.str _) (.cons av.de (.cons (.bl _) .nil))) ok q
theorem badW_le {L : List Nat} {es : List (Option (List Nat))} {i : Nat} (h : badW L es = some i) : i ≤ 3 := by
  unfold badW at h
  repeat' split at h
  all_goals first | (cases h; decide) | cases h
theorem badT_lt {L : List Nat} : ∀ {x : List Nat} {i : Nat}, badT L x = some i → i < x.length
  | [], _, h => by cases h
  | c :: r, i, h => by
    unfold badT at h
    split at h
    · obtain ⟨j, hj, rfl⟩ := Option.map_eq_some_iff.mp h
      have := badT_lt hj
      show j + 1 < r.length + 1
      omega
    · cases h
      exact Nat.succ_pos _
theorem okD_due {L : List Nat} {es : List (Option (List Nat))} {t : Option (List Nat)} {b : Bool} {d : PyData} (ht : ∀ x, t = some x → x.length < 300) (hd : okT (.tuple [.str "wish", d, .bool true]) = true) : OkD (dueF L es t b) d := by
  unfold dueF
  split
  · rename_i i h
    have := badW_le h
    show i < 300
    omega
  · split
    · show 0 < 300
      decide
    · rename_i x
      split
      · rename_i i h
        have := badT_lt h
        have := ht x rfl
        show i < 300
        omega
      · split
        · trivial
        · exact hd
end Law


namespace Law
open PySem PySem.Spec PyProof.Rows L2 Evl EK
open LamX (ExtN Tabs TabS CodeO)
theorem room70 {k : Nat} {A : Around} (r : Room k A) : A.units + 70 < cLine := by
  have := r.un
  omega
abbrev lamQ : Str := (Str.ofString "law" ++ ".<locals>.") ++ "<lambda>"
def spLaw (K : PySem.W.Frag) (Pt : Addr) : Sp := fun vs H Q _ => ∃ (a : Addr) (ns : List Int), vs = [.ref a] ∧ H Pt = some (.tbl #[]) ∧ SqL K H a (ns.map V.int) ∧ ns.length ≤ 63 ∧ ∀ H', Q (.bl true) H'
theorem cut2 {A : Prop} {N : L2.St → Hp → Prop} (Pv : L2.St → Hp → Prop) (hA : (∀ σ' H', Pv σ' H' → N σ' H') → A) (rest : ∀ σ' H', Pv σ' H' → N σ' H') : A := hA rest
theorem st_eq {t : L2.St → Hp → Prop} {σ σ' : L2.St} {H : Hp} (e : σ = σ') (h : t σ' H) : t σ H := e ▸ h
theorem els_wv {K : PySem.W.Frag} {H : Hp} : ∀ {ws : List (List Nat)}, (∀ w ∈ ws, w.length < 900) → Els K H (wv ws) (ws.map some)
  | [], _ => .nil
  | w :: ws, h => .cons (.txt w (h w (List.mem_cons_self ..))) (els_wv fun u hu => h u (List.mem_cons_of_mem _ hu))
def signsL : List Str := ["A", ".", " ", "1", "ab", "-"]
theorem signs_le : ∀ z ∈ signsL, z.length ≤ 2 := by decide +kernel
theorem txt_str {K : PySem.W.Frag} {H : Hp} (x : List Nat) (h : x.length < 300) : TxtV K H (.str (tx x)) (some x) := .inl ⟨x, rfl, rfl, h⟩
theorem txt_odd {K : PySem.W.Frag} {H : Hp} {v : V} (h : NoS K H v) : TxtV K H v none := .inr ⟨h, rfl⟩
theorem cut_b (l : List Nat) (k : Nat) : cutS (tx l) none (some (k : Int)) = tx (l.take k) := cut_to l k
theorem okT_wish : ∀ z ∈ wishes, okT (.tuple [.str "wish", .str z, .bool true]) = true := by decide +kernel
/-- a wish and what is kept of it -/
structure Wi (K : PySem.W.Frag) (B : Hp) (v : V) (b : Bool) (d : PyData) : Prop where
  w : WishV K B v b
  a : AV B v d
  o : okT (.tuple [.str "wish", d, .bool true]) = true
theorem Wi.ex {K : PySem.W.Frag} {B B' : Hp} {v : V} {b : Bool} {d : PyData} (h : Wi K B v b d) (e : Ex B B') : Wi K B' v b d := ⟨h.w.ex e, h.a.ex e, h.o⟩
theorem AV.exN {H H' : Hp} {v : V} {d : PyData} (h : AV H v d) (e : ExtN H H') : AV H' v d := by
  cases h with
  | flat f => exact .flat f
  | tup h f l => exact .tup (e _ _ h fun _ z => by cases z) f l
  | lst h f l => exact .lst (e _ _ h fun _ z => by cases z) f l
  | emp h => exact .emp (e _ _ h fun _ z => by cases z)
  | one h => exact .one (e _ _ h fun _ z => by cases z)
theorem ResV.exN {H H' : Hp} {v : V} {due : Due} {d : PyData} (h : ResV H v due d) (e : ExtN H H') : ResV H' v due d := by
  cases due with
  | ok => exact h
  | words i => obtain ⟨r, rfl, h⟩ := h; exact ⟨r, rfl, e _ _ h fun _ z => by cases z⟩
  | text i => obtain ⟨r, rfl, h⟩ := h; exact ⟨r, rfl, e _ _ h fun _ z => by cases z⟩
  | wish => obtain ⟨r, u, rfl, h, a⟩ := h; exact ⟨r, u, rfl, e _ _ h fun _ z => (by cases z), a.exN e⟩
theorem av_int {H : Hp} {v : V} {i : Int} (h : AV H v (.int i)) : v = .int i := by
  cases h with
  | flat f => cases f; rfl
section
variable {CL CW CT CX : Addr} {H : Hp} {Q : VK} {due : Due} {d : PyData}
theorem met_of (hq : ∀ v H', Ex H H' → ResV H' v due d → Q v H') : ∀ H', Ex H H' → match (generalizing := false) due with
    | .words i => RzD (Emet CL CW CT CX Q) H' CW "place" (.int i)
    | .text i => RzD (Emet CL CW CT CX Q) H' CT "place" (.int i)
    | .wish => RzD (Emet CL CW CT CX Q) H' CX "wish" d
    | .ok => ∀ _ : Addr, Q .non H' := fun H' e => by
  cases due with
  | ok => exact fun _ => hq _ _ e rfl
  | words i =>
    intro dd v' H2 e2 _ hx av
    cases av_int av
    exact ⟨dd, _, rfl, .inr (.inl ⟨rfl, hx, fun r hr => hq _ _ (e.trans (e2.trans (Ex.new hr))) ⟨r, rfl, upd_same⟩⟩)⟩
  | text i =>
    intro dd v' H2 e2 _ hx av
    cases av_int av
    exact ⟨dd, _, rfl, .inr (.inr (.inl ⟨rfl, hx, fun r hr => hq _ _ (e.trans (e2.trans (Ex.new hr))) ⟨r, rfl, upd_same⟩⟩))⟩
  | wish =>
    intro dd v' H2 e2 _ hx av
    exact ⟨dd, v', rfl, .inr (.inr (.inr ⟨rfl, hx, fun r hr => hq _ _ (e.trans (e2.trans (Ex.new hr))) ⟨r, v', rfl, upd_same, av.ex (Ex.new hr)⟩⟩))⟩
theorem met_let (hq : ∀ r u H', Ex H H' → H' r = some (.tup [.str "letters", u, .bl true]) → AV H' u d → Q (.ref r) H') : ∀ H', Ex H H' → RzD (Emet CL CW CT CX Q) H' CL "letters" d := fun H' e dd v' H2 e2 _ hx av =>
  ⟨dd, v', rfl, .inl ⟨rfl, hx, fun r hr => hq _ _ _ (e.trans (e2.trans (Ex.new hr))) upd_same (av.ex (Ex.new hr))⟩⟩
end
/-- what check_words alone finds -/
def dueC (L : List Nat) (es : List (Option (List Nat))) : Due := match badW L es with
  | some i => .words i
  | none => .ok
theorem met_chk {CL CW CT CX : Addr} {H : Hp} {Q : VK} {L : List Nat} {es : List (Option (List Nat))} {d : PyData} (hq : ∀ v H', Ex H H' → ResV H' v (dueC L es) d → Q v H') : ∀ H', Ex H H' → (∀ i : Nat, badW L es = some i → RzD (Emet CL CW CT CX Q) H' CW "place" (.int i)) ∧ (badW L es = none → Q .non H') := fun H' e => by
  refine ⟨fun i hi => ?_, fun hn => ?_⟩
  · have ed : dueC L es = .words i := by
      unfold dueC
      rw [hi]
    rw [ed] at hq
    exact met_of (CL := CL) (CW := CW) (CT := CT) (CX := CX) hq H' e
  · have ed : dueC L es = .ok := by
      unfold dueC
      rw [hn]
    rw [ed] at hq
    exact hq _ _ e rfl
theorem okD_chk {L : List Nat} {es : List (Option (List Nat))} {d : PyData} : OkD (dueC L es) d := by
  unfold dueC
  split
  · rename_i i h
    have := badW_le h
    show i < 300
    omega
  · trivial
theorem OddL.ex {K : PySem.W.Frag} {B B' : Hp} {v : V} (h : OddL K B v) (e : Ex B B') : OddL K B' v := by
  rcases h with h | h
  · exact .inl h
  · exact .inr (h.ex e)
/-- letters that are none, and what is kept of them -/
structure Od (K : PySem.W.Frag) (B : Hp) (v : V) (d : PyData) : Prop where
  l : OddL K B v
  a : AV B v d
  o : okT (.tuple [.str "letters", d, .bool true]) = true
theorem Od.ex {K : PySem.W.Frag} {B B' : Hp} {v : V} {d : PyData} (h : Od K B v d) (e : Ex B B') : Od K B' v d := ⟨h.l.ex e, h.a.ex e, h.o⟩
theorem od_str {K : PySem.W.Frag} {B : Hp} (z : Str) (h : areB z.cps.toList = false) (hl : z.cps.toList.length < 500) (o : okT (.tuple [.str "letters", .str z, .bool true]) = true) : Od K B (.str z) (.str z) :=
  ⟨.inl ⟨z.cps.toList, by rw [← tx_all z], hl, h⟩, .flat (.str z), o⟩
theorem rx_let {K : PySem.W.Frag} {H : Hp} {r : Addr} {u : V} {d : PyData} {Q : VK} (hr : H r = some (.tup [.str "letters", u, .bl true])) (av : AV H u d) (ok : okT (.tuple [.str "letters", d, .bool true]) = true) (q : Q (.str (PyData.tuple [.str "letters", d, .bool true]).shown) H) : DY.RX K [.ref r] H Q :=
  rx_tup hr (.cons (.str _) (.cons av.de (.cons (.bl _) .nil))) ok q
def four : List (List Nat) := [[97, 97], [97, 98], [98, 97], [98, 98]]
theorem four_v : [V.str "aa", .str "ab", .str "ba", .str "bb"] = wv four := by
  show [V.str "aa", V.str "ab", V.str "ba", V.str "bb"] = [V.str (tx [97, 97]), V.str (tx [97, 98]), V.str (tx [98, 97]), V.str (tx [98, 98])]
  rw [show Str.ofString "aa" = tx [97, 97] by decide +kernel, show Str.ofString "ab" = tx [97, 98] by decide +kernel, show Str.ofString "ba" = tx [98, 97] by decide +kernel, show Str.ofString "bb" = tx [98, 98] by decide +kernel]
theorem lg_ab : LG [97, 98] where
  lo := by decide
  hi := by decide
  az := by decide
  nd := by decide
theorem lg_ba : LG [98, 97] where
  lo := by decide
  hi := by decide
  az := by decide
  nd := by decide
theorem due_ab : dueC [97, 98] (four.map some) = .words 3 := by
  unfold dueC
  rw [show badW [97, 98] (four.map some) = some 3 by decide +kernel]
theorem due_ba : dueC [98, 97] ((four.drop 1).map some) = .ok := by
  unfold dueC
  rw [show badW [98, 97] ((four.drop 1).map some) = none by decide +kernel]
theorem four_le : ∀ x ∈ four, x.length < 900 := by decide
theorem dp_w3 {K : PySem.W.Frag} {H : Hp} {r : Addr} (h : H r = some (.tup [.str "words", .int 3, .bl true])) : Dp K H (.ref r) (.tuple [.str "words", .int 3, .bool true]) := .tup (st_of h) (.cons (.str _) (.cons (.int _) (.cons (.bl _) .nil)))
def mLap (j : Nat) : Nat := 8 * 9 ^ j
section
variable {P : Program} {w : World} {K : PySem.W.Frag} {mg : Str → Option Value} {base : Heap} {C_BadLetters C_BadWords C_BadText C_BadWish fL fW fT fX C_SkipsError gm c Pt : Addr} {fdm : FuncData}
theorem ok_law {f : Addr} {fd : FuncData} (F : GT.FunC K "law" "law" s_law f fd c) (T : Tx mg) (g_repr : mg "repr" = none) (Fm : Fun K "_law_met" "_law_met" s_lmet gm fdm) (g_lmet : mg "_law_met" = some (.ref gm)) (b_lmet : Binds K fdm ["_law_call"] [])
    (E1 : ErrC K C_BadLetters fL C_SkipsError) (E2 : ErrC K C_BadWords fW C_SkipsError) (E3 : ErrC K C_BadText fT C_SkipsError) (E4 : ErrC K C_BadWish fX C_SkipsError) (GS : Gs mg C_BadLetters C_BadWords C_BadText C_BadWish C_SkipsError) (NF : NoF K C_BadLetters C_BadWords C_BadText C_BadWish) (EX : Exm K C_BadLetters C_BadWords C_BadText C_BadWish)
    (TB : LamX.TabB base mg c Pt)
    (c_lpen : Kn P w K mg base "_law_pen" ["_law_script"] 1 (spPen K)) (c_ldraw : Kn P w K mg base "_law_draw" ["_law_pen_here", "_law_many"] 1 spDraw) (c_pickL : Kn P w K mg base "_law_pick" ["_law_pen_here", "_law_some"] 2 spPickL) (c_lletters : Kn P w K mg base "_law_letters" ["_law_pen_here"] 3 spLetters)
    (c_lwords : Kn P w K mg base "_law_words" ["_law_pen_here", "_law_letters_here", "_law_width", "_law_many"] 4 spWords) (c_ltext : Kn P w K mg base "_law_text" ["_law_pen_here", "_law_letters_here", "_law_words_here", "_law_most"] 3 spText)
    (c_ldue : Kn P w K mg base "_law_due" ["_law_letters_here", "_law_words_here", "_law_text_here", "_law_wish"] 2 (spDue K)) (c_lodd_words : Kn P w K mg base "_law_odd_words" ["_law_pen_here", "_law_letters_here", "_law_words_here"] 3 (spOdd K))
    (c_checkL : Kn' P w K mg base (L2.CX P w) "check_words" ["letters", "words"] 5 (spCheckG K C_BadLetters C_BadWords)) (c_wantL : Kn' P w K mg base (L2.CX P w) "wanted" ["letters", "words", "text", "wish"] 6 (spWantG K C_BadLetters C_BadWords C_BadText C_BadWish)) :
    GD.Gd P w K mg base 15 f fd ["_law_script"] (spLaw K Pt) := by
  have k_lmet := Fm.kp
  obtain ⟨oc, od, kV, doc, pm, an, cdm, ct, osl, rfl, l_lmet, h_lmet⟩ := Fm.ex
  have mT : ∀ {q : Addr × Str}, q = (Pt, lamQ) → q ∈ [(Pt, lamQ)] := fun e => List.mem_singleton.mpr e
  have uT : ∀ q ∈ [(Pt, lamQ)], q.1 = Pt → q.2 = lamQ := fun q hq _ => by rw [List.mem_singleton.mp hq]
  refine GT.okGC F sc_law (fun vs H Q E h => ?_) (fun A outer s H vs Q E hr hg h => ?_)
  · obtain ⟨a, ns, rfl, _⟩ := h
    rfl
  · obtain ⟨a, ns, rfl, hPt, hS, hl, q⟩ := h
    refine ⟨_, (pss_cons (ps_set (i := 1) sc_law.nd rfl (Or.inl rfl) (pe_call c_lpen.ok (hr.mono (by decide)) (by rfl) c_lpen.g c_lpen.kp c_lpen.b .nil pass0 (pa_cons (pv 0) pa_nil)))
      (pss_cons (ps_for PassesOwn.never rfl (pi_range1 (by rfl) T.range (pa_cons (pe_op op_add pe_int (pe_callB (call_min2 rfl) (by rfl) T.min (by decide +kernel) (pa_cons pe_int (pa_cons (pe_callB call_len_seq (by rfl) T.len PySem.boot_len (pa_cons (pv 0) pa_nil)) pa_nil)))) pa_nil)) (pg_name (i := 2) sc_law.nd rfl (Or.inl rfl)) (pss_cons (ps_asg (pe_tup (pa_cons (pe_call c_lletters.ok (hr.mono (by decide)) (by rfl) c_lletters.g c_lletters.kp c_lletters.b .nil pass0 (pa_cons (pv 1) pa_nil)) (pa_cons (pe_op op_add pe_int (pe_call c_ldraw.ok (hr.mono (by decide)) (by rfl) c_ldraw.g c_ldraw.kp c_ldraw.b .nil pass0 (pa_cons (pv 1) (pa_cons pe_int pa_nil)))) pa_nil))) (pg_tup (by rfl) (pgs_cons (pg_name (i := 3) sc_law.nd rfl (Or.inr rfl)) (pgs_cons (pg_name (i := 4) sc_law.nd rfl (Or.inl rfl)) pgs_nil))))
      (pss_cons (ps_set (i := 5) sc_law.nd rfl (Or.inr rfl) (pe_call c_lwords.ok (hr.mono (by decide)) (by rfl) c_lwords.g c_lwords.kp c_lwords.b .nil pass0 (pa_cons (pv 1) (pa_cons (pv 3) (pa_cons (pv 4) (pa_cons (pe_op op_add pe_int (pe_call c_ldraw.ok (hr.mono (by decide)) (by rfl) c_ldraw.g c_ldraw.kp c_ldraw.b .nil pass0 (pa_cons (pv 1) (pa_cons pe_int pa_nil)))) pa_nil))))))
      (pss_cons (ps_asg (pe_tup (pa_cons (pe_call c_ltext.ok (hr.mono (by decide)) (by rfl) c_ltext.g c_ltext.kp c_ltext.b .nil pass0 (pa_cons (pv 1) (pa_cons (pv 3) (pa_cons (pv 5) (pa_cons pe_int pa_nil))))) (pa_cons (pe_call c_pickL.ok (hr.mono (by decide)) (by rfl) c_pickL.g c_pickL.kp c_pickL.b .nil pass0 (pa_cons (pv 1) (pa_cons (pe_lst (pa_cons pe_str (pa_cons pe_str (pa_cons pe_str pa_nil)))) pa_nil))) pa_nil))) (pg_tup (by rfl) (pgs_cons (pg_name (i := 6) sc_law.nd rfl (Or.inr rfl)) (pgs_cons (pg_name (i := 7) sc_law.nd rfl (Or.inr rfl)) pgs_nil))))
      (pss_cons (ps_for PassesOwn.never rfl (pi_range1 (by rfl) T.range (pa_cons (pe_call c_ldraw.ok (hr.mono (by decide)) (by rfl) c_ldraw.g c_ldraw.kp c_ldraw.b .nil pass0 (pa_cons (pv 1) (pa_cons pe_int pa_nil))) pa_nil)) (pg_name (i := 8) sc_law.nd rfl (Or.inl rfl)) (pss_one (ps_if (PW.pt (pw_and (pt_cmpR (NL.op_neNil hr.units) (pv 5) (pe_lst pa_nil) (nomark _)) (pw_and (pt_val (pe_callB call_isi (by rfl) T.isinstance PyProof.Rows.boot_isinstance (pa_cons (pe_ix ix_list (pv 5) pe_int (fun _ _ => rfl)) (pa_cons (pe_bltn (v := .ty "str") (by rfl) T.str PyProof.Rows.boot_str rfl) pa_nil)))) (pw_and1 (pt_cmpR op_ne (pe_ix ix_list (pv 5) pe_int (fun _ _ => rfl)) pe_str (nomark _)))))) (pss_one (ps_set (i := 5) sc_law.nd rfl (Or.inr rfl) (pe_call c_lodd_words.ok (hr.mono (by decide)) (by rfl) c_lodd_words.g c_lodd_words.kp c_lodd_words.b .nil pass0 (pa_cons (pv 1) (pa_cons (pv 3) (pa_cons (pv 5) pa_nil)))))) pss_nil)))
      (pss_cons (ps_if (pt_cmpR op_eq (pe_call c_ldraw.ok (hr.mono (by decide)) (by rfl) c_ldraw.g c_ldraw.kp c_ldraw.b .nil pass0 (pa_cons (pv 1) (pa_cons pe_int pa_nil))) pe_int (nomark _)) (pss_cons (ps_set (i := 9) sc_law.nd rfl (Or.inl rfl) (pe_call c_ldraw.ok (hr.mono (by decide)) (by rfl) c_ldraw.g c_ldraw.kp c_ldraw.b .nil pass0 (pa_cons (pv 1) (pa_cons (pe_op op_add (pe_callB call_len_str (by rfl) T.len PySem.boot_len (pa_cons (pv 6) pa_nil)) pe_int) pa_nil))))
      (pss_cons (ps_set (i := 10) sc_law.nd rfl (Or.inl rfl) (pe_call c_pickL.ok (hr.mono (by decide)) (by rfl) c_pickL.g c_pickL.kp c_pickL.b .nil pass0 (pa_cons (pv 1) (pa_cons (pe_lst (pa_cons pe_str (pa_cons pe_str (pa_cons pe_str (pa_cons pe_str (pa_cons pe_str (pa_cons pe_str pa_nil))))))) pa_nil))))
      (pss_one (ps_set (i := 6) sc_law.nd rfl (Or.inr rfl) (pe_call c_pickL.ok (hr.mono (by decide)) (by rfl) c_pickL.g c_pickL.kp c_pickL.b .nil pass0 (pa_cons (pv 1) (pa_cons (pe_lst (pa_cons (pe_op op_add_str (pe_op op_add_str (pe_slice sl_str (pv 6) po_none (po_some (pv 9))) (pv 10)) (pe_slice sl_str (pv 6) (po_some (pv 9)) po_none)) (pa_cons pe_non (pa_cons pe_int (pa_cons (pe_lst (pa_cons (pv 6) pa_nil)) (pa_cons (pe_lst pa_nil) (pa_cons pe_dnewK (pa_cons (pe_tup (pa_cons (pv 6) pa_nil)) (pa_cons pe_bl pa_nil))))))))) pa_nil))))))) pss_nil)
      (pss_cons (ps_if (pt_cmpR op_eq (pe_call c_ldraw.ok (hr.mono (by decide)) (by rfl) c_ldraw.g c_ldraw.kp c_ldraw.b .nil pass0 (pa_cons (pv 1) (pa_cons pe_int pa_nil))) pe_int (nomark _)) (pss_one (ps_set (i := 7) sc_law.nd rfl (Or.inr rfl) (pe_call c_pickL.ok (hr.mono (by decide)) (by rfl) c_pickL.g c_pickL.kp c_pickL.b .nil pass0 (pa_cons (pv 1) (pa_cons (pe_lst (pa_cons pe_str (pa_cons pe_str (pa_cons pe_str (pa_cons pe_non (pa_cons pe_int (pa_cons pe_bl (pa_cons (pe_lst pa_nil) (pa_cons (pe_lst (pa_cons pe_str pa_nil)) (pa_cons (pe_disp (pps_cons pe_str pe_int pps_nil) (by rfl) (by rfl) (fun z => by cases z) (by decide)) (pa_cons (pe_tup (pa_cons pe_str pa_nil)) pa_nil))))))))))) pa_nil))))) pss_nil)
      (pss_cons (ps_set (i := 11) sc_law.nd rfl (Or.inl rfl) (pe_call c_ldue.ok (hr.mono (by decide)) (by rfl) c_ldue.g c_ldue.kp c_ldue.b .nil pass0 (pa_cons (pv 3) (pa_cons (pv 5) (pa_cons (pv 6) (pa_cons (pv 7) pa_nil))))))
      (pss_cons (ps_if (pt_cmpR op_ne (pe_callB (DY.call_reprY hg (room70 hr)) (by rfl) g_repr boot_repr (pa_cons (LamX.pe_lamcall (k := 8) (by rfl) g_lmet k_lmet l_lmet h_lmet b_lmet sc_lmet rfl (Or.inl rfl) (met_gives T E1 E2 E3 E4 GS NF EX) TB rfl (mT rfl) uT (hr.mono (by decide)) (LamX.lamS_by (sc := defScope s_law) (by decide +kernel)) rfl (fun _ _ _ _ _ => rfl) (fun A outer s H E f c hr => (pe_callS c_wantL.ok (hr.mono (by decide)) (by rfl) c_wantL.g c_wantL.kp c_wantL.b (fun σ => passAt (takes_of rfl rfl rfl rfl) σ) (pa_cons (pv 3) (pa_cons (pv 5) (pa_cons (pv 6) (pa_cons (pv 7) pa_nil))))))) pa_nil)) (pe_callB (DY.call_reprY hg (room70 hr)) (by rfl) g_repr boot_repr (pa_cons (pv 11) pa_nil)) (nomark _)) (pss_one (ps_ret pe_bl)) pss_nil)
      (pss_cons (ps_set (i := 12) sc_law.nd rfl (Or.inl rfl) (pe_ifExp (PW.pt (pw_and (pt_cmpR op_notN (pv 11) pe_non (nomark _)) (pw_and1 (pt_cmpR op_eq (pe_ix ix_tup (pv 11) pe_int (fun _ _ => rfl)) pe_str (nomark _))))) (pv 11) pe_non))
      (pss_cons (ps_if (pt_cmpR op_ne (pe_callB (DY.call_reprY hg (room70 hr)) (by rfl) g_repr boot_repr (pa_cons (LamX.pe_lamcall (k := 8) (by rfl) g_lmet k_lmet l_lmet h_lmet b_lmet sc_lmet rfl (Or.inl rfl) (met_gives T E1 E2 E3 E4 GS NF EX) TB rfl (mT rfl) uT (hr.mono (by decide)) (LamX.lamS_by (sc := defScope s_law) (by decide +kernel)) rfl (fun _ _ _ _ _ => rfl) (fun A outer s H E f c hr => (pe_callS c_checkL.ok (hr.mono (by decide)) (by rfl) c_checkL.g c_checkL.kp c_checkL.b (fun σ => passAt (takes_of rfl rfl rfl rfl) σ) (pa_cons (pv 3) (pa_cons (pv 5) pa_nil))))) pa_nil)) (pe_callB (DY.call_reprY hg (room70 hr)) (by rfl) g_repr boot_repr (pa_cons (pv 12) pa_nil)) (nomark _)) (pss_one (ps_ret pe_bl)) pss_nil)
      (pss_cons (ps_set (i := 13) sc_law.nd rfl (Or.inl rfl) (pe_lst (pa_cons pe_str (pa_cons pe_str (pa_cons pe_str (pa_cons pe_str (pa_cons pe_str (pa_cons pe_str (pa_cons pe_str (pa_cons pe_str (pa_cons pe_non (pa_cons pe_int (pa_cons pe_bl (pa_cons (pe_lst pa_nil) (pa_cons (pe_lst (pa_cons pe_str (pa_cons pe_str pa_nil))) (pa_cons pe_dnewK (pa_cons (pe_tup (pa_cons pe_str (pa_cons pe_str pa_nil))) pa_nil)))))))))))))))))
      (pss_cons (ps_set (i := 14) sc_law.nd rfl (Or.inr rfl) (pe_call c_pickL.ok (hr.mono (by decide)) (by rfl) c_pickL.g c_pickL.kp c_pickL.b .nil pass0 (pa_cons (pv 1) (pa_cons (pv 13) pa_nil))))
      (pss_cons (ps_if (pt_cmpR op_ne (pe_callB (DY.call_reprY hg (room70 hr)) (by rfl) g_repr boot_repr (pa_cons (LamX.pe_lamcall (k := 8) (by rfl) g_lmet k_lmet l_lmet h_lmet b_lmet sc_lmet rfl (Or.inl rfl) (met_gives T E1 E2 E3 E4 GS NF EX) TB rfl (mT rfl) uT (hr.mono (by decide)) (LamX.lamS_by (sc := defScope s_law) (by decide +kernel)) rfl (fun _ _ _ _ _ => rfl) (fun A outer s H E f c hr => (pe_callS c_wantL.ok (hr.mono (by decide)) (by rfl) c_wantL.g c_wantL.kp c_wantL.b (fun σ => passAt (takes_of rfl rfl rfl rfl) σ) (pa_cons (pv 14) (pa_cons (pv 5) (pa_cons (pv 6) (pa_cons (pv 7) pa_nil))))))) pa_nil)) (pe_callB (DY.call_reprY hg (room70 hr)) (by rfl) g_repr boot_repr (pa_cons (pe_tup (pa_cons pe_str (pa_cons (pv 14) (pa_cons pe_bl pa_nil)))) pa_nil)) (nomark _)) (pss_one (ps_ret pe_bl)) pss_nil)
      (pss_one (ps_if (pt_cmpR op_ne (pe_callB (DY.call_reprY hg (room70 hr)) (by rfl) g_repr boot_repr (pa_cons (LamX.pe_lamcall (k := 8) (by rfl) g_lmet k_lmet l_lmet h_lmet b_lmet sc_lmet rfl (Or.inl rfl) (met_gives T E1 E2 E3 E4 GS NF EX) TB rfl (mT rfl) uT (hr.mono (by decide)) (LamX.lamS_by (sc := defScope s_law) (by decide +kernel)) rfl (fun _ _ _ _ _ => rfl) (fun A outer s H E f c hr => (pe_callS c_checkL.ok (hr.mono (by decide)) (by rfl) c_checkL.g c_checkL.kp c_checkL.b (fun σ => passAt (takes_of rfl rfl rfl rfl) σ) (pa_cons (pv 14) (pa_cons (pe_lst pa_nil) pa_nil))))) pa_nil)) (pe_callB (DY.call_reprY hg (room70 hr)) (by rfl) g_repr boot_repr (pa_cons (pe_tup (pa_cons pe_str (pa_cons (pv 14) (pa_cons pe_bl pa_nil)))) pa_nil)) (nomark _)) (pss_one (ps_ret pe_bl)) pss_nil))))))))))))))))
      (pss_cons (ps_set (i := 15) sc_law.nd rfl (Or.inr rfl) (pe_lst (pa_cons pe_str (pa_cons pe_str (pa_cons pe_str (pa_cons pe_str pa_nil))))))
      (pss_cons (ps_if (pt_cmpR (op_neD hr.units) (LamX.pe_lamcall (k := 8) (by rfl) g_lmet k_lmet l_lmet h_lmet b_lmet sc_lmet rfl (Or.inl rfl) (met_gives T E1 E2 E3 E4 GS NF EX) TB rfl (mT rfl) uT (hr.mono (by decide)) (LamX.lamS_by (sc := defScope s_law) (by decide +kernel)) rfl (fun _ _ _ _ _ => rfl) (fun A outer s H E f c hr => (pe_callS c_checkL.ok (hr.mono (by decide)) (by rfl) c_checkL.g c_checkL.kp c_checkL.b (fun σ => passAt (takes_of rfl rfl rfl rfl) σ) (pa_cons pe_str (pa_cons (pv 15) pa_nil))))) (pe_tup (pa_cons pe_str (pa_cons pe_int (pa_cons pe_bl pa_nil)))) (nomark _)) (pss_one (ps_ret pe_bl)) pss_nil)
      (pss_one (ps_ret (pe_cmpR op_isN (LamX.pe_lamcall (k := 8) (by rfl) g_lmet k_lmet l_lmet h_lmet b_lmet sc_lmet rfl (Or.inl rfl) (met_gives T E1 E2 E3 E4 GS NF EX) TB rfl (mT rfl) uT (hr.mono (by decide)) (LamX.lamS_by (sc := defScope s_law) (by decide +kernel)) rfl (fun _ _ _ _ _ => rfl) (fun A outer s H E f c hr => (pe_callS c_checkL.ok (hr.mono (by decide)) (by rfl) c_checkL.g c_checkL.kp c_checkL.b (fun σ => passAt (takes_of rfl rfl rfl rfl) σ) (pa_cons pe_str (pa_cons (pe_slice (show SlR _ (rSlL K) from sl_list) (pv 15) (po_some pe_int) po_none) pa_nil))))) pe_non (nomark _)))))))), ?_⟩
    refine ⟨_, rfl, a, ns, rfl, hS, hl, fun p H0 H1 eH P0 => ?_⟩
    have hP1 : H1 Pt = some (.tbl #[]) := P0.1 _ _ (eH _ _ hPt)
    have S0 : Sta [(Pt, lamQ)] p (noT H0) H1 0 := by
      obtain ⟨e0, h0, hc, hl', op, lf, ho, hd⟩ := P0
      refine ⟨⟨(noT_ex H0).trans e0, noT_none h0, noT_of hc (fun ps z => by cases z), hl', op, lf, ho, hd⟩, noT_nt H0, fun q hq => ?_⟩
      rw [List.mem_singleton.mp hq]
      exact TabS.nil hP1
    have hS1 : SqL K H1 a (ns.map V.int) := ex_l (eH.trans P0.1) hS
    clear hP1 P0
    have hm10 : 0 ≤ (5 : Int) + (if ((ns.map V.int).length : Int) < 5 then ((ns.map V.int).length : Int) else 5) ∧ (5 : Int) + (if ((ns.map V.int).length : Int) < 5 then ((ns.map V.int).length : Int) else 5) ≤ 10 := by
      by_cases q : ((ns.map V.int).length : Int) < 5
      · rw [if_pos q]; omega
      · rw [if_neg q]; omega
    refine ⟨_, rfl, a, _, rfl, .inl hS1, _, _, rfl, _, _, rfl, rfl, _, rfl, by omega, by omega, ?_⟩
    obtain ⟨m, hm⟩ : ∃ m : Nat, ((5 : Int) + (if ((ns.map V.int).length : Int) < 5 then ((ns.map V.int).length : Int) else 5)).toNat = m := ⟨_, rfl⟩
    rw [hm]
    have hm2 : m ≤ 10 := by omega
    clear hm hm10 hS1
    refine for_range (lo := 0) (n := m) (fun i σ H' => ∃ (B : Hp) (y2 y3 y4 y5 y6 y7 y8 y9 y10 y11 y12 y13 y14 y15 : Option V), σ = [some (.ref a), some (.ref p.d), y2, y3, y4, y5, y6, y7, y8, y9, y10, y11, y12, y13, y14, y15] ∧ Sta [(Pt, lamQ)] p B H' (1000 * i))
      ⟨_, none, none, none, none, none, none, none, none, none, none, none, none, none, none, rfl, S0⟩ (fun i σ H2 hi hw => ?_) (fun σ H2 hw => ?_)
    · obtain ⟨B, y2, y3, y4, y5, y6, y7, y8, y9, y10, y11, y12, y13, y14, y15, rfl, S1⟩ := hw
      refine ⟨_, rfl, p, _, _, rfl, S1.plus, by omega, fun H3 lf lq lm P2 b1 b2 b3 b4 => ?_⟩
      have S2 := S1.back P2
      have hLG := lets_good b1 b2 b3 b4
      obtain ⟨L, hLe⟩ : ∃ L, lets lf lq lm = L := ⟨_, rfl⟩
      rw [hLe] at hLG ⊢
      have L2' := hLG.lo
      have L4 := hLG.hi
      refine ⟨_, rfl, p, _, _, 8, rfl, S2.plus, by omega, by decide, by decide, fun H4 r3 P3 r30 r31 => ⟨_, _, rfl, rfl, ?_⟩⟩
      have S3 := S2.back P3
      obtain ⟨wd, hwd⟩ : ∃ wd : Nat, (1 : Int) + r3 = (wd : Int) := ⟨(1 + r3).toNat, (Int.toNat_of_nonneg (by omega)).symm⟩
      dsimp only
      rw [hwd]
      refine ⟨by show 2 ≤ sizeLine; decide, fun q1 hq1 => ?_⟩
      have S4 := S3.ex (Ex.new (o := .tup [.str (tx L), .int (wd : Int)]) hq1)
      refine ⟨q1, _, rfl, .inl (.inl upd_same), rfl, _, _, rfl, _, _, rfl, rfl, ?_⟩
      refine' st_eq (σ' := [some (.ref a), some (.ref p.d), some (.int (0 + (i : Int))), some (.str (tx L)), some (.int (wd : Int)), y5, y6, y7, y8, y9, y10, y11, y12, y13, y14, y15]) rfl ?_
      refine ⟨_, rfl, _, rfl, _, rfl, _, rfl, p, _, _, 3, rfl, S4.plus, by omega, by decide, by decide, fun H5 r4 P4 r40 r41 => ⟨_, _, rfl, rfl, ?_⟩⟩
      have S5 := S4.back P4
      obtain ⟨mn, hmn⟩ : ∃ mn : Nat, (1 : Int) + r4 = (mn : Int) := ⟨(1 + r4).toNat, (Int.toNat_of_nonneg (by omega)).symm⟩
      dsimp only
      rw [hmn]
      refine ⟨p, _, _, wd, mn, L, rfl, S5.plus, by omega, by omega, by omega, by omega, by omega, by omega, by omega, fun H6 r ws P5 _ hr6 W => ?_⟩
      have nr := P5.lst_ne hr6
      obtain ⟨B1, S6, eB1, kB1⟩ := (S5.back P5).hold
      have hB1 := kB1 r _ hr6 nr (fun ps z => by cases z)
      clear kB1
      have wm := W.m8
      have w3 := W.hi
      refine ⟨_, rfl, _, rfl, _, rfl, p, _, _, wd, L, r, ws, rfl, S6.plus, by omega, S6.up _ _ hB1, W, by omega, by omega, fun H7 T7 P7 lT mT => ?_⟩
      have S7 := S6.back P7
      refine ⟨_, rfl, by show 3 ≤ sizeLine; decide, fun l1 hl1 => ?_⟩
      have S8 := S7.ex (Ex.new (o := .lst (wishes.map V.str)) hl1)
      refine ⟨p, _, l1, _, wishes.map V.str, rfl, S8.plus, by omega, upd_same, by decide, by decide, fun H8 v8 P8 hv8 => ?_⟩
      have S9 := S8.back P8
      obtain ⟨z8, hz8, rfl⟩ := List.mem_map.mp hv8
      refine ⟨by show 2 ≤ sizeLine; decide, fun q2 hq2 => ?_⟩
      have S10 := S9.ex (Ex.new (o := .tup [.str (tx T7), .str z8]) hq2)
      refine ⟨q2, _, rfl, .inl (.inl upd_same), rfl, _, _, rfl, _, _, rfl, rfl, ?_⟩
      have hB10 := S10.pen.1 _ _ hB1
      refine' cut2 (fun σ' H' => ∃ (B : Hp) (ra : Addr) (xs : List V) (es : List (Option (List Nat))) (y8 : Option V), σ' = [some (.ref a), some (.ref p.d), some (.int (0 + (i : Int))), some (.str (tx L)), some (.int (wd : Int)), some (.ref ra), some (.str (tx T7)), some (.str z8), y8, y9, y10, y11, y12, y13, y14, y15] ∧
        Sta [(Pt, lamQ)] p B H' (1000 * i + 320) ∧ B ra = some (.lst xs) ∧ Els K B xs es ∧ xs.length ≤ 5 ∧ LeE 648 es) (fun rest => ?_) ?_
      rotate_left
      · refine ⟨_, rfl, p, _, _, 3, rfl, S10.plus, by omega, by decide, by decide, fun H11 r5 P11 r50 r51 => ⟨_, rfl, by omega, by omega, ?_⟩⟩
        have S11 := S10.back P11
        obtain ⟨lp, hlp, hlp2⟩ : ∃ lp : Nat, r5.toNat = lp ∧ lp ≤ 2 := ⟨_, rfl, by omega⟩
        rw [hlp]
        refine for_range (lo := 0) (n := lp) (fun j σ' H' => ∃ (B : Hp) (ra : Addr) (xs : List V) (es : List (Option (List Nat))) (y8 : Option V), σ' = [some (.ref a), some (.ref p.d), some (.int (0 + (i : Int))), some (.str (tx L)), some (.int (wd : Int)), some (.ref ra), some (.str (tx T7)), some (.str z8), y8, y9, y10, y11, y12, y13, y14, y15] ∧
          Sta [(Pt, lamQ)] p B H' (1000 * i + 310 + 4 * j) ∧ B ra = some (.lst xs) ∧ Els K B xs es ∧ xs.length ≤ 3 + j ∧ LeE (mLap j) es) ⟨B1, r, wv ws, ws.map some, y8, rfl, S11.le (by omega), hB1, els_wv (fun w hw => by have := (W.all w hw).len; omega), by rw [wv_len]; omega, fun x hx => ?_⟩ (fun j σ' H' hj hw => ?_) (fun σ' H' hw => ?_)
        · obtain ⟨w1, hw1, e⟩ := List.mem_map.mp hx
          cases e
          have := (W.all x hw1).len
          show x.length ≤ 8
          omega
        · obtain ⟨B, ra, xs, es, y8, rfl, S, hra, EE, hxl, hle⟩ := hw
          rw [Int.zero_add]
          have mj : mLap (j + 1) = 9 * mLap j ∧ 9 * mLap j < 900 ∧ mLap j ≤ 72 := by
            have : j = 0 ∨ j = 1 := by omega
            rcases this with rfl | rfl <;> decide
          have skip : ∀ σ' HZ, σ' = [some (.ref a), some (.ref p.d), some (.int (0 + (i : Int))), some (.str (tx L)), some (.int (wd : Int)), some (.ref ra), some (.str (tx T7)), some (.str z8), some (.int (j : Int)), y9, y10, y11, y12, y13, y14, y15] → Ex H' HZ → (∃ (B : Hp) (ra : Addr) (xs : List V) (es : List (Option (List Nat))) (y8 : Option V), σ' = [some (.ref a), some (.ref p.d), some (.int (0 + (i : Int))), some (.str (tx L)), some (.int (wd : Int)), some (.ref ra), some (.str (tx T7)), some (.str z8), y8, y9, y10, y11, y12, y13, y14, y15] ∧
              Sta [(Pt, lamQ)] p B HZ (1000 * i + 310 + 4 * (j + 1)) ∧ B ra = some (.lst xs) ∧ Els K B xs es ∧ xs.length ≤ 3 + (j + 1) ∧ LeE (mLap (j + 1)) es) := fun σ' HZ e1 e2 =>
            ⟨B, ra, xs, es, _, e1, (S.ex e2).le (by omega), hra, EE, by omega, fun x hx => by have := hle x hx; omega⟩
          have hraH := S.pen.1 _ _ hra
          refine ⟨_, rfl, by show 0 ≤ sizeLine; decide, fun r0 hr0 => ⟨ra, r0, xs, rfl, rfl, sq_of ((Ex.new hr0) _ _ hraH), sq_of upd_same, _, rfl, ite2 (fun hb => ?_) (fun hb => ?_)⟩⟩
          rotate_left
          · exact skip _ _ rfl (Ex.new hr0)
          obtain ⟨v0, hv0⟩ : ∃ v, xs[0]? = some v := by
            cases xs with
            | nil => cases hb
            | cons v r => exact ⟨v, rfl⟩
          obtain ⟨e0, he0, hE0⟩ := EE.get hv0
          have e1 := Ex.new (o := .lst []) hr0
          have hraN := e1 _ _ hraH
          cases hE0 with
          | odd hn =>
            obtain ⟨t0, ty0, kk0⟩ := hn
            refine ⟨_, rfl, ra, _, _, _, rfl, rfl, sq_of hraN, atI_nat (j := 0) hv0, _, _, _, _, false, rfl, .ty _, TyX_ex ty0 (S.pen.1.trans e1), kk0, _, rfl, ?_⟩
            exact skip _ _ rfl e1
          | txt x0 l0 =>
            refine ⟨_, rfl, ra, _, _, _, rfl, rfl, sq_of hraN, atI_nat (j := 0) hv0, _, _, _, _, true, rfl, .ty _, .base (.str _), kit_ss, _, rfl, ?_⟩
            refine ⟨_, rfl, ra, _, _, _, rfl, rfl, sq_of hraN, atI_nat (j := 0) hv0, rfl, _, rfl, ite2 (fun hb2 => ?_) (fun hb2 => ?_)⟩
            rotate_left
            · exact skip _ _ rfl e1
            have h10 : 1 ≤ x0.length := by
              cases x0 with
              | nil => exact absurd hb2 (by decide)
              | cons c r => exact Nat.succ_pos _
            have SN := S.ex e1
            refine ⟨_, rfl, _, rfl, _, rfl, p, _, _, mLap j, L, ra, xs, es, x0, rfl, SN.plus, by omega, hLG, SN.up _ _ hra, EE.ex SN.up, by omega, he0, h10, hle, by omega, fun H12 HZ rz xz ez P12 e12 hrz EZ lz mz => ?_⟩
            obtain ⟨SZ, eZ⟩ := SN.grow P12 e12
            exact ⟨_, rz, xz, ez, _, rfl, SZ.le (by omega), noT_of hrz (fun ps z => by cases z), EZ.exN (noT_n _), by omega, by rw [mj.1]; exact mz⟩
        · obtain ⟨B, ra, xs, es, y8, rfl, S, hra, EE, hxl, hle⟩ := hw
          refine rest _ _ ⟨B, ra, xs, es, y8, rfl, S.le (by omega), hra, EE, by omega, fun x hx => Nat.le_trans (hle x hx) ?_⟩
          have : lp = 0 ∨ lp = 1 ∨ lp = 2 := by omega
          rcases this with rfl | rfl | rfl <;> decide
      · intro σ3 H12 hw
        obtain ⟨B, ra, xs, es, y8, rfl, S, hra, EE, hxl, hle⟩ := hw
        clear hB10 S10 hq2 S9 P8 S8 hl1 S7 P7 S6 eB1 hB1 hr6 P5 S5 P4 S4 hq1 S3 P3 S2 P2 S1
        refine' cut2 (fun σ' H' => ∃ (B' : Hp) (tv : V) (t : Option (List Nat)) (y9 y10 : Option V), σ' = [some (.ref a), some (.ref p.d), some (.int (0 + (i : Int))), some (.str (tx L)), some (.int (wd : Int)), some (.ref ra), some tv, some (.str z8), y8, y9, y10, y11, y12, y13, y14, y15] ∧
          Sta [(Pt, lamQ)] p B' H' (1000 * i + 330) ∧ Ex B B' ∧ TxtV K B' tv t) (fun rest => ?_) ?_
        rotate_left
        · refine ⟨_, rfl, p, _, _, 3, rfl, S.plus, by omega, by decide, by decide, fun H13 r6 P13 r60 r61 => ?_⟩
          have S13 := S.back P13
          refine ⟨rfl, _, rfl, ite2 (fun _ => ?_) (fun _ => ?_)⟩
          rotate_left
          · exact rest _ _ ⟨B, _, some T7, _, _, rfl, S13.le (by omega), Ex.refl _, txt_str T7 (by omega)⟩
          refine ⟨_, rfl, _, rfl, _, rfl, tx_le (by omega), _, _, rfl, rfl, p, _, _, _, rfl, S13.plus, by omega, by rw [tx_len]; omega, by rw [tx_len]; omega, fun H14 r7 P14 r70 r71 => ?_⟩
          have S14 := S13.back P14
          obtain ⟨at_, rfl⟩ : ∃ k : Nat, r7 = (k : Int) := ⟨r7.toNat, (Int.toNat_of_nonneg r70).symm⟩
          refine ⟨_, rfl, by show 6 ≤ sizeLine; decide, fun l2 hl2 => ?_⟩
          have S15 := S14.ex (Ex.new (o := .lst (signsL.map V.str)) hl2)
          refine ⟨p, _, l2, _, signsL.map V.str, rfl, S15.plus, by omega, upd_same, by decide, by decide, fun H15 v9 P15 hv9 => ?_⟩
          have S16 := S15.back P15
          obtain ⟨z9, hz9, rfl⟩ := List.mem_map.mp hv9
          have lz := signs_le z9 hz9
          obtain ⟨x9, hx9⟩ : ∃ x, z9 = tx x := ⟨_, tx_all z9⟩
          rw [hx9, tx_len] at lz
          rw [hx9]
          clear hv9 hz9 hx9
          refine ⟨_, rfl, _, rfl, _, rfl, _, rfl, _, rfl, tx_le (by omega), _, rfl, _, _, rfl, rfl, ?_, ?_⟩
          · rw [cut_to, tx_len, tx_len, List.length_take]
            exact sz_le (by omega)
          refine ⟨_, rfl, _, rfl, _, rfl, _, rfl, tx_le (by omega), _, _, rfl, rfl, ?_, ?_⟩
          · rw [cut_to, tx_app, cut_from, tx_len, tx_len, List.length_append, List.length_take, List.length_drop]
            exact sz_le (by omega)
          rw [cut_to, tx_app, cut_from, tx_app]
          obtain ⟨x10, hx10, lx10⟩ : ∃ x, (T7.take at_ ++ x9) ++ T7.drop at_ = x ∧ x.length ≤ 40 := by
            refine ⟨_, rfl, ?_⟩
            rw [List.length_append, List.length_append, List.length_take, List.length_drop]
            omega
          rw [hx10]
          clear hx10
          refine ⟨_, rfl, by show 1 ≤ sizeLine; decide, fun a1 h1 => ?_⟩
          have n1 := fresh_ne S16.pen h1
          have S17 := S16.ex (Ex.new (o := .lst [.str (tx T7)]) h1)
          refine ⟨by show 0 ≤ sizeLine; decide, fun a2 h2 => ?_⟩
          have n2 := fresh_ne S17.pen h2
          have S18 := S17.ex (Ex.new (o := .lst []) h2)
          refine fun a3 h3 => ?_
          have n3 := fresh_ne S18.pen h3
          have S19 := S18.ex (Ex.new (o := .dK []) h3)
          refine ⟨_, rfl, by show 1 ≤ sizeLine; decide, fun a4 h4 => ?_⟩
          have n4 := fresh_ne S19.pen h4
          have S20 := S19.ex (Ex.new (o := .tup [.str (tx T7)]) h4)
          refine ⟨by show 8 ≤ sizeLine; decide, fun a5 h5 => ?_⟩
          have S21 := S20.ex (Ex.new (o := .lst [.str (tx x10), .non, .int 5, .ref a1, .ref a2, .ref a3, .ref a4, .bl true]) h5)
          obtain ⟨B2, S22, eB2, kB2⟩ := S21.hold
          have e5 := Ex.new (o := .lst [.str (tx x10), .non, .int 5, .ref a1, .ref a2, .ref a3, .ref a4, .bl true]) h5
          have e4 := (Ex.new (o := .tup [.str (tx T7)]) h4).trans e5
          have e3 := (Ex.new (o := .dK []) h3).trans e4
          have e2 := (Ex.new (o := .lst []) h2).trans e3
          have k1 := kB2 a1 _ (e2 _ _ upd_same) n1 (fun ps z => by cases z)
          have k2 := kB2 a2 _ (e3 _ _ upd_same) n2 (fun ps z => by cases z)
          have k3 := kB2 a3 _ (e4 _ _ upd_same) n3 (fun ps z => by cases z)
          have k4 := kB2 a4 _ (e5 _ _ upd_same) n4 (fun ps z => by cases z)
          refine ⟨p, _, a5, _, _, rfl, S22.plus, by omega, upd_same, by show 0 < 8; decide, by show 8 < 1000; decide, fun H16 v10 P16 hv10 => ?_⟩
          have S23 := S22.back P16
          obtain ⟨t10, ht10⟩ : ∃ t, TxtV K B2 v10 t := by
            simp only [List.mem_cons, List.not_mem_nil, or_false] at hv10
            rcases hv10 with rfl | rfl | rfl | rfl | rfl | rfl | rfl | rfl
            · exact ⟨_, txt_str x10 (by omega)⟩
            · exact ⟨_, txt_odd nos_non⟩
            · exact ⟨_, txt_odd (nos_int 5)⟩
            · exact ⟨_, txt_odd (nos_lst k1)⟩
            · exact ⟨_, txt_odd (nos_lst k2)⟩
            · exact ⟨_, txt_odd (nos_dK k3)⟩
            · exact ⟨_, txt_odd (nos_tup k4)⟩
            · exact ⟨_, txt_odd (nos_bl true)⟩
          exact rest _ _ ⟨B2, v10, t10, _, _, rfl, S23.le (by omega), eB2, ht10⟩
        · intro σ4 H13 hw
          obtain ⟨B2, tv, t, y9, y10, rfl, S3, eB2, hT⟩ := hw
          replace hra := eB2 _ _ hra
          replace EE := EE.ex eB2
          clear eB2 S
          refine' cut2 (fun σ' H' => ∃ (B' : Hp) (yw : V) (b : Bool) (d : PyData), σ' = [some (.ref a), some (.ref p.d), some (.int (0 + (i : Int))), some (.str (tx L)), some (.int (wd : Int)), some (.ref ra), some tv, some yw, y8, y9, y10, y11, y12, y13, y14, y15] ∧
            Sta [(Pt, lamQ)] p B' H' (1000 * i + 340) ∧ Ex B2 B' ∧ Wi K B' yw b d) (fun rest => ?_) ?_
          rotate_left
          · refine ⟨_, rfl, p, _, _, 3, rfl, S3.plus, by omega, by decide, by decide, fun H14 r6 P13 r60 r61 => ?_⟩
            have S13 := S3.back P13
            refine ⟨rfl, _, rfl, ite2 (fun _ => ?_) (fun _ => ?_)⟩
            rotate_left
            · exact rest _ _ ⟨B2, _, _, _, rfl, S13.le (by omega), Ex.refl _, .inl ⟨z8, rfl, rfl⟩, .flat (.str z8), okT_wish z8 hz8⟩
            refine ⟨_, rfl, by show 0 ≤ sizeLine; decide, fun a1 h1 => ?_⟩
            have n1 := fresh_ne S13.pen h1
            have S17 := S13.ex (Ex.new (o := .lst []) h1)
            refine ⟨by show 1 ≤ sizeLine; decide, fun a2 h2 => ?_⟩
            have n2 := fresh_ne S17.pen h2
            have S18 := S17.ex (Ex.new (o := .lst [.str "all"]) h2)
            refine fun a3 h3 => ?_
            have n3 := fresh_ne S18.pen h3
            have S19 := S18.ex (ex_new2 (o1 := .dK []) (o2 := .dK [(.inr "all", .int 1)]) h3)
            refine ⟨upd_same, [(.inr "all", .int 1)], rfl, by show 1 ≤ 15; decide, ?_⟩
            refine ⟨by show 1 ≤ sizeLine; decide, fun a4 h4 => ?_⟩
            have n4 := fresh_ne S19.pen h4
            have S20 := S19.ex (Ex.new (o := .tup [.str "all"]) h4)
            refine ⟨by show 10 ≤ sizeLine; decide, fun a5 h5 => ?_⟩
            have S21 := S20.ex (Ex.new (o := .lst [.str "", .str "All", .str "first ", .non, .int 0, .bl true, .ref a1, .ref a2, .ref a3, .ref a4]) h5)
            obtain ⟨B3, S22, eB3, kB2⟩ := S21.hold
            have e5 := Ex.new (o := .lst [.str "", .str "All", .str "first ", .non, .int 0, .bl true, .ref a1, .ref a2, .ref a3, .ref a4]) h5
            have e4 := (Ex.new (o := .tup [.str "all"]) h4).trans e5
            have e3 := (ex_new2 (o1 := .dK []) (o2 := .dK [(.inr "all", .int 1)]) h3).trans e4
            have e2 := (Ex.new (o := .lst [.str "all"]) h2).trans e3
            have k1 := kB2 a1 _ (e2 _ _ upd_same) n1 (fun ps z => by cases z)
            have k2 := kB2 a2 _ (e3 _ _ upd_same) n2 (fun ps z => by cases z)
            have k3 := kB2 a3 _ (e4 _ _ upd_same) n3 (fun ps z => by cases z)
            have k4 := kB2 a4 _ (e5 _ _ upd_same) n4 (fun ps z => by cases z)
            refine ⟨p, _, a5, _, _, rfl, S22.plus, by omega, upd_same, by show 0 < 10; decide, by show 10 < 1000; decide, fun H16 v10 P16 hv10 => ?_⟩
            have S23 := S22.back P16
            obtain ⟨b10, d10, hw10⟩ : ∃ b d, Wi K B3 v10 b d := by
              simp only [List.mem_cons, List.not_mem_nil, or_false] at hv10
              rcases hv10 with rfl | rfl | rfl | rfl | rfl | rfl | rfl | rfl | rfl | rfl
              · exact ⟨_, _, .inl ⟨_, rfl, rfl⟩, .flat (.str _), by decide +kernel⟩
              · exact ⟨_, _, .inl ⟨_, rfl, rfl⟩, .flat (.str _), by decide +kernel⟩
              · exact ⟨_, _, .inl ⟨_, rfl, rfl⟩, .flat (.str _), by decide +kernel⟩
              · exact ⟨_, _, .inr ⟨nos_non, rfl⟩, .flat .non, by decide +kernel⟩
              · exact ⟨_, _, .inr ⟨nos_int 0, rfl⟩, .flat (.int 0), by decide +kernel⟩
              · exact ⟨_, _, .inr ⟨nos_bl true, rfl⟩, .flat (.bl true), by decide +kernel⟩
              · exact ⟨_, _, .inr ⟨nos_lst k1, rfl⟩, .lst k1 .nil (by decide), by decide +kernel⟩
              · exact ⟨_, _, .inr ⟨nos_lst k2, rfl⟩, .lst k2 (.cons (.str _) .nil) (by show 1 ≤ 50; decide), by decide +kernel⟩
              · exact ⟨_, _, .inr ⟨nos_dK k3, rfl⟩, .one k3, by decide +kernel⟩
              · exact ⟨_, _, .inr ⟨nos_tup k4, rfl⟩, .tup k4 (.cons (.str _) .nil) (by show 1 ≤ 50; decide), by decide +kernel⟩
            exact rest _ _ ⟨B3, v10, b10, d10, rfl, S23.le (by omega), eB3, hw10⟩
          · intro σ5 H14 hw
            obtain ⟨B3, yw, b, d, rfl, S4, eB3, hW⟩ := hw
            replace hra := eB3 _ _ hra
            replace EE := EE.ex eB3
            replace hT := hT.ex eB3
            clear eB3 S3
            have ht3 : ∀ x, t = some x → x.length < 300 := fun x hx => by
              rcases hT with ⟨y, _, rfl, h⟩ | ⟨_, rfl⟩
              · cases hx
                exact h
              · cases hx
            have okd : OkD (dueF L es t b) d := okD_due ht3 hW.o
            refine ⟨_, rfl, _, rfl, _, rfl, _, rfl, L, ra, xs, es, tv, t, yw, b, d, rfl, hLG, S4.pen.1 _ _ hra, EE.ex S4.pen.1, by omega, hT.ex S4.pen.1, hW.w.ex S4.pen.1, hW.a.ex S4.pen.1, fun v11 H15 e15 r11 => ?_⟩
            have S5 := S4.ex e15
            refine ⟨S5.tabs, fun H16 eN16 T16 => ?_⟩
            have S6 := S5.exN eN16 T16
            replace r11 := r11.exN eN16
            refine ⟨_, rfl, _, rfl, _, rfl, _, rfl, _, ra, xs, tv, yw, rfl, S6.pen.1 _ _ hra, .inl ⟨L, es, t, b, d, rfl, hLG, EE.ex S6.pen.1, by omega, hT.ex S6.pen.1, hW.w.ex S6.pen.1, hW.a.ex S6.pen.1, met_of fun v12 H17 e17 r12 => ?_⟩⟩
            have S7 := S6.ex e17
            replace r11 := r11.ex e17
            refine r12.rx okd ⟨_, rfl, r11.rx okd ?_⟩
            refine ⟨rfl, _, rfl, ite2 (fun hb => absurd hb (by simp)) (fun _ => ?_)⟩
            refine' cut2 (fun σ' H' => ∃ (v12 : V), σ' = [some (.ref a), some (.ref p.d), some (.int (0 + (i : Int))), some (.str (tx L)), some (.int (wd : Int)), some (.ref ra), some tv, some yw, y8, y9, y10, some v11, some v12, y13, y14, y15] ∧
              Sta [(Pt, lamQ)] p B3 H' (1000 * i + 340) ∧ ResV H' v12 (dueC L es) d) (fun rest => ?_) ?_
            rotate_left
            · cases hbw : badW L es with
              | some j =>
                have ed : dueF L es t b = .words j := by unfold dueF; rw [hbw]
                have ec : dueC L es = .words j := by unfold dueC; rw [hbw]
                rw [ed] at r11
                rw [ec] at rest
                obtain ⟨r, rfl, hr11⟩ := r11
                refine ⟨_, rfl, rfl, _, rfl, ite2 (fun _ => ?_) (fun hb => absurd (by simp) hb)⟩
                refine ⟨_, rfl, r, _, _, _, rfl, rfl, st_of hr11, atI_nat (j := 0) rfl, rfl, _, rfl, ite2 (fun _ => ?_) (fun hb => absurd (by decide) hb)⟩
                exact ⟨_, rfl, rest _ _ ⟨_, rfl, S7, r, rfl, hr11⟩⟩
              | none =>
                have ec : dueC L es = .ok := by unfold dueC; rw [hbw]
                rw [ec] at rest
                cases hd : dueF L es t b with
                | ok =>
                  rw [hd] at r11
                  obtain rfl : v11 = .non := r11
                  refine ⟨_, rfl, rfl, _, rfl, ite2 (fun hb => absurd hb (by decide)) (fun _ => ?_)⟩
                  exact rest _ _ ⟨_, rfl, S7, rfl⟩
                | words j =>
                  exfalso
                  unfold dueF at hd
                  rw [hbw] at hd
                  repeat' split at hd
                  all_goals first | (rename_i hh; cases hh; done) | cases hd
                | text j =>
                  rw [hd] at r11
                  obtain ⟨r, rfl, hr11⟩ := r11
                  refine ⟨_, rfl, rfl, _, rfl, ite2 (fun _ => ?_) (fun hb => absurd (by simp) hb)⟩
                  refine ⟨_, rfl, r, _, _, _, rfl, rfl, st_of hr11, atI_nat (j := 0) rfl, rfl, _, rfl, ite2 (fun hb => absurd hb (by decide)) (fun _ => ?_)⟩
                  exact rest _ _ ⟨_, rfl, S7, rfl⟩
                | wish =>
                  rw [hd] at r11
                  obtain ⟨r, u11, rfl, hr11, _⟩ := r11
                  refine ⟨_, rfl, rfl, _, rfl, ite2 (fun _ => ?_) (fun hb => absurd (by simp) hb)⟩
                  refine ⟨_, rfl, r, _, _, _, rfl, rfl, st_of hr11, atI_nat (j := 0) rfl, rfl, _, rfl, ite2 (fun hb => absurd hb (by decide)) (fun _ => ?_)⟩
                  exact rest _ _ ⟨_, rfl, S7, rfl⟩
            · intro σ6 H18 hw
              obtain ⟨v12, rfl, S8, r12⟩ := hw
              clear S7 S6 S5 S4 r11
              refine ⟨S8.tabs, fun H19 eN19 T19 => ?_⟩
              have S9 := S8.exN eN19 T19
              replace r12 := r12.exN eN19
              refine ⟨_, rfl, _, rfl, _, ra, xs, rfl, S9.pen.1 _ _ hra, .inl ⟨L, es, rfl, hLG, EE.ex S9.pen.1, by omega, met_chk (d := d) fun v13 H20 e20 r13 => ?_⟩⟩
              have S10 := S9.ex e20
              replace r12 := r12.ex e20
              refine r13.rx okD_chk ⟨_, rfl, r12.rx okD_chk ?_⟩
              refine ⟨rfl, _, rfl, ite2 (fun hb => absurd hb (by simp)) (fun _ => ?_)⟩
              clear r12 r13
              refine ⟨by show 0 ≤ sizeLine; decide, fun a1 h1 => ?_⟩
              have n1 := fresh_ne S10.pen h1
              have S17 := S10.ex (Ex.new (o := .lst []) h1)
              refine ⟨by show 2 ≤ sizeLine; decide, fun a2 h2 => ?_⟩
              have n2 := fresh_ne S17.pen h2
              have S18 := S17.ex (Ex.new (o := .lst [.str "a", .str "b"]) h2)
              refine fun a3 h3 => ?_
              have n3 := fresh_ne S18.pen h3
              have S19 := S18.ex (Ex.new (o := .dK []) h3)
              refine ⟨by show 2 ≤ sizeLine; decide, fun a4 h4 => ?_⟩
              have n4 := fresh_ne S19.pen h4
              have S20 := S19.ex (Ex.new (o := .tup [.str "a", .str "b"]) h4)
              refine ⟨by show 15 ≤ sizeLine; decide, fun a5 h5 => ?_⟩
              have S21 := S20.ex (Ex.new (o := .lst [.str "", .str "a", .str "aa", .str "aba", .str "aB", .str "abcde", .str "a1", .str "a b", .non, .int 5, .bl true, .ref a1, .ref a2, .ref a3, .ref a4]) h5)
              obtain ⟨B4, S22, eB4, kB2⟩ := S21.hold
              have e5 := Ex.new (o := .lst [.str "", .str "a", .str "aa", .str "aba", .str "aB", .str "abcde", .str "a1", .str "a b", .non, .int 5, .bl true, .ref a1, .ref a2, .ref a3, .ref a4]) h5
              have e4 := (Ex.new (o := .tup [.str "a", .str "b"]) h4).trans e5
              have e3 := (Ex.new (o := .dK []) h3).trans e4
              have e2 := (Ex.new (o := .lst [.str "a", .str "b"]) h2).trans e3
              have k1 := kB2 a1 _ (e2 _ _ upd_same) n1 (fun ps z => by cases z)
              have k2 := kB2 a2 _ (e3 _ _ upd_same) n2 (fun ps z => by cases z)
              have k3 := kB2 a3 _ (e4 _ _ upd_same) n3 (fun ps z => by cases z)
              have k4 := kB2 a4 _ (e5 _ _ upd_same) n4 (fun ps z => by cases z)
              refine ⟨_, rfl, _, rfl, p, _, a5, _, _, rfl, S22.plus, by omega, upd_same, by show 0 < 15; decide, by show 15 < 1000; decide, fun H21 v14 P21 hv14 => ?_⟩
              have S23 := S22.back P21
              obtain ⟨d14, hO⟩ : ∃ d, Od K B4 v14 d := by
                simp only [List.mem_cons, List.not_mem_nil, or_false] at hv14
                rcases hv14 with rfl | rfl | rfl | rfl | rfl | rfl | rfl | rfl | rfl | rfl | rfl | rfl | rfl | rfl | rfl
                · exact ⟨_, od_str _ (by decide +kernel) (by decide +kernel) (by decide +kernel)⟩
                · exact ⟨_, od_str _ (by decide +kernel) (by decide +kernel) (by decide +kernel)⟩
                · exact ⟨_, od_str _ (by decide +kernel) (by decide +kernel) (by decide +kernel)⟩
                · exact ⟨_, od_str _ (by decide +kernel) (by decide +kernel) (by decide +kernel)⟩
                · exact ⟨_, od_str _ (by decide +kernel) (by decide +kernel) (by decide +kernel)⟩
                · exact ⟨_, od_str _ (by decide +kernel) (by decide +kernel) (by decide +kernel)⟩
                · exact ⟨_, od_str _ (by decide +kernel) (by decide +kernel) (by decide +kernel)⟩
                · exact ⟨_, od_str _ (by decide +kernel) (by decide +kernel) (by decide +kernel)⟩
                · exact ⟨_, .inr nos_non, .flat .non, by decide +kernel⟩
                · exact ⟨_, .inr (nos_int 5), .flat (.int 5), by decide +kernel⟩
                · exact ⟨_, .inr (nos_bl true), .flat (.bl true), by decide +kernel⟩
                · exact ⟨_, .inr (nos_lst k1), .lst k1 .nil (by decide), by decide +kernel⟩
                · exact ⟨_, .inr (nos_lst k2), .lst k2 (.cons (.str _) (.cons (.str _) .nil)) (by show 2 ≤ 50; decide), by decide +kernel⟩
                · exact ⟨_, .inr (nos_dK k3), .emp k3, by decide +kernel⟩
                · exact ⟨_, .inr (nos_tup k4), .tup k4 (.cons (.str _) (.cons (.str _) .nil)) (by show 2 ≤ 50; decide), by decide +kernel⟩
              replace hra := eB4 _ _ hra
              clear hv14 P21 S22 S21 S20 S19 S18 S17 S10 S9 S8 k1 k2 k3 k4 e2 e3 e4 e5
              refine ⟨S23.tabs, fun H22 eN22 T22 => ?_⟩
              have S24 := S23.exN eN22 T22
              refine ⟨_, rfl, _, rfl, _, rfl, _, rfl, _, ra, xs, tv, yw, rfl, S24.pen.1 _ _ hra, .inr ⟨d14, hO.a.ex S24.pen.1, hO.l.ex S24.pen.1, met_let fun r25 u25 H25 e25 hr25 av25 => ?_⟩⟩
              have S25 := S24.ex e25
              refine rx_let hr25 av25 hO.o ⟨_, rfl, by show 3 ≤ sizeLine; decide, fun r26 hr26 => ?_⟩
              have S26 := S25.ex (Ex.new (o := .tup [.str "letters", v14, .bl true]) hr26)
              refine rx_let upd_same (hO.a.ex S26.pen.1) hO.o ?_
              refine ⟨rfl, _, rfl, ite2 (fun hb => absurd hb (by simp)) (fun _ => ?_)⟩
              clear S23 S24 S25
              refine ⟨S26.tabs, fun H27 eN27 T27 => ?_⟩
              have S27 := S26.exN eN27 T27
              refine ⟨_, rfl, by show 0 ≤ sizeLine; decide, fun a6 h6 => ?_⟩
              have S28 := S27.ex (Ex.new (o := .lst []) h6)
              refine ⟨_, a6, [], rfl, upd_same, .inr ⟨d14, hO.a.ex S28.pen.1, hO.l.ex S28.pen.1, met_let fun r29 u29 H29 e29 hr29 av29 => ?_⟩⟩
              have S29 := S28.ex e29
              refine rx_let hr29 av29 hO.o ⟨_, rfl, by show 3 ≤ sizeLine; decide, fun r30 hr30 => ?_⟩
              have S30 := S29.ex (Ex.new (o := .tup [.str "letters", v14, .bl true]) hr30)
              refine rx_let upd_same (hO.a.ex S30.pen.1) hO.o ?_
              refine ⟨rfl, _, rfl, ite2 (fun hb => absurd hb (by simp)) (fun _ => ?_)⟩
              exact ⟨B4, _, _, _, _, _, _, _, _, _, _, _, _, _, _, rfl, S30.le (by omega)⟩
    · obtain ⟨B, y2, y3, y4, y5, y6, y7, y8, y9, y10, y11, y12, y13, y14, y15, rfl, S1⟩ := hw
      refine ⟨by show 4 ≤ sizeLine; decide, fun a7 h7 => ?_⟩
      rw [four_v]
      have k7 : (upd H2 a7 (.lst (wv four))) a7 = some (.lst (wv four)) := upd_same
      have S2 := S1.ex (Ex.new (o := .lst (wv four)) h7)
      generalize upd H2 a7 (.lst (wv four)) = H3 at k7 S2 ⊢
      refine ⟨S2.tabs, fun H4 eN4 T4 => ?_⟩
      have S4 := S2.exN eN4 T4
      have k4 := eN4 _ _ k7 (fun ps z => by cases z)
      refine ⟨_, rfl, _, a7, _, rfl, k4, .inl ⟨[97, 98], four.map some, congrArg V.str (by decide +kernel), lg_ab, els_wv four_le, by show 4 < 100; decide, met_chk (d := .none) fun v5 H5 e5 r5 => ?_⟩⟩
      rw [due_ab] at r5
      obtain ⟨r, rfl, hr5⟩ := r5
      have S5 := S4.ex e5
      have k5 := e5 _ _ k4
      refine ⟨by show 3 ≤ sizeLine; decide, fun r6 hr6 => ?_⟩
      have S6 := S5.ex (Ex.new (o := .tup [.str "words", .int 3, .bl true]) hr6)
      have k6 := (Ex.new (o := .tup [.str "words", .int 3, .bl true]) hr6) _ _ k5
      refine ⟨_, _, dp_w3 ((Ex.new hr6) _ _ hr5), dp_w3 upd_same, by decide +kernel, by decide +kernel, _, rfl, ite2 (fun hb => absurd hb (by decide +kernel)) (fun _ => ?_)⟩
      refine ⟨S6.tabs, fun H7 eN7 T7 => ?_⟩
      have S7 := S6.exN eN7 T7
      have k7 := eN7 _ _ k6 (fun ps z => by cases z)
      refine ⟨_, rfl, _, rfl, a7, _, rfl, sq_of k7, fun a8 h8 => ?_⟩
      rw [show (1 : Int) = ((1 : Nat) : Int) from rfl, cutL_from, show (wv four).drop 1 = wv (four.drop 1) from rfl]
      refine ⟨_, a8, _, rfl, upd_same, .inl ⟨[98, 97], (four.drop 1).map some, congrArg V.str (by decide +kernel), lg_ba, els_wv (fun x hx => four_le x (List.mem_of_mem_drop hx)), by show 3 < 100; decide, met_chk (d := .none) fun v9 H9 e9 r9 => ?_⟩⟩
      rw [due_ba] at r9
      obtain rfl : v9 = .non := r9
      exact ⟨rfl, q _⟩
end
end Law


namespace Law
open PySem PySem.Spec PyProof.Rows L2 Evl EK
theorem kit_mk {K : PySem.W.Frag} {t : Value} {c : Addr} {b : Bool} (n : (t == .ref c) = false ∨ b = true) (h1 : PySem.W.isClsIn K c = true) (h2 : PySem.W.typeIn K (.ref c) = some (.type "type")) (h3 : PySem.W.subIn K t (.ref c) = some b) : PySem.W.kitOne K t (.ref c) = some b := by
  have e : PySem.W.kitCls K t (.ref c) = some b := by
    unfold PySem.W.kitCls
    show (if ((PySem.W.clsIn K c).isSome && PySem.W.typeIn K (.ref c) == some (.type "type")) = true then PySem.W.subIn K t (.ref c) else none) = some b
    rw [if_pos (by rw [Bool.and_eq_true]; exact ⟨h1, by rw [h2]; simp⟩)]
    exact h3
  unfold PySem.W.kitOne
  by_cases q : (t == .ref c) = true
  · rw [if_pos q]
    rcases n with n | n
    · rw [n] at q
      cases q
    · rw [n]
  · rw [if_neg q]
    exact e
theorem exm_mk {K : PySem.W.Frag} {t : Value} {c : Addr} {b : Bool} (h0 : PySem.W.subIn K (.ref c) (.type "BaseException") = some true) (h1 : PySem.W.isClsIn K c = true) (h2 : PySem.W.typeIn K (.ref c) = some (.type "type")) (h3 : PySem.W.subIn K t (.ref c) = some b) : PySem.W.exmOne K t (.ref c) = some b := by
  unfold PySem.W.exmOne
  rw [if_pos (by rw [h0]; simp)]
  unfold PySem.W.kitCls
  show (if ((PySem.W.clsIn K c).isSome && PySem.W.typeIn K (.ref c) == some (.type "type")) = true then PySem.W.subIn K t (.ref c) else none) = some b
  rw [if_pos (by rw [Bool.and_eq_true]; exact ⟨h1, by rw [h2]; simp⟩)]
  exact h3
theorem all_mk {l : PySem.W.OpenLaw} {w : World} {K : PySem.W.Frag} {h : Heap} {mg : Str → Option Value} {fa C0 caw taw f1 f2 f3 f4 f5 f6 f7 f8 f9 f10 f11 f12 f13 f14 f15 f16 f17 f18 f19 f20 f21 f22 f23 fL fW fB fX CL CW CB CX : Addr} (X : K.In h) (G : h.Ns mainGlobals mg) (hfa : mg "law" = some (.ref fa))
    {od1 an1 od2 an2 od3 an3 od4 an4 od5 an5 od6 an6 od7 an7 od8 an8 od9 an9 od10 an10 od11 an11 od12 an12 od13 an13 od14 an14 od15 an15 od16 an16 od17 an17 od18 an18 od19 an19 od20 an20 od21 an21 od22 an22 od23 an23 odL anL odW anW odB anB odX anX : Option Addr} {sl1 sl2 sl3 sl4 sl5 sl6 sl7 sl8 sl9 sl10 sl11 sl12 sl13 sl14 sl15 sl16 sl17 sl18 sl19 sl20 sl21 sl22 sl23 slL slW slB slX : Array (Option Value)} {oc2 kV2 dc2 pm2 cd2 ct2 oc3 kV3 dc3 pm3 cd3 ct3 oc4 kV4 dc4 pm4 cd4 ct4 oc5 kV5 dc5 pm5 cd5 ct5 oc6 kV6 dc6 pm6 cd6 ct6 oc7 kV7 dc7 pm7 cd7 ct7 oc8 kV8 dc8 pm8 cd8 ct8 oc9 kV9 dc9 pm9 cd9 ct9 oc10 kV10 dc10 pm10 cd10 ct10 oc11 kV11 dc11 pm11 cd11 ct11 oc12 kV12 dc12 pm12 cd12 ct12 oc13 kV13 dc13 pm13 cd13 ct13 oc14 kV14 dc14 pm14 cd14 ct14 oc15 kV15 dc15 pm15 cd15 ct15 oc16 kV16 dc16 pm16 cd16 ct16 oc17 kV17 dc17 pm17 cd17 ct17 oc18 kV18 dc18 pm18 cd18 ct18 oc19 kV19 dc19 pm19 cd19 ct19 oc20 kV20 dc20 pm20 cd20 ct20 oc21 kV21 dc21 pm21 cd21 ct21 oc22 kV22 dc22 pm22 cd22 ct22 oc23 kV23 dc23 pm23 cd23 ct23 ocL kVL dcL pmL cdL ctL ocW kVW dcW pmW cdW ctW ocB kVB dcB pmB cdB ctB ocX kVX dcX pmX cdX ctX oc1 kV1 dc1 pm1 ct1 occ : Value}
    {odc : Option Addr} {vsc : Array Value} {slc : Array (Option Value)}
    {nmL} {qL} {NL} {bsL} {bmL} {snL} {suL} {abL} {colL} {ddL} {k0L} {k1L} {k2L} {k3L} {k5L} {nmW} {qW} {NW} {bsW} {bmW} {snW} {suW} {abW} {colW} {ddW} {k0W} {k1W} {k2W} {k3W} {k5W} {nmB} {qB} {NB} {bsB} {bmB} {snB} {suB} {abB} {colB} {ddB} {k0B} {k1B} {k2B} {k3B} {k5B} {nmX} {qX} {NX} {bsX} {bmX} {snX} {suX} {abX} {colX} {ddX} {k0X} {k1X} {k2X} {k3X} {k5X}
    {dt19 : Addr} {dc019 : Value} {dd19 : Option Addr} {dn19 : Nat} {ds19 : Array (Option Value)} {tk19_0 : Tok}
    (a1 : PySem.W.nsIn K mainGlobals "law" = some (some (.ref f1)))
    (l1 : K.lookup f1 = some ⟨oc1, od1, .func (PySem.W.fnOf "law" "law" (defArgs s_law) (defBody s_law) (defScope s_law) .none kV1 dc1 pm1 an1 (.ref caw) ct1), sl1⟩)
    (c1 : PySem.W.codeIn K ((.ref caw)) "law" = true)
    (k1 : PySem.W.keepIn K (.ref f1) = true)
    (a2 : PySem.W.nsIn K mainGlobals "_law_pen" = some (some (.ref f2)))
    (l2 : K.lookup f2 = some ⟨oc2, od2, .func (PySem.W.fnOf "_law_pen" "_law_pen" (defArgs s_lpen) (defBody s_lpen) (defScope s_lpen) .none kV2 dc2 pm2 an2 cd2 ct2), sl2⟩)
    (c2 : PySem.W.codeIn K cd2 "_law_pen" = true)
    (k2 : PySem.W.keepIn K (.ref f2) = true)
    (a3 : PySem.W.nsIn K mainGlobals "_law_draw" = some (some (.ref f3)))
    (l3 : K.lookup f3 = some ⟨oc3, od3, .func (PySem.W.fnOf "_law_draw" "_law_draw" (defArgs s_ldraw) (defBody s_ldraw) (defScope s_ldraw) .none kV3 dc3 pm3 an3 cd3 ct3), sl3⟩)
    (c3 : PySem.W.codeIn K cd3 "_law_draw" = true)
    (k3 : PySem.W.keepIn K (.ref f3) = true)
    (a4 : PySem.W.nsIn K mainGlobals "_law_pick" = some (some (.ref f4)))
    (l4 : K.lookup f4 = some ⟨oc4, od4, .func (PySem.W.fnOf "_law_pick" "_law_pick" (defArgs s_lpick) (defBody s_lpick) (defScope s_lpick) .none kV4 dc4 pm4 an4 cd4 ct4), sl4⟩)
    (c4 : PySem.W.codeIn K cd4 "_law_pick" = true)
    (k4 : PySem.W.keepIn K (.ref f4) = true)
    (a5 : PySem.W.nsIn K mainGlobals "_law_letters" = some (some (.ref f5)))
    (l5 : K.lookup f5 = some ⟨oc5, od5, .func (PySem.W.fnOf "_law_letters" "_law_letters" (defArgs s_lletters) (defBody s_lletters) (defScope s_lletters) .none kV5 dc5 pm5 an5 cd5 ct5), sl5⟩)
    (c5 : PySem.W.codeIn K cd5 "_law_letters" = true)
    (k5 : PySem.W.keepIn K (.ref f5) = true)
    (a6 : PySem.W.nsIn K mainGlobals "_law_word" = some (some (.ref f6)))
    (l6 : K.lookup f6 = some ⟨oc6, od6, .func (PySem.W.fnOf "_law_word" "_law_word" (defArgs s_lword) (defBody s_lword) (defScope s_lword) .none kV6 dc6 pm6 an6 cd6 ct6), sl6⟩)
    (c6 : PySem.W.codeIn K cd6 "_law_word" = true)
    (k6 : PySem.W.keepIn K (.ref f6) = true)
    (a7 : PySem.W.nsIn K mainGlobals "_law_words" = some (some (.ref f7)))
    (l7 : K.lookup f7 = some ⟨oc7, od7, .func (PySem.W.fnOf "_law_words" "_law_words" (defArgs s_lwords) (defBody s_lwords) (defScope s_lwords) .none kV7 dc7 pm7 an7 cd7 ct7), sl7⟩)
    (c7 : PySem.W.codeIn K cd7 "_law_words" = true)
    (k7 : PySem.W.keepIn K (.ref f7) = true)
    (a8 : PySem.W.nsIn K mainGlobals "_law_text" = some (some (.ref f8)))
    (l8 : K.lookup f8 = some ⟨oc8, od8, .func (PySem.W.fnOf "_law_text" "_law_text" (defArgs s_ltext) (defBody s_ltext) (defScope s_ltext) .none kV8 dc8 pm8 an8 cd8 ct8), sl8⟩)
    (c8 : PySem.W.codeIn K cd8 "_law_text" = true)
    (k8 : PySem.W.keepIn K (.ref f8) = true)
    (a9 : PySem.W.nsIn K mainGlobals "is_list" = some (some (.ref f9)))
    (l9 : K.lookup f9 = some ⟨oc9, od9, .func (PySem.W.fnOf "is_list" "is_list" (defArgs s_is_list) (defBody s_is_list) (defScope s_is_list) .none kV9 dc9 pm9 an9 cd9 ct9), sl9⟩)
    (c9 : PySem.W.codeIn K cd9 "is_list" = true)
    (k9 : PySem.W.keepIn K (.ref f9) = true)
    (a10 : PySem.W.nsIn K mainGlobals "are_letters" = some (some (.ref f10)))
    (l10 : K.lookup f10 = some ⟨oc10, od10, .func (PySem.W.fnOf "are_letters" "are_letters" (defArgs s_are_letters) (defBody s_are_letters) (defScope s_are_letters) .none kV10 dc10 pm10 an10 cd10 ct10), sl10⟩)
    (c10 : PySem.W.codeIn K cd10 "are_letters" = true)
    (k10 : PySem.W.keepIn K (.ref f10) = true)
    (a11 : PySem.W.nsIn K mainGlobals "wrong_sign" = some (some (.ref f11)))
    (l11 : K.lookup f11 = some ⟨oc11, od11, .func (PySem.W.fnOf "wrong_sign" "wrong_sign" (defArgs s_wrong_sign) (defBody s_wrong_sign) (defScope s_wrong_sign) .none kV11 dc11 pm11 an11 cd11 ct11), sl11⟩)
    (c11 : PySem.W.codeIn K cd11 "wrong_sign" = true)
    (k11 : PySem.W.keepIn K (.ref f11) = true)
    (a12 : PySem.W.nsIn K mainGlobals "_is_word" = some (some (.ref f12)))
    (l12 : K.lookup f12 = some ⟨oc12, od12, .func (PySem.W.fnOf "_is_word" "_is_word" (defArgs s_is_word) (defBody s_is_word) (defScope s_is_word) .none kV12 dc12 pm12 an12 cd12 ct12), sl12⟩)
    (c12 : PySem.W.codeIn K cd12 "_is_word" = true)
    (k12 : PySem.W.keepIn K (.ref f12) = true)
    (a13 : PySem.W.nsIn K mainGlobals "is_wish" = some (some (.ref f13)))
    (l13 : K.lookup f13 = some ⟨oc13, od13, .func (PySem.W.fnOf "is_wish" "is_wish" (defArgs s_is_wish) (defBody s_is_wish) (defScope s_is_wish) .none kV13 dc13 pm13 an13 cd13 ct13), sl13⟩)
    (c13 : PySem.W.codeIn K cd13 "is_wish" = true)
    (k13 : PySem.W.keepIn K (.ref f13) = true)
    (a14 : PySem.W.nsIn K mainGlobals "wrong_word" = some (some (.ref f14)))
    (l14 : K.lookup f14 = some ⟨oc14, od14, .func (PySem.W.fnOf "wrong_word" "wrong_word" (defArgs s_wrong_word) (defBody s_wrong_word) (defScope s_wrong_word) .none kV14 dc14 pm14 an14 cd14 ct14), sl14⟩)
    (c14 : PySem.W.codeIn K cd14 "wrong_word" = true)
    (k14 : PySem.W.keepIn K (.ref f14) = true)
    (a15 : PySem.W.nsIn K mainGlobals "_kept" = some (some (.ref f15)))
    (l15 : K.lookup f15 = some ⟨oc15, od15, .func (PySem.W.fnOf "_kept" "_kept" (defArgs s_kept) (defBody s_kept) (defScope s_kept) .none kV15 dc15 pm15 an15 cd15 ct15), sl15⟩)
    (c15 : PySem.W.codeIn K cd15 "_kept" = true)
    (k15 : PySem.W.keepIn K (.ref f15) = true)
    (a16 : PySem.W.nsIn K mainGlobals "_standing" = some (some (.ref f16)))
    (l16 : K.lookup f16 = some ⟨oc16, od16, .func (PySem.W.fnOf "_standing" "_standing" (defArgs s_standing) (defBody s_standing) (defScope s_standing) .none kV16 dc16 pm16 an16 cd16 ct16), sl16⟩)
    (c16 : PySem.W.codeIn K cd16 "_standing" = true)
    (k16 : PySem.W.keepIn K (.ref f16) = true)
    (a17 : PySem.W.nsIn K mainGlobals "_apart" = some (some (.ref f17)))
    (l17 : K.lookup f17 = some ⟨oc17, od17, .func (PySem.W.fnOf "_apart" "_apart" (defArgs s_apart) (defBody s_apart) (defScope s_apart) .none kV17 dc17 pm17 an17 cd17 ct17), sl17⟩)
    (c17 : PySem.W.codeIn K cd17 "_apart" = true)
    (k17 : PySem.W.keepIn K (.ref f17) = true)
    (a18 : PySem.W.nsIn K mainGlobals "check_words" = some (some (.ref f18)))
    (l18 : K.lookup f18 = some ⟨oc18, od18, .func (PySem.W.fnOf "check_words" "check_words" (defArgs s_check_words) (defBody s_check_words) (defScope s_check_words) .none kV18 dc18 pm18 an18 cd18 ct18), sl18⟩)
    (c18 : PySem.W.codeIn K cd18 "check_words" = true)
    (k18 : PySem.W.keepIn K (.ref f18) = true)
    (a19 : PySem.W.nsIn K mainGlobals "wanted" = some (some (.ref f19)))
    (l19 : K.lookup f19 = some ⟨oc19, od19, .func (PySem.W.fnOf "wanted" "wanted" (defArgs s_wanted) (defBody s_wanted) (defScope s_wanted) (.ref dt19) kV19 dc19 pm19 an19 cd19 ct19), sl19⟩)
    (c19 : PySem.W.codeIn K cd19 "wanted" = true)
    (k19 : PySem.W.keepIn K (.ref f19) = true)
    (d19 : K.lookup dt19 = some ⟨dc019, dd19, .seq ([.str "all" tk19_0] : List Value).toArray dn19, ds19⟩)
    (a20 : PySem.W.nsIn K mainGlobals "_law_is_word" = some (some (.ref f20)))
    (l20 : K.lookup f20 = some ⟨oc20, od20, .func (PySem.W.fnOf "_law_is_word" "_law_is_word" (defArgs s_lis_word) (defBody s_lis_word) (defScope s_lis_word) .none kV20 dc20 pm20 an20 cd20 ct20), sl20⟩)
    (c20 : PySem.W.codeIn K cd20 "_law_is_word" = true)
    (k20 : PySem.W.keepIn K (.ref f20) = true)
    (a21 : PySem.W.nsIn K mainGlobals "_law_due" = some (some (.ref f21)))
    (l21 : K.lookup f21 = some ⟨oc21, od21, .func (PySem.W.fnOf "_law_due" "_law_due" (defArgs s_ldue) (defBody s_ldue) (defScope s_ldue) .none kV21 dc21 pm21 an21 cd21 ct21), sl21⟩)
    (c21 : PySem.W.codeIn K cd21 "_law_due" = true)
    (k21 : PySem.W.keepIn K (.ref f21) = true)
    (a22 : PySem.W.nsIn K mainGlobals "_law_odd_words" = some (some (.ref f22)))
    (l22 : K.lookup f22 = some ⟨oc22, od22, .func (PySem.W.fnOf "_law_odd_words" "_law_odd_words" (defArgs s_lodd_words) (defBody s_lodd_words) (defScope s_lodd_words) .none kV22 dc22 pm22 an22 cd22 ct22), sl22⟩)
    (c22 : PySem.W.codeIn K cd22 "_law_odd_words" = true)
    (k22 : PySem.W.keepIn K (.ref f22) = true)
    (a23 : PySem.W.nsIn K mainGlobals "_law_met" = some (some (.ref f23)))
    (l23 : K.lookup f23 = some ⟨oc23, od23, .func (PySem.W.fnOf "_law_met" "_law_met" (defArgs s_lmet) (defBody s_lmet) (defScope s_lmet) .none kV23 dc23 pm23 an23 cd23 ct23), sl23⟩)
    (c23 : PySem.W.codeIn K cd23 "_law_met" = true)
    (k23 : PySem.W.keepIn K (.ref f23) = true)
    (tb : K.lookup caw = some ⟨occ, odc, .fields vsc, slc⟩)
    (tb2 : vsc[11]? = some (.ref taw))
    (hcd : PySem.W.codeHdIn K caw taw = true)
    (tk : K.lookup taw = none)
    (ht : h.get? taw = some { cls := .none, data := .fields #[] })
    (aCL : PySem.W.nsIn K mainGlobals "BadLetters" = some (some (.ref CL)))
    (aL : PySem.W.findIn K (.ref CL) "__init__" = some (some (.ref fL)))
    (lL : K.lookup fL = some ⟨ocL, odL, .func (PySem.W.fnOf "__init__" "BadLetters.__init__" (defArgs s_BadLetters_init) (defBody s_BadLetters_init) (defScope s_BadLetters_init) .none kVL dcL pmL anL cdL ctL), slL⟩)
    (cL : PySem.W.codeIn K cdL "BadLetters.__init__" = true)
    (kL : PySem.W.keepIn K (.ref fL) = true)
    (nL1 : PySem.W.findIn K (.ref CL) "letters" = some none)
    (g4L : PySem.W.findIn K (.ref CL) "__setattr__" = some (some (.builtin "object.__setattr__")))
    (m2L : PySem.W.keepIn K (.ref CL) = true)
    (aCW : PySem.W.nsIn K mainGlobals "BadWords" = some (some (.ref CW)))
    (aW : PySem.W.findIn K (.ref CW) "__init__" = some (some (.ref fW)))
    (lW : K.lookup fW = some ⟨ocW, odW, .func (PySem.W.fnOf "__init__" "BadWords.__init__" (defArgs s_BadWords_init) (defBody s_BadWords_init) (defScope s_BadWords_init) .none kVW dcW pmW anW cdW ctW), slW⟩)
    (cW : PySem.W.codeIn K cdW "BadWords.__init__" = true)
    (kW : PySem.W.keepIn K (.ref fW) = true)
    (nW1 : PySem.W.findIn K (.ref CW) "place" = some none)
    (g4W : PySem.W.findIn K (.ref CW) "__setattr__" = some (some (.builtin "object.__setattr__")))
    (m2W : PySem.W.keepIn K (.ref CW) = true)
    (aCB : PySem.W.nsIn K mainGlobals "BadText" = some (some (.ref CB)))
    (aB : PySem.W.findIn K (.ref CB) "__init__" = some (some (.ref fB)))
    (lB : K.lookup fB = some ⟨ocB, odB, .func (PySem.W.fnOf "__init__" "BadText.__init__" (defArgs s_BadText_init) (defBody s_BadText_init) (defScope s_BadText_init) .none kVB dcB pmB anB cdB ctB), slB⟩)
    (cB : PySem.W.codeIn K cdB "BadText.__init__" = true)
    (kB : PySem.W.keepIn K (.ref fB) = true)
    (nB1 : PySem.W.findIn K (.ref CB) "place" = some none)
    (g4B : PySem.W.findIn K (.ref CB) "__setattr__" = some (some (.builtin "object.__setattr__")))
    (m2B : PySem.W.keepIn K (.ref CB) = true)
    (aCX : PySem.W.nsIn K mainGlobals "BadWish" = some (some (.ref CX)))
    (aX : PySem.W.findIn K (.ref CX) "__init__" = some (some (.ref fX)))
    (lX : K.lookup fX = some ⟨ocX, odX, .func (PySem.W.fnOf "__init__" "BadWish.__init__" (defArgs s_BadWish_init) (defBody s_BadWish_init) (defScope s_BadWish_init) .none kVX dcX pmX anX cdX ctX), slX⟩)
    (cX : PySem.W.codeIn K cdX "BadWish.__init__" = true)
    (kX : PySem.W.keepIn K (.ref fX) = true)
    (nX1 : PySem.W.findIn K (.ref CX) "wish" = some none)
    (g4X : PySem.W.findIn K (.ref CX) "__setattr__" = some (some (.builtin "object.__setattr__")))
    (m2X : PySem.W.keepIn K (.ref CX) = true)
    (aC0 : PySem.W.nsIn K mainGlobals "SkipsError" = some (some (.ref C0)))
    (r1 : PySem.W.readsIn K C0 (.type "type") = true)
    (r2 : PySem.W.specialIn K (.ref C0) "__getattribute__" = some (some (.builtin "type.__getattribute__")))
    (r3 : PySem.W.findCls K (.ref C0) (.type "type") "__init__" = some (.val (.builtin "ValueError.__init__")))
    (s1 : PySem.W.isClsIn K C0 = true)
    (s2 : PySem.W.typeIn K (.ref C0) = some (.type "type"))
    (s3 : PySem.W.specialIn K (.builtin "object.__class__") "__get__" = some (some (.builtin "getset_descriptor.__get__")))
    (s4 : PySem.W.takesIn K (.builtin "object.__class__") = some true)
    (o1L : K.lookup CL = some (excClassObj nmL qL CL NL bsL bmL true snL suL abL colL ddL k0L k1L k2L k3L k5L "ValueError.__new__"))
    (o2L : PySem.HandSPX.refsVE bmL = true)
    (o3L : PySem.W.subIn K (.ref CL) (.type "BaseException") = some true)
    (o4L : PySem.W.typeIn K (.ref CL) = some (.type "type"))
    (tL : PySem.W.typeIn K (.ref fL) = some (.type "function"))
    (x1L : PySem.W.findIn K (.ref CL) "__getattribute__" = some (some (.builtin "BaseException.__getattribute__")))
    (x2L : PySem.W.findIn K (.ref CL) "__getattr__" = some none)
    (x3L : PySem.W.hasDictIn K CL = true)
    (e1L : PySem.W.findIn K (.ref CL) "__class__" = some (some (.builtin "object.__class__")))
    (e2L : PySem.W.mroIn K CL (.type "object") = some true)
    (p1L : PySem.W.subIn K (.ref CL) (.ref C0) = some true)
    (p2L : PySem.W.isClsIn K CL = true)
    (o1W : K.lookup CW = some (excClassObj nmW qW CW NW bsW bmW true snW suW abW colW ddW k0W k1W k2W k3W k5W "ValueError.__new__"))
    (o2W : PySem.HandSPX.refsVE bmW = true)
    (o3W : PySem.W.subIn K (.ref CW) (.type "BaseException") = some true)
    (o4W : PySem.W.typeIn K (.ref CW) = some (.type "type"))
    (tW : PySem.W.typeIn K (.ref fW) = some (.type "function"))
    (x1W : PySem.W.findIn K (.ref CW) "__getattribute__" = some (some (.builtin "BaseException.__getattribute__")))
    (x2W : PySem.W.findIn K (.ref CW) "__getattr__" = some none)
    (x3W : PySem.W.hasDictIn K CW = true)
    (e1W : PySem.W.findIn K (.ref CW) "__class__" = some (some (.builtin "object.__class__")))
    (e2W : PySem.W.mroIn K CW (.type "object") = some true)
    (p1W : PySem.W.subIn K (.ref CW) (.ref C0) = some true)
    (p2W : PySem.W.isClsIn K CW = true)
    (o1B : K.lookup CB = some (excClassObj nmB qB CB NB bsB bmB true snB suB abB colB ddB k0B k1B k2B k3B k5B "ValueError.__new__"))
    (o2B : PySem.HandSPX.refsVE bmB = true)
    (o3B : PySem.W.subIn K (.ref CB) (.type "BaseException") = some true)
    (o4B : PySem.W.typeIn K (.ref CB) = some (.type "type"))
    (tB : PySem.W.typeIn K (.ref fB) = some (.type "function"))
    (x1B : PySem.W.findIn K (.ref CB) "__getattribute__" = some (some (.builtin "BaseException.__getattribute__")))
    (x2B : PySem.W.findIn K (.ref CB) "__getattr__" = some none)
    (x3B : PySem.W.hasDictIn K CB = true)
    (e1B : PySem.W.findIn K (.ref CB) "__class__" = some (some (.builtin "object.__class__")))
    (e2B : PySem.W.mroIn K CB (.type "object") = some true)
    (p1B : PySem.W.subIn K (.ref CB) (.ref C0) = some true)
    (p2B : PySem.W.isClsIn K CB = true)
    (o1X : K.lookup CX = some (excClassObj nmX qX CX NX bsX bmX true snX suX abX colX ddX k0X k1X k2X k3X k5X "ValueError.__new__"))
    (o2X : PySem.HandSPX.refsVE bmX = true)
    (o3X : PySem.W.subIn K (.ref CX) (.type "BaseException") = some true)
    (o4X : PySem.W.typeIn K (.ref CX) = some (.type "type"))
    (tX : PySem.W.typeIn K (.ref fX) = some (.type "function"))
    (x1X : PySem.W.findIn K (.ref CX) "__getattribute__" = some (some (.builtin "BaseException.__getattribute__")))
    (x2X : PySem.W.findIn K (.ref CX) "__getattr__" = some none)
    (x3X : PySem.W.hasDictIn K CX = true)
    (e1X : PySem.W.findIn K (.ref CX) "__class__" = some (some (.builtin "object.__class__")))
    (e2X : PySem.W.mroIn K CX (.type "object") = some true)
    (p1X : PySem.W.subIn K (.ref CX) (.ref C0) = some true)
    (p2X : PySem.W.isClsIn K CX = true)
    (yLL : PySem.W.subIn K (.ref CL) (.ref CL) = some true)
    (yWL : PySem.W.subIn K (.ref CW) (.ref CL) = some false)
    (yWW : PySem.W.subIn K (.ref CW) (.ref CW) = some true)
    (yBL : PySem.W.subIn K (.ref CB) (.ref CL) = some false)
    (yBW : PySem.W.subIn K (.ref CB) (.ref CW) = some false)
    (yBB : PySem.W.subIn K (.ref CB) (.ref CB) = some true)
    (yXL : PySem.W.subIn K (.ref CX) (.ref CL) = some false)
    (yXW : PySem.W.subIn K (.ref CX) (.ref CW) = some false)
    (yXB : PySem.W.subIn K (.ref CX) (.ref CB) = some false)
    (yXX : PySem.W.subIn K (.ref CX) (.ref CX) = some true)
    (z0 : PySem.W.nsIn K mainGlobals "len" = some none)
    (z1 : PySem.W.nsIn K mainGlobals "int" = some none)
    (z2 : PySem.W.nsIn K mainGlobals "abs" = some none)
    (z3 : PySem.W.nsIn K mainGlobals "min" = some none)
    (z4 : PySem.W.nsIn K mainGlobals "list" = some none)
    (z5 : PySem.W.nsIn K mainGlobals "all" = some none)
    (z6 : PySem.W.nsIn K mainGlobals "range" = some none)
    (z7 : PySem.W.nsIn K mainGlobals "isinstance" = some none)
    (z8 : PySem.W.nsIn K mainGlobals "str" = some none)
    (z9 : PySem.W.nsIn K mainGlobals "set" = some none)
    (z10 : PySem.W.nsIn K mainGlobals "tuple" = some none)
    (z11 : PySem.W.nsIn K mainGlobals "dict" = some none)
    (z12 : PySem.W.nsIn K mainGlobals "enumerate" = some none)
    (z13 : PySem.W.nsIn K mainGlobals "repr" = some none) :
    ∃ (fd : FuncData) (c t : Addr) (sp : Sp), h.get? t = some { cls := .none, data := .fields #[] } ∧ K.lookup t = none ∧ PySem.W.CodeHd h c t ∧ (∀ (s : Shared) (v : Value), BindsTo s fd ⟨[v], []⟩ [("_law_script", v)]) ∧
      (∀ (H : Hp) (a : Addr) (ns : List Int), ns.length ≤ 63 → H t = some (.tbl #[]) → SqL K H a (ns.map V.int) → sp [.ref a] H (fun v _ => v = .bl true) E0) ∧
      ∀ base : Heap, K.In base → base.Ns mainGlobals mg → LamX.TabB base mg c t → GD.Gd l.prog w K mg base 15 fa fd ["_law_script"] sp := by
  have e := hfa.symm.trans (PySem.W.mg_of X G a1)
  cases e
  have F1 : GT.FunC K "law" "law" s_law fa _ caw := ⟨_, _, _, _, _, _, _, _, rfl, l1, c1⟩
  have F2 := fun_mk (st := s_lpen) l2 c2 k2
  have b2 := F2.binds (ps := ["_law_script"]) fun _ _ _ _ _ _ us hl => match us, hl with | [_], _ => rfl
  have F3 := fun_mk (st := s_ldraw) l3 c3 k3
  have b3 := F3.binds (ps := ["_law_pen_here", "_law_many"]) fun _ _ _ _ _ _ us hl => match us, hl with | [_, _], _ => rfl
  have F4 := fun_mk (st := s_lpick) l4 c4 k4
  have b4 := F4.binds (ps := ["_law_pen_here", "_law_some"]) fun _ _ _ _ _ _ us hl => match us, hl with | [_, _], _ => rfl
  have F5 := fun_mk (st := s_lletters) l5 c5 k5
  have b5 := F5.binds (ps := ["_law_pen_here"]) fun _ _ _ _ _ _ us hl => match us, hl with | [_], _ => rfl
  have F6 := fun_mk (st := s_lword) l6 c6 k6
  have b6 := F6.binds (ps := ["_law_pen_here", "_law_letters_here", "_law_width"]) fun _ _ _ _ _ _ us hl => match us, hl with | [_, _, _], _ => rfl
  have F7 := fun_mk (st := s_lwords) l7 c7 k7
  have b7 := F7.binds (ps := ["_law_pen_here", "_law_letters_here", "_law_width", "_law_many"]) fun _ _ _ _ _ _ us hl => match us, hl with | [_, _, _, _], _ => rfl
  have F8 := fun_mk (st := s_ltext) l8 c8 k8
  have b8 := F8.binds (ps := ["_law_pen_here", "_law_letters_here", "_law_words_here", "_law_most"]) fun _ _ _ _ _ _ us hl => match us, hl with | [_, _, _, _], _ => rfl
  have F9 := fun_mk (st := s_is_list) l9 c9 k9
  have b9 := F9.binds (ps := ["value"]) fun _ _ _ _ _ _ us hl => match us, hl with | [_], _ => rfl
  have F10 := fun_mk (st := s_are_letters) l10 c10 k10
  have b10 := F10.binds (ps := ["value"]) fun _ _ _ _ _ _ us hl => match us, hl with | [_], _ => rfl
  have F11 := fun_mk (st := s_wrong_sign) l11 c11 k11
  have b11 := F11.binds (ps := ["letters", "text"]) fun _ _ _ _ _ _ us hl => match us, hl with | [_, _], _ => rfl
  have F12 := fun_mk (st := s_is_word) l12 c12 k12
  have b12 := F12.binds (ps := ["letters", "value"]) fun _ _ _ _ _ _ us hl => match us, hl with | [_, _], _ => rfl
  have F13 := fun_mk (st := s_is_wish) l13 c13 k13
  have b13 := F13.binds (ps := ["value"]) fun _ _ _ _ _ _ us hl => match us, hl with | [_], _ => rfl
  have F14 := fun_mk (st := s_wrong_word) l14 c14 k14
  have b14 := F14.binds (ps := ["letters", "words"]) fun _ _ _ _ _ _ us hl => match us, hl with | [_, _], _ => rfl
  have F15 := fun_mk (st := s_kept) l15 c15 k15
  have b15 := F15.binds (ps := ["value"]) fun _ _ _ _ _ _ us hl => match us, hl with | [_], _ => rfl
  have F16 := fun_mk (st := s_standing) l16 c16 k16
  have b16 := F16.binds (ps := ["words", "text"]) fun _ _ _ _ _ _ us hl => match us, hl with | [_, _], _ => rfl
  have F17 := fun_mk (st := s_apart) l17 c17 k17
  have b17 := F17.binds (ps := ["found", "size"]) fun _ _ _ _ _ _ us hl => match us, hl with | [_, _], _ => rfl
  have F18 := fun_mk (st := s_check_words) l18 c18 k18
  have b18 := F18.binds (ps := ["letters", "words"]) fun _ _ _ _ _ _ us hl => match us, hl with | [_, _], _ => rfl
  have F19 : FunD K "wanted" "wanted" (defArgs s_wanted) (defBody s_wanted) (defScope s_wanted) [.str "all"] [] f19 (PySem.W.fnOf "wanted" "wanted" (defArgs s_wanted) (defBody s_wanted) (defScope s_wanted) (.ref dt19) kV19 dc19 pm19 an19 cd19 ct19) :=
    ⟨⟨_, _, _, _, _, _, _, _, _, _, rfl, l19, c19, .inr ⟨by simp, dt19, _, _, _, rfl, d19, rfl, .cons ⟨_, rfl⟩ (.nil)⟩, .inl rfl⟩, k19⟩
  obtain ⟨e19_1, v19_1, b19_1⟩ := F19.binds1 (ps := ["letters", "words", "text", "wish"]) 4 1 (by simp) rfl fun _ _ _ _ _ _ _ us its hu hi => match us, its, hu, hi with | [_, _, _, _], [_], _, _ => ⟨_, rfl, rfl⟩
  cases v19_1
  have b19 := b19_1
  have F20 := fun_mk (st := s_lis_word) l20 c20 k20
  have b20 := F20.binds (ps := ["_law_letters_here", "_law_value"]) fun _ _ _ _ _ _ us hl => match us, hl with | [_, _], _ => rfl
  have F21 := fun_mk (st := s_ldue) l21 c21 k21
  have b21 := F21.binds (ps := ["_law_letters_here", "_law_words_here", "_law_text_here", "_law_wish"]) fun _ _ _ _ _ _ us hl => match us, hl with | [_, _, _, _], _ => rfl
  have F22 := fun_mk (st := s_lodd_words) l22 c22 k22
  have b22 := F22.binds (ps := ["_law_pen_here", "_law_letters_here", "_law_words_here"]) fun _ _ _ _ _ _ us hl => match us, hl with | [_, _, _], _ => rfl
  have F23 := fun_mk (st := s_lmet) l23 c23 k23
  have b23 := F23.binds (ps := ["_law_call"]) fun _ _ _ _ _ _ us hl => match us, hl with | [_], _ => rfl
  have FL := fun_mk (x := "__init__") (qual := "BadLetters.__init__") (st := s_BadLetters_init) lL cL kL
  have bL := FL.binds (ps := ["self", "letters"]) fun _ _ _ _ _ _ us hl => match us, hl with | [_, _], _ => rfl
  have mL := PySem.W.mg_of X G aCL
  have FW := fun_mk (x := "__init__") (qual := "BadWords.__init__") (st := s_BadWords_init) lW cW kW
  have bW := FW.binds (ps := ["self", "place"]) fun _ _ _ _ _ _ us hl => match us, hl with | [_, _], _ => rfl
  have mW := PySem.W.mg_of X G aCW
  have FB := fun_mk (x := "__init__") (qual := "BadText.__init__") (st := s_BadText_init) lB cB kB
  have bB := FB.binds (ps := ["self", "place"]) fun _ _ _ _ _ _ us hl => match us, hl with | [_, _], _ => rfl
  have mB := PySem.W.mg_of X G aCB
  have FX := fun_mk (x := "__init__") (qual := "BadWish.__init__") (st := s_BadWish_init) lX cX kX
  have bX := FX.binds (ps := ["self", "wish"]) fun _ _ _ _ _ _ us hl => match us, hl with | [_, _], _ => rfl
  have mX := PySem.W.mg_of X G aCX
  have T : Tx mg := { len := PySem.W.mg_none_of X G z0, int := PySem.W.mg_none_of X G z1, abs := PySem.W.mg_none_of X G z2, min := PySem.W.mg_none_of X G z3, list := PySem.W.mg_none_of X G z4, all := PySem.W.mg_none_of X G z5, range := PySem.W.mg_none_of X G z6, isinstance := PySem.W.mg_none_of X G z7, str := PySem.W.mg_none_of X G z8, set := PySem.W.mg_none_of X G z9, tuple := PySem.W.mg_none_of X G z10, dict := PySem.W.mg_none_of X G z11, enumerate := PySem.W.mg_none_of X G z12 }
  have B0 : BaseC K mg C0 := ⟨PySem.W.mg_of X G aC0, ⟨r1, r2⟩, r3⟩
  have EL : ErrC K CL fL C0 := ⟨⟨⟨_, _, _, _, _, _, _, _, _, _, _, _, _, _, _, o1L, o2L⟩, g4L, o3L, o4L, m2L⟩, aL, tL, ⟨x1L, x2L, o3L, x3L⟩, ⟨x1L, x2L, o3L, x3L, e1L, s3, s4, e2L⟩, kit_mk (.inr rfl) s1 s2 p1L⟩
  have EW : ErrC K CW fW C0 := ⟨⟨⟨_, _, _, _, _, _, _, _, _, _, _, _, _, _, _, o1W, o2W⟩, g4W, o3W, o4W, m2W⟩, aW, tW, ⟨x1W, x2W, o3W, x3W⟩, ⟨x1W, x2W, o3W, x3W, e1W, s3, s4, e2W⟩, kit_mk (.inr rfl) s1 s2 p1W⟩
  have EB : ErrC K CB fB C0 := ⟨⟨⟨_, _, _, _, _, _, _, _, _, _, _, _, _, _, _, o1B, o2B⟩, g4B, o3B, o4B, m2B⟩, aB, tB, ⟨x1B, x2B, o3B, x3B⟩, ⟨x1B, x2B, o3B, x3B, e1B, s3, s4, e2B⟩, kit_mk (.inr rfl) s1 s2 p1B⟩
  have EX : ErrC K CX fX C0 := ⟨⟨⟨_, _, _, _, _, _, _, _, _, _, _, _, _, _, _, o1X, o2X⟩, g4X, o3X, o4X, m2X⟩, aX, tX, ⟨x1X, x2X, o3X, x3X⟩, ⟨x1X, x2X, o3X, x3X, e1X, s3, s4, e2X⟩, kit_mk (.inr rfl) s1 s2 p1X⟩
  have GS : Gs mg CL CW CB CX C0 := ⟨mL, mW, mB, mX, PySem.W.mg_of X G aC0⟩
  have NF : NoF K CL CW CB CX := ⟨nL1, nW1, nB1, nX1⟩
  have EXM : Exm K CL CW CB CX := ⟨exm_mk o3L p2L o4L yLL, exm_mk o3L p2L o4L yWL, exm_mk o3W p2W o4W yWW, exm_mk o3L p2L o4L yBL, exm_mk o3W p2W o4W yBW, exm_mk o3B p2B o4B yBB, exm_mk o3L p2L o4L yXL, exm_mk o3W p2W o4W yXW, exm_mk o3B p2B o4B yXB, exm_mk o3X p2X o4X yXX⟩
  refine ⟨PySem.W.fnOf "law" "law" (defArgs s_law) (defBody s_law) (defScope s_law) .none kV1 dc1 pm1 an1 (.ref caw) ct1, caw, taw, spLaw K taw, ht, tk, PySem.W.codeHd_of_K X hcd, fun s v => .of_eq rfl, fun H a ns hn hT hS => ⟨a, ns, rfl, hT, hS, hn, fun _ => rfl⟩, fun base _ _ TB => ?_⟩
  have c_lpen : Kn l.prog w K mg base "_law_pen" ["_law_script"] 1 (spPen K) := ⟨f2, _, ok_pen F2 T , PySem.W.mg_of X G a2, F2.kp, b2⟩
  have c_ldraw : Kn l.prog w K mg base "_law_draw" ["_law_pen_here", "_law_many"] 1 spDraw := ⟨f3, _, ok_draw F3 T , PySem.W.mg_of X G a3, F3.kp, b3⟩
  have c_pickS : Kn l.prog w K mg base "_law_pick" ["_law_pen_here", "_law_some"] 2 spPickS := ⟨f4, _, ok_pickS F4 T c_ldraw, PySem.W.mg_of X G a4, F4.kp, b4⟩
  have c_pickL : Kn l.prog w K mg base "_law_pick" ["_law_pen_here", "_law_some"] 2 spPickL := ⟨f4, _, ok_pickL F4 T c_ldraw, PySem.W.mg_of X G a4, F4.kp, b4⟩
  have c_lletters : Kn l.prog w K mg base "_law_letters" ["_law_pen_here"] 3 spLetters := ⟨f5, _, ok_letters F5 T c_ldraw c_pickL, PySem.W.mg_of X G a5, F5.kp, b5⟩
  have c_lword : Kn l.prog w K mg base "_law_word" ["_law_pen_here", "_law_letters_here", "_law_width"] 3 spWord := ⟨f6, _, ok_word F6 T c_ldraw c_pickS, PySem.W.mg_of X G a6, F6.kp, b6⟩
  have c_lwords : Kn l.prog w K mg base "_law_words" ["_law_pen_here", "_law_letters_here", "_law_width", "_law_many"] 4 spWords := ⟨f7, _, ok_words F7 T c_lword, PySem.W.mg_of X G a7, F7.kp, b7⟩
  have c_ltext : Kn l.prog w K mg base "_law_text" ["_law_pen_here", "_law_letters_here", "_law_words_here", "_law_most"] 3 spText := ⟨f8, _, ok_text F8 T c_ldraw c_pickS c_pickL, PySem.W.mg_of X G a8, F8.kp, b8⟩
  have c_islistL : Kn l.prog w K mg base "is_list" ["value"] 1 spIsL := ⟨f9, _, ok_isL F9 T , PySem.W.mg_of X G a9, F9.kp, b9⟩
  have c_are_letters : Kn l.prog w K mg base "are_letters" ["value"] 1 (spAreG K) := ⟨f10, _, ok_areG F10 T , PySem.W.mg_of X G a10, F10.kp, b10⟩
  have c_wrong_sign : Kn l.prog w K mg base "wrong_sign" ["letters", "text"] 1 (spWS K) := ⟨f11, _, ok_ws F11 T , PySem.W.mg_of X G a11, F11.kp, b11⟩
  have c_is_word : Kn l.prog w K mg base "_is_word" ["letters", "value"] 2 (spWdG K) := ⟨f12, _, ok_wdG F12 T c_wrong_sign, PySem.W.mg_of X G a12, F12.kp, b12⟩
  have c_is_wish : Kn l.prog w K mg base "is_wish" ["value"] 1 (spWishG K) := ⟨f13, _, ok_wishG F13 T , PySem.W.mg_of X G a13, F13.kp, b13⟩
  have c_wwordL : Kn l.prog w K mg base "wrong_word" ["letters", "words"] 3 (spWWG K) := ⟨f14, _, ok_wwG F14 T c_islistL c_is_word, PySem.W.mg_of X G a14, F14.kp, b14⟩
  have c_kept0 : Kn l.prog w K mg base "_kept" ["value"] 1 spKf := ⟨f15, _, ok_kf F15 T , PySem.W.mg_of X G a15, F15.kp, b15⟩
  have c_kept : Kn l.prog w K mg base "_kept" ["value"] 2 spKept := ⟨f15, _, ok_kept F15 T c_kept0, PySem.W.mg_of X G a15, F15.kp, b15⟩
  have c_standL : Kn l.prog w K mg base "_standing" ["words", "text"] 1 spStandL := ⟨f16, _, ok_standL F16 T , PySem.W.mg_of X G a16, F16.kp, b16⟩
  have c_apart : Kn l.prog w K mg base "_apart" ["found", "size"] 1 spApart := ⟨f17, _, ok_apart F17 T , PySem.W.mg_of X G a17, F17.kp, b17⟩
  have IL := ok_BadLetters (P := l.prog) (w := w) (base := base) FL T B0 EL.o nL1 c_kept
  have IW := ok_BadWords (P := l.prog) (w := w) (base := base) FW T B0 EW.o nW1 c_kept
  have IB := ok_BadText (P := l.prog) (w := w) (base := base) FB T B0 EB.o nB1 c_kept
  have IX := ok_BadWish (P := l.prog) (w := w) (base := base) FX T B0 EX.o nX1 c_kept
  have c_checkL : Kn' l.prog w K mg base (L2.CX l.prog w) "check_words" ["letters", "words"] 5 (spCheckG K CL CW) := ⟨f18, _, ok_checkG F18 T EL EW mL mW IL bL IW bW c_are_letters c_wwordL, PySem.W.mg_of X G a18, F18.kp, b18⟩
  have c_wantL : Kn' l.prog w K mg base (L2.CX l.prog w) "wanted" ["letters", "words", "text", "wish"] 6 (spWantG K CL CW CB CX) := ⟨f19, _, ok_wantG F19 T EB EX mB mX IB bB IX bX c_checkL c_wrong_sign c_is_wish c_standL c_apart, PySem.W.mg_of X G a19, F19.kp, b19⟩
  have c_lis_word : Kn l.prog w K mg base "_law_is_word" ["_law_letters_here", "_law_value"] 1 (spWdG K) := ⟨f20, _, ok_lisword F20 T , PySem.W.mg_of X G a20, F20.kp, b20⟩
  have c_ldue : Kn l.prog w K mg base "_law_due" ["_law_letters_here", "_law_words_here", "_law_text_here", "_law_wish"] 2 (spDue K) := ⟨f21, _, ok_ldue F21 T c_lis_word, PySem.W.mg_of X G a21, F21.kp, b21⟩
  have c_lodd_words : Kn l.prog w K mg base "_law_odd_words" ["_law_pen_here", "_law_letters_here", "_law_words_here"] 3 (spOdd K) := ⟨f22, _, ok_lodd F22 T c_ldraw c_pickL, PySem.W.mg_of X G a22, F22.kp, b22⟩
  exact ok_law F1 T (PySem.W.mg_none_of X G z13) F23 (PySem.W.mg_of X G a23) b23 EL EW EB EX GS NF EXM TB c_lpen c_ldraw c_pickL c_lletters c_lwords c_ltext c_ldue c_lodd_words c_checkL c_wantL
end Law
open PySem PySem.W PyProof.Rows
set_option maxHeartbeats 0 in
theorem PySem.Challenge.cw_wordskips_k02_words_refused_holds : PySem.Challenge.rw_wordskips_k02_words_refused.Holds := by
  w_on; o_law; k_head; (case hw => w_witness2)
  k_fill
  refine GT.walkGT (l := PySem.Challenge.rw_wordskips_k02_words_refused) (n := 63) (k := 15) (x := "_law_script") rfl (by decide) rfl ⟨rfl, by decide, by decide⟩ (fun w h Y => PySem.W.km_in_of Y) ?F
  case F =>
    intro w mg fa h Y KX G hmg
    have tabs := PySem.W.km_tabs_of Y
    refine' Law.all_mk KX G hmg (a1 := ?a1) (l1 := ?l1) (c1 := ?c1) (k1 := ?k1) (a2 := ?a2) (l2 := ?l2) (c2 := ?c2) (k2 := ?k2) (a3 := ?a3) (l3 := ?l3) (c3 := ?c3) (k3 := ?k3) (a4 := ?a4) (l4 := ?l4) (c4 := ?c4) (k4 := ?k4) (a5 := ?a5) (l5 := ?l5) (c5 := ?c5) (k5 := ?k5) (a6 := ?a6) (l6 := ?l6) (c6 := ?c6) (k6 := ?k6) (a7 := ?a7) (l7 := ?l7) (c7 := ?c7) (k7 := ?k7) (a8 := ?a8) (l8 := ?l8) (c8 := ?c8) (k8 := ?k8) (a9 := ?a9) (l9 := ?l9) (c9 := ?c9) (k9 := ?k9) (a10 := ?a10) (l10 := ?l10) (c10 := ?c10) (k10 := ?k10) (a11 := ?a11) (l11 := ?l11) (c11 := ?c11) (k11 := ?k11) (a12 := ?a12) (l12 := ?l12) (c12 := ?c12) (k12 := ?k12) (a13 := ?a13) (l13 := ?l13) (c13 := ?c13) (k13 := ?k13) (a14 := ?a14) (l14 := ?l14) (c14 := ?c14) (k14 := ?k14) (a15 := ?a15) (l15 := ?l15) (c15 := ?c15) (k15 := ?k15) (a16 := ?a16) (l16 := ?l16) (c16 := ?c16) (k16 := ?k16) (a17 := ?a17) (l17 := ?l17) (c17 := ?c17) (k17 := ?k17) (a18 := ?a18) (l18 := ?l18) (c18 := ?c18) (k18 := ?k18) (a19 := ?a19) (l19 := ?l19) (c19 := ?c19) (k19 := ?k19) (d19 := ?d19) (a20 := ?a20) (l20 := ?l20) (c20 := ?c20) (k20 := ?k20) (a21 := ?a21) (l21 := ?l21) (c21 := ?c21) (k21 := ?k21) (a22 := ?a22) (l22 := ?l22) (c22 := ?c22) (k22 := ?k22) (a23 := ?a23) (l23 := ?l23) (c23 := ?c23) (k23 := ?k23) (tb := ?tb) (tb2 := ?tb2) (hcd := ?hcd) (tk := ?tk) (ht := ?ht) (aCL := ?aCL) (aL := ?aL) (lL := ?lL) (cL := ?cL) (kL := ?kL) (nL1 := ?nL1) (g4L := ?g4L) (m2L := ?m2L) (aCW := ?aCW) (aW := ?aW) (lW := ?lW) (cW := ?cW) (kW := ?kW) (nW1 := ?nW1) (g4W := ?g4W) (m2W := ?m2W) (aCB := ?aCB) (aB := ?aB) (lB := ?lB) (cB := ?cB) (kB := ?kB) (nB1 := ?nB1) (g4B := ?g4B) (m2B := ?m2B) (aCX := ?aCX) (aX := ?aX) (lX := ?lX) (cX := ?cX) (kX := ?kX) (nX1 := ?nX1) (g4X := ?g4X) (m2X := ?m2X) (aC0 := ?aC0) (r1 := ?r1) (r2 := ?r2) (r3 := ?r3) (s1 := ?s1) (s2 := ?s2) (s3 := ?s3) (s4 := ?s4) (o1L := ?o1L) (o2L := ?o2L) (o3L := ?o3L) (o4L := ?o4L) (tL := ?tL) (x1L := ?x1L) (x2L := ?x2L) (x3L := ?x3L) (e1L := ?e1L) (e2L := ?e2L) (p1L := ?p1L) (p2L := ?p2L) (o1W := ?o1W) (o2W := ?o2W) (o3W := ?o3W) (o4W := ?o4W) (tW := ?tW) (x1W := ?x1W) (x2W := ?x2W) (x3W := ?x3W) (e1W := ?e1W) (e2W := ?e2W) (p1W := ?p1W) (p2W := ?p2W) (o1B := ?o1B) (o2B := ?o2B) (o3B := ?o3B) (o4B := ?o4B) (tB := ?tB) (x1B := ?x1B) (x2B := ?x2B) (x3B := ?x3B) (e1B := ?e1B) (e2B := ?e2B) (p1B := ?p1B) (p2B := ?p2B) (o1X := ?o1X) (o2X := ?o2X) (o3X := ?o3X) (o4X := ?o4X) (tX := ?tX) (x1X := ?x1X) (x2X := ?x2X) (x3X := ?x3X) (e1X := ?e1X) (e2X := ?e2X) (p1X := ?p1X) (p2X := ?p2X) (yLL := ?yLL) (yWL := ?yWL) (yWW := ?yWW) (yBL := ?yBL) (yBW := ?yBW) (yBB := ?yBB) (yXL := ?yXL) (yXW := ?yXW) (yXB := ?yXB) (yXX := ?yXX) (z0 := ?z0) (z1 := ?z1) (z2 := ?z2) (z3 := ?z3) (z4 := ?z4) (z5 := ?z5) (z6 := ?z6) (z7 := ?z7) (z8 := ?z8) (z9 := ?z9) (z10 := ?z10) (z11 := ?z11) (z12 := ?z12) (z13 := ?z13)
    (case a1 => k_is); (case l1 => k_is); (case c1 => k_is); (case k1 => k_is); (case a2 => k_is); (case l2 => k_is); (case c2 => k_is); (case k2 => k_is); (case a3 => k_is); (case l3 => k_is); (case c3 => k_is); (case k3 => k_is); (case a4 => k_is); (case l4 => k_is); (case c4 => k_is); (case k4 => k_is); (case a5 => k_is); (case l5 => k_is); (case c5 => k_is); (case k5 => k_is); (case a6 => k_is); (case l6 => k_is); (case c6 => k_is); (case k6 => k_is); (case a7 => k_is); (case l7 => k_is); (case c7 => k_is); (case k7 => k_is); (case a8 => k_is); (case l8 => k_is); (case c8 => k_is); (case k8 => k_is); (case a9 => k_is); (case l9 => k_is); (case c9 => k_is); (case k9 => k_is); (case a10 => k_is); (case l10 => k_is); (case c10 => k_is); (case k10 => k_is); (case a11 => k_is); (case l11 => k_is); (case c11 => k_is); (case k11 => k_is); (case a12 => k_is); (case l12 => k_is); (case c12 => k_is); (case k12 => k_is); (case a13 => k_is); (case l13 => k_is); (case c13 => k_is); (case k13 => k_is); (case a14 => k_is); (case l14 => k_is); (case c14 => k_is); (case k14 => k_is); (case a15 => k_is); (case l15 => k_is); (case c15 => k_is); (case k15 => k_is); (case a16 => k_is); (case l16 => k_is); (case c16 => k_is); (case k16 => k_is); (case a17 => k_is); (case l17 => k_is); (case c17 => k_is); (case k17 => k_is); (case a18 => k_is); (case l18 => k_is); (case c18 => k_is); (case k18 => k_is); (case a19 => k_is); (case l19 => k_is); (case c19 => k_is); (case k19 => k_is); (case d19 => k_is); (case a20 => k_is); (case l20 => k_is); (case c20 => k_is); (case k20 => k_is); (case a21 => k_is); (case l21 => k_is); (case c21 => k_is); (case k21 => k_is); (case a22 => k_is); (case l22 => k_is); (case c22 => k_is); (case k22 => k_is); (case a23 => k_is); (case l23 => k_is); (case c23 => k_is); (case k23 => k_is); (case tb => k_is); (case tb2 => rfl); (case hcd => kernel_rfl); (case tk => kernel_rfl); (case ht => exact tabs _ (by k_mem)); (case aCL => k_is); (case aL => k_is); (case lL => k_is); (case cL => k_is); (case kL => k_is); (case nL1 => k_is); (case g4L => k_is); (case m2L => k_is); (case aCW => k_is); (case aW => k_is); (case lW => k_is); (case cW => k_is); (case kW => k_is); (case nW1 => k_is); (case g4W => k_is); (case m2W => k_is); (case aCB => k_is); (case aB => k_is); (case lB => k_is); (case cB => k_is); (case kB => k_is); (case nB1 => k_is); (case g4B => k_is); (case m2B => k_is); (case aCX => k_is); (case aX => k_is); (case lX => k_is); (case cX => k_is); (case kX => k_is); (case nX1 => k_is); (case g4X => k_is); (case m2X => k_is); (case aC0 => k_is); (case r1 => k_is); (case r2 => k_is); (case r3 => k_is); (case s1 => k_is); (case s2 => k_is); (case s3 => k_is); (case s4 => k_is); (case o1L => k_is); (case o2L => rfl); (case o3L => k_is); (case o4L => k_is); (case tL => k_is); (case x1L => k_is); (case x2L => k_is); (case x3L => k_is); (case e1L => k_is); (case e2L => k_is); (case p1L => k_is); (case p2L => k_is); (case o1W => k_is); (case o2W => rfl); (case o3W => k_is); (case o4W => k_is); (case tW => k_is); (case x1W => k_is); (case x2W => k_is); (case x3W => k_is); (case e1W => k_is); (case e2W => k_is); (case p1W => k_is); (case p2W => k_is); (case o1B => k_is); (case o2B => rfl); (case o3B => k_is); (case o4B => k_is); (case tB => k_is); (case x1B => k_is); (case x2B => k_is); (case x3B => k_is); (case e1B => k_is); (case e2B => k_is); (case p1B => k_is); (case p2B => k_is); (case o1X => k_is); (case o2X => rfl); (case o3X => k_is); (case o4X => k_is); (case tX => k_is); (case x1X => k_is); (case x2X => k_is); (case x3X => k_is); (case e1X => k_is); (case e2X => k_is); (case p1X => k_is); (case p2X => k_is); (case yLL => k_is); (case yWL => k_is); (case yWW => k_is); (case yBL => k_is); (case yBW => k_is); (case yBB => k_is); (case yXL => k_is); (case yXW => k_is); (case yXB => k_is); (case yXX => k_is); (case z0 => k_is); (case z1 => k_is); (case z2 => k_is); (case z3 => k_is); (case z4 => k_is); (case z5 => k_is); (case z6 => k_is); (case z7 => k_is); (case z8 => k_is); (case z9 => k_is); (case z10 => k_is); (case z11 => k_is); (case z12 => k_is); (case z13 => k_is)


import PyProof.Rows.All
import Wide.All
import OpenK.AllK
import Wide.FinOn
import HandS.ForMost
import HandS.Evl
import KE.GoesZip
import PyProof.EnumMake
import HandS.Strs
import KE.GoesMore
import HandS.IsInst
import HandS.NoneIn
import HandS.Walk
import HandS.Conv
import HandS.TupAny
import PyProof.ReprReads
import HandS.List
import HandS.Dict
import PyProof.ReprRoads
import PyProof.ReprDict
import HandS.Exc
import HandS.ExcInit
import HandS.ExcField
import HandS.ExcIs
import HandS.TryOnly
import HandS.TryMany
import HandS.WordsExc
import HandS.ClsMeth
import HandS.MakeKwOnly
import HandS.MakeKw
import HandS.DictComp
import HandS.SortInts
import HandS.Style
import PySem.Challenge.RW_wordskips_k00_errors
set_option Elab.async false
set_option linter.all false
set_option maxRecDepth 100000
set_option maxHeartbeats 4000000
namespace ZS
open PySem PySem.Spec PyProof.Rows L2

/-- two texts side by side: a new pair of signs at each turn -/
def ItzS (x y : Str) : It :=
  ⟨fun i _ => i < x.cps.size ∧ i < y.cps.size,
   fun i H v H' => ∃ T c d, v = .ref T ∧ H T = none ∧ H' = upd H T (.tup [.str ⟨#[c]⟩, .str ⟨#[d]⟩]) ∧ x.cps[i]? = some c ∧ y.cps[i]? = some d,
   fun i _ => i = min x.cps.size y.cps.size⟩
theorem drawsS {prog : Program} {w : World} {A : Around} (hh : A.handled = none) (it : Addr) (x : Str) (t : Tok) :
    Draws prog w A it [it] x.cps.size (fun i v => ∃ c u, x.cps[i]? = some c ∧ v = .str ⟨#[c]⟩ u) (fun i h => h.IsStrIter it (strIterType x) x t i) := by
  unfold strIterType
  cases x.cps.all (· < 128)
  · exact Draws.strWide hh it x t
  · exact Draws.strAscii hh it x t
def StZ (x y : Str) (t u : Tok) (z TI TO i1 i2 : Addr) (i : Nat) (h : Heap) : Prop :=
  IsZip h z TI TO .none ∧ IsTupOf2 h TI (.ref i1) (.ref i2) ∧ (∃ a1 a2, IsTupOf2 h TO a1 a2) ∧ h.IsStrIter i1 (strIterType x) x t i ∧ h.IsStrIter i2 (strIterType y) y u i
theorem walkS {prog : Program} {w : World} {A : Around} (hh : A.handled = none) {z TI TO i1 i2 : Addr} (S : ZipSep2 z TI TO i1 i2 [i1] [i2]) (x y : Str) (t u : Tok) :
    WalksT prog w A z (z :: TI :: TO :: ([i1] ++ [i2])) [z, TO, i1, i2] (min x.cps.size y.cps.size)
      (fun i vals => ∃ v1 v2, (∃ c u, x.cps[i]? = some c ∧ v1 = .str ⟨#[c]⟩ u) ∧ (∃ c u, y.cps[i]? = some c ∧ v2 = .str ⟨#[c]⟩ u) ∧ vals = #[v1, v2])
      (StZ x y t u z TI TO i1 i2)
      (fun i T h => IsZip h z TI TO (rawInt T) ∧ IsTupOf2 h TI (.ref i1) (.ref i2) ∧ (∃ a1 a2, IsTupOf2 h TO a1 a2) ∧ h.IsStrIter i1 (strIterType x) x t (i + 1) ∧ h.IsStrIter i2 (strIterType y) y u (i + 1) ∧ T ≠ z ∧ T ≠ TO ∧ T ≠ i1 ∧ T ≠ i2) :=
  WalksT.zipD2 S (drawsS (A := A.in1) hh i1 x t) (drawsS (A := A.in1) hh i2 y u)
theorem fp5 {z TI TO i1 i2 c : Addr} (h : c ∈ [z, TI, TO, i1, i2]) : c = z ∨ c = TI ∨ c = TO ∨ c = i1 ∨ c = i2 := by simpa using h
theorem turn_zipS {P : Program} {w : World} {K : PySem.W.Frag} {elts : List Expr} {kk : Nat} {tpos : Pos} {z TI TO i1 i2 : Addr} (S : ZipSep2 z TI TO i1 i2 [i1] [i2]) (x y : Str) (t u : Tok) :
    Turn P w K (.Tuple elts kk tpos) (ItzS x y) [z, TI, TO, i1, i2] z (StZ x y t u z TI TO i1 i2) where
  mem := List.mem_cons_self
  obj := fun i h st c hc => by
    obtain ⟨q1, q2, ⟨a1, a2, q3⟩, ⟨o1, e1, _, d1⟩, ⟨o2, e2, _, d2⟩⟩ := st
    rcases fp5 hc with q | q | q | q | q
    all_goals subst q
    · exact ⟨_, q1, fun v q => nomatch q⟩
    · exact ⟨_, q2, fun v q => nomatch q⟩
    · exact ⟨_, q3, fun v q => nomatch q⟩
    · exact ⟨o1, e1, fun v q => by rw [d1] at q; cases q⟩
    · exact ⟨o2, e2, fun v q => by rw [d2] at q; cases q⟩
  keep := fun i h h' st k => by
    obtain ⟨q1, q2, ⟨a1, a2, q3⟩, ⟨o1, e1, r1⟩, ⟨o2, e2, r2⟩⟩ := st
    exact ⟨k z (by simp) _ q1, k TI (by simp) _ q2, ⟨a1, a2, k TO (by simp) _ q3⟩, ⟨o1, k i1 (by simp) _ e1, r1⟩, ⟨o2, k i2 (by simp) _ e2, r2⟩⟩
  item := by
    intro X hP hw hK hc i pins s σ H E I hf st hg
    subst hP hw hK
    have W := walkS (prog := X.prog) (w := X.w) (A := X.A) (I.ok.hd hc) S x y t u
    have hlt : i < min x.cps.size y.cps.size := by
      have h1 := hg.1
      have h2 := hg.2
      omega
    refine W.item i s _ _ hlt st fun T vals h' tk hv hT hIs hm hk => ?_
    refine ⟨.ref T, rfl, ?_⟩
    refine W.go elts kk tpos i T { s with heap := h', toks := tk } _ _ hm fun h2 st2 hk2 => ?_
    obtain ⟨v1, v2, ⟨c, u1, hc1, rfl⟩, ⟨d, u2, hd1, rfl⟩, rfl⟩ := hv
    have ap : T ∉ [z, TO, i1, i2] := W.apart i T h' hm
    have up : ∀ b o, b ∉ [z, TO, i1, i2] → s.heap.get? b = some o → h2.get? b = some o := fun b o hb e => hk2 b o hb (hk b o hb e)
    have hT2 : h2.IsTuple T #[.str ⟨#[c]⟩ u1, .str ⟨#[d]⟩ u2] := hIs.at fun o e => hk2 T o ap e
    obtain ⟨oT, eT, cT, nT, dT⟩ := hT2
    have new : ObjOk X.prog X.w (upd H T (.tup [.str ⟨#[c]⟩, .str ⟨#[d]⟩])) h2 T (.tup [.str ⟨#[c]⟩, .str ⟨#[d]⟩]) :=
      ⟨by show 2 ≤ sizeLine; decide, [.str ⟨#[c]⟩ u1, .str ⟨#[d]⟩ u2], .cons ⟨u1, rfl⟩ (.cons ⟨u2, rfl⟩ .nil), ⟨oT, eT, cT, nT, dT⟩⟩
    have sub : ∀ b, b ∉ [z, TI, TO, i1, i2] → b ∉ [z, TO, i1, i2] := fun b hb hb2 => hb (by
      have q : b = z ∨ b = TO ∨ b = i1 ∨ b = i2 := by simpa using hb2
      rcases q with q | q | q | q <;> simp [q])
    have I1 := I.turnedNew (t' := tk) (ch := [z, TI, TO, i1, i2]) (fun b o hb e => up b o (sub b hb) e) hf hT new
    refine ⟨.ref T, _, I1, rfl, ⟨T, c, d, rfl, I.hok.fresh hT, rfl, hc1, hd1⟩, st2, fun b hb => ?_⟩
    have hlb : b < s.heap.objs.size := by
      obtain ⟨q1, q2, ⟨a1, a2, q3⟩, ⟨o1, e1, r1⟩, ⟨o2, e2, r2⟩⟩ := st
      rcases fp5 hb with q | q | q | q | q
      · rw [q]; exact Heap.lt_size q1
      · rw [q]; exact Heap.lt_size q2
      · rw [q]; exact Heap.lt_size q3
      · rw [q]; exact Heap.lt_size e1
      · rw [q]; exact Heap.lt_size e2
    rw [upd_ne (show b ≠ T from fun e => absurd hT (by rw [← e]; exact Nat.not_le.mpr hlb))]
    exact (hf b hb).1
  done := by
    intro X hP hw hK hc i pins s σ H E I hf st hg
    subst hP hw hK
    have W := walkS (prog := X.prog) (w := X.w) (A := X.A) (I.ok.hd hc) S x y t u
    have hg : i = min x.cps.size y.cps.size := hg
    subst hg
    refine W.done s _ _ st fun h' tk hk => ⟨rfl, ?_⟩
    refine I.turnedL (t' := tk) (ch := [z, TI, TO, i1, i2]) (fun b o hb e => hk b o (fun hb2 => hb ?_) e) hf
    have q : b = z ∨ b = TO ∨ b = i1 ∨ b = i2 := by simpa using hb2
    rcases q with q | q | q | q <;> simp [q]
  self := fun A i s Q E st h => wpAny_pyIter_zip st.1 h

abbrev g1 (h : Heap) (x : Str) (t : Tok) : Heap := h.push { cls := .type (strIterType x), data := .fields #[.str x t, .int 0 0] }
abbrev g3 (h : Heap) (x y : Str) (t u : Tok) : Heap := (g1 (g1 h x t) y u).push { cls := .type "tuple", data := .seq #[.ref h.objs.size, .ref (g1 h x t).objs.size] }
abbrev g4 (h : Heap) (x y : Str) (t u : Tok) : Heap := (g3 h x y t u).push { cls := .type "tuple", data := .seq #[.none, .none] }
abbrev g5 (h : Heap) (x y : Str) (t u : Tok) : Heap := (g4 h x y t u).push { cls := .type "zip", data := .fields #[.none, .bool false, .bool false, .ref (g1 (g1 h x t) y u).objs.size, .ref (g3 h x y t u).objs.size] }
theorem meets_zipS (x y : Str) (t u : Tok) :
    Meets (Builtin.«zip.__new__» ⟨[.type "zip", .str x t, .str y u], []⟩) (fun _ R s => R (.ok (.ret (.ref (g4 s.heap x y t u).objs.size))) { s with heap := g5 s.heap x y t u }) :=
  .of_wp fun prog w A R s h => by
    obtain ⟨hp, gg, d, tk, os⟩ := s
    have hsub := sub_zip
    wp_walk using wpAny_pyIter_strU
    exact ⟨_, rfl, h⟩
theorem call_zipS {prog : Program} {w : World} {A : Around} {E : Value → Shared → Prop} {s : Shared} {x y : Str} {t u : Tok} {Q : Value → Shared → Prop}
    (h : ∀ h', StZ x y t u (s.heap.objs.size + 4) (s.heap.objs.size + 2) (s.heap.objs.size + 3) s.heap.objs.size (s.heap.objs.size + 1) 0 h' → (∀ c o, s.heap.get? c = some o → h'.get? c = some o) → Q (.ref (s.heap.objs.size + 4)) { s with heap := h' }) :
    wpAny (model prog w) A (call (.type "zip") [.str x t, .str y u]) Q E s := by
  refine callType_new F.called_zip (by decide) (F.typeCall_zip_2 _ _) (F.newCall_zip_2 _ _) (fun obj => F.args_object_init_3 obj _ _) F.entry_zip_new (meets_zipS x y t u) ?_
  have n1 : (g1 s.heap x t).objs.size = s.heap.objs.size + 1 := Heap.size_push ..
  have n2 : (g1 (g1 s.heap x t) y u).objs.size = s.heap.objs.size + 2 := by rw [Heap.size_push, n1]
  have n3 : (g3 s.heap x y t u).objs.size = s.heap.objs.size + 3 := by rw [Heap.size_push, n2]
  have n4 : (g4 s.heap x y t u).objs.size = s.heap.objs.size + 4 := by rw [Heap.size_push, n3]
  have k5 : (g5 s.heap x y t u).get? (g4 s.heap x y t u).objs.size = some _ := Heap.get?_push_size _ rfl
  have k4 : (g5 s.heap x y t u).get? (g3 s.heap x y t u).objs.size = some _ := Heap.get?_push_of_some _ (Heap.get?_push_size _ rfl)
  have k3 : (g5 s.heap x y t u).get? (g1 (g1 s.heap x t) y u).objs.size = some _ := Heap.get?_push_of_some _ (Heap.get?_push_of_some _ (Heap.get?_push_size _ rfl))
  have k2 : (g5 s.heap x y t u).get? (g1 s.heap x t).objs.size = some _ := Heap.get?_push_of_some _ (Heap.get?_push_of_some _ (Heap.get?_push_of_some _ (Heap.get?_push_size _ rfl)))
  have k1 : (g5 s.heap x y t u).get? s.heap.objs.size = some _ := Heap.get?_push_of_some _ (Heap.get?_push_of_some _ (Heap.get?_push_of_some _ (Heap.get?_push_of_some _ (Heap.get?_push_size _ rfl))))
  show _ ∧ _
  rw [n2, n3, n4] at k5
  rw [n1, n2] at k3
  rw [n3] at k4
  rw [n1] at k2
  rw [n4]
  exact ⟨⟨_, k5, rfl⟩, h _ ⟨k5, k3, ⟨_, _, k4⟩, ⟨_, k1, rfl, rfl⟩, ⟨_, k2, rfl, rfl⟩⟩ fun c o e =>
    Heap.get?_push_of_some _ (Heap.get?_push_of_some _ (Heap.get?_push_of_some _ (Heap.get?_push_of_some _ (Heap.get?_push_of_some _ e))))⟩
theorem sepS (n : Nat) : ZipSep2 (n + 4) (n + 2) (n + 3) n (n + 1) [n] [n + 1] := by
  constructor <;> first | omega | (simp <;> omega) | simp
def iZipS (ta : TA) : TI := fun σ H R => ta σ H fun vs H1 => ∃ x y, vs = [.str x, .str y] ∧ R (ItzS x y) H1
theorem pi_zipS {X : Cx} {e e2 : Expr} {ta : TA} {p pos tpos : Pos} {elts : List Expr} {kk : Nat} (hg : Gl X "zip") (hm : X.mg "zip" = none) (ha : PA X [e, e2] ta)
    (hs : starEach [e, e2] X.env = (false, eval e X.env) :: starEach [e2] X.env := by rfl) (hpl : (backTo pos (starEach [e2] X.env)).any (·.1) = false := by rfl) :
    PI X (.Tuple elts kk tpos) (.Call (.Name "zip" p) [e, e2] [] pos) (iZipS ta) := by
  refine ⟨fun pins s σ H R I h => ?_⟩
  refine Call_ (ld_blt I hg hm boot_zip (callWith_type1 (thn (ha.run pos pins s σ H _ I h) fun us s1 ⟨vs, H1, I1, r1, q1⟩ => ?_) hs hpl))
  obtain ⟨x, y, ex, q⟩ := q1
  subst ex
  cases r1 with
  | cons r rr =>
    cases rr with
    | cons r' rr =>
      cases rr
      obtain ⟨t, rfl⟩ := r
      obtain ⟨u, rfl⟩ := r'
      refine call_zipS fun h' st hk => wpAny_pyIter_zip st.1 ?_
      have I2 : Inv X pins σ H1 { s1 with heap := h' } := I1.kept (t' := s1.toks) hk
      refine ⟨s1.heap.objs.size + 4, _, _, _, H1, rfl, I2, turn_zipS (sepS _) x y t u, st, fun c hcm => ?_, q⟩
      have hle : s1.heap.objs.size ≤ c := by
        rcases fp5 hcm with z | z | z | z | z <;> rw [z] <;> first | exact Nat.le_add_right _ _ | exact Nat.le_refl _
      exact I1.fpOk hle (I1.hok.fresh hle)
/-- a comprehension over it -/
theorem lc_zipS {x y : Str} {g : TG} {tt : TT} {te : TE} {vs : List Nat} {σ : L2.St} {H1 : Hp} {D : Addr} {Qd : Hp → Prop} (Pv : Nat → Hp → Prop) (h0 : Pv 0 (upd H1 D (.lst [])))
    (hs : ∀ i c d T H, x.cps[i]? = some c → y.cps[i]? = some d → Pv i H → H T = none → g (.ref T) (wipe σ vs) (upd H T (.tup [.str ⟨#[c]⟩, .str ⟨#[d]⟩])) fun σ2 H2 => wipe σ2 vs = wipe σ vs ∧ tt σ2 H2 fun b H3 =>
      if b = true then te σ2 H3 fun z H4 => ∃ acc, H4 D = some (.lst acc) ∧ acc.length < sizeLine ∧ Pv (i + 1) (upd H4 D (.lst (acc ++ [z]))) else Pv (i + 1) H3) (hd : ∀ H, Pv (min x.cps.size y.cps.size) H → Qd H) :
    ∃ W : Nat → Nat → Hp → Prop, (∃ m, W 0 m (upd H1 D (.lst []))) ∧ ∀ i m H, W i m H →
      ((ItzS x y).stop i H ∧ Qd H) ∨ ((ItzS x y).go i H ∧ ∃ Nx : Hp → Prop, (∀ H', Nx H' → ∃ m', m' < m ∧ W (i + 1) m' H') ∧ ∀ v H', (ItzS x y).yld i H v H' → g v (wipe σ vs) H' fun σ2 H2 => wipe σ2 vs = wipe σ vs ∧ tt σ2 H2 fun b H3 =>
        if b = true then te σ2 H3 fun z H4 => ∃ acc, H4 D = some (.lst acc) ∧ acc.length < sizeLine ∧ Nx (upd H4 D (.lst (acc ++ [z]))) else Nx H3) := by
  refine ⟨fun i m H => i + m = min x.cps.size y.cps.size ∧ Pv i H, ⟨_, Nat.zero_add _, h0⟩, ?_⟩
  rintro i m H ⟨e, p⟩
  by_cases hm : m = 0
  · have e2 : i = min x.cps.size y.cps.size := by omega
    refine .inl ⟨e2, hd H ?_⟩
    rw [← e2]
    exact p
  · refine .inr ⟨⟨by omega, by omega⟩, Pv (i + 1), fun H' p' => ⟨m - 1, by omega, by omega, p'⟩, ?_⟩
    rintro v H' ⟨T, c, d, rfl, hT, rfl, hc, hd'⟩
    exact hs i c d T H hc hd' p hT
theorem op_mulS {X : Cx} : OpR X (binaryOp .Mult) (fun x y H Q => ∃ z n, x = .str z ∧ y = .int n ∧ MulOk z n ∧ Q (.str (Txt.mul z n)) H) := by
  intro pins s σ H x y v u Q I rx ry h
  obtain ⟨z, n, rfl, rfl, hz, q⟩ := h
  obtain ⟨t, rfl⟩ := rx
  obtain ⟨t', rfl⟩ := ry
  exact SB.mul hz (fun t' tk => ⟨.str (Txt.mul z n), H, I.tok _, ⟨_, rfl⟩, q⟩)
end ZS

namespace ST
open PySem PySem.Spec PyProof.Rows L2
/-- how many different ones the first i of a list are -/
def dct (xs : List Str) : Nat → Nat
  | 0 => 0
  | i + 1 => if (xs.take i).any (· == xs.getD i Str.empty) = true then dct xs i else dct xs i + 1
theorem dct_le (xs : List Str) : ∀ i, dct xs i ≤ i
  | 0 => Nat.le_refl _
  | i + 1 => by
    have := dct_le xs i
    unfold dct
    split <;> omega
theorem any_next {xs : List Str} {i : Nat} (hi : i < xs.length) (k : Str) : (xs.take (i + 1)).any (· == k) = ((xs.take i).any (· == k) || decide (k = xs.getD i Str.empty)) := by
  rw [List.take_add_one, List.any_append, List.getElem?_eq_getElem hi, List.getD_eq_getElem?_getD, List.getElem?_eq_getElem hi]
  refine congrArg (fun b => (xs.take i).any (· == k) || b) ?_
  show (xs[i] == k || false) = decide (k = xs[i])
  rw [Bool.or_false]
  by_cases e : k = xs[i]
  · rw [decide_eq_true e, ← e]
    simp
  · rw [decide_eq_false e]
    simpa using fun q : xs[i] = k => e q.symm
section
variable {prog : Program} {w : World} {A : Around} {R : Result → Shared → Prop} {It : Addr} {fp wr : List Addr} {Gn : Array GenState → Array GenState → Prop} {n : Nat} {P : Nat → Value → Prop} {St : Nat → Shared → Prop}
theorem fill (W : WalksS prog w A.in1 It fp wr Gn n P St) (a : Addr) (haf : a ∉ fp) (xs : List Str) (hx : xs.length = n) (hn : n + 1 < scanBound) (hv : ∀ i v, P i v → ∃ t, v = .str (xs.getD i Str.empty) t) :
    ∀ (k i : Nat) (s : Shared), n - i = k → i ≤ n → St i s → s.heap.SetOf (PySem.strKind prog w) a (fun z => (xs.take i).any (· == z)) (dct xs i) →
      (∀ s', Moved (a :: wr) Gn s s' → s'.heap.SetOf (PySem.strKind prog w) a (fun z => (xs.take n).any (· == z)) (dct xs n) → R (.ok (.ret .none)) s') →
      codeAny (model prog w) A (.builtin "set.update.loop" ⟨[.ref a, .ref It], []⟩) R s := by
  have haw : a ∉ wr := fun q => haf (W.sub _ q)
  have up : ∀ b ∈ wr, b ∈ a :: wr := fun b q => List.mem_cons_of_mem _ q
  intro k
  induction k with
  | zero =>
    intro i s hk hi hst hset hR
    obtain rfl : i = n := by omega
    refine codeAny_builtin F.entry_set_update_loop ?_
    rw [Around.under_plainId F.plain_set_update_loop _]
    refine wpAny_bind (W.done s _ _ hst fun s' mv => wpAny_pure (hR s' (mv.mono up) ?_))
    obtain ⟨o, es, ep, tb, ho, rest⟩ := hset
    exact ⟨o, es, ep, tb, mv.heap a _ haw ho, rest⟩
  | succ k ih =>
    intro i s hk hi hst hset hR
    have hlt : i < n := by omega
    refine codeAny_builtin F.entry_set_update_loop ?_
    rw [Around.under_plainId F.plain_set_update_loop _]
    refine wpAny_bind (W.item i s _ _ hlt hst fun v s1 hp st1 mv => ?_)
    obtain ⟨t, rfl⟩ := hv i v hp
    have set1 : s1.heap.SetOf (PySem.strKind prog w) a (fun z => (xs.take i).any (· == z)) (dct xs i) := by
      obtain ⟨o, es, ep, tb, ho, rest⟩ := hset
      exact ⟨o, es, ep, tb, mv.heap a _ haw ho, rest⟩
    refine wpAny_bind (wpAny_holding ?_)
    unfold setAdd
    refine wpAny_holding (wpAny_bind ((PySem.strKind prog w).pyHash (k := xs.getD i Str.empty) (strKind_is _ _ _ _) ?_))
    have room : dct xs i + 1 < scanBound := by
      have := dct_le xs i
      omega
    refine wpAny_setAddHashed_of (knd := PySem.strKind prog w) (s := { s1 with toks := s1.toks + 1 }) (strKind_is _ _ _ _) rfl set1 room fun h2 sb set2 => ?_
    have set3 : h2.SetOf (PySem.strKind prog w) a (fun z => (xs.take (i + 1)).any (· == z)) (dct xs (i + 1)) :=
      SetOf_congr set2 (fun z => (any_next (by omega) z).symm) (by
        show dct xs (i + 1) = _
        unfold dct
        rfl)
    refine wpAny_pure ⟨plainId_quiet F.plain_set_update_loop _, ih (i + 1) _ (by omega) hlt (W.frame _ s1 _ _ st1 (Nat.le_succ _) fun b hb o e => ?_) set3 fun s2 mv2 hS2 => ?_⟩
    · rw [sb.2 b (fun q : b = a => haf (by rw [← q]; exact hb))]
      exact e
    · refine hR s2 (Moved.trans W.gtrans ((mv.mono up).then_heap (Nat.le_succ _) fun b o hb e => ?_) mv2) hS2
      rw [sb.2 b (fun q : b = a => hb (by rw [q]; exact List.mem_cons_self))]
      exact e
end
theorem walkStr {prog : Program} {w : World} {A : Around} (hh : A.handled = none) (it : Addr) (x : Str) (t : Tok) :
    Walks prog w A it [it] [it] x.cps.size (SignAt x) (fun i h => h.IsStrIter it (strIterType x) x t i) := by
  unfold strIterType
  cases x.cps.all (· < 128)
  · exact Walks.strWide hh it x t
  · exact Walks.strAscii hh it x t
def signsOf (x : Str) : List Str := x.cps.toList.map fun c => ⟨#[c]⟩
theorem signsOf_len (x : Str) : (signsOf x).length = x.cps.size := by simp [signsOf]
section
variable {prog : Program} {w : World} {A : Around} {E : Value → Shared → Prop} {s : Shared}
theorem call_set_text {x : Str} {t : Tok} {Q : Value → Shared → Prop} (hh : A.handled = none) (hn : x.cps.size + 1 < scanBound)
    (h : ∀ (h' : Heap) (tk : Nat), h'.SetOf (PySem.strKind prog w) s.heap.objs.size (fun z => ((signsOf x).take x.cps.size).any (· == z)) (dct (signsOf x) x.cps.size) →
      (∀ b o, b < s.heap.objs.size → s.heap.get? b = some o → h'.get? b = some o) → Q (.ref s.heap.objs.size) { s with heap := h', toks := tk }) :
    wpAny (model prog w) A (call (.type "set") [.str x t]) Q E s := by
  obtain ⟨c, tl, hmro⟩ := PySem.F.called_set.mro
  have hmade := PySem.F.called_set.made
  have hsub := PySem.F.called_set.sub
  refine wpAny_call (codeAny_of_tree ?_)
  show wpAny _ _ (callAny (.type "set") _) _ _ _
  refine wpAny_pure ⟨Code.quiet_builtin _ (by decide +kernel), codeAny_builtin PySem.F.entry_type_call ?_⟩
  rw [Around.under_plain (weight_type_call_type "set" [.str x t] []) rfl]
  have x1 := PySem.F.called_set.notType
  have x2 := PySem.F.called_set.canCreate
  have x3 := PySem.F.typeCall_set_1 (.str x t)
  repeat (any_goals (first | assumption | wp_step))
  refine codeAny_mono (code_set_new_1 (.str x t) (E := E) (Q₁ := fun obj s₁ => ∃ led : Bool, obj = .ref s.heap.objs.size ∧ s₁ = { s with heap := s.heap.push { cls := .type "set", dict := none, data := .set #[] 0 (.fresh 0 0 led) } }) fun led => ⟨led, rfl, rfl⟩) fun r s₁ hr => ?_
  cases r with
  | error e => exact hr
  | ok fl =>
    cases fl with
    | ret obj =>
      obtain ⟨led, rfl, rfl⟩ := hr
      obtain ⟨hp, hhp⟩ : ∃ hp, s.heap.push { cls := .type "set", dict := none, data := .set #[] 0 (.fresh 0 0 led) } = hp := ⟨_, rfl⟩
      have y1 : hp.get? s.heap.objs.size = some { cls := .type "set", dict := none, data := .set #[] 0 (.fresh 0 0 led) } := by
        rw [← hhp]
        exact Heap.get?_push_size _ rfl
      have y2 : hp.objs.size = s.heap.objs.size + 1 := by
        rw [← hhp]
        exact Heap.size_push ..
      have y3 : ∀ b o, s.heap.get? b = some o → hp.get? b = some o := fun b o e => by
        rw [← hhp]
        exact Heap.get?_push_of_some _ e
      rw [hhp]
      have hT : Shared.TypeIs { s with heap := hp } (.ref s.heap.objs.size) "set" := ⟨_, y1, rfl⟩
      have y4 := PySem.F.called_set.init.lookup
      have y5 := PySem.F.called_set.init.bind (.ref s.heap.objs.size)
      repeat (any_goals (first | assumption | wp_step))
      refine codeAny_mono (codeAny_call_builtin (R := wants (fun r s₂ => r = .none ∧ ∃ h' tk, s₂ = { s with heap := h', toks := tk } ∧
          h'.SetOf (PySem.strKind prog w) s.heap.objs.size (fun z => ((signsOf x).take x.cps.size).any (· == z)) (dct (signsOf x) x.cps.size) ∧
          (∀ b o, b < s.heap.objs.size → s.heap.get? b = some o → h'.get? b = some o)) E) PySem.F.called_set.init.plain PySem.F.entry_set_init (check_set_init_1 hT ?_)) fun r₂ s₂ hr₂ => ?_
      · have sb1 := PySem.F.sub_str_set
        have sb2 := PySem.F.sub_str_frozenset
        have sb3 : (Value.type "str" == Value.type "dict") = false := by decide
        unfold Builtin.«set.__init__» noKeywords Builtin.Frozenset.updateFrom
        generalize hPI : pyIter = PI
        wp_walk
        subst hPI
        refine wpAny_pyIter_strU ?_
        refine wpAny_bind (wpAny_runValue ?_)
        have hh3 : A.in1.in1.in1.handled = none := by simp [hh]
        have z1 : s.heap.objs.size ∉ [hp.objs.size] := by
          rw [y2]
          simp
        refine fill ((walkStr hh3 _ x t).toS) s.heap.objs.size z1 (signsOf x) (signsOf_len x) hn ?_ (x.cps.size - 0) 0 _ (by omega) (Nat.zero_le _)
          ⟨_, Heap.get?_push_size _ rfl, rfl, rfl⟩ ?_ ?_
        · rintro i v ⟨c, u, hc, rfl⟩
          refine ⟨u, ?_⟩
          unfold signsOf
          rw [List.getD_eq_getElem?_getD, List.getElem?_map, Array.getElem?_toList, hc]
          rfl
        · have z2 : (hp.push { cls := .type (strIterType x), data := .fields #[.str x t, .int 0 0] }).get? s.heap.objs.size = some { cls := .type "set", dict := none, data := .set #[] 0 (.fresh 0 0 led) } := Heap.get?_push_of_some _ y1
          exact SetOf_congr ((setObjOf_fresh (knd := PySem.strKind prog w) led).setOf z2 (by unfold scanBound; omega)) (fun _ => rfl) rfl
        · intro s' mv hS'
          obtain ⟨h', g', d', tk', os'⟩ := s'
          obtain rfl : g' = s.gens := mv.gens
          obtain rfl : d' = s.drawn := mv.drawn
          obtain rfl : os' = s.os := mv.os
          refine wpAny_pure ?_
          show wpAny _ _ (ret Value.none) _ _ _
          refine wpAny_pure ⟨rfl, h', tk', rfl, hS', fun b o hb e => ?_⟩
          refine mv.heap b o ?_ (Heap.get?_push_of_some _ (y3 b o e))
          rw [y2]
          simp only [List.mem_cons, List.not_mem_nil, or_false, not_or]
          exact ⟨Nat.ne_of_lt hb, Nat.ne_of_lt (Nat.lt_succ_of_lt hb)⟩
      · cases r₂ with
        | error e => exact hr₂
        | ok fl₂ =>
          cases fl₂ with
          | ret r =>
            obtain ⟨rfl, h', tk, rfl, hS', hk'⟩ := hr₂
            repeat (any_goals (first | assumption | wp_step))
            exact h _ _ hS' hk'
          | _ => exact hr₂.elim
    | _ => exact hr.elim
end
end ST

namespace EN
open PySem PySem.Spec PyProof.Rows L2
/-! ### len(set(text)) -/
def tLenSetS (ta : TE) : TE := fun σ H Q => ta σ H fun x H1 => ∃ z : Str, x = .str z ∧ z.cps.size < 1000 ∧ Q (.int (ST.dct (ST.signsOf z) z.cps.size)) H1
theorem pe_lenSetS {X : Cx} {a : Expr} {ta : TE} {p p2 q pos : Pos} (hc : X.calm = true) (hg : Gl X "len") (hm : X.mg "len" = none) (hg2 : Gl X "set") (hm2 : X.mg "set" = none) (ha : PE X a ta)
    (na : starEach [a] X.env = (false, eval a X.env) :: starEach [] X.env := by rfl) : PE X (.Call (.Name "len" p) [.Call (.Name "set" p2) [a] [] q] [] pos) (tLenSetS ta) := by
  refine ⟨fun pins s σ H Q I h => Call_ (ld_blt I hg hm PySem.boot_len (callWith_builtin1 (args_cons (Call_ (ld_blt I hg2 hm2 boot_set ?_)) rfl) rfl rfl))⟩
  refine callWith_type1 (args_cons (thn (ha.run pins s σ H _ I h) fun v s1 ⟨x, H1, I1, r1, z, ex, hz, q1⟩ => args_nil ?_) na) na rfl
  subst ex
  obtain ⟨t, rfl⟩ := r1
  refine ST.call_set_text (I1.ok.hd hc) (by unfold scanBound; omega) fun h' tk hS hk => args_nil ?_
  obtain ⟨o, es, ep, t, ho, hex, hd, _, _, _, hf, hn⟩ := hS
  have I2 : Inv X pins σ H1 { s1 with heap := h', toks := tk } := I1.kept fun b o e => hk b o (Heap.lt_size e) e
  have hd2 := ST.dct_le (ST.signsOf z) z.cps.size
  exact call_len_set ho hex hd hf (by rw [hn]; omega) ⟨.int _, H1, I2.tok _, ⟨_, by rw [hn]⟩, q1⟩

/-! ### enumerate over a text, over a tuple -/
def ItS (x : Str) : It := ⟨fun i _ => i < x.cps.size,
  fun i H v H' => ∃ T c, v = .ref T ∧ H T = none ∧ H' = upd H T (.tup [.int (i : Nat), .str ⟨#[c]⟩]) ∧ x.cps[i]? = some c, fun i _ => i = x.cps.size⟩
def ItT (K : PySem.W.Frag) (a : Addr) : It := ⟨fun i H => ∃ (xs : List V) (x : V), SqT K H a xs ∧ xs[i]? = some x,
  fun i H v H' => ∃ T x, v = .ref T ∧ H T = none ∧ H' = upd H T (.tup [.int (i : Nat), x]) ∧ ∀ xs, SqT K H a xs → xs[i]? = some x, fun i H => ∃ xs : List V, SqT K H a xs ∧ i = xs.length⟩
theorem two {e it b : Addr} (h : b ∈ [e, it]) : b = e ∨ b = it := by simpa using h
theorem obj_of {h : Heap} {e it : Addr} {i : Int} {old : Value} (he : IsEnum h e it i old) {o : Obj} (ho : h.get? it = some o) {vs : Array Value} (hd : o.data = .fields vs) : ∀ b ∈ [e, it], ∃ o, h.get? b = some o ∧ ∀ v, o.data ≠ .cell v := fun b hb => by
  rcases two hb with z | z
  · rw [z]; exact ⟨_, he, fun v q => nomatch q⟩
  · rw [z]; exact ⟨o, ho, fun v q => by rw [hd] at q; cases q⟩
theorem turn_enumS {P : Program} {w : World} {K : PySem.W.Frag} {elts : List Expr} {kk : Nat} {tpos : Pos} (x : Str) (t : Tok) (e it : Addr) :
    Turn P w K (.Tuple elts kk tpos) (ItS x) [e, it] e (fun i h => (∃ old, IsEnum h e it ((i : Nat) : Int) old) ∧ h.IsStrIter it (strIterType x) x t i ∧ e ≠ it) where
  mem := List.mem_cons_self
  obj := fun i h st b hb => by
    obtain ⟨⟨old, he⟩, ⟨o, ho, _, hd⟩, _⟩ := st
    exact obj_of he ho hd b hb
  keep := fun i h h' st k => by
    obtain ⟨⟨old, he⟩, ⟨o, ho, r⟩, hne⟩ := st
    exact ⟨⟨old, k e (by simp) _ he⟩, ⟨o, k it (by simp) _ ho, r⟩, hne⟩
  item := by
    intro X hP hw hK hc i pins s σ H E I hf st hg
    subst hP hw hK
    obtain ⟨⟨old, he⟩, hit, hne⟩ := st
    have D := ZS.drawsS (prog := X.prog) (w := X.w) (A := X.A.in1) (I.ok.hd hc) it x t
    have l1 : e < s.heap.objs.size := Heap.lt_size he
    have l2 : it < s.heap.objs.size := by obtain ⟨_, q, _⟩ := hit; exact Heap.lt_size q
    refine wpAny_pyNext_enum_itemD D he hit hg hne (by simpa using hne) fun v h' tk hv ho hit' hT hsz hk => ?_
    obtain ⟨c, u, hcx, rfl⟩ := hv
    refine ⟨_, rfl, wpAny_letOwnedTupleGo_enum (s := { s with heap := h', toks := tk + 1 }) ho fun h2 he2 sb => ?_⟩
    have hT2 : h2.get? s.heap.objs.size = some { cls := .type "tuple", data := .seq #[.int i tk, .str ⟨#[c]⟩ u] } := (sb.2 _ (Nat.ne_of_gt l1)).trans hT
    have new : ObjOk X.prog X.w (upd H s.heap.objs.size (.tup [.int (i : Nat), .str ⟨#[c]⟩])) h2 s.heap.objs.size (.tup [.int (i : Nat), .str ⟨#[c]⟩]) :=
      ⟨by show 2 ≤ sizeLine; decide, [.int i tk, .str ⟨#[c]⟩ u], .cons ⟨_, rfl⟩ (.cons ⟨u, rfl⟩ .nil), ⟨_, hT2, rfl, _, rfl⟩⟩
    have I1 := I.turnedNew (t' := tk + 1) (ch := [e, it]) (fun b ob hb q => (sb.2 b (fun z => hb (by simp [z]))).trans (hk b ob (fun z => hb (by simp [z])) (fun z => hb (by simp [z])) q)) hf (Nat.le_refl _) new
    refine ⟨.ref s.heap.objs.size, _, I1, rfl, ⟨_, c, rfl, I.hok.fresh (Nat.le_refl _), rfl, hcx⟩, ⟨⟨.str ⟨#[c]⟩ u, ?_⟩, ?_, hne⟩, fun b hb => ?_⟩
    · rw [show ((i + 1 : Nat) : Int) = (i : Int) + 1 by omega]
      exact he2
    · obtain ⟨o, q, r⟩ := hit'
      exact ⟨o, (sb.2 it (Ne.symm hne)).trans q, r⟩
    · rw [upd_ne (show b ≠ s.heap.objs.size from fun q => by
        rcases two hb with z | z
        · rw [← q, z] at l1; exact Nat.lt_irrefl _ l1
        · rw [← q, z] at l2; exact Nat.lt_irrefl _ l2)]
      exact (hf b hb).1
  done := by
    intro X hP hw hK hc i pins s σ H E I hf st hg
    subst hP hw hK
    obtain ⟨⟨old, he⟩, hit, hne⟩ := st
    have hg : i = x.cps.size := hg
    subst hg
    have D := ZS.drawsS (prog := X.prog) (w := X.w) (A := X.A.in1) (I.ok.hd hc) it x t
    refine wpAny_pyNext_enum_endD D he hit fun h' eb => ⟨rfl, I.turnedL (t' := s.toks) (ch := [e, it]) (fun b o hb q => eb b o (fun z => hb (by simp [z])) q) hf⟩
  self := fun A i s Q E st h => by
    obtain ⟨⟨_, he⟩, _⟩ := st
    exact wpAny_pyIter_enum he h
theorem turn_enumT {P : Program} {w : World} {K : PySem.W.Frag} {elts : List Expr} {kk : Nat} {tpos : Pos} (a e it : Addr) :
    Turn P w K (.Tuple elts kk tpos) (ItT K a) [e, it] e (fun i h => (∃ old, IsEnum h e it ((i : Nat) : Int) old) ∧ h.IsTupleIter it a i ∧ e ≠ it ∧ a ≠ it ∧ a ≠ e) where
  mem := List.mem_cons_self
  obj := fun i h st b hb => by
    obtain ⟨⟨old, he⟩, ⟨o, ho, _, hd⟩, _⟩ := st
    exact obj_of he ho hd b hb
  keep := fun i h h' st k => by
    obtain ⟨⟨old, he⟩, ⟨o, ho, r⟩, hne⟩ := st
    exact ⟨⟨old, k e (by simp) _ he⟩, ⟨o, k it (by simp) _ ho, r⟩, hne⟩
  item := by
    intro X hP hw hK hc i pins s σ H E I hf st hg
    subst hP hw hK
    obtain ⟨⟨old, he⟩, hit, hne, hai, hae⟩ := st
    obtain ⟨xs, x, hq, hx⟩ := hg
    obtain ⟨its, rv, p, hz⟩ := I.tuple hq
    obtain ⟨u, hu, ru⟩ := rv.get hx
    have hlt : i < its.toArray.size := by
      have := (List.getElem?_eq_some_iff.mp hu).1
      simpa using this
    have D := Draws.tuple (prog := X.prog) (w := X.w) (A := X.A.in1) (I.ok.hd hc) it a hai its.toArray
    have l1 : e < s.heap.objs.size := Heap.lt_size he
    have l2 : it < s.heap.objs.size := by obtain ⟨_, q, _⟩ := hit; exact Heap.lt_size q
    have hef : e ∉ [it, a] := by
      intro q
      rcases two q with z | z
      · exact hne z
      · exact hae z.symm
    refine wpAny_pyNext_enum_itemD D he ⟨hit, p⟩ hlt hne hef fun v h' tk hv ho hit' hT hsz hk => ?_
    obtain rfl : v = u := by
      have q : its.toArray[i]? = some v := hv
      rw [List.getElem?_toArray, hu] at q
      exact (Option.some.inj q).symm
    refine ⟨_, rfl, wpAny_letOwnedTupleGo_enum (s := { s with heap := h', toks := tk + 1 }) ho fun h2 he2 sb => ?_⟩
    have hT2 : h2.get? s.heap.objs.size = some { cls := .type "tuple", data := .seq #[.int i tk, v] } := (sb.2 _ (Nat.ne_of_gt l1)).trans hT
    have new : ObjOk X.prog X.w (upd H s.heap.objs.size (.tup [.int (i : Nat), x])) h2 s.heap.objs.size (.tup [.int (i : Nat), x]) :=
      ⟨by show 2 ≤ sizeLine; decide, [.int i tk, v], .cons ⟨_, rfl⟩ (.cons ru .nil), ⟨_, hT2, rfl, _, rfl⟩⟩
    have I1 := I.turnedNew (t' := tk + 1) (ch := [e, it]) (fun b ob hb q => (sb.2 b (fun z => hb (by simp [z]))).trans (hk b ob (fun z => hb (by simp [z])) (fun z => hb (by simp [z])) q)) hf (Nat.le_refl _) new
    refine ⟨.ref s.heap.objs.size, _, I1, rfl, ⟨_, x, rfl, I.hok.fresh (Nat.le_refl _), rfl, fun ys hy => by rw [I.tuple_inj hy hq]; exact hx⟩, ⟨⟨v, ?_⟩, ?_, hne, hai, hae⟩, fun b hb => ?_⟩
    · rw [show ((i + 1 : Nat) : Int) = (i : Int) + 1 by omega]
      exact he2
    · obtain ⟨o, q, r⟩ := hit'.1
      exact ⟨o, (sb.2 it (Ne.symm hne)).trans q, r⟩
    · rw [upd_ne (show b ≠ s.heap.objs.size from fun q => by
        rcases two hb with z | z
        · rw [← q, z] at l1; exact Nat.lt_irrefl _ l1
        · rw [← q, z] at l2; exact Nat.lt_irrefl _ l2)]
      exact (hf b hb).1
  done := by
    intro X hP hw hK hc i pins s σ H E I hf st hg
    subst hP hw hK
    obtain ⟨⟨old, he⟩, hit, hne, hai, hae⟩ := st
    obtain ⟨xs, hq, hx⟩ := hg
    obtain ⟨its, rv, p, hz⟩ := I.tuple hq
    have D := Draws.tuple (prog := X.prog) (w := X.w) (A := X.A.in1) (I.ok.hd hc) it a hai its.toArray
    have hl := rv.length
    have hn : i = its.toArray.size := by
      rw [List.size_toArray]
      omega
    subst hn
    refine wpAny_pyNext_enum_endD D he ⟨hit, p⟩ fun h' eb => ⟨rfl, I.turnedL (t' := s.toks) (ch := [e, it]) (fun b o hb q => eb b o (fun z => hb (by simp [z])) q) hf⟩
  self := fun A i s Q E st h => by
    obtain ⟨⟨_, he⟩, _⟩ := st
    exact wpAny_pyIter_enum he h
theorem meets_enumT (a : Addr) (xs : Array Value) :
    Meets (Builtin.«enumerate.__new__» ⟨[.type "enumerate", .ref a], []⟩) (fun _ R s => s.heap.IsTuple a xs ∧
      R (.ok (.ret (.ref (s.heap.push { cls := .type "tuple_iterator", data := .fields #[.ref a, .int 0 0] }).objs.size)))
        { s with heap := (s.heap.push { cls := .type "tuple_iterator", data := .fields #[.ref a, .int 0 0] }).push { cls := .type "enumerate", data := .fields #[.none, .bool false, .ref s.heap.objs.size, rawInt 0, .none, .none] } }) :=
  .of_wp fun prog w A R s h => by
    obtain ⟨hp, g, d, tk, os⟩ := s
    obtain ⟨hl, h⟩ := h
    have hsub := sub_enumerate
    have hL : Heap.IsTuple (Shared.heap ⟨hp, g, d, tk, os⟩) a xs := hl
    wp_walk
    refine wpAny_stack_any fun st => wpAny_pure ?_
    split
    · rename_i c _ _ _ _ _
      cases (c == Value.type "enumerate")
      all_goals
        wp_walk using wpAny_pyIter_tuple hL
        exact ⟨_, rfl, h⟩
    · wp_walk using wpAny_pyIter_tuple hL
      exact ⟨_, rfl, h⟩
section
variable {X : Cx}
def iEnumS (ta : TA) : TI := fun σ H R => ta σ H fun vs H1 => ∃ x, vs = [.str x] ∧ R (ItS x) H1
theorem pi_enumS {e : Expr} {ta : TA} {p pos tpos : Pos} {elts : List Expr} {kk : Nat} (hg : Gl X "enumerate") (hm : X.mg "enumerate" = none) (ha : PA X [e] ta) (hs : starEach [e] X.env = [(false, eval e X.env)] := by rfl) :
    PI X (.Tuple elts kk tpos) (.Call (.Name "enumerate" p) [e] [] pos) (iEnumS ta) := by
  refine ⟨fun pins s σ H R I h => Call_ (ld_blt I hg hm boot_enumerate (callWith_type1 (thn (ha.run pos pins s σ H _ I h) fun us s1 ⟨vs, H1, I1, r1, q1⟩ => ?_) hs rfl))⟩
  obtain ⟨x, ex, q⟩ := q1
  subst ex
  cases r1 with
  | cons r rr =>
    cases rr
    obtain ⟨t, rfl⟩ := r
    refine call_enumerate_str fun h' he hit hsz hk => wpAny_pyIter_enum he ?_
    refine ⟨s1.heap.objs.size + 1, _, _, _, H1, rfl, I1.kept (t' := s1.toks) hk, turn_enumS x t (s1.heap.objs.size + 1) s1.heap.objs.size, ⟨⟨.none, he⟩, hit, Nat.succ_ne_self _⟩, fun b hb => ?_, q⟩
    have hle : s1.heap.objs.size ≤ b := by
      rcases two hb with z | z <;> rw [z] <;> first | exact Nat.le_add_right _ _ | exact Nat.le_refl _
    exact I1.fpOk hle (I1.hok.fresh hle)
def iEnumT (K : PySem.W.Frag) (ta : TA) : TI := fun σ H R => ta σ H fun vs H1 => ∃ a xs, vs = [.ref a] ∧ SqT K H1 a xs ∧ R (ItT K a) H1
theorem pi_enumT {e : Expr} {ta : TA} {p pos tpos : Pos} {elts : List Expr} {kk : Nat} (hg : Gl X "enumerate") (hm : X.mg "enumerate" = none) (ha : PA X [e] ta) (hs : starEach [e] X.env = [(false, eval e X.env)] := by rfl) :
    PI X (.Tuple elts kk tpos) (.Call (.Name "enumerate" p) [e] [] pos) (iEnumT X.K ta) := by
  refine ⟨fun pins s σ H R I h => Call_ (ld_blt I hg hm boot_enumerate (callWith_type1 (thn (ha.run pos pins s σ H _ I h) fun us s1 ⟨vs, H1, I1, r1, q1⟩ => ?_) hs rfl))⟩
  obtain ⟨a, xs, ex, hq, q⟩ := q1
  subst ex
  cases r1 with
  | cons r rr =>
    cases rr
    cases r
    obtain ⟨its, rv, p', hz⟩ := I1.tuple hq
    obtain ⟨oa, hoa, _⟩ := id p'
    have la : a < s1.heap.objs.size := Heap.lt_size hoa
    refine callType_new F.called_enumerate (by decide) (F.typeCall_enumerate_1 _) (F.newCall_enumerate_1 _) (fun obj => F.args_object_init_2 obj _) F.entry_enumerate_new (meets_enumT a its.toArray) ⟨p', ?_⟩
    have hz : (s1.heap.push { cls := .type "tuple_iterator", data := .fields #[.ref a, .int 0 0] }).objs.size = s1.heap.objs.size + 1 := Heap.size_push ..
    show _ ∧ _
    rw [hz]
    have g1 := Heap.get?_push_size (s1.heap.push { cls := .type "tuple_iterator", data := .fields #[.ref a, .int 0 0] }) (o := { cls := .type "enumerate", data := .fields #[.none, .bool false, .ref s1.heap.objs.size, rawInt 0, .none, .none] }) rfl
    rw [hz] at g1
    have he : IsEnum ((s1.heap.push { cls := .type "tuple_iterator", data := .fields #[.ref a, .int 0 0] }).push { cls := .type "enumerate", data := .fields #[.none, .bool false, .ref s1.heap.objs.size, rawInt 0, .none, .none] }) (s1.heap.objs.size + 1) s1.heap.objs.size 0 .none := g1
    refine ⟨⟨_, he, rfl⟩, wpAny_pyIter_enum he ?_⟩
    refine ⟨s1.heap.objs.size + 1, _, _, _, H1, rfl, I1.kept (t' := s1.toks) fun b o e => Heap.get?_push_of_some _ (Heap.get?_push_of_some _ e), turn_enumT a (s1.heap.objs.size + 1) s1.heap.objs.size,
      ⟨⟨.none, he⟩, ⟨_, Heap.get?_push_of_some _ (Heap.get?_push_size _ rfl), rfl, rfl⟩, Nat.succ_ne_self _, Nat.ne_of_lt la, Nat.ne_of_lt (Nat.lt_succ_of_lt la)⟩, fun b hb => ?_, q⟩
    have hle : s1.heap.objs.size ≤ b := by
      rcases two hb with z | z <;> rw [z] <;> first | exact Nat.le_add_right _ _ | exact Nat.le_refl _
    exact I1.fpOk hle (I1.hok.fresh hle)
end
/-! ### loops over them -/
theorem for_enumS {x : Str} {g : TG} {tb : TS} {D : Ends} {σ : L2.St} {H : Hp} (Pv : Nat → L2.St → Hp → Prop) (h0 : Pv 0 σ H)
    (hs : ∀ (i c : Nat) (T : Addr) (σ : L2.St) (H : Hp), x.cps[i]? = some c → Pv i σ H → H T = none → g (.ref T) σ (upd H T (.tup [.int (i : Nat), .str ⟨#[c]⟩])) fun σ2 H2 => tb { D with nx := Pv (i + 1), ct := Pv (i + 1), bk := D.nx } σ2 H2)
    (hd : ∀ σ H, Pv x.cps.size σ H → D.nx σ H) :
    ∃ W : Nat → Nat → L2.St → Hp → Prop, (∃ m, W 0 m σ H) ∧ ∀ i m σ H, W i m σ H →
      ((ItS x).stop i H ∧ D.nx σ H) ∨ ((ItS x).go i H ∧ ∃ N : L2.St → Hp → Prop, (∀ σ' H', N σ' H' → ∃ m', m' < m ∧ W (i + 1) m' σ' H') ∧ ∀ v H', (ItS x).yld i H v H' → g v σ H' fun σ2 H2 => tb { D with nx := N, ct := N, bk := D.nx } σ2 H2) := by
  refine ⟨fun i m σ H => i + m = x.cps.size ∧ Pv i σ H, ⟨_, Nat.zero_add _, h0⟩, ?_⟩
  rintro i m σ H ⟨e, p⟩
  by_cases hm : m = 0
  · have e2 : i = x.cps.size := by omega
    refine .inl ⟨e2, hd σ H ?_⟩
    rw [← e2]
    exact p
  · refine .inr ⟨show i < x.cps.size by omega, Pv (i + 1), fun σ' H' p' => ⟨m - 1, by omega, by omega, p'⟩, ?_⟩
    rintro v H' ⟨T, c, rfl, hT, rfl, hc⟩
    exact hs i c T σ H hc p hT
theorem for_enumT {K : PySem.W.Frag} {a : Addr} {xs : List V} {g : TG} {tb : TS} {D : Ends} {σ : L2.St} {H : Hp} (Pv : Nat → L2.St → Hp → Prop) (h0 : Pv 0 σ H) (hq : ∀ i σ H, Pv i σ H → SqT K H a xs)
    (hs : ∀ (i : Nat) (x : V) (T : Addr) (σ : L2.St) (H : Hp), xs[i]? = some x → Pv i σ H → H T = none → g (.ref T) σ (upd H T (.tup [.int (i : Nat), x])) fun σ2 H2 => tb { D with nx := Pv (i + 1), ct := Pv (i + 1), bk := D.nx } σ2 H2)
    (hd : ∀ σ H, Pv xs.length σ H → D.nx σ H) :
    ∃ W : Nat → Nat → L2.St → Hp → Prop, (∃ m, W 0 m σ H) ∧ ∀ i m σ H, W i m σ H →
      ((ItT K a).stop i H ∧ D.nx σ H) ∨ ((ItT K a).go i H ∧ ∃ N : L2.St → Hp → Prop, (∀ σ' H', N σ' H' → ∃ m', m' < m ∧ W (i + 1) m' σ' H') ∧ ∀ v H', (ItT K a).yld i H v H' → g v σ H' fun σ2 H2 => tb { D with nx := N, ct := N, bk := D.nx } σ2 H2) := by
  refine ⟨fun i m σ H => i + m = xs.length ∧ Pv i σ H, ⟨_, Nat.zero_add _, h0⟩, ?_⟩
  rintro i m σ H ⟨e, p⟩
  by_cases hm : m = 0
  · have e2 : i = xs.length := by omega
    refine .inl ⟨⟨xs, hq i σ H p, e2⟩, hd σ H ?_⟩
    rw [← e2]
    exact p
  · have hi : i < xs.length := by omega
    refine .inr ⟨⟨xs, xs[i], hq i σ H p, List.getElem?_eq_getElem hi⟩, Pv (i + 1), fun σ' H' p' => ⟨m - 1, by omega, by omega, p'⟩, ?_⟩
    rintro v H' ⟨T, x, rfl, hT, rfl, hx⟩
    exact hs i x T σ H (hx xs (hq i σ H p)) p hT
theorem for_enumL {K : PySem.W.Frag} {a : Addr} {xs : List V} {g : TG} {tb : TS} {D : Ends} {σ : L2.St} {H : Hp} (Pv : Nat → L2.St → Hp → Prop) (h0 : Pv 0 σ H) (hq : ∀ i σ H, Pv i σ H → SqL K H a xs)
    (hs : ∀ (i : Nat) (x : V) (T : Addr) (σ : L2.St) (H : Hp), xs[i]? = some x → Pv i σ H → H T = none → g (.ref T) σ (upd H T (.tup [.int (i : Nat), x])) fun σ2 H2 => tb { D with nx := Pv (i + 1), ct := Pv (i + 1), bk := D.nx } σ2 H2)
    (hd : ∀ σ H, Pv xs.length σ H → D.nx σ H) :
    ∃ W : Nat → Nat → L2.St → Hp → Prop, (∃ m, W 0 m σ H) ∧ ∀ i m σ H, W i m σ H →
      ((Ite K a).stop i H ∧ D.nx σ H) ∨ ((Ite K a).go i H ∧ ∃ N : L2.St → Hp → Prop, (∀ σ' H', N σ' H' → ∃ m', m' < m ∧ W (i + 1) m' σ' H') ∧ ∀ v H', (Ite K a).yld i H v H' → g v σ H' fun σ2 H2 => tb { D with nx := N, ct := N, bk := D.nx } σ2 H2) := by
  refine ⟨fun i m σ H => i + m = xs.length ∧ Pv i σ H, ⟨_, Nat.zero_add _, h0⟩, ?_⟩
  rintro i m σ H ⟨e, p⟩
  by_cases hm : m = 0
  · have e2 : i = xs.length := by omega
    refine .inl ⟨⟨xs, hq i σ H p, by omega⟩, hd σ H ?_⟩
    rw [← e2]
    exact p
  · have hi : i < xs.length := by omega
    refine .inr ⟨⟨xs, xs[i], hq i σ H p, List.getElem?_eq_getElem hi⟩, Pv (i + 1), fun σ' H' p' => ⟨m - 1, by omega, by omega, p'⟩, ?_⟩
    rintro v H' ⟨T, x, rfl, hT, rfl, hx⟩
    exact hs i x T σ H (hx xs (hq i σ H p)) p hT
end EN

namespace TR
open PySem PySem.Spec PyProof.Rows L2 Evl
/-- a list or a tuple of these -/
def ob (k : Bool) (xs : List V) : HO := if k = true then .tup xs else .lst xs
theorem ob_seq {K : PySem.W.Frag} {H : Hp} {a : Addr} {k : Bool} {xs : List V} (h : H a = some (ob k xs)) : SqL K H a xs ∨ SqT K H a xs := by
  cases k
  · exact .inl (sq_of h)
  · exact .inr (st_of h)
theorem ob_list {K : PySem.W.Frag} {H : Hp} {a : Addr} {k : Bool} {xs : List V} (h : H a = some (ob k xs)) : TyX K H (.ref a) (if k = true then .type "tuple" else .type "list") := by
  cases k
  · exact .base (.lst h)
  · exact .base (.tup h)
theorem ob_ne {k : Bool} {xs : List V} {kvs : List (Key × V)} : ob k xs ≠ .dK kvs := by
  cases k <;> intro h <;> cases h
section
variable {X : Cx} {pos : Pos}
/-- a, b, .. = a list or a tuple of that length -/
def gSeq (K : PySem.W.Frag) (n : Nat) (t : TGs) : TG := fun v σ H Q => gUnl K n t v σ H Q ∨ gTup K n t v σ H Q
theorem pg_seq {es : List Expr} {k : Nat} {t : TGs} {n : Nat} (hc : X.calm = true) (h : PGs X es t)
    (hn : (assignEach es X.env).length = n := by rfl) (hst : (assignEach es X.env).findIdx? (·.1) = none := by rfl) : PG X (.Tuple es k pos) (gSeq X.K n t) := by
  refine ⟨fun pins s σ H v u Q I r hw => ?_⟩
  rcases hw with hw | hw
  · exact (pg_unl hc h hn hst).run pins s σ H v u Q I r hw
  · exact (pg_tup hc h hn hst).run pins s σ H v u Q I r hw
theorem gSeq_of {K : PySem.W.Frag} {n : Nat} {t : TGs} {H : Hp} {a : Addr} {k : Bool} {xs : List V} {σ : L2.St} {Q : L2.St → Hp → Prop} (h : H a = some (ob k xs)) (hl : xs.length = n) (q : t xs σ H Q) : gSeq K n t (.ref a) σ H Q := by
  cases k
  · exact .inl ⟨a, xs, rfl, sq_of h, hl, q⟩
  · exact .inr ⟨a, xs, rfl, st_of h, hl, q⟩
/-- a walk over either -/
def iSeq (K : PySem.W.Frag) (te : TE) : TI := fun σ H R => iList K te σ H R ∨ iTup K te σ H R
theorem pi_seq {tg e : Expr} {te : TE} (he : PE X e te) : PI X tg e (iSeq X.K te) := by
  refine ⟨fun pins s σ H R I h => ?_⟩
  rcases h with h | h
  · exact (pi_list he).run pins s σ H R I h
  · exact (pi_tup he).run pins s σ H R I h
def iEnumQ (K : PySem.W.Frag) (ta : TA) : TI := fun σ H R => iEnum K ta σ H R ∨ EN.iEnumT K ta σ H R
theorem pi_enumQ {e : Expr} {ta : TA} {p tpos : Pos} {elts : List Expr} {kk : Nat} (hg : Gl X "enumerate") (hm : X.mg "enumerate" = none) (ha : PA X [e] ta) (hs : starEach [e] X.env = [(false, eval e X.env)] := by rfl) :
    PI X (.Tuple elts kk tpos) (.Call (.Name "enumerate" p) [e] [] pos) (iEnumQ X.K ta) := by
  refine ⟨fun pins s σ H R I h => ?_⟩
  rcases h with h | h
  · exact (pi_enum hg hm ha hs).run pins s σ H R I h
  · exact (EN.pi_enumT hg hm ha hs).run pins s σ H R I h
theorem ix_at {K : PySem.W.Frag} {H : Hp} {a : Addr} {k : Bool} {xs : List V} {i : Int} {v : V} {Q : VK} (h : H a = some (ob k xs)) (hi : atI xs i = some v) (q : Q v H) : rIx K (.ref a) (.int i) H Q := by
  cases k
  · exact .inl ⟨a, xs, i, v, rfl, rfl, sq_of h, hi, q⟩
  · exact .inr (.inl ⟨a, xs, i, v, rfl, rfl, st_of h, hi, q⟩)
end
/-! ### trees -/
mutual
inductive Tr where
  | go (s q : Nat) : Tr
  | tell (n : Nat) (t : Tr) : Tr
  | read (p : Nat) (ts : Trs) : Tr
inductive Trs where
  | nil : Trs
  | cons (t : Tr) (r : Trs) : Trs
end
def Trs.list : Trs → List Tr
  | .nil => []
  | .cons t r => t :: r.list
mutual
def Tr.size : Tr → Nat
  | .go _ _ => 1
  | .tell _ t => t.size + 1
  | .read _ ts => ts.size + 1
def Trs.size : Trs → Nat
  | .nil => 0
  | .cons t r => t.size + r.size
end
mutual
def Tr.depth : Tr → Nat
  | .go _ _ => 1
  | .tell _ t => t.depth + 1
  | .read _ ts => ts.depth + 1
def Trs.depth : Trs → Nat
  | .nil => 0
  | .cons t r => max t.depth r.depth
end
/-! as described, for so many letters, this width, so many states -/
mutual
def Tr.ok (l w n : Nat) : Tr → Prop
  | .go s q => 1 ≤ s ∧ s ≤ w + 1 ∧ q < n
  | .tell k t => k ≤ 2 ∧ t.ok l w n
  | .read p ts => p ≤ w ∧ ts.list.length = l ∧ ts.ok l w n
def Trs.ok (l w n : Nat) : Trs → Prop
  | .nil => True
  | .cons t r => t.ok l w n ∧ r.ok l w n
end
/-- the trees within -/
def Tr.kids : Tr → List Tr
  | .go _ _ => []
  | .tell _ t => [t]
  | .read _ ts => ts.list
/-! how a tree stands in memory, of lists or of tuples -/
mutual
inductive TA (k : Bool) (H : Hp) : V → Tr → Prop
  | go {a : Addr} {s q : Nat} : H a = some (ob k [.str "go", .int (s : Nat), .int (q : Nat)]) → TA k H (.ref a) (.go s q)
  | tell {a : Addr} {n : Nat} {v : V} {t : Tr} : H a = some (ob k [.str "tell", .int (n : Nat), v]) → TA k H v t → TA k H (.ref a) (.tell n t)
  | read {a b : Addr} {p : Nat} {vs : List V} {ts : Trs} : H a = some (ob k [.str "read", .int (p : Nat), .ref b]) → H b = some (ob k vs) → TAs k H vs ts → TA k H (.ref a) (.read p ts)
inductive TAs (k : Bool) (H : Hp) : List V → Trs → Prop
  | nil : TAs k H [] .nil
  | cons {v : V} {vs : List V} {t : Tr} {r : Trs} : TA k H v t → TAs k H vs r → TAs k H (v :: vs) (.cons t r)
end
mutual
theorem TA.ex {k : Bool} {H H' : Hp} (e : Ex H H') : ∀ {t : Tr} {v : V}, TA k H v t → TA k H' v t
  | _, _, .go h => .go (e _ _ h)
  | _, _, .tell h r => .tell (e _ _ h) (TA.ex e r)
  | _, _, .read h1 h2 r => .read (e _ _ h1) (e _ _ h2) (TAs.ex e r)
theorem TAs.ex {k : Bool} {H H' : Hp} (e : Ex H H') : ∀ {ts : Trs} {vs : List V}, TAs k H vs ts → TAs k H' vs ts
  | _, _, .nil => .nil
  | _, _, .cons h r => .cons (TA.ex e h) (TAs.ex e r)
end
/-- a list of trees as it stands -/
inductive Kids (k : Bool) (H : Hp) : List V → List Tr → Prop
  | nil : Kids k H [] []
  | cons {v : V} {vs : List V} {t : Tr} {r : List Tr} : TA k H v t → Kids k H vs r → Kids k H (v :: vs) (t :: r)
theorem TAs.kids {k : Bool} {H : Hp} : ∀ {ts : Trs} {vs : List V}, TAs k H vs ts → Kids k H vs ts.list
  | _, _, .nil => .nil
  | _, _, .cons h r => .cons h r.kids
theorem Kids.ex {k : Bool} {H H' : Hp} (e : Ex H H') : ∀ {vs : List V} {ts : List Tr}, Kids k H vs ts → Kids k H' vs ts
  | _, _, .nil => .nil
  | _, _, .cons h r => .cons (h.ex e) (Kids.ex e r)
theorem Kids.len {k : Bool} {H : Hp} : ∀ {vs : List V} {ts : List Tr}, Kids k H vs ts → vs.length = ts.length
  | _, _, .nil => rfl
  | _, _, .cons _ r => by rw [List.length_cons, List.length_cons, r.len]
theorem Kids.get {k : Bool} {H : Hp} : ∀ {vs : List V} {ts : List Tr} {i : Nat} {x : V}, Kids k H vs ts → vs[i]? = some x → ∃ t, ts[i]? = some t ∧ TA k H x t
  | _, _, _, _, .nil, h => by cases h
  | _, _, 0, _, .cons (t := t) h1 _, h => ⟨t, rfl, by rw [← Option.some.inj h]; exact h1⟩
  | _, _, i + 1, _, .cons _ r, h => Kids.get (i := i) r h
theorem Kids.snoc {k : Bool} {H : Hp} {v : V} {t : Tr} (h : TA k H v t) : ∀ {vs : List V} {ts : List Tr}, Kids k H vs ts → Kids k H (vs ++ [v]) (ts ++ [t])
  | _, _, .nil => .cons h .nil
  | _, _, .cons h1 r => .cons h1 (Kids.snoc h r)
theorem Kids.app {k : Bool} {H : Hp} : ∀ {vs : List V} {ts : List Tr} {us : List V} {rs : List Tr}, Kids k H vs ts → Kids k H us rs → Kids k H (vs ++ us) (ts ++ rs)
  | _, _, _, _, .nil, h => h
  | _, _, _, _, .cons h r, h2 => .cons h (Kids.app r h2)
theorem size_pos : ∀ t : Tr, 1 ≤ t.size
  | .go _ _ => Nat.le_refl 1
  | .tell _ t => by
    show 1 ≤ t.size + 1
    omega
  | .read _ ts => by
    show 1 ≤ ts.size + 1
    omega
def total (ts : List Tr) : Nat := (ts.map Tr.size).sum
theorem Trs.total : ∀ ts : Trs, TR.total ts.list = ts.size
  | .nil => rfl
  | .cons t r => by
    show t.size + TR.total r.list = t.size + r.size
    rw [Trs.total r]
theorem size_kids : ∀ t : Tr, t.size = TR.total t.kids + 1
  | .go _ _ => rfl
  | .tell _ t => rfl
  | .read _ ts => by
    show ts.size + 1 = TR.total ts.list + 1
    rw [Trs.total]
theorem Trs.ok_mem {l w n : Nat} : ∀ {ts : Trs}, ts.ok l w n → ∀ t ∈ ts.list, t.ok l w n
  | .nil, _, _, h => nomatch h
  | .cons t r, h, x, hx => by
    rcases List.mem_cons.mp hx with q | q
    · rw [q]
      exact h.1
    · exact Trs.ok_mem h.2 x q
theorem ok_kids {l w n : Nat} : ∀ {t : Tr}, t.ok l w n → ∀ x ∈ t.kids, x.ok l w n
  | .go _ _, _, _, h => nomatch h
  | .tell _ t, h, x, hx => by
    rw [List.mem_singleton.mp hx]
    exact h.2
  | .read _ ts, h, x, hx => Trs.ok_mem h.2.2 x hx
theorem Trs.depth_mem : ∀ {ts : Trs}, ∀ t ∈ ts.list, t.depth ≤ ts.depth
  | .nil, _, h => nomatch h
  | .cons t r, x, hx => by
    rcases List.mem_cons.mp hx with q | q
    · rw [q]
      exact Nat.le_max_left _ _
    · exact Nat.le_trans (Trs.depth_mem x q) (Nat.le_max_right _ _)
theorem depth_kids : ∀ {t : Tr}, ∀ x ∈ t.kids, x.depth + 1 ≤ t.depth
  | .go _ _, _, h => nomatch h
  | .tell _ t, x, hx => by
    rw [List.mem_singleton.mp hx]
    exact Nat.le_refl _
  | .read _ ts, x, hx => Nat.succ_le_succ (Trs.depth_mem x hx)
end TR

namespace GD
open PySem PySem.Spec PyProof.Rows L2
/-- a law's promise, where no text of an object is being made -/
structure Gd (P : Program) (w : World) (K : PySem.W.Frag) (mg : Str → Option Value) (base : Heap) (k : Nat) (f : Addr) (fd : FuncData) (ps : List Str) (sp : Sp) : Prop where
  run : ∀ (A : Around) (outer : List Env) (s : Shared) (H : Hp) (args : Args) (us : List Value) (vs : List V) (Q : VK) (E : XK), Room k A → A.guards = some [] → Env0 P w K mg base A outer s H → BindsTo s fd args (ps.zip us) → Vals vs us → sp vs H Q E →
    codeAny (model P w) A (.call (.ref f) args) (CR CX0 outer P w H s Q E) s
section
variable {P : Program} {w : World} {K : PySem.W.Frag} {mg : Str → Option Value} {base : Heap}
theorem deeper_guards {A : Around} {env : Env} (h : A.guards = some []) : (A.deeper env).guards = some [] := h
/-- the rule for a def, once more -/
theorem okG {x qual : Str} {st : Stmt} {f : Addr} {fd : FuncData} {N ps : List Str} {k : Nat} {sp : Sp} (F : Fun K x qual st f fd) (S : FnScope N ps (defScope st)) (len : ∀ vs H Q E, sp vs H Q E → vs.length = ps.length)
    (hbody : ∀ (cdv : Value) (A : Around) (outer : List Env) (s : Shared) (H : Hp) (vs : List V) (Q : VK) (E : XK), Room k (A.deeper (envOfC qual (defScope st) s.heap.objs.size f cdv)) → (A.deeper (envOfC qual (defScope st) s.heap.objs.size f cdv)).guards = some [] → sp vs H Q E →
      ∃ t, PSs (cxOf CX0 P w K mg base N qual (defScope st) f cdv A outer s H E).nox (defBody st) t ∧ t { nx := fun _ H' => Q .non H', rt := Q } (start N vs) H) : Gd P w K mg base (k + 1) f fd ps sp := by
  obtain ⟨oc, od, kV, doc, pm, an, cdv, ct, osl, rfl, lk, hcd⟩ := F.ex
  refine ⟨fun A outer s H args us vs Q E hr hg e0 hb r hsp => ?_⟩
  have kin : K.In s.heap := e0.mod.kin.keeps fun b o e => (e0.bs b o e).1
  have nolim : s.heap.NoLimit := e0.mod.nolimit.keeps fun b o e => (e0.bs b o e).1
  have names : ∀ y ∈ ps.zip us, (defScope st).names.lookup y.1 = some .local ∨ ((defScope st).names.lookup y.1 = some .cell ∧ ((cellsFrom (s.heap.objs.size + 1) (defScope st).names []).lookup y.1).isSome = true) := by
    rintro ⟨n, v⟩ hy
    rcases S.par n (List.of_mem_zip hy).1 with q | q
    · exact .inl q
    · exact .inr ⟨q, PySem.W.cellsFrom_some _ _ _ (.inl q)⟩
  refine codeAny_call_function hr.depth (kin _ _ lk) rfl S.co S.gen rfl (PySem.W.codeRec_of kin hcd) (hb _ _ _ _ (wpAny_newFunctionEnv_cells S.kind names fun env he s1 z => ?_))
  subst he
  refine ⟨nolim.keeps z.toInCall.keep, codeAny_func ?_⟩
  obtain ⟨t, ht, hq⟩ := hbody cdv A outer s H vs Q E (hr.deeper _) (deeper_guards hg) hsp
  have I := inv_start (CX := CX0) (E := E) S hr.hd e0 (len _ _ _ _ hsp) r z
  refine wpAny_mono (ht.nox.run [] s1 (start N vs) H _ I hq) (fun fl s' hs => ?_) fun e s' hs => hs
  cases fl with
  | ret u =>
    obtain ⟨v, σ', H', J, rv, q⟩ := hs
    exact ⟨v, H', J.os, J.bare, J.base, J.hok, rv, q⟩
  | next =>
    obtain ⟨σ', H', J, q⟩ := hs
    exact ⟨V.non, H', J.os, J.bare, J.base, J.hok, rfl, q⟩
  | brk =>
    obtain ⟨_, _, _, q⟩ := hs
    exact q.elim
  | cont =>
    obtain ⟨_, _, _, q⟩ := hs
    exact q.elim
end
/-! ### the end: the law's promise at the heap behind the top -/
/-- the script alone is known -/
def one (a : Addr) (vs : List Value) (ns : List Int) : Hp := fun b => if b = a then some (.frz { cls := .type "list", data := .seq vs.toArray } (.lst (ns.map V.int))) else none
theorem callG {P : Program} {w : World} {K : PySem.W.Frag} {mg mb : Str → Option Value} {k : Nat} {fa a : Addr} {fd : FuncData} {x : Str} {sp : Sp} {s : Shared} {vs : List Value} {ns : List Int}
    (kin : K.In s.heap) (hns : s.heap.Ns mainGlobals mg) (hb : s.heap.Ns builtinsNs mb) (hbb : ∀ x : Str, x ≠ "__name__" → mb x = bootBuiltins x) (nolim : s.heap.NoLimit) (gens : s.gens = #[])
    (ha : s.heap.get? a = some { cls := .type "list", data := .seq vs.toArray }) (hi : IntsAre vs ns) (hl : ns.length ≤ sizeLine) (room : Room k callerA)
    (F : ∀ base : Heap, K.In base → base.Ns mainGlobals mg → Gd P w K mg base k fa fd [x] sp) (binds : ∀ (s : Shared) (u : Value), BindsTo s fd ⟨[u], []⟩ [(x, u)])
    (hsp : ∀ H : Hp, SqL K H a (ns.map V.int) → sp [.ref a] H (fun v _ => v = .bl true) E0) :
    codeAny (model P w) callerA (.call (.ref fa) ⟨[.ref a], []⟩) (fun r s' => r = .ok (.ret (.bool true)) ∧ OldK s.heap s'.heap ∧ s'.os = s.os ∧ AllBare s'.gens) s := by
  have rv := vals_ints hi
  have step : ∀ H : Hp, (∀ b u, H b = some u → b = a ∧ K.lookup a = none ∧ ∃ o xs, u = .frz o (.lst xs)) → HOk P w H s.heap → SqL K H a (ns.map V.int) →
      codeAny (model P w) callerA (.call (.ref fa) ⟨[.ref a], []⟩) (fun r s' => r = .ok (.ret (.bool true)) ∧ OldK s.heap s'.heap ∧ s'.os = s.os ∧ AllBare s'.gens) s := by
    intro H only hok hS
    have free : ∀ {b : Addr}, b ≠ a → H b = none := fun {b} n => by
      cases e : H b with
      | none => rfl
      | some u => exact absurd (only b u e).1 n
    have stays : ∀ {b : Addr} {m : Str → Option Value}, s.heap.Ns b m → (hidT s.heap H).Ns b m := fun {b m} ⟨o, es, ep, e, d, r⟩ => by
      refine ⟨o, es, ep, hidT_get e (free fun z => ?_), d, r⟩
      rw [z, ha] at e
      cases e
      cases (show Data.seq vs.toArray _ = Data.dict es ep from d)
    have kinB : K.In (hidT s.heap H) := fun b o e => hidT_get (kin b o e) (by
      cases q : H b with
      | none => rfl
      | some u =>
        obtain ⟨h1, h2, _⟩ := only b u q
        rw [h1, h2] at e
        cases e)
    have e0 : Env0 P w K mg (hidT s.heap H) callerA [] s H :=
      ⟨rfl, ⟨kinB, stays hns, ⟨mb, stays hb, hbb⟩, let ⟨mc, h1, h2⟩ := nolim; ⟨mc, stays h1, h2⟩⟩, fun b o e => of_hidT e, Nat.le_of_eq (hidT_size _ _), trivial, fun b hb => (nomatch (show b ∈ ([] : List Addr) from hb)), hok, .of_eq gens⟩
    refine codeAny_mono ((F _ kinB (stays hns)).run callerA [] s H ⟨[.ref a], []⟩ [.ref a] [.ref a] _ E0 room rfl e0 (binds s (.ref a)) (.cons rfl .nil) (hsp H hS)) fun r s' h => ?_
    cases r with
    | error e => exact h.elim
    | ok fl =>
      cases fl with
      | ret u =>
        obtain ⟨v, H', os, bare, un, hok', r', q⟩ := h
        obtain rfl : v = .bl true := q
        obtain rfl : u = Value.bool true := r'
        refine ⟨rfl, OldK.of_keep fun b o e => ?_, os, bare⟩
        cases q : H b with
        | none => exact un.keep b o e q (by intro z; exact (nomatch (show b ∈ ([] : List Addr) from z))) (by simp)
        | some u =>
          obtain ⟨_, _, ob, xs, rfl⟩ := only b u q
          obtain ⟨e1, _⟩ := hok b _ q
          obtain ⟨e2, _⟩ := hok' b _ (un.frzs b ob _ q)
          rw [e] at e1
          cases e1
          exact e2
      | next => exact h.elim
      | brk => exact h.elim
      | cont => exact h.elim
  cases hk : K.lookup a with
  | some o =>
    have e := kin a o hk
    rw [ha] at e
    cases e
    refine step (fun _ => none) (fun b u z => by cases z) (fun b u z => by cases z) (.inr ⟨_, vs.toArray, _, hk, rfl, rfl, rfl, ?_, by simpa using rv⟩)
    rw [List.size_toArray, hi.length]
    exact hl
  | none =>
    refine step (one a vs ns) (fun b u z => ?_) (fun b u z => ?_) (.inl (.inr ⟨_, if_pos rfl⟩))
    · unfold one at z
      by_cases q : b = a
      · rw [if_pos q] at z
        cases z
        exact ⟨q, hk, _, _, rfl⟩
      · rw [if_neg q] at z
        cases z
    · unfold one at z
      by_cases q : b = a
      · rw [if_pos q] at z
        cases z
        subst q
        exact ⟨ha, by rw [List.length_map]; exact hl, vs, _, rv, ha⟩
      · rw [if_neg q] at z
        cases z
theorem walkG {l : PySem.W.OpenLaw} {n k : Nat} {q : Program} {loose : List Str} {XP : (Str → Option Value) → Heap → Prop} {YP : World → Heap → Prop} {d : DefRec} {K : Params → PySem.W.Frag} {sp : World → Sp} {x : Str}
    (hn : l.most = some n) (hn2 : n ≤ sizeLine) (hdf : d.params.defaults = []) (hr : Room k callerA) (hY : ∀ (w : World) (h : Heap), YP w h → (K w.params).In h)
    (F : ∀ (w : World) (mg : Str → Option Value) (fa : Addr) (h : Heap), (K w.params).In h → h.Ns mainGlobals mg → mg d.name = some (.ref fa) →
      ∃ fd : FuncData, (∀ (s : Shared) (u : Value), BindsTo s fd ⟨[u], []⟩ [(x, u)]) ∧ ∀ base : Heap, (K w.params).In base → base.Ns mainGlobals mg → Gd l.prog w (K w.params) mg base k fa fd [x] (sp w))
    (hsp : ∀ (w : World) (H : Hp) (a : Addr) (ns : List Int), ns.length ≤ n → SqL (K w.params) H a (ns.map V.int) → sp w [.ref a] H (fun v _ => v = .bl true) E0) :
    PySem.W.WalkO q loose XP YP l.row.toRowW d [] (fun f vs => PySem.call f vs) := by
  refine Att.attach_call hn hdf fun w s₀ s₁ mg mb fa o pm cd doc a vs ns G Y ho hd hcd hmg hobj hints hlen hg => ?_
  have kin := hY w _ Y
  obtain ⟨fd, hb, hF⟩ := F w mg fa _ kin G.T.g hmg
  exact callG kin G.T.g G.T.b G.T.builtins G.T.nolimit hg hobj hints (Nat.le_trans hlen hn2) hr hF hb fun H hS => hsp w H a ns hlen hS
end GD

/-! repr of data with dicts that are empty: only the dicts must stand apart from the modules' table -/
namespace DX
open PySem PySem.Spec PyProof.Rows L2
mutual
/-- v is the data d; a dict is an empty one -/
inductive DE (K : PySem.W.Frag) (H : Hp) : V → PyData → Prop
  | non : DE K H .non .none
  | bl (b : Bool) : DE K H (.bl b) (.bool b)
  | int (i : Int) : DE K H (.int i) (.int i)
  | str (x : Str) : DE K H (.str x) (.str x)
  | lst {a : Addr} {xs : List V} {ds : List PyData} : SqL K H a xs → DEs K H xs ds → DE K H (.ref a) (.list ds)
  | tup {a : Addr} {xs : List V} {ds : List PyData} : SqT K H a xs → DEs K H xs ds → DE K H (.ref a) (.tuple ds)
  | emp {a : Addr} : H a = some (.dK []) → DE K H (.ref a) (.dict [])
inductive DEs (K : PySem.W.Frag) (H : Hp) : List V → List PyData → Prop
  | nil : DEs K H [] []
  | cons {v : V} {vs : List V} {d : PyData} {ds : List PyData} : DE K H v d → DEs K H vs ds → DEs K H (v :: vs) (d :: ds)
end
section
variable {X : Cx} {pins : List (Addr × Obj)} {σ : L2.St} {H : Hp} {s : Shared}
theorem emp_at (I : Inv X pins σ H s) {a : Addr} (h : H a = some (.dK [])) : (a == sysModules) = false ∧ ∃ o n, s.heap.get? a = some o ∧ o.cls = .type "dict" ∧ o.data = .dict #[] n := by
  obtain ⟨_, h1, vs, kv, o, es, ep, g, ed, dd, k1, k2, _⟩ := dk_of I.hok h
  cases kv
  have e : es = #[] := by
    cases es with
    | mk l =>
      cases l with
      | nil => rfl
      | cons x r => cases k2
  subst e
  exact ⟨h1, o, ep, g, ed.1, dd⟩
/-- how v is read and shown -/
structure Sh (prog : Program) (w : World) (h : Heap) (u : Value) (d : PyData) : Prop where
  r : ∃ as, Reads h u d as
  k : ∃ bs, ReadAtMost h d.depth bs ∧ ReprK prog w bs h d.depth u d.shown
structure Shs (prog : Program) (w : World) (h : Heap) (us : List Value) (ds : List PyData) : Prop where
  r : ∃ as, ReadsAll h us ds as
  k : ∃ bs, ReadAtMost h (PyData.depthAll ds) bs ∧ ReprAllK prog w bs h (PyData.depthAll ds) us (PyData.shownAll ds)
theorem mem_l {t : Str} {ts : List Str} (h : t ∈ ts) : t.length ≤ (listText ts).length := by
  have z := PySem.listText_mem_le h
  exact z
mutual
theorem DE.sh (I : Inv X pins σ H s) : ∀ (d : PyData) (v : V) (u : Value), DE X.K H v d → RelV v u → d.showable = true → d.shown.length ≤ sizeLine → Sh X.prog X.w s.heap u d
  | .none, _, _, h, r, _, _ => by
    cases h
    cases r
    exact ⟨⟨_, Reads.none⟩, [], (fun _ h => nomatch h), by simp only [PyData.shown]; exact .of_is ReprIs.none _ _ _⟩
  | .bool b, _, _, h, r, _, _ => by
    cases h
    cases r
    exact ⟨⟨_, Reads.bool b⟩, [], (fun _ h => nomatch h), by simp only [PyData.shown]; exact .of_is (ReprIs.bool b) _ _ _⟩
  | .int i, _, _, h, r, hs, _ => by
    cases h
    obtain ⟨t, rfl⟩ := r
    exact ⟨⟨_, Reads.int i t⟩, [], (fun _ h => nomatch h), by simp only [PyData.shown]; exact .of_is (ReprIs.int t (by simpa [PyData.showable] using hs)) _ _ _⟩
  | .str x, _, _, h, r, _, hz => by
    cases h
    obtain ⟨t, rfl⟩ := r
    exact ⟨⟨_, Reads.str x t⟩, [], (fun _ h => nomatch h), by simp only [PyData.shown]; exact .of_is (ReprIs.str x t (by simpa only [PyData.shown] using hz)) _ _ _⟩
  | .list ds, _, _, h, r, hs, hz => by
    cases h with
    | lst hq ha =>
      cases r
      obtain ⟨its, rv, ⟨o, n, ho, hc, _, hd⟩, _⟩ := I.list hq
      have hz2 : (listText (PyData.shownAll ds)).length ≤ sizeLine := by simpa only [PyData.shown] using hz
      obtain ⟨⟨as, hr⟩, bs, hb, hk⟩ := DEs.sh I ds _ its ha rv (by simpa [PyData.showable] using hs) fun t ht => Nat.le_trans (listText_mem_le ht) hz2
      have r2 : Reads s.heap _ (.list ds) _ := Reads.list ho hc hd hr
      refine ⟨⟨_, r2⟩, _ :: bs, ReadAtMost.cons r2 (by simp only [PyData.depth]; omega) hb, ?_⟩
      have hna := not_mem_of_deeper r2 (show PyData.depthAll ds < _ by simp only [PyData.depth]; omega) hb
      simp only [PyData.depth, PyData.shown]
      cases its with
      | nil =>
        cases rv
        cases ha
        simp only [PyData.shownAll, listText_nil]
        exact ReprK.listEmpty ho hc hd
      | cons x l => exact ReprK.list ho hc hd hna (by simpa using hk.length_eq) (fun i y e => hk.item i y (by simpa using e))
  | .tuple ds, _, _, h, r, hs, hz => by
    cases h with
    | tup hq ha =>
      cases r
      obtain ⟨its, rv, ⟨o, ho, hc, n, hd⟩, _⟩ := I.tuple hq
      have hz2 : (tupleText (PyData.shownAll ds)).length ≤ sizeLine := by simpa only [PyData.shown] using hz
      obtain ⟨⟨as, hr⟩, bs, hb, hk⟩ := DEs.sh I ds _ its ha rv (by simpa [PyData.showable] using hs) fun t ht => Nat.le_trans (tupleText_mem_le ht) hz2
      have r2 : Reads s.heap _ (.tuple ds) _ := Reads.tuple ho hc hd hr
      refine ⟨⟨_, r2⟩, _ :: bs, ReadAtMost.cons r2 (by simp only [PyData.depth]; omega) hb, ?_⟩
      have hna := not_mem_of_deeper r2 (show PyData.depthAll ds < _ by simp only [PyData.depth]; omega) hb
      simp only [PyData.depth, PyData.shown]
      exact ReprK.tuple ho hc hd hna hk
  | .dict kvs, _, _, h, r, hs, hz => by
    cases h with
    | emp hq =>
      cases r
      obtain ⟨hy, o, n, ho, hc, hd⟩ := emp_at I hq
      have r2 : Reads s.heap _ (.dict []) _ := Reads.dict ho hc hd ReadsAll.nil ReadsAll.nil
      refine ⟨⟨_, r2⟩, [_], ReadAtMost.cons r2 (Nat.le_refl _) (fun _ h => nomatch h), ?_⟩
      simp only [PyData.depth, PyData.shown, PyData.shownKv_eq]
      exact ReprK.dict ho hc hd hy (fun h => nomatch h) (ReprEntriesK.of_two [] _ _ .nil .nil)
theorem DEs.sh (I : Inv X pins σ H s) : ∀ (ds : List PyData) (vs : List V) (us : List Value), DEs X.K H vs ds → Vals vs us → PyData.showableAll ds = true → (∀ t ∈ PyData.shownAll ds, t.length ≤ sizeLine) → Shs X.prog X.w s.heap us ds
  | [], _, _, h, r, _, _ => by
    cases h
    cases r
    exact ⟨⟨_, ReadsAll.nil⟩, [], (fun _ h => nomatch h), by simp only [PyData.shownAll]; exact .nil⟩
  | d :: ds, _, _, h, r, hs, hz => by
    cases h with
    | cons h1 h2 =>
      cases r with
      | cons r1 r2 =>
        have hs2 : d.showable = true ∧ PyData.showableAll ds = true := by simpa [PyData.showableAll] using hs
        obtain ⟨⟨as, q1⟩, b1, hb1, k1⟩ := DE.sh I d _ _ h1 r1 hs2.1 (hz _ (by simp only [PyData.shownAll]; exact List.mem_cons_self ..))
        obtain ⟨⟨bs, q2⟩, b2, hb2, k2⟩ := DEs.sh I ds _ _ h2 r2 hs2.2 fun t ht => hz t (by simp only [PyData.shownAll]; exact List.mem_cons_of_mem _ ht)
        refine ⟨⟨_, ReadsAll.cons q1 q2⟩, b1 ++ b2, fun b hm => ?_, ?_⟩
        · simp only [PyData.depthAll]
          rcases List.mem_append.mp hm with hm | hm
          · obtain ⟨e, ys, y1, y2⟩ := hb1 b hm
            exact ⟨e, ys, y1, Nat.le_trans y2 (Nat.le_max_left _ _)⟩
          · obtain ⟨e, ys, y1, y2⟩ := hb2 b hm
            exact ⟨e, ys, y1, Nat.le_trans y2 (Nat.le_max_right _ _)⟩
        · simp only [PyData.depthAll, PyData.shownAll]
          exact .cons ((k1.more fun b hb => List.mem_append_left _ hb).level_le (Nat.le_max_left _ _)) (k2.more_le (fun b hb => List.mem_append_right _ hb) (Nat.le_max_right _ _))
end
/-- repr of data at an address, where no text is being made -/
structure RX (K : PySem.W.Frag) (xs : List V) (H : Hp) (Q : VK) : Prop where
  ex : ∃ a d, xs = [.ref a] ∧ DE K H (.ref a) d ∧ d.showable = true ∧ d.depth ≤ 64 ∧ d.shown.length ≤ sizeLine ∧ Q (.str d.shown) H
abbrev rRx (K : PySem.W.Frag) : List V → Hp → VK → Prop := fun xs H Q => RX K xs H Q
theorem call_reprX {X : Cx} (hg : X.A.guards = some []) (hu : X.A.units + 70 < cLine) : CallR X (.builtin "repr") (rRx X.K) := by
  intro pins s σ H xs us Q I r h
  obtain ⟨a, d, rfl, hd, h1, h3, h4, q⟩ := h.ex
  obtain ⟨u, rfl, ru⟩ := vals1 r
  have fin : ∀ h' u' tk, (∀ b o, s.heap.get? b = some o → h'.get? b = some o) → EP X pins σ Q (.str d.shown u') { s with heap := h', toks := tk } := fun h' u' tk hk => ⟨.str d.shown, H, I.kept hk, ⟨u', rfl⟩, q⟩
  have un : X.A.units + 1 < cLine := by omega
  cases hd with
  | lst hq ha =>
    rename_i xs ds
    cases ru
    obtain ⟨its, rv, ⟨o, n, ho, hc, _, hd⟩, _⟩ := I.list hq
    have hz2 : (listText (PyData.shownAll ds)).length ≤ sizeLine := by simpa only [PyData.shown] using h4
    obtain ⟨⟨as, hr⟩, bs, hb, hk⟩ := DEs.sh I ds _ its ha rv (by simpa [PyData.showable] using h1) fun t ht => Nat.le_trans (listText_mem_le ht) hz2
    have r2 : Reads s.heap (.ref a) (.list ds) _ := Reads.list ho hc hd hr
    have hna := not_mem_of_deeper r2 (show PyData.depthAll ds < _ by simp only [PyData.depth]; omega) hb
    simp only [PyData.depth] at h3
    simp only [PyData.shown] at fin
    refine call_repr_slot un ⟨o, ho, hc⟩ F.slot_list_repr.toG ?_
    cases its with
    | nil =>
      cases rv
      cases ha
      simp only [PyData.shownAll, listText_nil] at fin
      exact call_list_repr_empty ⟨o, ho, hc⟩ ho hd ⟨_, _, rfl, fin s.heap _ _ fun _ _ e => e⟩
    | cons x l => exact call_list_reprK ho hc hd hna (by simpa using hk.length_eq) (fun i y e => hk.item i y (by simpa using e)) hg (fun b _ => Clear.nil b) (by show X.A.units + 1 + _ < cLine; omega) (fun _ _ e => e) (fun h' u' tk hk' => ⟨_, _, rfl, fin h' u' tk hk'⟩) hz2
  | tup hq ha =>
    rename_i xs ds
    cases ru
    obtain ⟨its, rv, ⟨o, ho, hc, n, hd⟩, _⟩ := I.tuple hq
    have hz2 : (tupleText (PyData.shownAll ds)).length ≤ sizeLine := by simpa only [PyData.shown] using h4
    obtain ⟨⟨as, hr⟩, bs, hb, hk⟩ := DEs.sh I ds _ its ha rv (by simpa [PyData.showable] using h1) fun t ht => Nat.le_trans (tupleText_mem_le ht) hz2
    have r2 : Reads s.heap (.ref a) (.tuple ds) _ := Reads.tuple ho hc hd hr
    have hna := not_mem_of_deeper r2 (show PyData.depthAll ds < _ by simp only [PyData.depth]; omega) hb
    simp only [PyData.depth] at h3
    simp only [PyData.shown] at fin
    refine call_repr_slot un ⟨o, ho, hc⟩ F.slot_tuple_repr ?_
    exact call_tuple_reprK ho hc hd hna hk hg (fun b _ => Clear.nil b) (by show X.A.units + 1 + _ < cLine; omega) (fun _ _ e => e) (fun h' u' tk hk' => ⟨_, _, rfl, fin h' u' tk hk'⟩) hz2
  | emp hq =>
    cases ru
    obtain ⟨hy, o, n, ho, hc, hd⟩ := emp_at I hq
    simp only [PyData.shown, PyData.shownKv_eq] at fin
    refine call_repr_slot un ⟨o, ho, hc⟩ F.slot_dict_repr ?_
    exact call_dict_reprK (d := 0) (as := []) ho hc hd hy (fun h => nomatch h) (ReprEntriesK.of_two [] _ _ .nil .nil) hg (fun b _ => Clear.nil b) (by show X.A.units + 1 + _ < cLine; omega) (fun _ _ e => e) (fun h' u' tk hk' => ⟨_, _, rfl, fin h' u' tk hk'⟩)
end
end DX

/-! own errors over an own base whose __init__ they call; several except clauses with a name -/
namespace EK
open PySem PySem.Spec PyProof.Rows L2
section
variable {X : Cx} {C0 : Addr} {x : Str} {e : Expr} {es : List Expr} {ta : TA} {p1 p2 pos : Pos}
/-- B.__init__(self, ..), B an own class over ValueError without an __init__ of its own -/
theorem pe_skinit {pl : Sem Bool} (hg : Gl X x) (hm : X.mg x = some (.ref C0)) (r : ClX.CRead X.K C0 (.type "type")) (k : PySem.W.findCls X.K (.ref C0) (.type "type") "__init__" = some (.val (.builtin "ValueError.__init__"))) (ha : PA X (e :: es) ta)
    (hc : eval (.Call (.Attribute (.Name x p1) "__init__" p2) (e :: es) [] pos) X.env = (do
      let ov ← eval (.Name x p1) X.env
      standAt p2.atName
      let (f, first) ← holding [ov] (getMethod ov "__init__" pl)
      callWith pos f first (backTo pos (starEach (e :: es) X.env)) (backToKw pos (keywordEach [] X.env))) := by rfl)
    (hdb : (x == ("__debug__" : Str)) = false := by decide)
    (he : starEach (e :: es) X.env = (false, eval e X.env) :: starEach es X.env := by rfl) (hpl : (backTo pos (starEach es X.env)).any (·.1) = false := by rfl) :
    PE X (.Call (.Attribute (.Name x p1) "__init__" p2) (e :: es) [] pos) (tVeI X.K ta) := by
  refine ⟨fun pins s σ H Q I h => ?_⟩
  refine PySem.W.methodCall_KW (ld_glob I hg hm ?_ hdb) hc
  refine PySem.W.method_cls I.kIn r.ga (PySem.W.cls_value I.kIn r.rd k rfl ?_)
  show wpAny _ _ (callWith pos (Value.builtin "ValueError.__init__") [] (backTo pos (starEach (e :: es) X.env)) []) _ _ _
  refine PyProof.Rows.callWith_method1 (thn (ha.run pos pins _ σ H _ (I.tok _) h) fun us s1 ⟨vs, H1, I1, r1, a, C, ws, ev, hl, T, ea, q⟩ => ?_) he hpl
  subst ev
  cases r1 with
  | @cons _ u0 _ ur ra rw' =>
    obtain rfl : u0 = Value.ref a := ra
    have hlen : ur.length ≤ sizeLine := by
      rw [← Paired.length rw', sizeLine_eq]
      omega
    exact oinit_ok T I1 ea hlen fun s' J => ⟨.non, H1, J, rfl, q⟩
end
end EK
/-! ### isinstance of a caught error that has its dict -/
namespace PySem.W
open PySem PySem.Spec PySem.Calls PyProof.Rows
section
variable {prog : Program} {w : World} {A : Around} {E : Value → Shared → Prop} {s : Shared} {K : Frag} {x D : Addr} {ox : Obj} {od : Option Obj}
theorem ek_findObj {C : Addr} {name : Str} {a g : Value} (hc : (clsIn K C).isSome = true) (ha : findIn K (.ref C) name = some (some a)) (hg : specialIn K a "__get__" = some (some g)) (ht : takesIn K a = some true) : findObj K C od name = some (.bind g a) := by
  obtain ⟨cd, hc⟩ := Option.isSome_iff_exists.mp hc
  unfold findObj
  rw [hc, Option.bind_some, ha, Option.bind_some]
  simp [hg, ht]
theorem ek_kin_class {Q : Option Value → Shared → Prop} (hga : findIn K (.ref D) "__getattribute__" = some (some (.builtin "BaseException.__getattribute__"))) (hgt : findIn K (.ref D) "__getattr__" = some none) (hsub : subIn K (.ref D) (.type "BaseException") = some true)
    (hdct : hasDictIn K D = true) (ha : findIn K (.ref D) "__class__" = some (some (.builtin "object.__class__")))
    (hn : specialIn K (.builtin "object.__class__") "__get__" = some (some (.builtin "getset_descriptor.__get__"))) (htk : takesIn K (.builtin "object.__class__") = some true) (hm : mroIn K D (.type "object") = some true)
    (X : K.In s.heap) (I : InstAt s.heap x ox D od) (h : Q (some (.ref D)) { s with toks := s.toks + 1 }) : wpAny (model prog w) A (getAttr? (.ref x) "__class__") Q E s := by
  have hf : findObj K D od "__class__" = some (.bind (.builtin "getset_descriptor.__get__") (.builtin "object.__class__")) := ek_findObj (by obtain ⟨cd, hc, _⟩ := any_some hdct; rw [hc]; rfl) ha hn htk
  obtain ⟨hp, g, d, t, os⟩ := s
  have L0 := I.type (M := model prog w)
  have L1 := looks_findIn (M := model prog w) X hga
  have L2 := looks_findIn (M := model prog w) X hgt
  have L3 := looks_find (M := model prog w) X I hf
  have sub : Looks (model prog w) hp (isInstance (.ref x) (.type "BaseException")) true := L0.andThen (looks_subIn X hsub)
  have hx0 : (false && onTheHeap (Value.builtin "BaseException.__getattribute__")) = false := rfl
  have hx2 : (Value.builtin "BaseException.__getattribute__" == Value.builtin "object.__getattribute__") = false := by decide +kernel
  have hx1 : (onTheHeap (Value.ref D) && Value.builtin "BaseException.__getattribute__" == Value.builtin "object.__getattribute__") = false := by rw [hx2]; rfl
  unfold getAttr? getAttrBy? getAttrBy
  refine wpAny_bind (wpAny_mkText (wpAny_bind (wpAny_attempt (wpAny_holding (wpAny_bind (L0.at (wpAny_bind (L1.at ?_))))))))
  show wpAny _ _ (if (onTheHeap (Value.ref D) && Value.builtin "BaseException.__getattribute__" == Value.builtin "object.__getattribute__") = true then _ else _) _ _ _
  rw [hx1, if_neg Bool.false_ne_true]
  unfold getAttrByItsOwn hookBefore
  refine wpAny_bind ?_
  rw [if_pos (show onTheHeap (Value.ref D) = true from rfl)]
  refine L2.at ?_
  refine wpAny_bind (wpAny_attempt (wpAny_holding ?_))
  unfold callGetattribute
  rw [hx0, if_neg Bool.false_ne_true]
  unfold boundAndCalled
  rw [PySem.F.excAttr_ValueError.ga.bind (.ref x)]
  refine wpAny_bind (wpAny_pure ?_)
  show wpAny _ _ (call (.builtin "BaseException.__getattribute__") [.ref x, .str "__class__" t]) _ _ _
  refine wpAny_call (codeAny_call_builtin PySem.F.excAttr_ValueError.ga.plain PySem.F.entry_bexc_ga ?_)
  refine @check_slot (model prog w) _ _ ⟨hp, g, d, t + 1, os⟩ "BaseException.__getattribute__" "BaseException" "__getattribute__" (.ref x) [.str "__class__" t] [] _ (by decide +kernel) (by decide +kernel) sub (PySem.F.args_bexc_ga (.ref x) (.str "__class__" t)) ?_
  unfold Builtin.«object.__getattribute__»
  refine wpAny_bind (wpAny_of_eq (a := ((Value.ref x : Value), [Value.str "__class__" t])) (by first | rfl | (simp only [slotArgs]; rfl)) ?_)
  refine wpAny_bind (wpAny_pure (wpAny_bind (L0.at (wpAny_bind (L3.at ?_)))))
  show wpAny _ _ (holding [Value.builtin "object.__class__"] (call (.builtin "getset_descriptor.__get__") [.builtin "object.__class__", .ref x, .ref D]) >>= ret) _ _ _
  refine wpAny_bind (wpAny_holding (wpAny_call (class_get (s := ⟨hp, g, d, t + 1, os⟩) (ox := ox) (od := od) X I hm ?_)))
  refine wpAny_pure ?_
  show wpAny _ _ (handedOut (.ref D)) _ _ _
  rw [handedOut_of (v := .ref D) rfl]
  first
    | exact wpAny_pure (wpAny_pure h)
    | exact wpAny_pure h
    | exact wpAny_pure (wpAny_bind (wpAny_pure (wpAny_pure h)))
theorem ek_kitx (hga : findIn K (.ref D) "__getattribute__" = some (some (.builtin "BaseException.__getattribute__"))) (hgt : findIn K (.ref D) "__getattr__" = some none) (hsub : subIn K (.ref D) (.type "BaseException") = some true) (hdct : hasDictIn K D = true) (ha : findIn K (.ref D) "__class__" = some (some (.builtin "object.__class__")))
    (hn : specialIn K (.builtin "object.__class__") "__get__" = some (some (.builtin "getset_descriptor.__get__"))) (htk : takesIn K (.builtin "object.__class__") = some true) (hm : mroIn K D (.type "object") = some true) :
    KitX K (.ref x) (.ref D) (fun h => InstAt h x ox D od) where
  ty := fun _ _ _ I => I.type
  it := fun _ _ X _ => by
    obtain ⟨cdD, hcD, _⟩ := any_some hdct
    unfold clsIn at hcD
    split at hcD
    · rename_i c' d' cd' sl' ho
      intro A' Q' E' s' k q
      unfold isType loadHead
      exact wpAny_bind (wpAny_loadPart (k _ _ (X _ _ ho)) (wpAny_pure q))
    · cases hcD
  ne := fun h tp dd its n sl X htp => by
    obtain ⟨cdD, hcD, _⟩ := any_some hdct
    refine Bool.eq_false_iff.mpr fun q => ?_
    have e : D = tp := Value.ref.inj (beq_iff_eq.mp q)
    subst e
    unfold clsIn at hcD
    split at hcD
    · rename_i c' d' cd' sl' ho
      have z := (X _ _ ho).symm.trans htp
      cases z
    · cases hcD
  ca := fun X I k => ek_kin_class hga hgt hsub hdct ha hn htk hm X I k
end
end PySem.W
namespace EK
open PySem PySem.Spec PyProof.Rows L2
/-- isinstance(e, c), e the exception that the suite holds: its class D, its dict at d -/
def rIsE (K : PySem.W.Frag) (cls : Value) (d : Option Addr) (D a : Addr) : List V → Hp → VK → Prop := fun xs H Q => ∃ (c : V) (cv : Value) (b : Bool), xs = [.ref a, c] ∧ cls = .ref D ∧ (∃ dd fs, d = some dd ∧ H dd = some (.xd fs)) ∧ ClsV c cv ∧ PySem.W.kitOne K (.ref D) cv = some b ∧ Q (.bl b) H
theorem call_isE {X : Cx} {a D : Addr} {cls : Value} {d : Option Addr} {oe : Obj} {pn : List (Addr × Obj)} (C : ExcC X.K D) (hz : Zc cls d oe) (hf : ∃ vs, oe.data = .fields vs) : CallR (X.suite a ((a, oe) :: pn)) (.builtin "isinstance") (rIsE X.K cls d D a) := by
  intro pins s σ H xs us Q I r h
  obtain ⟨c, cv, b, rfl, ec, ⟨dd, fs, ed, hd⟩, k, e, q⟩ := h
  obtain ⟨u1, u2, rfl, r1, r2⟩ := vals2 r
  cases r1
  have e2 := k.eq r2
  subst e2 ec ed
  obtain ⟨hget, _⟩ := I.pin (a, oe) (List.mem_append.mpr (.inl List.mem_cons_self))
  obtain ⟨vs, hv⟩ := hf
  have hx : ObjOk X.prog X.w H s.heap dd (.xd fs) := I.hok dd _ hd
  obtain ⟨mA, hns, _⟩ := hx
  obtain ⟨od, ho, _⟩ := lookIn_ns hns
  have J : PySem.W.InstAt s.heap a oe D (some od) := ⟨hget, hz.1, by unfold PySem.W.notCls; rw [hv] <;> rfl, by rw [hz.2]; exact ho⟩
  exact PySem.W.kia_one (PySem.W.ek_kitx C.hg C.hk C.hs C.hd C.ha C.hn C.ht C.hm) I.kIn J e (fun z => nomatch z) fun tk => ⟨.bl b, H, I.kept (t' := tk) fun _ _ z => z, rfl, q⟩
/-! ### several except clauses, all with one name -/
def endsN (D : Ends) (i : Nat) : Ends := { nx := fun σ' H' => D.nx (σ'.set i none) H', rt := D.rt, bk := fun σ' H' => D.bk (σ'.set i none) H', ct := fun σ' H' => D.ct (σ'.set i none) H' }
def wManyN (K : PySem.W.Frag) (Wout : WX) (D : Ends) (i : Nat) : List (Value × (Addr → Value → Option Addr → TS)) → WX
  | [] => Wout
  | (c, ts) :: r => fun cls d σ H => ∃ b, PySem.W.exmOne K cls c = some b ∧ (b = true → ∀ a, H a = none → ts a cls d (endsN D i) (σ.set i (some (.ref a))) H) ∧ (b = false → wManyN K Wout D i r cls d σ H)
inductive HdsN (X : Cx) (n : Str) : List ExceptHandler → List (Value × (Addr → Value → Option Addr → TS)) → Prop
  | nil : HdsN X n [] []
  | cons {x : Str} {c : Value} {ts : Addr → Value → Option Addr → TS} {b₀ : Stmt} {suite : List Stmt} {np pos' : Pos} {hds : List ExceptHandler} {l : List (Value × (Addr → Value → Option Addr → TS))} (hc : Names X x c)
      (hsu : ∀ (a : Addr) (oe : Obj) (cls : Value) (d : Option Addr) (pn : List (Addr × Obj)), Zc cls d oe → (∃ vs, oe.data = .fields vs) → PSs (X.suite a ((a, oe) :: pn)) (b₀ :: suite) (ts a cls d)) (r : HdsN X n hds l) :
      HdsN X n (.ExceptHandler (some (.Name x np)) (some n) (b₀ :: suite) pos' :: hds) ((c, ts) :: l)
section
variable {X : Cx} {n : Str} {i : Nat} {body : List Stmt} {h₀ : ExceptHandler} {hds : List ExceptHandler} {l : List (Value × (Addr → Value → Option Addr → TS))} {pos : Pos} {tb : WX → TS} {Wout : WX}
theorem ps_tryN (hs : X.stack = X.env :: X.outer) (hf : X.env.frame = some X.env.locals) (hN : X.N.Nodup) (hi : X.N[i]? = some n) (hln : X.env.kindOf n = some .local) (tk : Takes X Wout)
    (hb : ∀ (W : WX) (pn : List (Addr × Obj)) (xe : Value → Shared → Prop), Takes (X.tr pn xe) W → PassesOwn (model X.prog X.w) X.A X.env xe → PSs (X.tr pn xe) body (tb W))
    (hh : HdsN X n (h₀ :: hds) l) : PS X (.Try body (h₀ :: hds) [] [] pos) (fun D σ H => tb (wManyN X.K Wout D i l) D σ H) := by
  refine ⟨fun pins s σ H D I h => ?_⟩
  have ok := I.ok
  have hfr : X.A.frames = some (X.env :: X.outer) := by rw [ok.frames, hs]
  have hloc : Loc X.env.scope n := .inl hln
  refine wpAny_Try_except ?_
  refine wpAny_mono ((hb (wManyN X.K Wout D i l) (X.pn ++ pins) (fun e s₁ => wpAny (model X.prog X.w) X.A (noteFrame e X.env) (fun _ s₂ => wpAny (model X.prog X.w) X.A (setFlight e none) (fun _ s₃ =>
    wpAny (model X.prog X.w) X.A (handleBy e X.env (h₀ :: hds)) (SP X pins D) X.xe s₃) X.xe s₂) X.xe s₁) (fun u s' xx => ?_) PassesOwn.looking).run [] s σ H D (I.toTry _) h) (fun f s1 hsp => ?_) (fun e s1 he => he)
  · -- the catch
    obtain ⟨a, B, sI, pins', σ', H', cls, d, rfl, J', nb, up, sky, na, os, ag, w⟩ := xx
    have J : Inv X pins σ' H' sI := J'.ofTry ok
    have sky' : Sky B (X.env :: X.outer) a (Zc cls d) X.env.locals s'.heap := by rw [← hs]; exact sky
    show wpAny (model X.prog X.w) X.A (noteFrame (.ref a) X.env) _ _ _
    refine Sky.land Zc.steady hfr hf sky' fun h3 fl3 up3 => ?_
    have J3 : Inv X pins σ' H' { s' with heap := h3 } := J.landed nb fl3.1 (up.trans up3) os ag
    obtain ⟨oe3, vs3, he3, hz3, hd3⟩ := fl3.there
    have notFr : ∀ {h : Heap} {o : Obj} {vs : Array Value}, h.FunFrames B (X.env :: X.outer) → h.get? a = some o → o.data = .fields vs → a ∉ frs (X.env :: X.outer) := fun {h o vs} ff e dd hm => by
      obtain ⟨_, o', e', hnf⟩ := ff.mem hm
      rw [e] at e'; cases e'
      exact hnf _ dd
    have nfr := notFr fl3.2.2.1 he3 hd3
    have nL : a ≠ X.env.locals := fun z => nfr (List.mem_filterMap.mpr ⟨X.env, List.mem_cons_self, by rw [hf, z]⟩)
    have nF : a ∉ X.fs := fun hm => by
      obtain ⟨e, he, q⟩ := List.mem_filterMap.mp hm
      exact nfr (List.mem_filterMap.mpr ⟨e, List.mem_cons_of_mem _ he, q⟩)
    have S3 := J3.suite he3 hd3 na nL nF
    have go : ∀ {hds' : List ExceptHandler} {l' : List (Value × (Addr → Value → Option Addr → TS))}, HdsN X n hds' l' → wManyN X.K Wout D i l' cls d σ' H' →
        wpAny (model X.prog X.w) X.A (handleBy (.ref a) X.env hds') (SP X pins D) X.xe { s' with heap := h3 } := by
      intro hds' l' hk
      induction hk with
      | nil =>
        intro w
        refine wpAny_handleBy_nil ?_
        obtain ⟨k1, k2, k3, oe, vs, T, oT, ts', he, hz, hd, h1, hr⟩ := id fl3
        unfold PySem.passOn
        refine wpAny_bind (wpAny_field he hd h1 ?_)
        rw [if_neg (show ¬ ((Value.ref T == Value.none) = true) from by simp)]
        have fin : wpAny (model X.prog X.w) X.A (setFlight (.ref a) X.env.frame) (fun _ s4 => wpAny (model X.prog X.w) X.A (throw (.ref a) : Sem Flow) (SP X pins D) X.xe s4) X.xe { s' with heap := h3 } := by
          rw [hf]
          refine HandSPX.setFlight_upZ fl3 fun h4 hh4 up4 => wpAny_throw (tk _ _ ?_)
          exact ⟨a, B, sI, pins, σ', H', cls, d, rfl, J, nb, (up.trans up3).trans up4, .inr (.inr (by rw [hs]; exact hh4)), na, os, ag, w⟩
        first
          | exact wpAny_bind (wpAny_pure (wpAny_bind fin))
          | exact wpAny_bind fin
      | @cons x c ts b₀ suite np pos' hds2 l2 hc hsu r ih =>
        intro w
        obtain ⟨b, hb1, hyes, hno⟩ := w
        refine wpAny_handleBy_cons (codeAny_handlers_test ?_) (by intro q; cases q)
        have LT : PySem.W.Looks (model X.prog X.w) h3 (typeOf (.ref a)) cls := fun A Q E s k q => wpAny_typeOf_ref (k _ _ he3) (by rw [hz3.1]; exact q)
        have LM := PySem.W.exm_one (M := model X.prog X.w) (J3.kIn) LT hb1
        have test : ∀ {Q : Value → Shared → Prop} {E : Value → Shared → Prop}, Q c { s' with heap := h3 } → wpAny (model X.prog X.w) (X.A.mark (some (.ref a))) (eval (.Name x np) X.env) Q E { s' with heap := h3 } := fun {Q E} q => by
          obtain ⟨hg, hdbg, hm | ⟨hm, hv, hnn⟩⟩ := hc
          · exact ld_glob (X := X.suite a ((a, oe3) :: (X.pn ++ pins))) S3 hg hm q hdbg
          · exact ld_blt (X := X.suite a ((a, oe3) :: (X.pn ++ pins))) S3 hg hm hv q hnn hdbg
        refine test (LM.here ?_)
        cases b with
        | true =>
          refine codeAny_handlers_suite_as ?_
          refine HandSPX.lands_againZ fl3 fun h4 fl4 up4 => ?_
          have J4 : Inv X pins σ' H' { s' with heap := h4 } := J.landed nb fl4.1 ((up.trans up3).trans up4) os ag
          obtain ⟨oe4, vs4, he4, hz4, hd4⟩ := fl4.there
          have S4 := J4.suite he4 hd4 na nL nF
          refine store_ok (X := X.suite a ((a, oe4) :: (X.pn ++ pins))) (v := .ref a) S4 hN hi hloc rfl (fun s5 S5 => ?_) (.inr hln)
          refine wpAny_mono ((hsu a oe4 cls d (X.pn ++ pins) hz4 ⟨_, hd4⟩).run [] s5 _ H' _ S5 (hyes rfl a na)) (fun f s6 hsp => ?_) (fun _ _ z => False.elim z)
          have end_ : ∀ {σ6 : L2.St} {H6 : Hp} {Q : Shared → Prop}, Inv (X.suite a ((a, oe4) :: (X.pn ++ pins))) [] σ6 H6 s6 → (∀ s7, Inv X pins (σ6.set i none) H6 s7 → Q s7) →
              wpAny (model X.prog X.w) X.A (do bindName X.env n .none; unbindBehindTheSuite X.env n pos') (fun _ s7 => Q s7) X.xe s6 := fun {σ6 H6 Q} S6 hq => gone_ok (S6.unsuite ok) hN hi hln hq
          cases f with
          | next =>
            obtain ⟨σ6, H6, S6, q6⟩ := hsp
            exact end_ S6 fun s7 J7 => ⟨_, _, J7, q6⟩
          | brk =>
            obtain ⟨σ6, H6, S6, q6⟩ := hsp
            exact end_ S6 fun s7 J7 => ⟨_, _, J7, q6⟩
          | cont =>
            obtain ⟨σ6, H6, S6, q6⟩ := hsp
            exact end_ S6 fun s7 J7 => ⟨_, _, J7, q6⟩
          | ret u =>
            obtain ⟨v6, σ6, H6, S6, r6, q6⟩ := hsp
            exact end_ S6 fun s7 J7 => ⟨_, _, _, J7, r6, q6⟩
        | false =>
          show wpAny _ X.A (handleBy (.ref a) X.env hds2) _ _ _
          exact ih (hno rfl)
    exact go hh w
  · cases f with
    | next =>
      obtain ⟨σ', H', J', q⟩ := hsp
      exact wpAny_execs_nil ⟨σ', H', J'.ofTry ok, q⟩
    | brk =>
      obtain ⟨σ', H', J', q⟩ := hsp
      exact ⟨σ', H', J'.ofTry ok, q⟩
    | cont =>
      obtain ⟨σ', H', J', q⟩ := hsp
      exact ⟨σ', H', J'.ofTry ok, q⟩
    | ret u =>
      obtain ⟨v, σ', H', J', r, q⟩ := hsp
      exact ⟨v, σ', H', J'.ofTry ok, r, q⟩
end
end EK

/-! exceptions of own classes as values: made by position and by name, their fields, isinstance -/
namespace PySem
namespace ExV
open PySem.Spec PySem.W PySem.Calls PyProof.Rows PySem.HandSPX Builtin Builtin.ObjectAttr
section
variable {M : Model} {prog : Program} {w : World} {A : Around} {E : Value → Shared → Prop} {R : Result → Shared → Prop} {h : Heap} {g : Array GenState} {d : Drawn} {t : Nat} {os : OsState}
variable {nm q : Str} {C N : Addr} {bs bm bmB : List Value} {hdct : Bool} {sn : List Str} {sub : List Value} {ab : Bool} {col : Option Bool} {dd : Option Addr} {k0 k1 k2 k3 k5 : Option Value} {B newId initId : String} {kw : List (Str × Value)} {xs : List Value}
theorem own_check (F : ExcBaseFacts B newId initId bmB) (hT : ∀ X : String, bm.contains (.type X) = bmB.contains (.type X)) {Q : Unit → Shared → Prop}
    (hC : h.get? C = some (excClassObj nm q C N bs bm hdct sn sub ab col dd k0 k1 k2 k3 k5 newId)) (z : Q () ⟨h, g, d, t, os⟩) : wpAny M A (checkBuiltinCall newId ⟨.ref C :: xs, kw⟩) Q E ⟨h, g, d, t, os⟩ := by
  have inB : (Value.ref C :: bm).contains (.type B) = true := by
    rw [List.contains_cons, hT, F.hasB, Bool.or_true]
  have st := F.noStar
  simp only [checkBuiltinCall, F.newKind, F.newSplit, F.newRow]
  repeat (first | refine wpAny_loadPart_at hC ?_ | (refine wpAny_isSubtype_exc hC ?_; rw [inB]) | refine wpAny_staticBase_exc hC ?_ | refine wpAny_madeBy_exc hC ?_ | simp only [bne_self_eq_false, Bool.false_eq_true, if_false] | wp_step)
  exact z
theorem own_new (F : ExcBaseFacts B newId initId bmB) (hT : ∀ X : String, bm.contains (.type X) = bmB.contains (.type X))
    (hC : h.get? C = some (excClassObj nm q C N bs bm hdct sn sub ab col dd k0 k1 k2 k3 k5 newId))
    (z : R (.ok (.ret (.ref (h.objs.size + 1)))) ⟨(h.push (W.kdv_tup xs)).push (excO C h.objs.size), g, d, t, os⟩) (hl : xs.length ≤ sizeLine) :
    codeAny (model prog w) A (.builtin newId ⟨.ref C :: xs, kw⟩) R ⟨h, g, d, t, os⟩ := by
  have en := F.ends
  have inB : (Value.ref C :: bm).contains (.type B) = true := by
    rw [List.contains_cons, hT, F.hasB, Bool.or_true]
  have noA : (Value.ref C :: bm).contains (.type "AttributeError") = false := by
    rw [List.contains_cons, hT, F.noAttr]
    rfl
  have noN : (Value.ref C :: bm).contains (.type "NameError") = false := by
    rw [List.contains_cons, hT, F.noName]
    rfl
  refine codeAny_builtinAt F.entry ?_
  unfold Builtin.«BaseException.__new__»
  refine wpAt_bind ?_
  show wpAt _ _ _ (stack >>= _) _ _ _
  refine wpAt_bind (wpAt_stack fun p below => wpAt_of_wpAny ?_)
  wp_walk
  refine wpAt_of_wpAny ?_
  rw [F.owner]
  repeat (first | with_reducible refine wpAny_madeHere_exc F.canon hC ?_ | with_reducible refine wpAny_loadPart_at hC ?_ | (with_reducible refine wpAny_isSubtype_exc hC ?_; first | rw [inB] | rw [noA] | rw [noN]) | wp_step)
  show R _ _
  rw [Heap.size_push]
  exact z
theorem own_type (F : ExcBaseFacts B newId initId bmB) (hT : ∀ X : String, bm.contains (.type X) = bmB.contains (.type X)) {fv : Value} {Q : Fin → Shared → Prop}
    (hC : h.get? C = some (excClassObj nm q C N bs bm hdct sn sub ab col dd k0 k1 k2 k3 k5 newId))
    (hi : W.Looks (model prog w) h (typeLookup (.ref C) "__init__") (some fv)) (hb : ∀ self, W.Looks (model prog w) h (bindSpecial fv self) (fv, [self])) (hl : xs.length ≤ sizeLine)
    (z : codeAny (model prog w) A (.call fv ⟨.ref (h.objs.size + 1) :: xs, kw⟩) (fun r s' => match r with | .ok (.ret v) => v = .none ∧ Q (.done (.ret (.ref (h.objs.size + 1)))) s' | .ok _ => False | .error e => E e s')
      ⟨(h.push (W.kdv_tup xs)).push (excO C h.objs.size), g, d, t, os⟩) :
    wpAny (model prog w) A (Builtin.«type.__call__» ⟨.ref C :: xs, kw⟩) Q E ⟨h, g, d, t, os⟩ := by
  repeat (first | with_reducible refine wpAny_loadPart_at hC ?_ | with_reducible refine wpAny_madeBy_exc hC ?_ | wp_step)
  refine codeAny_call_builtin_code (Code.quiet_builtin _ F.quiet) (own_check F hT hC ?_)
  refine own_new F hT hC ?_ hl
  show wpAny _ _ _ _ _ _
  have kp : ∀ b o, h.get? b = some o → ((h.push (W.kdv_tup xs)).push (excO C h.objs.size)).get? b = some o := fun b o y => Heap.get?_push_of_some _ (Heap.get?_push_of_some _ y)
  have hC2 := kp _ _ hC
  have he : ((h.push (W.kdv_tup xs)).push (excO C h.objs.size)).get? (h.objs.size + 1) = some (excO C h.objs.size) := by heap_get
  have inC : (Value.ref C :: bm).contains (.ref C) = true := by simp
  have hi2 := hi.keeps kp
  have hb2 := (hb (.ref (h.objs.size + 1))).keeps kp
  unfold isInstance
  repeat (first | with_reducible refine wpAny_loadPart_at he ?_ | (with_reducible refine wpAny_isSubtype_exc hC2 ?_; rw [inC]) | wp_step)
  show wpAny _ _ (typeLookup (.ref C) _) _ _ _
  refine hi2.at ?_
  refine wpAny_holding (wpAny_bind (hb2.at ?_))
  refine wpAny_bind (wpAny_call (codeAny_mono z fun r s' y => ?_))
  rcases r with e | (v | _ | _ | _) <;> first | exact y | exact y.elim | skip
  obtain ⟨rfl, y⟩ := y
  first
    | exact wpAny_pure (wpAny_pure y)
    | (wp_walk; exact y)
theorem own_chk {Q : Unit → Shared → Prop} (hC : h.get? C = some (excClassObj nm q C N bs bm hdct sn sub ab col dd k0 k1 k2 k3 k5 newId))
    (hq : Q () ⟨h, g, d, t, os⟩) : wpAny M A (checkBuiltinCall "type.__call__" ⟨.ref C :: xs, kw⟩) Q E ⟨h, g, d, t, os⟩ := by
  have sb := tc_sub
  have ty : (⟨h, g, d, t, os⟩ : Shared).TypeIs (.ref C) "type" := ⟨_, hC, rfl⟩
  simp only [checkBuiltinCall, tc_kind, tc_split]
  repeat (any_goals (first | assumption | with_reducible refine wpAny_loadPart_at hC ?_ | with_reducible refine wpAny_onRaise ?_ | with_reducible refine wpAny_map ?_ | wp_step))
theorem own_call (F : ExcBaseFacts B newId initId bmB) (hT : ∀ X : String, bm.contains (.type X) = bmB.contains (.type X)) {fv : Value}
    (hC : h.get? C = some (excClassObj nm q C N bs bm hdct sn sub ab col dd k0 k1 k2 k3 k5 newId))
    (hi : W.Looks (model prog w) h (typeLookup (.ref C) "__init__") (some fv)) (hb : ∀ self, W.Looks (model prog w) h (bindSpecial fv self) (fv, [self])) (hl : xs.length ≤ sizeLine)
    (z : codeAny (model prog w) (A.under (.builtin "type.__call__" ⟨.ref C :: xs, kw⟩)) (.call fv ⟨.ref (h.objs.size + 1) :: xs, kw⟩) (W.InitBack (h.objs.size + 1) R)
      ⟨(h.push (W.kdv_tup xs)).push (excO C h.objs.size), g, d, t, os⟩) : codeAny (model prog w) A (.call (.ref C) ⟨xs, kw⟩) R ⟨h, g, d, t, os⟩ := by
  have lk := tc_lookup
  have bd := tc_bind (.ref C)
  have ty : (⟨h, g, d, t, os⟩ : Shared).TypeIs (.ref C) "type" := ⟨_, hC, rfl⟩
  refine codeAny_of_tree ?_
  show wpAny _ _ (callAny (.ref C) _) _ _ _
  repeat (any_goals (first | assumption | with_reducible refine wpAny_loadPart_at hC ?_ | wp_step))
  refine ⟨rfl, ?_⟩
  refine codeAny_call_builtin_at (Code.quiet_builtin _ (by decide +kernel)) entry_typeCall (own_chk hC (own_type F hT hC hi hb hl ?_))
  refine codeAny_mono z fun r s' y => ?_
  rcases r with e | (v | _ | _ | _) <;> exact y
end
end ExV
end PySem
namespace EK
open PySem PySem.Spec PyProof.Rows L2
/-- C(..) kept as a value: __init__ keeps sp -/
def tMkV (C : Addr) (sp : Sp) (ta : TA) : TE := fun σ H Q => ta σ H fun vs H1 => vs.length ≤ 1000 ∧ ∀ a, H1 a = none → sp (.ref a :: vs) (upd H1 a (exo a C none)) (fun v H2 => v = .non ∧ Q (.ref a) H2) (fun _ _ _ => False)
/-- .. by names, put in their order by g -/
def tMkN (C : Addr) (sp : Sp) (n : Nat) (g : List V → List V → List V) (tk : TA) : TE := fun σ H Q => tk σ H fun zs H1 => zs.length = n ∧ ∀ a, H1 a = none → sp (g [.ref a] zs) (upd H1 a (exo a C none)) (fun v H2 => v = .non ∧ Q (.ref a) H2) (fun _ _ _ => False)
section
variable {X : Cx} {CX : CXT} {x : Str} {e : Expr} {es : List Expr} {ta tk : TA} {p pos : Pos} {C fI : Addr} {k : Nat} {fd : FuncData} {ps ks : List Str} {sp : Sp} {kws : List Keyword} {pins : List (Addr × Obj)} {σ : L2.St} {H : Hp} {s : Shared} {Q : VK}
theorem run_mkv (T : OexC X.K C) (iC : PySem.W.findIn X.K (.ref C) "__init__" = some (some (.ref fI))) (tI : PySem.W.typeIn X.K (.ref fI) = some (.type "function")) (F1 : FnOk X.prog X.w X.K X.mg X.base CX k fI fd ps sp) (hr : Room (k + 1) X.A)
    (hx : Passes CX X (fun _ _ _ => False)) (I : Inv X pins σ H s) {us : List Value} {kw : List (Str × Value)} (hl : us.length ≤ sizeLine) {G : Value → List Value} {gv : V → List V} (hb : ∀ (s' : Shared) (u : Value), X.K.In s'.heap → BindsTo s' fd ⟨u :: us, kw⟩ (ps.zip (G u)))
    (r2 : ∀ a : Addr, Vals (gv (.ref a)) (G (.ref a))) (h : ∀ a, H a = none → sp (gv (.ref a)) (upd H a (exo a C none)) (fun v H2 => v = .non ∧ Q (.ref a) H2) (fun _ _ _ => False)) : wpAny (model X.prog X.w) X.A (call (.ref C) us kw) (EP X pins σ Q) X.xe s := by
  obtain ⟨nm, q, N, bs, bm, sn, sub, ab, col, dd, k0, k1, k2, k3, k5, hC, hbm⟩ := T.cls
  obtain ⟨hp, g, dr, tk, os⟩ := s
  have up : hp.objs.size ≤ hp.objs.size + 1 := Nat.le_succ _
  have hq := h (hp.objs.size + 1) (I.hok.fresh up)
  have kk : ∀ b o, hp.get? b = some o → ((hp.push (PySem.W.kdv_tup us)).push (PySem.HandSPX.excO C hp.objs.size)).get? b = some o := fun b o y => Heap.get?_push_of_some _ (Heap.get?_push_of_some _ y)
  have he : ((hp.push (PySem.W.kdv_tup us)).push (PySem.HandSPX.excO C hp.objs.size)).get? (hp.objs.size + 1) = some (PySem.HandSPX.excO C hp.objs.size) := by heap_get
  have I2 : Inv X pins σ (upd H (hp.objs.size + 1) (exo (hp.objs.size + 1) C none)) ⟨(hp.push (PySem.W.kdv_tup us)).push (PySem.HandSPX.excO C hp.objs.size), g, dr, tk, os⟩ :=
    I.laid (t' := tk) (a := hp.objs.size + 1) (o := exo (hp.objs.size + 1) C none) (h' := (hp.push (PySem.W.kdv_tup us)).push (PySem.HandSPX.excO C hp.objs.size)) kk up (exo_ok he)
  refine wpAny_call (PySem.ExV.own_call F.excBase_ValueError (fun Y => PySem.HandSPX.refsVE_contains Y bm hbm) (I.kIn _ _ hC) (PySem.W.looks_findIn I.kIn iC) (fun self => PySem.W.bind_fn I.kIn self tI) hl
    (codeAny_mono (F1.run _ X.stack _ _ ⟨Value.ref (hp.objs.size + 1) :: us, kw⟩ (G (.ref (hp.objs.size + 1))) _ _ (fun _ _ _ => False) (hr.make C us kw) (I2.env0.make C us kw) (hb _ _ I2.kIn) (r2 _) hq) fun r s' hq' => ?_))
  cases r with
  | error er => exact hx pins σ _ _ er s' I2 hq'
  | ok fl =>
    cases fl with
    | ret u =>
      obtain ⟨v, H', I3, rv, ev, q3⟩ := I2.after hq'
      subst ev
      exact ⟨rv, ⟨V.ref (hp.objs.size + 1), H', I3, rfl, q3⟩⟩
    | next => exact False.elim hq'
    | brk => exact False.elim hq'
    | cont => exact False.elim hq'
theorem pe_mkv (T : OexC X.K C) (iC : PySem.W.findIn X.K (.ref C) "__init__" = some (some (.ref fI))) (tI : PySem.W.typeIn X.K (.ref fI) = some (.type "function")) (F1 : FnOk X.prog X.w X.K X.mg X.base CX k fI fd ps sp) (hr : Room (k + 1) X.A) (hb : Binds X.K fd ps [])
    (hx : Passes CX X (fun _ _ _ => False)) (hg : Gl X x) (hm : X.mg x = some (.ref C)) (ha : PA X (e :: es) ta) (hdb : (x == ("__debug__" : Str)) = false := by decide) (he : starEach (e :: es) X.env = (false, eval e X.env) :: starEach es X.env := by rfl)
    (hpl : (backTo pos (starEach es X.env)).any (·.1) = false := by rfl) : PE X (.Call (.Name x p) (e :: es) [] pos) (tMkV C sp ta) := by
  refine ⟨fun pins s σ H Q I h => ?_⟩
  refine wpAny_Call_Name_kw (ld_glob I hg hm ?_ hdb)
  refine PySem.W.callWith_K (h₀ := X.base) I.ok.mod.kin T.kC (thn (ha.run pos pins s σ H _ I h) fun us s1 ⟨vs, H1, I1, r1, hz, q1⟩ => ⟨I1.kIn, ?_⟩) he hpl
  have hus : us.length ≤ sizeLine := by
    rw [← Paired.length r1, sizeLine_eq]
    omega
  show wpAny _ _ (call (.ref C) us) _ _ _
  refine run_mkv (gv := fun v => v :: vs) (G := fun u => u :: us) T iC tI F1 hr hx I1 hus (fun s' u X' => ?_) (fun a => .cons rfl r1) q1
  have y := hb s' (u :: us) X' ?_
  · rw [List.append_nil] at y
    exact y
  have el : (Value.ref 0 :: us).length = ps.length := by
    have z := F1.len _ _ _ _ (q1 _ (I1.hok.fresh (Nat.le_refl _)))
    rw [← z]
    exact (Paired.length (F := RelV) (.cons (a := V.ref 0) (b := Value.ref 0) rfl r1)).symm
  simpa using el
theorem pe_mkn {g : List Value → List Value → List Value} {gV : List V → List V → List V} (T : OexC X.K C) (iC : PySem.W.findIn X.K (.ref C) "__init__" = some (some (.ref fI))) (tI : PySem.W.typeIn X.K (.ref fI) = some (.type "function")) (F1 : FnOk X.prog X.w X.K X.mg X.base CX k fI fd ps sp)
    (hr : Room (k + 1) X.A) (hb : KBn X.K fd ps 1 ks g gV) (hx : Passes CX X (fun _ _ _ => False)) (hg : Gl X x) (hm : X.mg x = some (.ref C)) (hkw : PK X kws tk) (hall : (backToKw pos (keywordEach kws X.env)).all (·.1.isSome) = true := by rfl)
    (hks : (backToKw pos (keywordEach kws X.env)).filterMap (·.1) = ks := by rfl) (hdb : (x == ("__debug__" : Str)) = false := by decide) (hpl : ((backTo pos (starEach [] X.env)).any (·.1) || (backToKw pos (keywordEach kws X.env)).any (·.1.isNone)) = false := by rfl) :
    PE X (.Call (.Name x p) [] kws pos) (tMkN C sp ks.length gV tk) := by
  refine ⟨fun pins s σ H Q I h => ?_⟩
  refine wpAny_Call_Name_kw (ld_glob I hg hm ?_ hdb)
  refine PySem.W.callWith_KW0 (h₀ := X.base) I.ok.mod.kin T.kC hall ?_ hpl
  refine thn (hkw.run pos pins s σ H _ I h) fun ws s2 ⟨zs, H2, I2, rz, l1, q2⟩ => ⟨I2.kIn, ?_⟩
  rw [hks]
  exact run_mkv (gv := fun v => gV [v] zs) (G := fun u => g [u] ws) T iC tI F1 hr hx I2 (Nat.zero_le _) (fun s' u X' => hb.to s' [u] ws X' rfl (rz.length.symm.trans l1)) (fun a => hb.rel (.cons rfl .nil) rz) q2
/-- C(), C without an __init__ of its own -/
def tMk0 (C : Addr) : TE := fun _ H Q => ∀ a, H a = none → Q (.ref a) (upd H a (exo a C none))
theorem pe_mk0 (T : OexC X.K C) (iC : PySem.W.findIn X.K (.ref C) "__init__" = some (some (.builtin "ValueError.__init__"))) (hg : Gl X x) (hm : X.mg x = some (.ref C)) (hdb : (x == ("__debug__" : Str)) = false := by decide) :
    PE X (.Call (.Name x p) [] [] pos) (tMk0 C) := by
  refine ⟨fun pins s σ H Q I h => ?_⟩
  refine wpAny_Call_Name_kw (ld_glob I hg hm ?_ hdb)
  refine PySem.W.callWith_K0 (first := []) I.kIn T.kC ?_
  show wpAny _ _ (call (.ref C) []) _ _ _
  obtain ⟨nm, q, N, bs, bm, sn, sub, ab, col, dd, k0, k1, k2, k3, k5, hC, hbm⟩ := T.cls
  obtain ⟨hp, g, dr, tk, os⟩ := s
  have up : hp.objs.size ≤ hp.objs.size + 1 := Nat.le_succ _
  have kk : ∀ b o, hp.get? b = some o → ((hp.push (PySem.W.kdv_tup [])).push (PySem.HandSPX.excO C hp.objs.size)).get? b = some o := fun b o y => Heap.get?_push_of_some _ (Heap.get?_push_of_some _ y)
  have he : ((hp.push (PySem.W.kdv_tup [])).push (PySem.HandSPX.excO C hp.objs.size)).get? (hp.objs.size + 1) = some (PySem.HandSPX.excO C hp.objs.size) := by heap_get
  have I2 : Inv X pins σ (upd H (hp.objs.size + 1) (exo (hp.objs.size + 1) C none)) ⟨(hp.push (PySem.W.kdv_tup [])).push (PySem.HandSPX.excO C hp.objs.size), g, dr, tk, os⟩ :=
    I.laid (t' := tk) (a := hp.objs.size + 1) (o := exo (hp.objs.size + 1) C none) (h' := (hp.push (PySem.W.kdv_tup [])).push (PySem.HandSPX.excO C hp.objs.size)) kk up (exo_ok he)
  refine wpAny_call (PySem.ExV.own_call (fv := .builtin "ValueError.__init__") F.excBase_ValueError (fun Y => PySem.HandSPX.refsVE_contains Y bm hbm) (I.kIn _ _ hC) (PySem.W.looks_findIn I.kIn iC) (fun self => .of_pure (F.excBase_ValueError.init.bind self)) (Nat.zero_le _)
    (PySem.HandSPX.init_base F.excBase_ValueError (fun Y => PySem.HandSPX.refsVE_contains Y bm hbm) (I2.kIn _ _ hC) he (Nat.zero_le _) fun h' t2 kh hx => ?_))
  have eu : upd (upd H (hp.objs.size + 1) (exo (hp.objs.size + 1) C none)) (hp.objs.size + 1) (exo (hp.objs.size + 1) C none) = upd H (hp.objs.size + 1) (exo (hp.objs.size + 1) C none) := upd_upd
  have J := I2.write (t' := tk) (x := hp.objs.size + 1) (e := hp.objs.size + 1) (o := exo (hp.objs.size + 1) C none) (by rw [upd_same]; exact True.intro) (.inl rfl) kh ⟨_, hx⟩ (exo_ok hx)
  rw [eu] at J
  exact ⟨rfl, V.ref (hp.objs.size + 1), _, J, rfl, h _ (I.hok.fresh up)⟩
/-- e.f, e an exception that stands in the heap -/
def tEf (K : PySem.W.Frag) (f : Str) (te : TE) : TE := fun σ H Q => te σ H fun x H1 => ∃ (a C d : Addr) (fs : List (Str × V)) (v : V), x = .ref a ∧ XfC K C ∧ PySem.W.findIn K (.ref C) f = some none ∧ H1 a = some (exo a C (some d)) ∧ H1 d = some (exd d fs) ∧ fs.lookup f = some v ∧ Q v H1
theorem pe_ef {te : TE} {n : Str} (he : PE X e te) (hb : attributeBase e n X.env (eval e X.env) = eval e X.env := by rfl) : PE X (.Attribute e n pos) (tEf X.K n te) := by
  refine ⟨fun pins s σ H Q I h => ?_⟩
  refine attr_of hb (thn (he.run pins s σ H _ I h) fun u s1 hh => ?_)
  obtain ⟨x, H1, I1, rx, a, C, d, fs, v, ex, T, hno, ha, hd, l, q⟩ := hh
  subst ex
  obtain rfl : u = Value.ref a := rx
  obtain ⟨t1, ho⟩ := exo_at I1.hok ha
  obtain ⟨mA, hns, hr⟩ := exd_at I1.hok hd
  obtain ⟨od, ho2, hl⟩ := lookIn_ns hns
  obtain ⟨u, hu, ru⟩ := RelO.some_of (v := v) (o := mA n) (by rw [← l]; exact hr n)
  have J : PySem.W.InstAt s1.heap a _ C (some od) := ⟨ho, rfl, rfl, ho2⟩
  exact HandSPX.exc_get I1.kIn J T.ga T.gg T.exC (PySem.W.findObj_own T.hdC hno rfl (by rw [hl, hu])) (handed_of ru) ⟨v, H1, I1.tok _, ru, q⟩
/-- isinstance(e, D), e an exception that stands in the heap -/
def rIsX (K : PySem.W.Frag) : List V → Hp → VK → Prop := fun xs H Q => ∃ (a C : Addr) (d : Option Addr) (c : V) (cv : Value) (b : Bool), xs = [.ref a, c] ∧ ExcC K C ∧ H a = some (exo a C d) ∧ (∀ dd, d = some dd → ∃ fs, H dd = some (exd dd fs)) ∧ ClsV c cv ∧ PySem.W.kitOne K (.ref C) cv = some b ∧ Q (.bl b) H
theorem call_isX : CallR X (.builtin "isinstance") (rIsX X.K) := by
  intro pins s σ H xs us Q I r h
  obtain ⟨a, C, d, c, cv, b, rfl, EC, ha, hd, kc, e, q⟩ := h
  obtain ⟨u1, u2, rfl, r1, r2⟩ := vals2 r
  cases r1
  have e2 := kc.eq r2
  subst e2
  obtain ⟨t1, ho⟩ := exo_at I.hok ha
  cases d with
  | none =>
    have J : PySem.W.InstAt s.heap a _ C none := ⟨ho, rfl, rfl, trivial⟩
    exact PySem.W.kia_one (PySem.W.ek_kitx EC.hg EC.hk EC.hs EC.hd EC.ha EC.hn EC.ht EC.hm) I.kIn J e (fun z => nomatch z) fun tk => ⟨.bl b, H, I.kept (t' := tk) fun _ _ z => z, rfl, q⟩
  | some dd =>
    obtain ⟨fs, hx⟩ := hd dd rfl
    obtain ⟨mA, hns, _⟩ := exd_at I.hok hx
    obtain ⟨od, ho2, _⟩ := lookIn_ns hns
    have J : PySem.W.InstAt s.heap a _ C (some od) := ⟨ho, rfl, rfl, ho2⟩
    exact PySem.W.kia_one (PySem.W.ek_kitx EC.hg EC.hk EC.hs EC.hd EC.ha EC.hn EC.ht EC.hm) I.kIn J e (fun z => nomatch z) fun tk => ⟨.bl b, H, I.kept (t' := tk) fun _ _ z => z, rfl, q⟩
end
end EK

namespace Law
open PySem PySem.Spec PyProof.Rows L2 Evl
def top (i : Nat) : Stmt := PySem.Challenge.pw_wordskips_k00_errors.main.body.getD i (.Pass ⟨0, 0, 0, 0⟩)
abbrev s_kept : Stmt := top 22
abbrev N_kept : List Str := ["value", "part", "key"]
theorem sc_kept : FnScope N_kept ["value"] (defScope s_kept) := ⟨rfl, rfl, rfl, by decide +kernel, rfl, by decide +kernel, by decide +kernel⟩
abbrev s_lpen : Stmt := top 24
abbrev N_lpen : List Str := ["_law_script"]
theorem sc_lpen : FnScope N_lpen ["_law_script"] (defScope s_lpen) := ⟨rfl, rfl, rfl, by decide +kernel, rfl, by decide +kernel, by decide +kernel⟩
abbrev s_ldraw : Stmt := top 25
abbrev N_ldraw : List Str := ["_law_pen_here", "_law_base", "_law_digit", "_law_k", "_law_cells", "_law_cell", "_law_mix"]
theorem sc_ldraw : FnScope N_ldraw ["_law_pen_here", "_law_base"] (defScope s_ldraw) := ⟨rfl, rfl, rfl, by decide +kernel, rfl, by decide +kernel, by decide +kernel⟩
abbrev s_lpick : Stmt := top 26
abbrev N_lpick : List Str := ["_law_pen_here", "_law_some"]
theorem sc_lpick : FnScope N_lpick ["_law_pen_here", "_law_some"] (defScope s_lpick) := ⟨rfl, rfl, rfl, by decide +kernel, rfl, by decide +kernel, by decide +kernel⟩
abbrev s_lany : Stmt := top 27
abbrev N_lany : List Str := ["_law_pen_here"]
theorem sc_lany : FnScope N_lany ["_law_pen_here"] (defScope s_lany) := ⟨rfl, rfl, rfl, by decide +kernel, rfl, by decide +kernel, by decide +kernel⟩
abbrev s_lby_position : Stmt := top 28
abbrev N_lby_position : List Str := ["_law_a", "_law_b", "_law_c", "_law_found"]
theorem sc_lby_position : FnScope N_lby_position ["_law_a", "_law_b", "_law_c"] (defScope s_lby_position) := ⟨rfl, rfl, rfl, by decide +kernel, rfl, by decide +kernel, by decide +kernel⟩
abbrev s_lby_name : Stmt := top 29
abbrev N_lby_name : List Str := ["_law_a", "_law_b", "_law_c", "_law_found"]
theorem sc_lby_name : FnScope N_lby_name ["_law_a", "_law_b", "_law_c"] (defScope s_lby_name) := ⟨rfl, rfl, rfl, by decide +kernel, rfl, by decide +kernel, by decide +kernel⟩
abbrev s_lall_made : Stmt := top 30
abbrev N_lall_made : List Str := ["_law_a", "_law_b", "_law_c", "_law_found"]
theorem sc_lall_made : FnScope N_lall_made ["_law_a", "_law_b", "_law_c"] (defScope s_lall_made) := ⟨rfl, rfl, rfl, by decide +kernel, rfl, by decide +kernel, by decide +kernel⟩
abbrev s_lsorts : Stmt := top 31
abbrev N_lsorts : List Str := ["_law_error", "_law_found", "_law_k"]
theorem sc_lsorts : FnScope N_lsorts ["_law_error"] (defScope s_lsorts) := ⟨rfl, rfl, rfl, by decide +kernel, rfl, by decide +kernel, by decide +kernel⟩
abbrev s_law : Stmt := top 32
abbrev N_law : List Str := ["_law_script", "_law_pen_here", "_law_a", "_law_b", "_law_c", "_law_due", "_law_errors_told", "_law_error", "_law_sorts_here", "_law_part"]
theorem sc_law : FnScope N_law ["_law_script"] (defScope s_law) := ⟨rfl, rfl, rfl, by decide +kernel, rfl, by decide +kernel, by decide +kernel⟩
abbrev s_BadLetters_init : Stmt := inClass (top 2) 0
abbrev N_BadLetters_init : List Str := ["self", "letters"]
theorem sc_BadLetters_init : FnScope N_BadLetters_init ["self", "letters"] (defScope s_BadLetters_init) := ⟨rfl, rfl, rfl, by decide +kernel, rfl, by decide +kernel, by decide +kernel⟩
abbrev s_BadWords_init : Stmt := inClass (top 3) 0
abbrev N_BadWords_init : List Str := ["self", "place"]
theorem sc_BadWords_init : FnScope N_BadWords_init ["self", "place"] (defScope s_BadWords_init) := ⟨rfl, rfl, rfl, by decide +kernel, rfl, by decide +kernel, by decide +kernel⟩
abbrev s_BadText_init : Stmt := inClass (top 4) 0
abbrev N_BadText_init : List Str := ["self", "place"]
theorem sc_BadText_init : FnScope N_BadText_init ["self", "place"] (defScope s_BadText_init) := ⟨rfl, rfl, rfl, by decide +kernel, rfl, by decide +kernel, by decide +kernel⟩
abbrev s_BadWish_init : Stmt := inClass (top 5) 0
abbrev N_BadWish_init : List Str := ["self", "wish"]
theorem sc_BadWish_init : FnScope N_BadWish_init ["self", "wish"] (defScope s_BadWish_init) := ⟨rfl, rfl, rfl, by decide +kernel, rfl, by decide +kernel, by decide +kernel⟩
abbrev s_BadWidth_init : Stmt := inClass (top 6) 0
abbrev N_BadWidth_init : List Str := ["self", "width"]
theorem sc_BadWidth_init : FnScope N_BadWidth_init ["self", "width"] (defScope s_BadWidth_init) := ⟨rfl, rfl, rfl, by decide +kernel, rfl, by decide +kernel, by decide +kernel⟩
abbrev s_TooMany_init : Stmt := inClass (top 7) 0
abbrev N_TooMany_init : List Str := ["self", "what", "many", "most"]
theorem sc_TooMany_init : FnScope N_TooMany_init ["self", "what", "many", "most"] (defScope s_TooMany_init) := ⟨rfl, rfl, rfl, by decide +kernel, rfl, by decide +kernel, by decide +kernel⟩
abbrev s_BadTree_init : Stmt := inClass (top 8) 0
abbrev N_BadTree_init : List Str := ["self", "state", "node"]
theorem sc_BadTree_init : FnScope N_BadTree_init ["self", "state", "node"] (defScope s_BadTree_init) := ⟨rfl, rfl, rfl, by decide +kernel, rfl, by decide +kernel, by decide +kernel⟩
abbrev s_BadLine_init : Stmt := inClass (top 9) 0
abbrev N_BadLine_init : List Str := ["self", "line"]
theorem sc_BadLine_init : FnScope N_BadLine_init ["self", "line"] (defScope s_BadLine_init) := ⟨rfl, rfl, rfl, by decide +kernel, rfl, by decide +kernel, by decide +kernel⟩
abbrev s_BadWay_init : Stmt := inClass (top 10) 0
abbrev N_BadWay_init : List Str := ["self", "way"]
theorem sc_BadWay_init : FnScope N_BadWay_init ["self", "way"] (defScope s_BadWay_init) := ⟨rfl, rfl, rfl, by decide +kernel, rfl, by decide +kernel, by decide +kernel⟩
abbrev s_BadRule_init : Stmt := inClass (top 13) 0
abbrev N_BadRule_init : List Str := ["self", "name"]
theorem sc_BadRule_init : FnScope N_BadRule_init ["self", "name"] (defScope s_BadRule_init) := ⟨rfl, rfl, rfl, by decide +kernel, rfl, by decide +kernel, by decide +kernel⟩
abbrev s_Ring_init : Stmt := inClass (top 14) 0
abbrev N_Ring_init : List Str := ["self", "name"]
theorem sc_Ring_init : FnScope N_Ring_init ["self", "name"] (defScope s_Ring_init) := ⟨rfl, rfl, rfl, by decide +kernel, rfl, by decide +kernel, by decide +kernel⟩
abbrev s_NoRule_init : Stmt := inClass (top 15) 0
abbrev N_NoRule_init : List Str := ["self", "root"]
theorem sc_NoRule_init : FnScope N_NoRule_init ["self", "root"] (defScope s_NoRule_init) := ⟨rfl, rfl, rfl, by decide +kernel, rfl, by decide +kernel, by decide +kernel⟩
abbrev s_BadPlace_init : Stmt := inClass (top 16) 0
abbrev N_BadPlace_init : List Str := ["self", "number"]
theorem sc_BadPlace_init : FnScope N_BadPlace_init ["self", "number"] (defScope s_BadPlace_init) := ⟨rfl, rfl, rfl, by decide +kernel, rfl, by decide +kernel, by decide +kernel⟩
abbrev s_BadSize_init : Stmt := inClass (top 18) 0
abbrev N_BadSize_init : List Str := ["self", "size"]
theorem sc_BadSize_init : FnScope N_BadSize_init ["self", "size"] (defScope s_BadSize_init) := ⟨rfl, rfl, rfl, by decide +kernel, rfl, by decide +kernel, by decide +kernel⟩
abbrev s_BadOrder_init : Stmt := inClass (top 19) 0
abbrev N_BadOrder_init : List Str := ["self", "order"]
theorem sc_BadOrder_init : FnScope N_BadOrder_init ["self", "order"] (defScope s_BadOrder_init) := ⟨rfl, rfl, rfl, by decide +kernel, rfl, by decide +kernel, by decide +kernel⟩
abbrev s_NoJoint_init : Stmt := inClass (top 20) 0
abbrev N_NoJoint_init : List Str := ["self", "joint"]
theorem sc_NoJoint_init : FnScope N_NoJoint_init ["self", "joint"] (defScope s_NoJoint_init) := ⟨rfl, rfl, rfl, by decide +kernel, rfl, by decide +kernel, by decide +kernel⟩
abbrev s_NoPartial_init : Stmt := inClass (top 21) 0
abbrev N_NoPartial_init : List Str := ["self", "partial"]
theorem sc_NoPartial_init : FnScope N_NoPartial_init ["self", "partial"] (defScope s_NoPartial_init) := ⟨rfl, rfl, rfl, by decide +kernel, rfl, by decide +kernel, by decide +kernel⟩

/-! ### the pen -/
def penK (c : Addr) (op lf : Int) : List (Key × V) := [(.inr "cells", .ref c), (.inr "opened", .int op), (.inr "left", .int lf)]
structure PenI where
  d : Addr
  c : Addr
  ns : List Int
def PenAt (p : PenI) (H0 H : Hp) (n : Nat) : Prop := Ex H0 H ∧ H0 p.d = none ∧ H0 p.c = some (.lst (p.ns.map V.int)) ∧ p.ns.length ≤ 63 ∧
  ∃ (op : Nat) (lf : Int), op ≤ n ∧ H p.d = some (.dK (penK p.c op lf))
theorem PenAt.ex {p : PenI} {H0 H H1 : Hp} {n : Nat} (P : PenAt p H0 H n) (e : Ex H H1) : PenAt p H0 H1 n := by
  obtain ⟨e0, h0, hc, hl, op, lf, ho, hd⟩ := P
  exact ⟨e0.trans e, h0, hc, hl, op, lf, ho, e p.d _ hd⟩
theorem PenAt.le {p : PenI} {H0 H : Hp} {n m : Nat} (P : PenAt p H0 H n) (h : n ≤ m) : PenAt p H0 H m := by
  obtain ⟨e0, h0, hc, hl, op, lf, ho, hd⟩ := P
  exact ⟨e0, h0, hc, hl, op, lf, Nat.le_trans ho h, hd⟩
theorem PenAt.dict {p : PenI} {H0 H : Hp} {n : Nat} (P : PenAt p H0 H n) : ∃ kvs, H p.d = some (.dK kvs) := by
  obtain ⟨_, _, _, _, op, lf, _, h⟩ := P
  exact ⟨_, h⟩
theorem PenAt.lst_ne {p : PenI} {H0 H : Hp} {a : Addr} {n : Nat} {xs : List V} (P : PenAt p H0 H n) (h : H a = some (.lst xs)) : a ≠ p.d := by
  obtain ⟨kvs, h2⟩ := P.dict
  exact ne_of h h2 (by intro z; cases z)
/-- an object made meanwhile may change -/
theorem PenAt.upd {p : PenI} {H0 H : Hp} {a : Addr} {n : Nat} {o : HO} (P : PenAt p H0 H n) (h : H0 a = none) (hd : a ≠ p.d) : PenAt p H0 (upd H a o) n := by
  obtain ⟨e0, h0, hc, hl, op, lf, ho, hd'⟩ := P
  exact ⟨e0.mut h, h0, hc, hl, op, lf, ho, by rw [upd_ne hd.symm]; exact hd'⟩
/-- one more object kept, and let go again -/
theorem PenAt.keep {p : PenI} {H0 H : Hp} {a : Addr} {n : Nat} {o : HO} (P : PenAt p H0 H n) (h : H a = some o) (hd : a ≠ p.d) : PenAt p (L2.upd H0 a o) H n := by
  obtain ⟨e0, h0, hc, r⟩ := P
  refine ⟨fun b u e => ?_, by rw [upd_ne hd.symm]; exact h0, ?_, r⟩
  · by_cases q : b = a
    · subst q
      rw [upd_same] at e
      rw [h, e]
    · rw [upd_ne q] at e
      exact e0 b u e
  · by_cases q : p.c = a
    · have e2 := e0 _ _ hc
      rw [q, h] at e2
      rw [q, upd_same, e2]
    · rw [upd_ne q]
      exact hc
theorem PenAt.drop {p : PenI} {H0 H H' : Hp} {a : Addr} {n m : Nat} {o : HO} (P : PenAt p H0 H n) (h : H a = some o) (P' : PenAt p (L2.upd H0 a o) H' m) : PenAt p H0 H' m := by
  refine ⟨fun b u e => ?_, P.2.1, P.2.2.1, P'.2.2.2⟩
  by_cases q : b = a
  · subst q
    have e2 := P.1 _ _ e
    rw [h] at e2
    exact P'.1 _ _ (by rw [upd_same, e2])
  · exact P'.1 _ _ (by rw [upd_ne q]; exact e)
theorem cells_opened : ¬ (("cells" : Str) = "opened") := by decide +kernel
theorem cells_left : ¬ (("cells" : Str) = "left") := by decide +kernel
theorem opened_left : ¬ (("opened" : Str) = "left") := by decide +kernel
theorem get_cells (c : Addr) (op lf : Int) : valV (penK c op lf) (.inr "cells") = some (.ref c) := by
  unfold valV penK
  rw [List.find?_cons_of_pos (by simp)]
  rfl
theorem get_opened (c : Addr) (op lf : Int) : valV (penK c op lf) (.inr "opened") = some (.int op) := by
  unfold valV penK
  rw [List.find?_cons_of_neg (by simpa using cells_opened), List.find?_cons_of_pos (by simp)]
  rfl
theorem get_left (c : Addr) (op lf : Int) : valV (penK c op lf) (.inr "left") = some (.int lf) := by
  unfold valV penK
  rw [List.find?_cons_of_neg (by simpa using cells_left), List.find?_cons_of_neg (by simpa using opened_left), List.find?_cons_of_pos (by simp)]
  rfl
theorem put_opened (c : Addr) (op lf x : Int) : putK (penK c op lf) (.inr "opened") (.int x) = penK c x lf := by
  unfold putK penK
  simp [cells_opened, opened_left, cells_left, Ne.symm opened_left]
theorem put_left (c : Addr) (op lf x : Int) : putK (penK c op lf) (.inr "left") (.int x) = penK c op x := by
  unfold putK penK
  simp [cells_opened, opened_left, cells_left]
theorem dget_of {H : Hp} {d : Addr} {kvs : List (Key × V)} {k : Str} {v : V} (e : H d = some (.dK kvs)) (h : valV kvs (.inr k) = some v) : DGet H d (.str k) (some v) := by
  rw [← h]
  exact DGet.k (k := .inr k) e
theorem dput_of {H : Hp} {d : Addr} {kvs kvs' : List (Key × V)} {k : Str} {v : V} (e : H d = some (.dK kvs)) (hl : kvs.length < 100) (h : putK kvs (.inr k) v = kvs') : DPut H d (.str k) v (upd H d (.dK kvs')) := by
  rw [← h]
  exact DPut.k (k := .inr k) e (Nat.lt_of_lt_of_le hl (by decide))

/-! ### lists of ints as data -/
theorem lay_ints : ∀ ns : List Int, PyData.canLayAll0 (ns.map PyData.int) = true
  | [] => rfl
  | n :: r => by
    show (PyData.canLay0 (.int n) && PyData.canLayAll0 (r.map PyData.int)) = true
    rw [lay_ints r]
    rfl
theorem depth_ints : ∀ ns : List Int, PyData.depthAll (ns.map PyData.int) = 0
  | [] => rfl
  | n :: r => by
    show max (PyData.depth (.int n)) (PyData.depthAll (r.map PyData.int)) = 0
    rw [depth_ints r]
    rfl
theorem shaped_ints (ns : List Int) : SeqAt.shaped (.list (ns.map PyData.int)) = true := by
  unfold SeqAt.shaped
  have e1 : (PyData.list (ns.map PyData.int)).canLay0 = true := lay_ints ns
  have e2 : (PyData.list (ns.map PyData.int)).depth = 1 := by
    show PyData.depthAll (ns.map PyData.int) + 1 = 1
    rw [depth_ints]
  rw [e1, e2]
  rfl
theorem dp_ints {K : PySem.W.Frag} {H : Hp} : ∀ ns : List Int, DpAll K H (ns.map V.int) (ns.map PyData.int)
  | [] => .nil
  | n :: r => .cons (.int n) (dp_ints r)
theorem eqv_nil (ns : List Int) : PyData.eqv (.list (ns.map PyData.int)) (.list []) = ns.isEmpty := by
  cases ns <;> rfl

/-! ### what is known of a def that is called -/
structure Kn (P : Program) (w : World) (K : PySem.W.Frag) (mg : Str → Option Value) (base : Heap) (x : Str) (ps : List Str) (k : Nat) (sp : Sp) where
  f : Addr
  fd : FuncData
  ok : FnOk P w K mg base CX0 k f fd ps sp
  g : mg x = some (.ref f)
  kp : PySem.W.keepIn K (.ref f) = true
  b : Binds K fd ps []
structure Tx (mg : Str → Option Value) where
  len : mg "len" = none
  int : mg "int" = none
  bool : mg "bool" = none
  abs : mg "abs" = none
  min : mg "min" = none
  list : mg "list" = none
  all : mg "all" = none
  range : mg "range" = none
  isinstance : mg "isinstance" = none
  str : mg "str" = none
  set : mg "set" = none
  tuple : mg "tuple" = none
  enumerate : mg "enumerate" = none
  reversed : mg "reversed" = none
  sum : mg "sum" = none
  dict : mg "dict" = none
  sorted : mg "sorted" = none
  ValueError : mg "ValueError" = none

def spPen (K : PySem.W.Frag) : Sp := fun vs H Q _ => ∃ (a : Addr) (ns : List Int), vs = [.ref a] ∧ SqL K H a (ns.map V.int) ∧ ns.length ≤ 63 ∧ ∀ p H0 H', Ex H H0 → PenAt p H0 H' 0 → Q (.ref p.d) H'
def spDraw : Sp := fun vs H Q _ => ∃ (p : PenI) (H0 : Hp) (n : Nat) (m : Int), vs = [.ref p.d, .int m] ∧ PenAt p H0 H n ∧ n < 1000000 ∧ 0 < m ∧ m < 1000 ∧ ∀ H' r, PenAt p H0 H' (n + 1) → 0 ≤ r → r < m → Q (.int r) H'

section
variable {P : Program} {w : World} {K : PySem.W.Frag} {mg : Str → Option Value} {base : Heap}
theorem ok_pen {f : Addr} {fd : FuncData} (F : Fun K "_law_pen" "_law_pen" s_lpen f fd) (T : Tx mg) : FnOk P w K mg base CX0 1 f fd ["_law_script"] (spPen K) := by
  refine F.ok sc_lpen (fun vs H Q E h => ?_) (fun cdv A outer s H vs Q E hr h => ?_)
  · obtain ⟨a, ns, rfl, _⟩ := h
    rfl
  · obtain ⟨a, ns, rfl, hS, hl, q⟩ := h
    refine ⟨_, (pss_one (ps_ret (pe_disp (pps_cons pe_str (pe_callTy call_list_of (by rfl) T.list PyProof.Rows.boot_list (pa_cons (pe_slice sl_list (pv 0) po_none (po_some pe_int)) pa_nil)) (pps_cons pe_str pe_int (pps_cons pe_str pe_int pps_nil))) (by rfl) (by rfl) (fun z => by cases z) (by decide)))), ?_⟩
    intro d hd
    have e1 : Ex H (upd H d (.dK [])) := Ex.new hd
    refine ⟨.ref a, rfl, 63, rfl, a, _, rfl, ex_l e1 hS, fun c hc => ?_⟩
    have e2 := e1.trans (Ex.new (o := .lst (cutV (ns.map V.int) none (some 63))) hc)
    refine ⟨c, _, rfl, .inl (.inl (.inl upd_same)), fun c2 hc2 => ?_⟩
    have e3 := e2.trans (Ex.new (o := .lst (cutV (ns.map V.int) none (some 63))) hc2)
    have ncd : c ≠ d := fun z => by rw [z, upd_same] at hc; cases hc
    have nc2c : c2 ≠ c := fun z => by rw [z, upd_same] at hc2; cases hc2
    have nc2d : c2 ≠ d := fun z => by rw [z, upd_ne ncd.symm, upd_same] at hc2; cases hc2
    refine ⟨by rw [upd_ne nc2d.symm, upd_ne ncd.symm, upd_same], penK c2 0 0, rfl, (by show 3 ≤ 15; decide), ?_⟩
    have em : mergeK [] (penK c2 0 0) = penK c2 0 0 := by
      unfold mergeK penK
      simp [putK, cells_opened, opened_left, cells_left]
    rw [em]
    have el : ((cutV (ns.map V.int) none (some 63)) : List V) = ((ns.drop (HT.sIx ns.length 0 none)).take (HT.sIx ns.length ns.length (some 63) - HT.sIx ns.length 0 none)).map V.int := by
      unfold cutV
      rw [List.length_map, List.map_take, List.map_drop]
    have hn2 : H c2 = none := by
      rw [upd_ne nc2c, upd_ne nc2d] at hc2
      exact hc2
    refine q ⟨d, c2, (ns.drop (HT.sIx ns.length 0 none)).take (HT.sIx ns.length ns.length (some 63) - HT.sIx ns.length 0 none)⟩ (upd H c2 (.lst (cutV (ns.map V.int) none (some 63)))) _ (Ex.new hn2) ⟨fun b u e => ?_, ?_, ?_, ?_, 0, 0, Nat.le_refl _, upd_same⟩
    · have nbd : b ≠ d := fun z => by
        rw [z, upd_ne nc2d.symm, hd] at e
        cases e
      rw [upd_ne nbd]
      by_cases z : b = c2
      · subst z
        rw [upd_same] at e ⊢
        exact e
      · rw [upd_ne z] at e ⊢
        exact (e1.trans (Ex.new hc)) _ _ e
    · exact (upd_ne nc2d.symm).trans hd
    · show upd H c2 _ c2 = _
      rw [upd_same, el]
    · rw [List.length_take, List.length_drop]
      omega
theorem ok_draw {f : Addr} {fd : FuncData} (F : Fun K "_law_draw" "_law_draw" s_ldraw f fd) (T : Tx mg) : FnOk P w K mg base CX0 1 f fd ["_law_pen_here", "_law_base"] spDraw := by
  refine F.ok sc_ldraw (fun vs H Q E h => ?_) (fun cdv A outer s H vs Q E hr h => ?_)
  · obtain ⟨p, H0, n, m, rfl, _⟩ := h
    rfl
  · obtain ⟨⟨d, c, ns⟩, H0, n, m, rfl, ⟨e0, h0, hc0, hl, op, lf, ho, hd⟩, hn, hm0, hm1, q⟩ := h
    have hc : H c = some (.lst (ns.map V.int)) := e0 _ _ hc0
    dsimp only at h0 hl hd q ⊢
    have ncd : c ≠ d := ne_of hc hd (by intro z; cases z)
    have fin : ∀ (o2 : Nat) (l2 : Int) (H' : Hp), Ex H0 H' → H' c = some (.lst (ns.map V.int)) → H' d = some (.dK (penK c o2 l2)) → o2 ≤ n + 1 → PenAt ⟨d, c, ns⟩ H0 H' (n + 1) :=
      fun o2 l2 H' x1 x2 x3 x4 => ⟨x1, h0, hc0, hl, o2, l2, x4, x3⟩
    refine ⟨_, (pss_cons (ps_if (pt_cmpR op_gt (pe_dget (hu_of hr) (pv 0) pe_str (fun _ _ => rfl)) pe_int (nomark _)) (pss_cons (ps_set (i := 2) sc_ldraw.nd rfl (Or.inl rfl) (pe_op op_mod (pe_callTy call_int1 (by rfl) T.int PyProof.Rows.boot_int (pa_cons (pe_dget (hu_of hr) (pv 0) pe_str (fun _ _ => rfl)) pa_nil)) (pv 1)))
      (pss_cons (ps_dput (hu_of hr) (pv 0) pe_str (pe_op op_fdivN (pe_dget (hu_of hr) (pv 0) pe_str (fun _ _ => rfl)) (pv 1)) rfl)
      (pss_one (ps_ret (pv 2))))) pss_nil)
      (pss_cons (ps_par (i := 3) (j := 4) (by rfl) sc_ldraw.nd rfl rfl (by decide) rfl rfl (pa_cons (pe_dget (hu_of hr) (pv 0) pe_str (fun _ _ => rfl)) (pa_cons (pe_dget (hu_of hr) (pv 0) pe_str (fun _ _ => rfl)) pa_nil)) (by rfl))
      (pss_cons (ps_dput (hu_of hr) (pv 0) pe_str (pe_op op_add (pv 3) pe_int) rfl)
      (pss_cons (ps_if (pt_cmpR (op_eqD hr.units) (pv 4) (pe_lst pa_nil) (nomark _)) (pss_one (ps_ret (pe_op op_mod (pe_callTy call_int1 (by rfl) T.int PyProof.Rows.boot_int (pa_cons (pe_op op_add (pe_op op_mul pe_int (pv 3)) pe_int) pa_nil)) (pv 1)))) pss_nil)
      (pss_cons (ps_set (i := 5) sc_ldraw.nd rfl (Or.inl rfl) (pe_ix ix_list (pv 4) (pe_op op_mod (pe_callTy call_int1 (by rfl) T.int PyProof.Rows.boot_int (pa_cons (pv 3) pa_nil)) (pe_callB call_len_seq (by rfl) T.len PySem.boot_len (pa_cons (pv 4) pa_nil))) (fun _ _ => rfl)))
      (pss_cons (ps_if (PW.pt (pw_and (pt_cmpR op_lt (pv 3) (pe_callB call_len_seq (by rfl) T.len PySem.boot_len (pa_cons (pv 4) pa_nil)) (nomark _)) (pw_and1 (pt_cmpR op_ge (pe_callB call_abs (by rfl) T.abs (by decide +kernel) (pa_cons (pv 5) pa_nil)) (pe_op op_pow pe_int pe_int) (nomark _))))) (pss_cons (ps_dput (hu_of hr) (pv 0) pe_str (pe_op op_fdivN (pe_op op_sub (pe_callB call_abs (by rfl) T.abs (by decide +kernel) (pa_cons (pv 5) pa_nil)) (pe_op op_pow pe_int pe_int)) (pv 1)) rfl)
      (pss_one (ps_ret (pe_op op_mod (pe_callTy call_int1 (by rfl) T.int PyProof.Rows.boot_int (pa_cons (pe_op op_sub (pe_callB call_abs (by rfl) T.abs (by decide +kernel) (pa_cons (pv 5) pa_nil)) (pe_op op_pow pe_int pe_int)) pa_nil)) (pv 1))))) pss_nil)
      (pss_cons (ps_set (i := 6) sc_ldraw.nd rfl (Or.inl rfl) (pe_op op_mod (pe_callTy call_int1 (by rfl) T.int PyProof.Rows.boot_int (pa_cons (pe_op op_add (pe_op op_add (pe_op op_add (pe_op op_mul (pe_op op_mod (pe_callTy call_int1 (by rfl) T.int PyProof.Rows.boot_int (pa_cons (pv 5) pa_nil)) pe_int) pe_int) (pe_op op_mul (pe_op op_mul pe_int (pv 3)) (pv 3))) (pe_op op_mul pe_int (pv 3))) pe_int) pa_nil)) pe_int))
      (pss_cons (ps_set (i := 6) sc_ldraw.nd rfl (Or.inl rfl) (pe_op op_mod (pe_callTy call_int1 (by rfl) T.int PyProof.Rows.boot_int (pa_cons (pe_op op_add (pe_op op_add (pe_op op_mul (pv 6) (pv 6)) (pe_op op_mul pe_int (pv 6))) (pe_op op_mul pe_int (pv 3))) pa_nil)) pe_int))
      (pss_one (ps_ret (pe_op op_mod (pe_callTy call_int1 (by rfl) T.int PyProof.Rows.boot_int (pa_cons (pe_op op_fdivN (pe_op op_mod (pe_callTy call_int1 (by rfl) T.int PyProof.Rows.boot_int (pa_cons (pe_op op_mul (pv 6) (pe_op op_add (pv 6) pe_int)) pa_nil)) pe_int) pe_int) pa_nil)) (pv 1)))))))))))), ?_⟩
    refine ⟨_, rfl, d, .int lf, rfl, dget_of hd (get_left _ _ _), _, _, rfl, rfl, _, rfl, ite2 (fun hp => ?_) (fun hp => ?_)⟩
    · refine ⟨_, rfl, d, .int lf, rfl, dget_of hd (get_left _ _ _), .inl ⟨_, rfl, ?_⟩⟩
      refine ⟨_, rfl, _, _, rfl, rfl, hm0, ?_⟩
      refine ⟨_, rfl, d, .int lf, rfl, dget_of hd (get_left _ _ _), _, rfl, _, _, rfl, rfl, ⟨by omega, by omega⟩, ?_⟩
      refine ⟨_, rfl, d, _, rfl, dput_of hd (by show 3 < 100; decide) (put_left _ _ _ _), ?_⟩
      refine ⟨_, rfl, ?_⟩
      exact q _ _ (fin op _ _ (e0.mut h0) (by rw [upd_ne ncd]; exact hc) upd_same (by omega)) (Int.emod_nonneg _ (by omega)) (Int.emod_lt_of_pos _ hm0)
    · refine ⟨_, rfl, d, _, rfl, dget_of hd (get_opened _ _ _), _, rfl, d, _, rfl, dget_of hd (get_cells _ _ _), _, _, rfl, ?_⟩
      refine ⟨_, rfl, _, _, rfl, rfl, _, rfl, d, _, rfl, dput_of hd (by show 3 < 100; decide) (put_opened _ _ _ _), ?_⟩
      have x1 : Ex H0 (upd H d (.dK (penK c ((op : Int) + 1) lf))) := e0.mut h0
      have hc1 : (upd H d (.dK (penK c ((op : Int) + 1) lf))) c = some (.lst (ns.map V.int)) := by
        rw [upd_ne ncd]
        exact hc
      have hd1 : (upd H d (.dK (penK c ((op : Int) + 1) lf))) d = some (.dK (penK c ((op + 1 : Nat) : Int) lf)) := upd_same
      generalize (upd H d (.dK (penK c ((op : Int) + 1) lf))) = H1 at x1 hc1 hd1 ⊢
      -- if cells == []
      refine ⟨_, rfl, Nat.zero_le _, fun el hel => ?_⟩
      have x2 := x1.trans (Ex.new (o := .lst []) hel)
      have hc2 : (upd H1 el (.lst [])) c = some (.lst (ns.map V.int)) := Ex.new hel _ _ hc1
      have hd2 : (upd H1 el (.lst [])) d = some (.dK (penK c ((op + 1 : Nat) : Int) lf)) := Ex.new hel _ _ hd1
      refine ⟨.list (ns.map PyData.int), .list [], .lst (sq_of hc2) (dp_ints ns), .lst (xs := []) (sq_of upd_same) .nil, shaped_ints ns, rfl, _, rfl, ?_⟩
      rw [eqv_nil]
      generalize (upd H1 el (.lst [])) = H2 at x2 hc2 hd2 ⊢
      cases hns : ns.isEmpty with
      | true =>
        refine iteT ?_
        refine ⟨_, rfl, _, _, rfl, rfl, .inl (by decide), _, _, rfl, rfl, .inl ⟨_, rfl, _, rfl, _, _, rfl, rfl, hm0, ?_⟩⟩
        exact q _ _ (fin _ _ _ x2 hc2 hd2 (by omega)) (Int.emod_nonneg _ (by omega)) (Int.emod_lt_of_pos _ hm0)
      | false =>
        refine iteF ?_
        have hpos : 0 < ns.length := by
          cases ns with
          | nil => cases hns
          | cons x r => exact Nat.succ_pos _
        have hL : (0 : Int) < ((ns.map V.int).length : Int) := by
          rw [List.length_map]
          omega
        -- cell = cells[int(k) % len(cells)]
        obtain ⟨i, hi⟩ : ∃ i : Nat, (op : Int) % ((ns.map V.int).length : Int) = (i : Int) := ⟨((op : Int) % ((ns.map V.int).length : Int)).toNat, (Int.toNat_of_nonneg (Int.emod_nonneg _ (by omega))).symm⟩
        have hi2 : i < ns.length := by
          have := Int.emod_lt_of_pos (op : Int) hL
          rw [hi, List.length_map] at this
          omega
        have hat : atI (ns.map V.int) ((op : Int) % ((ns.map V.int).length : Int)) = some (V.int ns[i]) := by
          rw [hi]
          exact atI_nat (by rw [List.getElem?_map, List.getElem?_eq_getElem hi2]; rfl)
        refine ⟨_, rfl, _, rfl, .inl ⟨_, rfl, _, rfl, c, _, rfl, .inl (sq_of hc2), _, _, rfl, rfl, hL, c, _, _, _, rfl, rfl, sq_of hc2, hat, ?_⟩⟩
        generalize ns[i] = x
        -- the test
        have hcell : ∀ {σ : L2.St} {H' : Hp}, σ[5]? = some (some (V.int x)) → Ev (tVar 5) σ H' (V.int x) := fun h => ev_var h
        dsimp only [gName]
        refine q_when (b := decide ((op : Int) < ((ns.map V.int).length : Int)) && decide ((10 : Int) ^ (18 : Int).toNat ≤ (if x < 0 then -x else x)))
          (et_and (fun H4 e4 Q4 q4 => ?_) (fun _ H4 e4 Q4 q4 => ?_)) (fun hb H3 e3 => ?_) (fun hb H3 e3 => ?_)
        · exact ⟨_, rfl, _, rfl, c, _, rfl, .inl (sq_of (e4 _ _ hc2)), _, _, rfl, rfl, _, rfl, q4 _ (Ex.refl _)⟩
        · exact ⟨_, rfl, _, rfl, _, _, rfl, rfl, ⟨by decide, by decide, by decide⟩, _, _, rfl, rfl, _, rfl, q4 _ (Ex.refl _)⟩
        · have x3 := x2.trans e3
          refine ⟨_, rfl, _, rfl, _, _, rfl, rfl, ⟨by decide, by decide, by decide⟩, _, _, rfl, rfl, _, rfl, _, _, rfl, rfl, ⟨by omega, by omega⟩, ?_⟩
          refine ⟨_, rfl, d, _, rfl, dput_of (e3 _ _ hd2) (by show 3 < 100; decide) (put_left _ _ _ _), ?_⟩
          refine ⟨_, rfl, _, rfl, _, _, rfl, rfl, ⟨by decide, by decide, by decide⟩, _, _, rfl, rfl, .inl ⟨_, rfl, _, rfl, _, _, rfl, rfl, hm0, ?_⟩⟩
          exact q _ _ (fin _ _ _ (x3.mut h0) (by rw [upd_ne ncd]; exact e3 _ _ hc2) upd_same (by omega)) (Int.emod_nonneg _ (by omega)) (Int.emod_lt_of_pos _ hm0)
        · have x3 := x2.trans e3
          have b1 : (0 : Int) ≤ x % 4294965521 := Int.emod_nonneg _ (by decide)
          have b2 : x % 4294965521 < 4294965521 := Int.emod_lt_of_pos _ (by decide)
          refine ⟨_, rfl, .inl ⟨_, rfl, _, _, rfl, rfl, (by show (0 : Int) < _; decide), _, _, rfl, rfl, .inr ⟨by decide, by decide⟩, ?_⟩⟩
          refine ⟨_, rfl, _, _, rfl, rfl, .inl ⟨by decide, by decide⟩, _, rfl, _, _, rfl, rfl, .inr ⟨by omega, by omega⟩, _, _, rfl, rfl, ?_⟩
          refine ⟨_, rfl, _, _, rfl, rfl, .inl ⟨by decide, by decide⟩, _, _, rfl, rfl, _, _, rfl, rfl, .inl ⟨_, rfl, _, _, rfl, rfl, (by show (0 : Int) < _; decide), ?_⟩⟩
          generalize hy : (x % 4294965521 * 43793 + 25999 * (op : Int) * (op : Int) + 839 * (op : Int) + 67) % 4294965583 = y
          have b3 : 0 ≤ y := by rw [← hy]; exact Int.emod_nonneg _ (by decide)
          have b4 : y < 4294965583 := by rw [← hy]; exact Int.emod_lt_of_pos _ (by decide)
          refine ⟨_, rfl, _, rfl, _, _, rfl, rfl, .inl ⟨by omega, by omega⟩, _, rfl, _, _, rfl, rfl, .inl ⟨by decide, by decide⟩, _, _, rfl, rfl, ?_⟩
          refine ⟨_, rfl, _, _, rfl, rfl, .inl ⟨by decide, by decide⟩, _, _, rfl, rfl, .inl ⟨_, rfl, _, _, rfl, rfl, (by show (0 : Int) < _; decide), ?_⟩⟩
          generalize hz : (y * y + 40163 * y + 31 * (op : Int)) % 4294965511 = z
          have b5 : 0 ≤ z := by rw [← hz]; exact Int.emod_nonneg _ (by decide)
          have b6 : z < 4294965511 := by rw [← hz]; exact Int.emod_lt_of_pos _ (by decide)
          refine ⟨_, rfl, _, rfl, _, _, rfl, rfl, _, _, rfl, rfl, .inl ⟨by omega, by omega⟩, .inl ⟨_, rfl, _, _, rfl, rfl, (by show (0 : Int) < _; decide), _, _, rfl, rfl, ⟨by decide, by decide⟩, .inl ⟨_, rfl, _, rfl, _, _, rfl, rfl, hm0, ?_⟩⟩⟩
          exact q _ _ (fin _ _ _ x3 (e3 _ _ hc2) (e3 _ _ hd2) (by omega)) (Int.emod_nonneg _ (by omega)) (Int.emod_lt_of_pos _ hm0)
end
end Law

namespace Law
open PySem PySem.Spec PyProof.Rows L2 Evl
theorem sz_le {n : Nat} (h : n < 1000) : n ≤ sizeLine := Nat.le_trans (Nat.le_of_lt h) (by decide)
theorem at_draw {α : Type} {xs : List α} {r : Int} (h0 : 0 ≤ r) (h1 : r < (xs.length : Int)) : ∃ v, v ∈ xs ∧ atI xs r = some v := by
  obtain ⟨j, rfl⟩ : ∃ j : Nat, r = (j : Int) := ⟨r.toNat, (Int.toNat_of_nonneg h0).symm⟩
  have hj : j < xs.length := by omega
  exact ⟨xs[j], List.getElem_mem hj, atI_nat (List.getElem?_eq_getElem hj)⟩
theorem fresh0 {p : PenI} {H0 H : Hp} {n : Nat} {a : Addr} (P : PenAt p H0 H n) (h : H a = none) : H0 a = none := fresh_back P.1 h
theorem fresh_ne {p : PenI} {H0 H : Hp} {n : Nat} {a : Addr} (P : PenAt p H0 H n) (h : H a = none) : a ≠ p.d := by
  obtain ⟨kvs, h2⟩ := P.dict
  intro e
  rw [e, h2] at h
  cases h
theorem PenAt.both {p : PenI} {H0 H : Hp} {a : Addr} {n : Nat} {o : HO} (P : PenAt p H0 H n) (hd : a ≠ p.d) (hc : a ≠ p.c) : PenAt p (L2.upd H0 a o) (L2.upd H a o) n := by
  obtain ⟨e0, h0, hc0, hl, op, lf, ho, hd'⟩ := P
  refine ⟨fun b u e => ?_, by rw [upd_ne hd.symm]; exact h0, by rw [upd_ne hc.symm]; exact hc0, hl, op, lf, ho, by rw [upd_ne hd.symm]; exact hd'⟩
  by_cases q : b = a
  · subst q
    rw [upd_same] at e ⊢
    exact e
  · rw [upd_ne q] at e ⊢
    exact e0 b u e
theorem fresh_nc {p : PenI} {H0 H : Hp} {n : Nat} {a : Addr} (P : PenAt p H0 H n) (h : H a = none) : a ≠ p.c := fun e => by
  rw [e, P.1 _ _ P.2.2.1] at h
  cases h
/-- one more object made -/
theorem PenAt.made {p : PenI} {H0 H : Hp} {a : Addr} {n : Nat} {o : HO} (P : PenAt p H0 H n) (h : H a = none) : PenAt p (L2.upd H0 a o) (L2.upd H a o) n ∧ Ex H0 (L2.upd H0 a o) :=
  ⟨P.both (fresh_ne P h) (fresh_nc P h), Ex.new (fresh0 P h)⟩
def spPickS : Sp := fun vs H Q _ => ∃ (p : PenI) (H0 : Hp) (n : Nat) (z : Str), vs = [.ref p.d, .str z] ∧ PenAt p H0 H n ∧ n < 1000000 ∧ 0 < z.length ∧ z.length < 1000 ∧ ∀ H' c, PenAt p H0 H' (n + 1) → c ∈ z.cps.toList → Q (.str ⟨#[c]⟩) H'
def spPickL : Sp := fun vs H Q _ => ∃ (p : PenI) (H0 : Hp) (a : Addr) (n : Nat) (xs : List V), vs = [.ref p.d, .ref a] ∧ PenAt p H0 H n ∧ n < 1000000 ∧ H a = some (.lst xs) ∧ 0 < xs.length ∧ xs.length < 1000 ∧ ∀ H' v, PenAt p H0 H' (n + 1) → v ∈ xs → Q v H'
section
variable {P : Program} {w : World} {K : PySem.W.Frag} {mg : Str → Option Value} {base : Heap}
theorem ok_pickL {f : Addr} {fd : FuncData} (F : Fun K "_law_pick" "_law_pick" s_lpick f fd) (T : Tx mg) (c_ldraw : Kn P w K mg base "_law_draw" ["_law_pen_here", "_law_base"] 1 spDraw) : FnOk P w K mg base CX0 2 f fd ["_law_pen_here", "_law_some"] spPickL := by
  refine F.ok sc_lpick (fun vs H Q E h => ?_) (fun cdv A outer s H vs Q E hr h => ?_)
  · obtain ⟨p, H0, a, n, xs, rfl, _⟩ := h
    rfl
  · obtain ⟨p, H0, a, n, xs, rfl, P0, hn, hx, hz0, hz1, q⟩ := h
    refine ⟨_, (pss_one (ps_ret (pe_ix ix_list (pv 1) (pe_call c_ldraw.ok (hr.mono (by decide)) (by rfl) c_ldraw.g c_ldraw.kp c_ldraw.b .nil pass0 (pa_cons (pv 0) (pa_cons (pe_callB call_len_seq (by rfl) T.len PySem.boot_len (pa_cons (pv 1) pa_nil)) pa_nil))) (fun _ _ => rfl)))), ?_⟩
    refine ⟨_, rfl, _, rfl, _, rfl, a, xs, rfl, .inl (sq_of hx), p, upd H0 a (.lst xs), n, _, rfl, P0.keep hx (P0.lst_ne hx), hn, by omega, by omega, fun H' r P1 r0 r1 => ?_⟩
    obtain ⟨v, hv, ha⟩ := at_draw (xs := xs) r0 r1
    exact ⟨a, xs, r, v, rfl, rfl, sq_of (P1.1 _ _ upd_same), ha, q _ _ (P0.drop hx P1) hv⟩
end
end Law

namespace Law
open PySem PySem.Spec PyProof.Rows L2 Evl
/-- a value without parts, as data -/
inductive Fl : V → PyData → Prop
  | non : Fl .non .none
  | bl (b : Bool) : Fl (.bl b) (.bool b)
  | int (i : Int) : Fl (.int i) (.int i)
  | str (z : Str) : Fl (.str z) (.str z)
/-- the values that are drawn -/
inductive AV (H : Hp) : V → PyData → Prop
  | flat {v : V} {d : PyData} : Fl v d → AV H v d
  | tup {a : Addr} {ns : List Int} : H a = some (.tup (ns.map V.int)) → ns.length ≤ 2 → AV H (.ref a) (.tuple (ns.map PyData.int))
  | lst {a : Addr} {n : Int} : H a = some (.lst [.int n]) → AV H (.ref a) (.list [.int n])
  | emp {a : Addr} : H a = some (.dK []) → AV H (.ref a) (.dict [])
theorem AV.ex {H H' : Hp} {v : V} {d : PyData} (h : AV H v d) (e : Ex H H') : AV H' v d := by
  cases h with
  | flat f => exact .flat f
  | tup h l => exact .tup (e _ _ h) l
  | lst h => exact .lst (e _ _ h)
  | emp h => exact .emp (e _ _ h)
theorem Fl.de {K : PySem.W.Frag} {H : Hp} {v : V} {d : PyData} (h : Fl v d) : DX.DE K H v d := by
  cases h with
  | non => exact .non
  | bl b => exact .bl b
  | int i => exact .int i
  | str z => exact .str z
theorem des_ints {K : PySem.W.Frag} {H : Hp} : ∀ ns : List Int, DX.DEs K H (ns.map V.int) (ns.map PyData.int)
  | [] => .nil
  | n :: r => .cons (.int n) (des_ints r)
theorem AV.de {K : PySem.W.Frag} {H : Hp} {v : V} {d : PyData} (h : AV H v d) : DX.DE K H v d := by
  cases h with
  | flat f => exact f.de
  | tup h l => exact .tup (st_of h) (des_ints _)
  | lst h => exact .lst (sq_of h) (.cons (.int _) .nil)
  | emp h => exact .emp h
theorem Fl.kinds {K : PySem.W.Frag} {v : V} {d : PyData} (h : Fl v d) (H : Hp) : ∃ t, TyX K H v t ∧ PySem.W.kitOne K t (.type "list") = some false ∧ PySem.W.kitOne K t (.type "tuple") = some false ∧ PySem.W.kitOne K t (.type "dict") = some false := by
  cases h with
  | non => exact ⟨_, .base .non, kit_ty (by decide +kernel), kit_ty (by decide +kernel), kit_ty (by decide +kernel)⟩
  | bl b => exact ⟨_, .base (.bl b), kit_ty (by decide +kernel), kit_ty (by decide +kernel), kit_ty (by decide +kernel)⟩
  | int n => exact ⟨_, .base (.int n), kit_ty (by decide +kernel), kit_ty (by decide +kernel), kit_ty (by decide +kernel)⟩
  | str z => exact ⟨_, .base (.str z), kit_ty (by decide +kernel), kit_ty (by decide +kernel), kit_ty (by decide +kernel)⟩
theorem kl_l {K : PySem.W.Frag} : PySem.W.kitOne K (.type "list") (.type "list") = some true := kit_ty (by decide +kernel)
theorem kt_l {K : PySem.W.Frag} : PySem.W.kitOne K (.type "tuple") (.type "list") = some false := kit_ty (by decide +kernel)
theorem kt_t {K : PySem.W.Frag} : PySem.W.kitOne K (.type "tuple") (.type "tuple") = some true := kit_ty (by decide +kernel)
theorem kd_l {K : PySem.W.Frag} : PySem.W.kitOne K (.type "dict") (.type "list") = some false := kit_ty (by decide +kernel)
theorem kd_t {K : PySem.W.Frag} : PySem.W.kitOne K (.type "dict") (.type "tuple") = some false := kit_ty (by decide +kernel)
theorem kd_d {K : PySem.W.Frag} : PySem.W.kitOne K (.type "dict") (.type "dict") = some true := kit_ty (by decide +kernel)
def spKf : Sp := fun vs H Q _ => ∃ v d, vs = [v] ∧ Fl v d ∧ Q v H
def spKept : Sp := fun vs H Q _ => ∃ v d, vs = [v] ∧ AV H v d ∧ ∀ v' H', Ex H H' → AV H' v' d → Q v' H'
section
variable {P : Program} {w : World} {K : PySem.W.Frag} {mg : Str → Option Value} {base : Heap}
theorem ok_kf {f : Addr} {fd : FuncData} (F : Fun K "_kept" "_kept" s_kept f fd) (T : Tx mg) : FnOk P w K mg base CX0 1 f fd ["value"] spKf := by
  refine F.ok sc_kept (fun vs H Q E h => ?_) (fun cdv A outer s H vs Q E hr h => ?_)
  · obtain ⟨v, d, rfl, _⟩ := h
    rfl
  · obtain ⟨v, d, rfl, hv, q⟩ := h
    refine ⟨_, (pss_cons (ps_if (pt_val (pe_callB call_isi (by rfl) T.isinstance PyProof.Rows.boot_isinstance (pa_cons (pv 0) (pa_cons (pe_bltn (v := .ty "list") (by rfl) T.list PyProof.Rows.boot_list rfl) pa_nil)))) (pss_one ps_never) pss_nil)
      (pss_cons (ps_if (pt_val (pe_callB call_isi (by rfl) T.isinstance PyProof.Rows.boot_isinstance (pa_cons (pv 0) (pa_cons (pe_bltn (v := .ty "tuple") (by rfl) T.tuple PyProof.Rows.boot_tuple rfl) pa_nil)))) (pss_one ps_never) pss_nil)
      (pss_cons (ps_if (pt_val (pe_callB call_isi (by rfl) T.isinstance PyProof.Rows.boot_isinstance (pa_cons (pv 0) (pa_cons (pe_bltn (v := .ty "dict") (by rfl) T.dict PyProof.Rows.boot_dict rfl) pa_nil)))) (pss_one ps_never) pss_nil)
      (pss_one (ps_ret (pv 0)))))), ?_⟩
    obtain ⟨t, ty, k1, k2, k3⟩ := hv.kinds (K := K) H
    refine ⟨_, rfl, _, _, _, _, false, rfl, .ty _, ty, k1, false, rfl, iteF ?_⟩
    refine ⟨_, rfl, _, _, _, _, false, rfl, .ty _, ty, k2, false, rfl, iteF ?_⟩
    refine ⟨_, rfl, _, _, _, _, false, rfl, .ty _, ty, k3, false, rfl, iteF ?_⟩
    exact ⟨_, rfl, q⟩
theorem ok_kept {f : Addr} {fd : FuncData} (F : Fun K "_kept" "_kept" s_kept f fd) (T : Tx mg) (c_kept : Kn P w K mg base "_kept" ["value"] 1 spKf) : FnOk P w K mg base CX0 2 f fd ["value"] spKept := by
  refine F.ok sc_kept (fun vs H Q E h => ?_) (fun cdv A outer s H vs Q E hr h => ?_)
  · obtain ⟨v, d, rfl, _⟩ := h
    rfl
  · obtain ⟨v, d, rfl, hv, q⟩ := h
    refine ⟨_, (pss_cons (ps_if (pt_val (pe_callB call_isi (by rfl) T.isinstance PyProof.Rows.boot_isinstance (pa_cons (pv 0) (pa_cons (pe_bltn (v := .ty "list") (by rfl) T.list PyProof.Rows.boot_list rfl) pa_nil)))) (pss_one (ps_ret (pe_lc (own := [("part", 1)]) (g := gName 1) (tt := tYes) rfl sc_kept.nd (pi_list (pv 0)) (blkOk_by (N := N_kept) (sc := defScope s_kept) (by decide +kernel)) (fun _ _ _ _ _ => (pg_name (i := 1) sc_kept.nd rfl (Or.inl rfl))) (fun _ _ _ _ _ => pts_nil) (fun _ _ _ _ _ => (pe_call c_kept.ok (hr.mono (by decide)) (by rfl) c_kept.g c_kept.kp c_kept.b .nil pass0 (pa_cons (pv 1) pa_nil)))))) pss_nil)
      (pss_cons (ps_if (pt_val (pe_callB call_isi (by rfl) T.isinstance PyProof.Rows.boot_isinstance (pa_cons (pv 0) (pa_cons (pe_bltn (v := .ty "tuple") (by rfl) T.tuple PyProof.Rows.boot_tuple rfl) pa_nil)))) (pss_one (ps_ret (pe_callTy call_tuple_of (by rfl) T.tuple PyProof.Rows.boot_tuple (pa_cons (pe_lc (own := [("part", 1)]) (g := gName 1) (tt := tYes) rfl sc_kept.nd (pi_tup (pv 0)) (blkOk_by (N := N_kept) (sc := defScope s_kept) (by decide +kernel)) (fun _ _ _ _ _ => (pg_name (i := 1) sc_kept.nd rfl (Or.inl rfl))) (fun _ _ _ _ _ => pts_nil) (fun _ _ _ _ _ => (pe_call c_kept.ok (hr.mono (by decide)) (by rfl) c_kept.g c_kept.kp c_kept.b .nil pass0 (pa_cons (pv 1) pa_nil)))) pa_nil)))) pss_nil)
      (pss_cons (ps_if (pt_val (pe_callB call_isi (by rfl) T.isinstance PyProof.Rows.boot_isinstance (pa_cons (pv 0) (pa_cons (pe_bltn (v := .ty "dict") (by rfl) T.dict PyProof.Rows.boot_dict rfl) pa_nil)))) (pss_one (ps_ret (pe_lock (pe_dc (own := [("key", 2)]) (g := gName 2) (tt := tYes) rfl sc_kept.nd (pi_keys (pv 0)) (blkOk_by (N := N_kept) (sc := defScope s_kept) (by decide +kernel)) (fun _ _ _ _ _ => (pg_name (i := 2) sc_kept.nd rfl (Or.inl rfl))) (fun _ _ _ _ _ => pts_nil) (fun _ _ _ _ _ => (pv 2)) (fun _ _ _ _ _ => (pe_call c_kept.ok (hr.mono (by decide)) (by rfl) c_kept.g c_kept.kp c_kept.b .nil pass0 (pa_cons (pe_dget (hu_of hr) (pv 0) (pv 2) (fun _ _ => rfl)) pa_nil))))))) pss_nil)
      (pss_one (ps_ret (pv 0)))))), ?_⟩
    cases hv with
    | flat hv =>
      obtain ⟨t, ty, k1, k2, k3⟩ := hv.kinds (K := K) H
      refine ⟨_, rfl, _, _, _, _, false, rfl, .ty _, ty, k1, false, rfl, iteF ?_⟩
      refine ⟨_, rfl, _, _, _, _, false, rfl, .ty _, ty, k2, false, rfl, iteF ?_⟩
      refine ⟨_, rfl, _, _, _, _, false, rfl, .ty _, ty, k3, false, rfl, iteF ?_⟩
      exact ⟨_, rfl, q _ _ (Ex.refl _) (.flat hv)⟩
    | @lst a n ha =>
      refine ⟨_, rfl, _, _, _, _, true, rfl, .ty _, .base (.lst ha), kl_l, true, rfl, iteT ?_⟩
      refine ⟨_, rfl, a, rfl, ⟨_, sq_of ha⟩, fun D hD => ?_⟩
      refine lc_list (fun i H' => Ex H H' ∧ H D = none ∧ H' D = some (.lst (([.int n] : List V).take i))) ⟨Ex.new hD, hD, upd_same⟩ (fun i H' _ p => sq_of (p.1 _ _ ha)) (fun i x H' hx p => ?_) (fun H' p => ?_)
      · obtain ⟨e, h0, hz⟩ := p
        have hi : i = 0 := by
          have := (List.getElem?_eq_some_iff.mp hx).1
          simp at this
          omega
        subst hi
        cases hx
        refine ⟨rfl, ?_⟩
        exact ⟨_, rfl, _, _, rfl, .int n, _, hz, (show 0 < sizeLine by decide), e.mut h0, h0, upd_same⟩
      · obtain ⟨e, h0, hz⟩ := p
        exact q _ _ e (.lst hz)
    | @tup a ns ha hl =>
      refine ⟨_, rfl, _, _, _, _, false, rfl, .ty _, .base (.tup ha), kt_l, false, rfl, iteF ?_⟩
      refine ⟨_, rfl, _, _, _, _, true, rfl, .ty _, .base (.tup ha), kt_t, true, rfl, iteT ?_⟩
      refine ⟨_, rfl, a, rfl, ⟨_, st_of ha⟩, fun D hD => ?_⟩
      refine lc_tup (fun i H' => Ex H H' ∧ H D = none ∧ H' D = some (.lst ((ns.take i).map V.int))) ⟨Ex.new hD, hD, upd_same⟩ (fun i H' _ p => st_of (p.1 _ _ ha)) (fun i x H' hx p => ?_) (fun H' p => ?_)
      · obtain ⟨e, h0, hz⟩ := p
        rw [List.getElem?_map] at hx
        obtain ⟨n, hn, rfl⟩ := Option.map_eq_some_iff.mp hx
        refine ⟨rfl, ?_⟩
        refine ⟨_, rfl, _, _, rfl, .int n, _, hz, ?_, e.mut h0, h0, ?_⟩
        · rw [List.length_map, List.length_take]
          exact Nat.lt_of_le_of_lt (Nat.min_le_right _ _) (Nat.lt_of_le_of_lt hl (by decide))
        · rw [upd_same, List.take_add_one, hn, List.map_append]
          rfl
      · obtain ⟨e, h0, hz⟩ := p
        rw [List.length_map, List.take_length] at hz
        refine ⟨D, _, rfl, .inl ⟨sq_of hz, fun p hp => ?_⟩⟩
        exact q _ _ (e.trans (Ex.new hp)) (.tup upd_same hl)
    | @emp a ha =>
      refine ⟨_, rfl, _, _, _, _, false, rfl, .ty _, .base (.dK ha), kd_l, false, rfl, iteF ?_⟩
      refine ⟨_, rfl, _, _, _, _, false, rfl, .ty _, .base (.dK ha), kd_t, false, rfl, iteF ?_⟩
      refine ⟨_, rfl, _, _, _, _, true, rfl, .ty _, .base (.dK ha), kd_d, true, rfl, iteT ?_⟩
      refine ⟨a, _, ha, True.intro, fun od => ?_⟩
      refine ⟨_, rfl, a, od, rfl, .inl ⟨[], upd_same, fun D hD => ⟨fun i m H' => i = 0 ∧ H' = upd (upd H a (.frz od (.dK []))) D (.dK []), ⟨0, rfl, rfl⟩, ?_⟩⟩⟩
      rintro i m H' ⟨rfl, rfl⟩
      have ne : D ≠ a := fun z => by
        rw [z, upd_same] at hD
        cases hD
      have hD2 : H D = none := by
        rw [upd_ne ne] at hD
        exact hD
      have hfz : (upd (upd H a (.frz od (.dK []))) D (.dK [])) a = some (.frz od (.dK [])) := by
        rw [upd_ne ne.symm, upd_same]
      refine .inl ⟨⟨hfz, Nat.le_refl _⟩, hfz, ?_⟩
      refine q _ _ (fun b o e => ?_) (.emp (by rw [upd_ne ne, upd_same]))
      by_cases hb : b = a
      · subst hb
        rw [upd_same, ← ha, e]
      · rw [upd_ne hb, upd_ne (fun z => by rw [z, hD2] at e; cases e), upd_ne hb]
        exact e
end
end Law

namespace Law
open PySem PySem.Spec PyProof.Rows L2 Evl
/-- what the __init__ of an error leaves -/
def ErE (H : Hp) (a C : Addr) (fs : List (Str × V)) (H' : Hp) : Prop := ∃ dx, H' a = some (exo a C (some dx)) ∧ H' dx = some (exd dx fs) ∧ H dx = none ∧ dx ≠ a ∧ ∀ b o, H b = some o → b ≠ a → H' b = some o
/-- the error stands -/
structure Ers (H : Hp) (a C dx : Addr) (fs : List (Str × V)) (H' : Hp) : Prop where
  o : H' a = some (exo a C (some dx))
  x : H' dx = some (exd dx fs)
  n : H dx = none
  ne : dx ≠ a
  k : ∀ b o, H b = some o → b ≠ a → H' b = some o
theorem AV.keep {H H' : Hp} {a C : Addr} {d : Option Addr} {v : V} {x : PyData} (h : AV H v x) (ha : H a = some (exo a C d)) (k : ∀ b o, H b = some o → b ≠ a → H' b = some o) : AV H' v x := by
  cases h with
  | flat f => exact .flat f
  | tup h l => exact .tup (k _ _ h (fun z => by rw [z, ha] at h; cases h)) l
  | lst h => exact .lst (k _ _ h (fun z => by rw [z, ha] at h; cases h))
  | emp h => exact .emp (k _ _ h (fun z => by rw [z, ha] at h; cases h))
theorem ers_new {H H1 : Hp} {a C dx : Addr} {f : Str} {v : V} (ha : H a = some (exo a C none)) (e : Ex H H1) (hd : H1 dx = none) (hne : dx ≠ a) : Ers H a C dx [(f, v)] (upd (upd H1 dx (exd dx [(f, v)])) a (exo a C (some dx))) where
  o := upd_same
  x := by rw [upd_ne hne, upd_same]
  n := by
    cases q : H dx with
    | none => rfl
    | some o =>
      have := e _ _ q
      rw [hd] at this
      cases this
  ne := hne
  k := fun b o z nb => by
    have z1 := e _ _ z
    rw [upd_ne nb, upd_ne (fun y => by rw [y, hd] at z1; cases z1)]
    exact z1
theorem ers_put {H H1 H2 : Hp} {a C dx : Addr} {f : Str} {v : V} {fs : List (Str × V)} (E : Ers H a C dx fs H1) (e : Ex H1 H2) : Ers H a C dx ((f, v) :: fs) (upd H2 dx (exd dx ((f, v) :: fs))) where
  o := by rw [upd_ne E.ne.symm]; exact e _ _ E.o
  x := upd_same
  n := E.n
  ne := E.ne
  k := fun b o z nb => by
    rw [upd_ne (fun y => by rw [y, E.n] at z; cases z)]
    exact e _ _ (E.k b o z nb)
/-- a value that stood when the first field was stored -/
theorem AV.over {H : Hp} {dx : Addr} {x : PyData} {fs gs : List (Str × V)} {v : V} (h : AV H v x) (hd : H dx = some (exd dx gs)) : AV (upd H dx (exd dx fs)) v x := by
  have ne : ∀ {b : Addr} {o : HO}, H b = some o → (∀ z : exd dx gs = o, False) → b ≠ dx := fun hb hn z => by
    rw [z, hd] at hb
    exact hn (Option.some.inj hb)
  cases h with
  | flat f => exact .flat f
  | tup h l => exact .tup (by rw [upd_ne (ne h (fun z => by cases z))]; exact h) l
  | lst h => exact .lst (by rw [upd_ne (ne h (fun z => by cases z))]; exact h)
  | emp h => exact .emp (by rw [upd_ne (ne h (fun z => by cases z))]; exact h)
theorem AV.newx {H : Hp} {a C dx : Addr} {fs : List (Str × V)} {v : V} {x : PyData} (h : AV H v x) (ha : H a = some (exo a C none)) (hd : H dx = none) : AV (upd (upd H dx (exd dx fs)) a (exo a C (some dx))) v x :=
  h.keep ha fun b o z nb => by
    rw [upd_ne nb, upd_ne (fun y => by rw [y, hd] at z; cases z)]
    exact z
def spE1 (C : Addr) (f : Str) : Sp := fun vs H Q _ => ∃ a v d, vs = [.ref a, v] ∧ H a = some (exo a C none) ∧ AV H v d ∧ ∀ dx v' H', Ers H a C dx [(f, v')] H' → AV H' v' d → Q .non H'
def spE2 (C : Addr) (f g : Str) : Sp := fun vs H Q _ => ∃ a v d u e, vs = [.ref a, v, u] ∧ H a = some (exo a C none) ∧ AV H v d ∧ AV H u e ∧ ∀ dx v' u' H', Ers H a C dx [(g, u'), (f, v')] H' → AV H' v' d → AV H' u' e → Q .non H'
def spE3 (C : Addr) (f g h : Str) : Sp := fun vs H Q _ => ∃ a v d u e w b, vs = [.ref a, v, u, w] ∧ H a = some (exo a C none) ∧ AV H v d ∧ AV H u e ∧ AV H w b ∧ ∀ dx v' u' w' H', Ers H a C dx [(h, w'), (g, u'), (f, v')] H' → AV H' v' d → AV H' u' e → AV H' w' b → Q .non H'
/-- the base -/
structure BaseC (K : PySem.W.Frag) (mg : Str → Option Value) (C0 : Addr) : Prop where
  g : mg "SkipsError" = some (.ref C0)
  r : ClX.CRead K C0 (.type "type")
  v : PySem.W.findCls K (.ref C0) (.type "type") "__init__" = some (.val (.builtin "ValueError.__init__"))
section
variable {P : Program} {w : World} {K : PySem.W.Frag} {mg : Str → Option Value} {base : Heap}
theorem ok_BadLetters {f C C0 : Addr} {fd : FuncData} (F : Fun K "__init__" "BadLetters.__init__" s_BadLetters_init f fd) (T : Tx mg) (B0 : BaseC K mg C0) (O : OexC K C) (N : PySem.W.findIn K (.ref C) "letters" = some none) (c_kept : Kn P w K mg base "_kept" ["value"] 2 spKept) :
    FnOk P w K mg base CX0 3 f fd ["self", "letters"] (spE1 C "letters") := by
  refine F.ok sc_BadLetters_init (fun vs H Q E h => ?_) (fun cdv A outer s H vs Q E hr h => ?_)
  · obtain ⟨a, v, d, rfl, _⟩ := h
    rfl
  · obtain ⟨a, v, d, rfl, ha, hv, q⟩ := h
    obtain ⟨g_SkipsError, R_SkipsError, V_SkipsError⟩ := B0
    refine ⟨_, (pss_cons (ps_expr (EK.pe_skinit (by rfl) g_SkipsError R_SkipsError V_SkipsError (pa_cons (pv 0) (pa_cons pe_str pa_nil))))
      (pss_one (ps_ost (pv 0) (pe_call c_kept.ok (hr.mono (by decide)) (by rfl) c_kept.g c_kept.kp c_kept.b .nil pass0 (pa_cons (pv 1) pa_nil))))), ?_⟩
    refine ⟨_, rfl, a, C, _, rfl, by show 1 ≤ 1000; decide, O, ha, ?_⟩
    refine ⟨_, rfl, v, d, rfl, hv, fun v' H1 e1 hv1 => ⟨_, rfl, a, C, rfl, O, N, .inl ⟨e1 _ _ ha, fun dx hd hne => ?_⟩⟩⟩
    exact q dx v' _ (ers_new ha e1 hd hne) (hv1.newx (e1 _ _ ha) hd)
theorem ok_BadWords {f C C0 : Addr} {fd : FuncData} (F : Fun K "__init__" "BadWords.__init__" s_BadWords_init f fd) (T : Tx mg) (B0 : BaseC K mg C0) (O : OexC K C) (N : PySem.W.findIn K (.ref C) "place" = some none) (c_kept : Kn P w K mg base "_kept" ["value"] 2 spKept) :
    FnOk P w K mg base CX0 3 f fd ["self", "place"] (spE1 C "place") := by
  refine F.ok sc_BadWords_init (fun vs H Q E h => ?_) (fun cdv A outer s H vs Q E hr h => ?_)
  · obtain ⟨a, v, d, rfl, _⟩ := h
    rfl
  · obtain ⟨a, v, d, rfl, ha, hv, q⟩ := h
    obtain ⟨g_SkipsError, R_SkipsError, V_SkipsError⟩ := B0
    refine ⟨_, (pss_cons (ps_expr (EK.pe_skinit (by rfl) g_SkipsError R_SkipsError V_SkipsError (pa_cons (pv 0) (pa_cons pe_str pa_nil))))
      (pss_one (ps_ost (pv 0) (pe_call c_kept.ok (hr.mono (by decide)) (by rfl) c_kept.g c_kept.kp c_kept.b .nil pass0 (pa_cons (pv 1) pa_nil))))), ?_⟩
    refine ⟨_, rfl, a, C, _, rfl, by show 1 ≤ 1000; decide, O, ha, ?_⟩
    refine ⟨_, rfl, v, d, rfl, hv, fun v' H1 e1 hv1 => ⟨_, rfl, a, C, rfl, O, N, .inl ⟨e1 _ _ ha, fun dx hd hne => ?_⟩⟩⟩
    exact q dx v' _ (ers_new ha e1 hd hne) (hv1.newx (e1 _ _ ha) hd)
theorem ok_BadText {f C C0 : Addr} {fd : FuncData} (F : Fun K "__init__" "BadText.__init__" s_BadText_init f fd) (T : Tx mg) (B0 : BaseC K mg C0) (O : OexC K C) (N : PySem.W.findIn K (.ref C) "place" = some none) (c_kept : Kn P w K mg base "_kept" ["value"] 2 spKept) :
    FnOk P w K mg base CX0 3 f fd ["self", "place"] (spE1 C "place") := by
  refine F.ok sc_BadText_init (fun vs H Q E h => ?_) (fun cdv A outer s H vs Q E hr h => ?_)
  · obtain ⟨a, v, d, rfl, _⟩ := h
    rfl
  · obtain ⟨a, v, d, rfl, ha, hv, q⟩ := h
    obtain ⟨g_SkipsError, R_SkipsError, V_SkipsError⟩ := B0
    refine ⟨_, (pss_cons (ps_expr (EK.pe_skinit (by rfl) g_SkipsError R_SkipsError V_SkipsError (pa_cons (pv 0) (pa_cons pe_str pa_nil))))
      (pss_one (ps_ost (pv 0) (pe_call c_kept.ok (hr.mono (by decide)) (by rfl) c_kept.g c_kept.kp c_kept.b .nil pass0 (pa_cons (pv 1) pa_nil))))), ?_⟩
    refine ⟨_, rfl, a, C, _, rfl, by show 1 ≤ 1000; decide, O, ha, ?_⟩
    refine ⟨_, rfl, v, d, rfl, hv, fun v' H1 e1 hv1 => ⟨_, rfl, a, C, rfl, O, N, .inl ⟨e1 _ _ ha, fun dx hd hne => ?_⟩⟩⟩
    exact q dx v' _ (ers_new ha e1 hd hne) (hv1.newx (e1 _ _ ha) hd)
theorem ok_BadWish {f C C0 : Addr} {fd : FuncData} (F : Fun K "__init__" "BadWish.__init__" s_BadWish_init f fd) (T : Tx mg) (B0 : BaseC K mg C0) (O : OexC K C) (N : PySem.W.findIn K (.ref C) "wish" = some none) (c_kept : Kn P w K mg base "_kept" ["value"] 2 spKept) :
    FnOk P w K mg base CX0 3 f fd ["self", "wish"] (spE1 C "wish") := by
  refine F.ok sc_BadWish_init (fun vs H Q E h => ?_) (fun cdv A outer s H vs Q E hr h => ?_)
  · obtain ⟨a, v, d, rfl, _⟩ := h
    rfl
  · obtain ⟨a, v, d, rfl, ha, hv, q⟩ := h
    obtain ⟨g_SkipsError, R_SkipsError, V_SkipsError⟩ := B0
    refine ⟨_, (pss_cons (ps_expr (EK.pe_skinit (by rfl) g_SkipsError R_SkipsError V_SkipsError (pa_cons (pv 0) (pa_cons pe_str pa_nil))))
      (pss_one (ps_ost (pv 0) (pe_call c_kept.ok (hr.mono (by decide)) (by rfl) c_kept.g c_kept.kp c_kept.b .nil pass0 (pa_cons (pv 1) pa_nil))))), ?_⟩
    refine ⟨_, rfl, a, C, _, rfl, by show 1 ≤ 1000; decide, O, ha, ?_⟩
    refine ⟨_, rfl, v, d, rfl, hv, fun v' H1 e1 hv1 => ⟨_, rfl, a, C, rfl, O, N, .inl ⟨e1 _ _ ha, fun dx hd hne => ?_⟩⟩⟩
    exact q dx v' _ (ers_new ha e1 hd hne) (hv1.newx (e1 _ _ ha) hd)
theorem ok_BadWidth {f C C0 : Addr} {fd : FuncData} (F : Fun K "__init__" "BadWidth.__init__" s_BadWidth_init f fd) (T : Tx mg) (B0 : BaseC K mg C0) (O : OexC K C) (N : PySem.W.findIn K (.ref C) "width" = some none) (c_kept : Kn P w K mg base "_kept" ["value"] 2 spKept) :
    FnOk P w K mg base CX0 3 f fd ["self", "width"] (spE1 C "width") := by
  refine F.ok sc_BadWidth_init (fun vs H Q E h => ?_) (fun cdv A outer s H vs Q E hr h => ?_)
  · obtain ⟨a, v, d, rfl, _⟩ := h
    rfl
  · obtain ⟨a, v, d, rfl, ha, hv, q⟩ := h
    obtain ⟨g_SkipsError, R_SkipsError, V_SkipsError⟩ := B0
    refine ⟨_, (pss_cons (ps_expr (EK.pe_skinit (by rfl) g_SkipsError R_SkipsError V_SkipsError (pa_cons (pv 0) (pa_cons pe_str pa_nil))))
      (pss_one (ps_ost (pv 0) (pe_call c_kept.ok (hr.mono (by decide)) (by rfl) c_kept.g c_kept.kp c_kept.b .nil pass0 (pa_cons (pv 1) pa_nil))))), ?_⟩
    refine ⟨_, rfl, a, C, _, rfl, by show 1 ≤ 1000; decide, O, ha, ?_⟩
    refine ⟨_, rfl, v, d, rfl, hv, fun v' H1 e1 hv1 => ⟨_, rfl, a, C, rfl, O, N, .inl ⟨e1 _ _ ha, fun dx hd hne => ?_⟩⟩⟩
    exact q dx v' _ (ers_new ha e1 hd hne) (hv1.newx (e1 _ _ ha) hd)
theorem ok_BadLine {f C C0 : Addr} {fd : FuncData} (F : Fun K "__init__" "BadLine.__init__" s_BadLine_init f fd) (T : Tx mg) (B0 : BaseC K mg C0) (O : OexC K C) (N : PySem.W.findIn K (.ref C) "line" = some none) (c_kept : Kn P w K mg base "_kept" ["value"] 2 spKept) :
    FnOk P w K mg base CX0 3 f fd ["self", "line"] (spE1 C "line") := by
  refine F.ok sc_BadLine_init (fun vs H Q E h => ?_) (fun cdv A outer s H vs Q E hr h => ?_)
  · obtain ⟨a, v, d, rfl, _⟩ := h
    rfl
  · obtain ⟨a, v, d, rfl, ha, hv, q⟩ := h
    obtain ⟨g_SkipsError, R_SkipsError, V_SkipsError⟩ := B0
    refine ⟨_, (pss_cons (ps_expr (EK.pe_skinit (by rfl) g_SkipsError R_SkipsError V_SkipsError (pa_cons (pv 0) (pa_cons pe_str pa_nil))))
      (pss_one (ps_ost (pv 0) (pe_call c_kept.ok (hr.mono (by decide)) (by rfl) c_kept.g c_kept.kp c_kept.b .nil pass0 (pa_cons (pv 1) pa_nil))))), ?_⟩
    refine ⟨_, rfl, a, C, _, rfl, by show 1 ≤ 1000; decide, O, ha, ?_⟩
    refine ⟨_, rfl, v, d, rfl, hv, fun v' H1 e1 hv1 => ⟨_, rfl, a, C, rfl, O, N, .inl ⟨e1 _ _ ha, fun dx hd hne => ?_⟩⟩⟩
    exact q dx v' _ (ers_new ha e1 hd hne) (hv1.newx (e1 _ _ ha) hd)
theorem ok_BadWay {f C C0 : Addr} {fd : FuncData} (F : Fun K "__init__" "BadWay.__init__" s_BadWay_init f fd) (T : Tx mg) (B0 : BaseC K mg C0) (O : OexC K C) (N : PySem.W.findIn K (.ref C) "way" = some none) (c_kept : Kn P w K mg base "_kept" ["value"] 2 spKept) :
    FnOk P w K mg base CX0 3 f fd ["self", "way"] (spE1 C "way") := by
  refine F.ok sc_BadWay_init (fun vs H Q E h => ?_) (fun cdv A outer s H vs Q E hr h => ?_)
  · obtain ⟨a, v, d, rfl, _⟩ := h
    rfl
  · obtain ⟨a, v, d, rfl, ha, hv, q⟩ := h
    obtain ⟨g_SkipsError, R_SkipsError, V_SkipsError⟩ := B0
    refine ⟨_, (pss_cons (ps_expr (EK.pe_skinit (by rfl) g_SkipsError R_SkipsError V_SkipsError (pa_cons (pv 0) (pa_cons pe_str pa_nil))))
      (pss_one (ps_ost (pv 0) (pe_call c_kept.ok (hr.mono (by decide)) (by rfl) c_kept.g c_kept.kp c_kept.b .nil pass0 (pa_cons (pv 1) pa_nil))))), ?_⟩
    refine ⟨_, rfl, a, C, _, rfl, by show 1 ≤ 1000; decide, O, ha, ?_⟩
    refine ⟨_, rfl, v, d, rfl, hv, fun v' H1 e1 hv1 => ⟨_, rfl, a, C, rfl, O, N, .inl ⟨e1 _ _ ha, fun dx hd hne => ?_⟩⟩⟩
    exact q dx v' _ (ers_new ha e1 hd hne) (hv1.newx (e1 _ _ ha) hd)
theorem ok_BadRule {f C C0 : Addr} {fd : FuncData} (F : Fun K "__init__" "BadRule.__init__" s_BadRule_init f fd) (T : Tx mg) (B0 : BaseC K mg C0) (O : OexC K C) (N : PySem.W.findIn K (.ref C) "name" = some none) (c_kept : Kn P w K mg base "_kept" ["value"] 2 spKept) :
    FnOk P w K mg base CX0 3 f fd ["self", "name"] (spE1 C "name") := by
  refine F.ok sc_BadRule_init (fun vs H Q E h => ?_) (fun cdv A outer s H vs Q E hr h => ?_)
  · obtain ⟨a, v, d, rfl, _⟩ := h
    rfl
  · obtain ⟨a, v, d, rfl, ha, hv, q⟩ := h
    obtain ⟨g_SkipsError, R_SkipsError, V_SkipsError⟩ := B0
    refine ⟨_, (pss_cons (ps_expr (EK.pe_skinit (by rfl) g_SkipsError R_SkipsError V_SkipsError (pa_cons (pv 0) (pa_cons pe_str pa_nil))))
      (pss_one (ps_ost (pv 0) (pe_call c_kept.ok (hr.mono (by decide)) (by rfl) c_kept.g c_kept.kp c_kept.b .nil pass0 (pa_cons (pv 1) pa_nil))))), ?_⟩
    refine ⟨_, rfl, a, C, _, rfl, by show 1 ≤ 1000; decide, O, ha, ?_⟩
    refine ⟨_, rfl, v, d, rfl, hv, fun v' H1 e1 hv1 => ⟨_, rfl, a, C, rfl, O, N, .inl ⟨e1 _ _ ha, fun dx hd hne => ?_⟩⟩⟩
    exact q dx v' _ (ers_new ha e1 hd hne) (hv1.newx (e1 _ _ ha) hd)
theorem ok_Ring {f C C0 : Addr} {fd : FuncData} (F : Fun K "__init__" "Ring.__init__" s_Ring_init f fd) (T : Tx mg) (B0 : BaseC K mg C0) (O : OexC K C) (N : PySem.W.findIn K (.ref C) "name" = some none) (c_kept : Kn P w K mg base "_kept" ["value"] 2 spKept) :
    FnOk P w K mg base CX0 3 f fd ["self", "name"] (spE1 C "name") := by
  refine F.ok sc_Ring_init (fun vs H Q E h => ?_) (fun cdv A outer s H vs Q E hr h => ?_)
  · obtain ⟨a, v, d, rfl, _⟩ := h
    rfl
  · obtain ⟨a, v, d, rfl, ha, hv, q⟩ := h
    obtain ⟨g_SkipsError, R_SkipsError, V_SkipsError⟩ := B0
    refine ⟨_, (pss_cons (ps_expr (EK.pe_skinit (by rfl) g_SkipsError R_SkipsError V_SkipsError (pa_cons (pv 0) (pa_cons pe_str pa_nil))))
      (pss_one (ps_ost (pv 0) (pe_call c_kept.ok (hr.mono (by decide)) (by rfl) c_kept.g c_kept.kp c_kept.b .nil pass0 (pa_cons (pv 1) pa_nil))))), ?_⟩
    refine ⟨_, rfl, a, C, _, rfl, by show 1 ≤ 1000; decide, O, ha, ?_⟩
    refine ⟨_, rfl, v, d, rfl, hv, fun v' H1 e1 hv1 => ⟨_, rfl, a, C, rfl, O, N, .inl ⟨e1 _ _ ha, fun dx hd hne => ?_⟩⟩⟩
    exact q dx v' _ (ers_new ha e1 hd hne) (hv1.newx (e1 _ _ ha) hd)
theorem ok_NoRule {f C C0 : Addr} {fd : FuncData} (F : Fun K "__init__" "NoRule.__init__" s_NoRule_init f fd) (T : Tx mg) (B0 : BaseC K mg C0) (O : OexC K C) (N : PySem.W.findIn K (.ref C) "root" = some none) (c_kept : Kn P w K mg base "_kept" ["value"] 2 spKept) :
    FnOk P w K mg base CX0 3 f fd ["self", "root"] (spE1 C "root") := by
  refine F.ok sc_NoRule_init (fun vs H Q E h => ?_) (fun cdv A outer s H vs Q E hr h => ?_)
  · obtain ⟨a, v, d, rfl, _⟩ := h
    rfl
  · obtain ⟨a, v, d, rfl, ha, hv, q⟩ := h
    obtain ⟨g_SkipsError, R_SkipsError, V_SkipsError⟩ := B0
    refine ⟨_, (pss_cons (ps_expr (EK.pe_skinit (by rfl) g_SkipsError R_SkipsError V_SkipsError (pa_cons (pv 0) (pa_cons pe_str pa_nil))))
      (pss_one (ps_ost (pv 0) (pe_call c_kept.ok (hr.mono (by decide)) (by rfl) c_kept.g c_kept.kp c_kept.b .nil pass0 (pa_cons (pv 1) pa_nil))))), ?_⟩
    refine ⟨_, rfl, a, C, _, rfl, by show 1 ≤ 1000; decide, O, ha, ?_⟩
    refine ⟨_, rfl, v, d, rfl, hv, fun v' H1 e1 hv1 => ⟨_, rfl, a, C, rfl, O, N, .inl ⟨e1 _ _ ha, fun dx hd hne => ?_⟩⟩⟩
    exact q dx v' _ (ers_new ha e1 hd hne) (hv1.newx (e1 _ _ ha) hd)
theorem ok_BadPlace {f C C0 : Addr} {fd : FuncData} (F : Fun K "__init__" "BadPlace.__init__" s_BadPlace_init f fd) (T : Tx mg) (B0 : BaseC K mg C0) (O : OexC K C) (N : PySem.W.findIn K (.ref C) "number" = some none) (c_kept : Kn P w K mg base "_kept" ["value"] 2 spKept) :
    FnOk P w K mg base CX0 3 f fd ["self", "number"] (spE1 C "number") := by
  refine F.ok sc_BadPlace_init (fun vs H Q E h => ?_) (fun cdv A outer s H vs Q E hr h => ?_)
  · obtain ⟨a, v, d, rfl, _⟩ := h
    rfl
  · obtain ⟨a, v, d, rfl, ha, hv, q⟩ := h
    obtain ⟨g_SkipsError, R_SkipsError, V_SkipsError⟩ := B0
    refine ⟨_, (pss_cons (ps_expr (EK.pe_skinit (by rfl) g_SkipsError R_SkipsError V_SkipsError (pa_cons (pv 0) (pa_cons pe_str pa_nil))))
      (pss_one (ps_ost (pv 0) (pe_call c_kept.ok (hr.mono (by decide)) (by rfl) c_kept.g c_kept.kp c_kept.b .nil pass0 (pa_cons (pv 1) pa_nil))))), ?_⟩
    refine ⟨_, rfl, a, C, _, rfl, by show 1 ≤ 1000; decide, O, ha, ?_⟩
    refine ⟨_, rfl, v, d, rfl, hv, fun v' H1 e1 hv1 => ⟨_, rfl, a, C, rfl, O, N, .inl ⟨e1 _ _ ha, fun dx hd hne => ?_⟩⟩⟩
    exact q dx v' _ (ers_new ha e1 hd hne) (hv1.newx (e1 _ _ ha) hd)
theorem ok_BadSize {f C C0 : Addr} {fd : FuncData} (F : Fun K "__init__" "BadSize.__init__" s_BadSize_init f fd) (T : Tx mg) (B0 : BaseC K mg C0) (O : OexC K C) (N : PySem.W.findIn K (.ref C) "size" = some none) (c_kept : Kn P w K mg base "_kept" ["value"] 2 spKept) :
    FnOk P w K mg base CX0 3 f fd ["self", "size"] (spE1 C "size") := by
  refine F.ok sc_BadSize_init (fun vs H Q E h => ?_) (fun cdv A outer s H vs Q E hr h => ?_)
  · obtain ⟨a, v, d, rfl, _⟩ := h
    rfl
  · obtain ⟨a, v, d, rfl, ha, hv, q⟩ := h
    obtain ⟨g_SkipsError, R_SkipsError, V_SkipsError⟩ := B0
    refine ⟨_, (pss_cons (ps_expr (EK.pe_skinit (by rfl) g_SkipsError R_SkipsError V_SkipsError (pa_cons (pv 0) (pa_cons pe_str pa_nil))))
      (pss_one (ps_ost (pv 0) (pe_call c_kept.ok (hr.mono (by decide)) (by rfl) c_kept.g c_kept.kp c_kept.b .nil pass0 (pa_cons (pv 1) pa_nil))))), ?_⟩
    refine ⟨_, rfl, a, C, _, rfl, by show 1 ≤ 1000; decide, O, ha, ?_⟩
    refine ⟨_, rfl, v, d, rfl, hv, fun v' H1 e1 hv1 => ⟨_, rfl, a, C, rfl, O, N, .inl ⟨e1 _ _ ha, fun dx hd hne => ?_⟩⟩⟩
    exact q dx v' _ (ers_new ha e1 hd hne) (hv1.newx (e1 _ _ ha) hd)
theorem ok_BadOrder {f C C0 : Addr} {fd : FuncData} (F : Fun K "__init__" "BadOrder.__init__" s_BadOrder_init f fd) (T : Tx mg) (B0 : BaseC K mg C0) (O : OexC K C) (N : PySem.W.findIn K (.ref C) "order" = some none) (c_kept : Kn P w K mg base "_kept" ["value"] 2 spKept) :
    FnOk P w K mg base CX0 3 f fd ["self", "order"] (spE1 C "order") := by
  refine F.ok sc_BadOrder_init (fun vs H Q E h => ?_) (fun cdv A outer s H vs Q E hr h => ?_)
  · obtain ⟨a, v, d, rfl, _⟩ := h
    rfl
  · obtain ⟨a, v, d, rfl, ha, hv, q⟩ := h
    obtain ⟨g_SkipsError, R_SkipsError, V_SkipsError⟩ := B0
    refine ⟨_, (pss_cons (ps_expr (EK.pe_skinit (by rfl) g_SkipsError R_SkipsError V_SkipsError (pa_cons (pv 0) (pa_cons pe_str pa_nil))))
      (pss_one (ps_ost (pv 0) (pe_call c_kept.ok (hr.mono (by decide)) (by rfl) c_kept.g c_kept.kp c_kept.b .nil pass0 (pa_cons (pv 1) pa_nil))))), ?_⟩
    refine ⟨_, rfl, a, C, _, rfl, by show 1 ≤ 1000; decide, O, ha, ?_⟩
    refine ⟨_, rfl, v, d, rfl, hv, fun v' H1 e1 hv1 => ⟨_, rfl, a, C, rfl, O, N, .inl ⟨e1 _ _ ha, fun dx hd hne => ?_⟩⟩⟩
    exact q dx v' _ (ers_new ha e1 hd hne) (hv1.newx (e1 _ _ ha) hd)
theorem ok_NoJoint {f C C0 : Addr} {fd : FuncData} (F : Fun K "__init__" "NoJoint.__init__" s_NoJoint_init f fd) (T : Tx mg) (B0 : BaseC K mg C0) (O : OexC K C) (N : PySem.W.findIn K (.ref C) "joint" = some none) (c_kept : Kn P w K mg base "_kept" ["value"] 2 spKept) :
    FnOk P w K mg base CX0 3 f fd ["self", "joint"] (spE1 C "joint") := by
  refine F.ok sc_NoJoint_init (fun vs H Q E h => ?_) (fun cdv A outer s H vs Q E hr h => ?_)
  · obtain ⟨a, v, d, rfl, _⟩ := h
    rfl
  · obtain ⟨a, v, d, rfl, ha, hv, q⟩ := h
    obtain ⟨g_SkipsError, R_SkipsError, V_SkipsError⟩ := B0
    refine ⟨_, (pss_cons (ps_expr (EK.pe_skinit (by rfl) g_SkipsError R_SkipsError V_SkipsError (pa_cons (pv 0) (pa_cons pe_str pa_nil))))
      (pss_one (ps_ost (pv 0) (pe_call c_kept.ok (hr.mono (by decide)) (by rfl) c_kept.g c_kept.kp c_kept.b .nil pass0 (pa_cons (pv 1) pa_nil))))), ?_⟩
    refine ⟨_, rfl, a, C, _, rfl, by show 1 ≤ 1000; decide, O, ha, ?_⟩
    refine ⟨_, rfl, v, d, rfl, hv, fun v' H1 e1 hv1 => ⟨_, rfl, a, C, rfl, O, N, .inl ⟨e1 _ _ ha, fun dx hd hne => ?_⟩⟩⟩
    exact q dx v' _ (ers_new ha e1 hd hne) (hv1.newx (e1 _ _ ha) hd)
theorem ok_NoPartial {f C C0 : Addr} {fd : FuncData} (F : Fun K "__init__" "NoPartial.__init__" s_NoPartial_init f fd) (T : Tx mg) (B0 : BaseC K mg C0) (O : OexC K C) (N : PySem.W.findIn K (.ref C) "partial" = some none) (c_kept : Kn P w K mg base "_kept" ["value"] 2 spKept) :
    FnOk P w K mg base CX0 3 f fd ["self", "partial"] (spE1 C "partial") := by
  refine F.ok sc_NoPartial_init (fun vs H Q E h => ?_) (fun cdv A outer s H vs Q E hr h => ?_)
  · obtain ⟨a, v, d, rfl, _⟩ := h
    rfl
  · obtain ⟨a, v, d, rfl, ha, hv, q⟩ := h
    obtain ⟨g_SkipsError, R_SkipsError, V_SkipsError⟩ := B0
    refine ⟨_, (pss_cons (ps_expr (EK.pe_skinit (by rfl) g_SkipsError R_SkipsError V_SkipsError (pa_cons (pv 0) (pa_cons pe_str pa_nil))))
      (pss_one (ps_ost (pv 0) (pe_call c_kept.ok (hr.mono (by decide)) (by rfl) c_kept.g c_kept.kp c_kept.b .nil pass0 (pa_cons (pv 1) pa_nil))))), ?_⟩
    refine ⟨_, rfl, a, C, _, rfl, by show 1 ≤ 1000; decide, O, ha, ?_⟩
    refine ⟨_, rfl, v, d, rfl, hv, fun v' H1 e1 hv1 => ⟨_, rfl, a, C, rfl, O, N, .inl ⟨e1 _ _ ha, fun dx hd hne => ?_⟩⟩⟩
    exact q dx v' _ (ers_new ha e1 hd hne) (hv1.newx (e1 _ _ ha) hd)
theorem ok_BadTree {f C C0 : Addr} {fd : FuncData} (F : Fun K "__init__" "BadTree.__init__" s_BadTree_init f fd) (T : Tx mg) (B0 : BaseC K mg C0) (O : OexC K C) (N1 : PySem.W.findIn K (.ref C) "state" = some none) (N2 : PySem.W.findIn K (.ref C) "node" = some none) (c_kept : Kn P w K mg base "_kept" ["value"] 2 spKept) :
    FnOk P w K mg base CX0 3 f fd ["self", "state", "node"] (spE2 C "state" "node") := by
  refine F.ok sc_BadTree_init (fun vs H Q E h => ?_) (fun cdv A outer s H vs Q E hr h => ?_)
  · obtain ⟨a, v, d, u, e, rfl, _⟩ := h
    rfl
  · obtain ⟨a, v, d, u, e, rfl, ha, hv, hu, q⟩ := h
    obtain ⟨g_SkipsError, R_SkipsError, V_SkipsError⟩ := B0
    refine ⟨_, (pss_cons (ps_expr (EK.pe_skinit (by rfl) g_SkipsError R_SkipsError V_SkipsError (pa_cons (pv 0) (pa_cons pe_str pa_nil))))
      (pss_cons (ps_ost (pv 0) (pe_call c_kept.ok (hr.mono (by decide)) (by rfl) c_kept.g c_kept.kp c_kept.b .nil pass0 (pa_cons (pv 1) pa_nil)))
      (pss_one (ps_ost (pv 0) (pe_call c_kept.ok (hr.mono (by decide)) (by rfl) c_kept.g c_kept.kp c_kept.b .nil pass0 (pa_cons (pv 2) pa_nil)))))), ?_⟩
    refine ⟨_, rfl, a, C, _, rfl, by show 1 ≤ 1000; decide, O, ha, ?_⟩
    refine ⟨_, rfl, v, d, rfl, hv, fun v' H1 e1 hv1 => ⟨_, rfl, a, C, rfl, O, N1, .inl ⟨e1 _ _ ha, fun dx hd hne => ?_⟩⟩⟩
    have E1 := ers_new (f := "state") (v := v') ha e1 hd hne
    have hv2 := hv1.newx (fs := [("state", v')]) (e1 _ _ ha) hd
    have hu2 := hu.keep ha E1.k
    refine ⟨_, rfl, u, e, rfl, hu2, fun u' H3 e3 hu3 => ⟨_, rfl, a, C, rfl, O, N2, .inr ⟨dx, _, e3 _ _ E1.o, e3 _ _ E1.x, by show 1 ≤ 900; decide, ?_⟩⟩⟩
    exact q dx v' u' _ (ers_put E1 e3) ((hv2.ex e3).over (e3 _ _ E1.x)) (hu3.over (e3 _ _ E1.x))
theorem ok_TooMany {f C C0 : Addr} {fd : FuncData} (F : Fun K "__init__" "TooMany.__init__" s_TooMany_init f fd) (T : Tx mg) (B0 : BaseC K mg C0) (O : OexC K C) (N1 : PySem.W.findIn K (.ref C) "what" = some none) (N2 : PySem.W.findIn K (.ref C) "many" = some none) (N3 : PySem.W.findIn K (.ref C) "most" = some none)
    (c_kept : Kn P w K mg base "_kept" ["value"] 2 spKept) : FnOk P w K mg base CX0 3 f fd ["self", "what", "many", "most"] (spE3 C "what" "many" "most") := by
  refine F.ok sc_TooMany_init (fun vs H Q E h => ?_) (fun cdv A outer s H vs Q E hr h => ?_)
  · obtain ⟨a, v, d, u, e, z, b, rfl, _⟩ := h
    rfl
  · obtain ⟨a, v, d, u, e, z, b, rfl, ha, hv, hu, hz, q⟩ := h
    obtain ⟨g_SkipsError, R_SkipsError, V_SkipsError⟩ := B0
    refine ⟨_, (pss_cons (ps_expr (EK.pe_skinit (by rfl) g_SkipsError R_SkipsError V_SkipsError (pa_cons (pv 0) (pa_cons pe_str pa_nil))))
      (pss_cons (ps_ost (pv 0) (pe_call c_kept.ok (hr.mono (by decide)) (by rfl) c_kept.g c_kept.kp c_kept.b .nil pass0 (pa_cons (pv 1) pa_nil)))
      (pss_cons (ps_ost (pv 0) (pe_call c_kept.ok (hr.mono (by decide)) (by rfl) c_kept.g c_kept.kp c_kept.b .nil pass0 (pa_cons (pv 2) pa_nil)))
      (pss_one (ps_ost (pv 0) (pe_call c_kept.ok (hr.mono (by decide)) (by rfl) c_kept.g c_kept.kp c_kept.b .nil pass0 (pa_cons (pv 3) pa_nil))))))), ?_⟩
    refine ⟨_, rfl, a, C, _, rfl, by show 1 ≤ 1000; decide, O, ha, ?_⟩
    refine ⟨_, rfl, v, d, rfl, hv, fun v' H1 e1 hv1 => ⟨_, rfl, a, C, rfl, O, N1, .inl ⟨e1 _ _ ha, fun dx hd hne => ?_⟩⟩⟩
    have E1 := ers_new (f := "what") (v := v') ha e1 hd hne
    have hv2 := hv1.newx (fs := [("what", v')]) (e1 _ _ ha) hd
    refine ⟨_, rfl, u, e, rfl, hu.keep ha E1.k, fun u' H3 e3 hu3 => ⟨_, rfl, a, C, rfl, O, N2, .inr ⟨dx, _, e3 _ _ E1.o, e3 _ _ E1.x, by show 1 ≤ 900; decide, ?_⟩⟩⟩
    have E2 := ers_put (f := "many") (v := u') E1 e3
    have hv4 := (hv2.ex e3).over (fs := [("many", u'), ("what", v')]) (e3 _ _ E1.x)
    have hu4 := hu3.over (fs := [("many", u'), ("what", v')]) (e3 _ _ E1.x)
    refine ⟨_, rfl, z, b, rfl, hz.keep ha E2.k, fun z' H5 e5 hz5 => ⟨_, rfl, a, C, rfl, O, N3, .inr ⟨dx, _, e5 _ _ E2.o, e5 _ _ E2.x, by show 2 ≤ 900; decide, ?_⟩⟩⟩
    exact q dx v' u' z' _ (ers_put E2 e5) ((hv4.ex e5).over (e5 _ _ E2.x)) ((hu4.ex e5).over (e5 _ _ E2.x)) (hz5.over (e5 _ _ E2.x))
end
end Law

namespace Law
open PySem PySem.Spec PyProof.Rows L2 Evl EK
/-- an expression gives a value of which p is true, over B and all that is more -/
def GI (B : Hp) (σ : L2.St) (te : TE) (p : Hp → V → Prop) : Prop := ∀ H (R : VK), Ex B H → (∀ v H', Ex H H' → p H' v → R v H') → te σ H R
inductive A2 (H : Hp) : List (Hp → V → Prop) → List V → Prop
  | nil : A2 H [] []
  | cons {p : Hp → V → Prop} {v : V} {ps : List (Hp → V → Prop)} {vs : List V} : p H v → A2 H ps vs → A2 H (p :: ps) (v :: vs)
/-- what stays true -/
def Mono (p : Hp → V → Prop) : Prop := ∀ {H H' : Hp} {v : V}, Ex H H' → p H v → p H' v
def Monos (ps : List (Hp → V → Prop)) : Prop := ∀ p ∈ ps, Mono p
def GIs (B : Hp) (σ : L2.St) (ta : TA) (ps : List (Hp → V → Prop)) : Prop := ∀ H (R : List V → Hp → Prop), Ex B H → (∀ vs H', Ex H H' → A2 H' ps vs → R vs H') → ta σ H R
theorem A2.ex {H H' : Hp} {ps : List (Hp → V → Prop)} {vs : List V} (m : Monos ps) (e : Ex H H') (h : A2 H ps vs) : A2 H' ps vs := by
  induction h with
  | nil => exact .nil
  | cons h1 _ ih => exact .cons (m _ List.mem_cons_self e h1) (ih fun q hq => m q (List.mem_cons_of_mem _ hq))
theorem A2.len {H : Hp} {ps : List (Hp → V → Prop)} {vs : List V} (h : A2 H ps vs) : vs.length = ps.length := by
  induction h with
  | nil => rfl
  | cons _ _ ih => simp [ih]
theorem A2.app {H : Hp} {ps qs : List (Hp → V → Prop)} {vs ws : List V} (h : A2 H ps vs) (k : A2 H qs ws) : A2 H (ps ++ qs) (vs ++ ws) := by
  induction h with
  | nil => exact k
  | cons h1 _ ih => exact .cons h1 ih
theorem A2.get {H : Hp} {ps : List (Hp → V → Prop)} {vs : List V} (h : A2 H ps vs) : ∀ {i : Nat} {v : V}, vs[i]? = some v → ∃ p, ps[i]? = some p ∧ p H v := by
  induction h with
  | nil =>
    intro i v e
    simp at e
  | @cons p x ps vs h1 _ ih =>
    intro i v e
    cases i with
    | zero =>
      simp at e
      subst e
      exact ⟨p, rfl, h1⟩
    | succ i =>
      simp at e
      obtain ⟨p', e2, h2⟩ := ih e
      exact ⟨p', by simpa using e2, h2⟩
theorem gis_nil {B : Hp} {σ : L2.St} : GIs B σ tNil [] := fun H R _ h => h _ _ (Ex.refl _) .nil
theorem gis_cons {B : Hp} {σ : L2.St} {te : TE} {ta : TA} {p : Hp → V → Prop} {ps : List (Hp → V → Prop)} (h : GI B σ te p) (m : Mono p) (hr : GIs B σ ta ps) : GIs B σ (tCons te ta) (p :: ps) :=
  fun H R e q => h H _ e fun v H1 e1 hv => hr H1 _ (e.trans e1) fun vs H2 e2 hvs => q _ _ (e1.trans e2) (.cons (m e2 hv) hvs)
def pAV (d : PyData) : Hp → V → Prop := fun H v => AV H v d
theorem mono_av {d : PyData} : Mono (pAV d) := fun e h => h.ex e
theorem gi_var {B : Hp} {σ : L2.St} {i : Nat} {v : V} {d : PyData} (h : σ[i]? = some (some v)) (hv : AV B v d) : GI B σ (tVar i) (pAV d) := fun H R e q => ⟨v, h, q _ _ (Ex.refl _) (hv.ex e)⟩
/-- a list that stands -/
def LL (ps : List (Hp → V → Prop)) : Hp → V → Prop := fun H v => ∃ a xs, v = .ref a ∧ H a = some (.lst xs) ∧ A2 H ps xs
theorem mono_ll {ps : List (Hp → V → Prop)} (m : Monos ps) : Mono (LL ps) := fun e ⟨a, xs, h1, h2, h3⟩ => ⟨a, xs, h1, e _ _ h2, h3.ex m e⟩
theorem gi_lst {B : Hp} {σ : L2.St} {ta : TA} {ps : List (Hp → V → Prop)} (m : Monos ps) (h : GIs B σ ta ps) (hl : ps.length ≤ 1000) : GI B σ (tLst ta) (LL ps) :=
  fun H R e q => h H _ e fun vs H1 e1 hvs => ⟨by rw [hvs.len]; exact Nat.le_trans hl (by decide), fun a ha => q _ _ (e1.trans (Ex.new ha)) ⟨a, vs, rfl, upd_same, hvs.ex m (Ex.new ha)⟩⟩
theorem mon_app {ps qs : List (Hp → V → Prop)} (mp : Monos ps) (mq : Monos qs) : Monos (ps ++ qs) := fun r hr => by
  rcases List.mem_append.mp hr with h | h
  · exact mp r h
  · exact mq r h
theorem gi_cat {B : Hp} {σ : L2.St} {te : TE} {i : Nat} {v : V} {ps qs : List (Hp → V → Prop)} (mp : Monos ps) (mq : Monos qs) (hi : σ[i]? = some (some v)) (hv : LL ps B v) (h : GI B σ te (LL qs)) (hl : ps.length + qs.length ≤ 1000) : GI B σ (tOp rCat (tVar i) te) (LL (ps ++ qs)) := by
  intro H R e q
  refine ⟨v, hi, h H _ e fun u H1 e1 hu => ?_⟩
  obtain ⟨a, xs, rfl, ha, hx⟩ := hv
  obtain ⟨b, ys, rfl, hb, hy⟩ := hu
  have hx1 := hx.ex mp (e.trans e1)
  refine ⟨a, b, xs, ys, rfl, rfl, e1 _ _ (e _ _ ha), hb, ?_, fun p hp => ?_⟩
  · rw [hx.len, hy.len]
    exact Nat.le_trans hl (by decide)
  · exact q _ _ (e1.trans (Ex.new hp)) ⟨p, _, rfl, upd_same, (hx1.app hy).ex (mon_app mp mq) (Ex.new hp)⟩
/-- an error that stands, of the class C -/
def IsE (C : Addr) : Hp → V → Prop := fun H v => ∃ a d, v = .ref a ∧ H a = some (exo a C d) ∧ ∀ dd, d = some dd → ∃ fs, H dd = some (exd dd fs)
theorem mono_isE {C : Addr} : Mono (IsE C) := fun e ⟨a, d, h1, h2, h3⟩ => ⟨a, d, h1, e _ _ h2, fun dd z => let ⟨fs, y⟩ := h3 dd z; ⟨fs, e _ _ y⟩⟩
theorem Ers.ex {H1 H2 : Hp} {a C dx : Addr} {fs : List (Str × V)} (ha : H1 a = none) (E : Ers (upd H1 a (exo a C none)) a C dx fs H2) : Ex H1 H2 := fun b o e => by
  have nb : b ≠ a := fun z => by
    rw [z, ha] at e
    cases e
  exact E.k b o (by rw [upd_ne nb]; exact e) nb
theorem Ers.is {H1 H2 : Hp} {a C dx : Addr} {fs : List (Str × V)} (E : Ers H1 a C dx fs H2) : IsE C H2 (.ref a) := ⟨a, some dx, rfl, E.o, fun dd z => by cases z; exact ⟨fs, E.x⟩⟩
theorem AV.exo {H : Hp} {a C : Addr} {v : V} {d : PyData} (h : AV H v d) (ha : H a = none) : AV (upd H a (exo a C none)) v d := h.ex (Ex.new ha)
section
variable {B : Hp} {σ : L2.St} {C : Addr} {f g h : Str} {ta : TA} {v u z : V} {d e b : PyData}
theorem core1 {H : Hp} {R : VK} (a : Addr) (ha : H a = none) (hv : AV H v d) (q : ∀ dx v' H2, Ex H H2 → Ers (upd H a (L2.exo a C none)) a C dx [(f, v')] H2 → AV H2 v' d → R (.ref a) H2) :
    spE1 C f [.ref a, v] (upd H a (L2.exo a C none)) (fun v H2 => v = .non ∧ R (.ref a) H2) (fun _ _ _ => False) :=
  ⟨a, v, d, rfl, upd_same, hv.exo ha, fun dx v' H2 E h2 => ⟨rfl, q dx v' H2 (E.ex ha) E h2⟩⟩
theorem core2 {H : Hp} {R : VK} (a : Addr) (ha : H a = none) (hv : AV H v d) (hu : AV H u e) (q : ∀ dx v' u' H2, Ex H H2 → Ers (upd H a (L2.exo a C none)) a C dx [(g, u'), (f, v')] H2 → AV H2 v' d → AV H2 u' e → R (.ref a) H2) :
    spE2 C f g [.ref a, v, u] (upd H a (L2.exo a C none)) (fun v H2 => v = .non ∧ R (.ref a) H2) (fun _ _ _ => False) :=
  ⟨a, v, d, u, e, rfl, upd_same, hv.exo ha, hu.exo ha, fun dx v' u' H2 E h2 h3 => ⟨rfl, q dx v' u' H2 (E.ex ha) E h2 h3⟩⟩
theorem core3 {H : Hp} {R : VK} (a : Addr) (ha : H a = none) (hv : AV H v d) (hu : AV H u e) (hz : AV H z b) (q : ∀ dx v' u' z' H2, Ex H H2 → Ers (upd H a (L2.exo a C none)) a C dx [(h, z'), (g, u'), (f, v')] H2 → AV H2 v' d → AV H2 u' e → AV H2 z' b → R (.ref a) H2) :
    spE3 C f g h [.ref a, v, u, z] (upd H a (L2.exo a C none)) (fun v H2 => v = .non ∧ R (.ref a) H2) (fun _ _ _ => False) :=
  ⟨a, v, d, u, e, z, b, rfl, upd_same, hv.exo ha, hu.exo ha, hz.exo ha, fun dx v' u' z' H2 E h2 h3 h4 => ⟨rfl, q dx v' u' z' H2 (E.ex ha) E h2 h3 h4⟩⟩
def cat2 : List V → List V → List V := fun us ws => us ++ ws
theorem gm0 : GI B σ (tMk0 C) (IsE C) := fun H R e0 q a ha => q _ _ (Ex.new ha) ⟨a, none, rfl, upd_same, fun dd z => by cases z⟩
end
def efR (K : PySem.W.Frag) (f : Str) (R : VK) : VK := fun x H1 => ∃ (a C d : Addr) (fs : List (Str × V)) (v : V), x = .ref a ∧ XfC K C ∧ PySem.W.findIn K (.ref C) f = some none ∧ H1 a = some (L2.exo a C (some d)) ∧ H1 d = some (exd d fs) ∧ fs.lookup f = some v ∧ R v H1
section
variable {B : Hp} {σ : L2.St} {C : Addr} {f g h : Str} {ta : TA} {v u z : V} {d e b : PyData} {K : PySem.W.Frag}
theorem gm1 (h1 : GIs B σ ta [pAV d]) : GI B σ (tMkV C (spE1 C f) ta) (IsE C) := fun H R e0 q => h1 H _ e0 fun vs H1 e1 hv => by
  cases hv with
  | cons hv hn =>
    cases hn
    exact ⟨(show 1 ≤ 1000 by decide), fun a ha => core1 (R := R) a ha hv fun dx v' H2 x2 E h2 => q _ _ (e1.trans x2) E.is⟩
theorem gf1a (X : XfC K C) (N : PySem.W.findIn K (.ref C) f = some none) (h1 : GIs B σ ta [pAV d]) : GI B σ (tEf K f (tMkV C (spE1 C f) ta)) (pAV d) := fun H R e0 q => h1 H _ e0 fun vs H1 e1 hv => by
  cases hv with
  | cons hv hn =>
    cases hn
    exact ⟨(show 1 ≤ 1000 by decide), fun a ha => core1 (R := efR K f R) a ha hv fun dx v' H2 x2 E h2 => ⟨a, C, dx, _, v', rfl, X, N, E.o, E.x, by simp [List.lookup], q _ _ (e1.trans x2) h2⟩⟩
theorem gm2 (h1 : GIs B σ ta [pAV d, pAV e]) : GI B σ (tMkV C (spE2 C f g) ta) (IsE C) := fun H R e0 q => h1 H _ e0 fun vs H1 e1 hv => by
  cases hv with
  | cons hv hn =>
    cases hn with
    | cons hu hn =>
      cases hn
      exact ⟨(show 2 ≤ 1000 by decide), fun a ha => core2 (R := R) a ha hv hu fun dx v' u' H2 x2 E h2 h3 => q _ _ (e1.trans x2) E.is⟩
theorem gf2a (X : XfC K C) (N : PySem.W.findIn K (.ref C) f = some none) (ng : (f == g) = false) (h1 : GIs B σ ta [pAV d, pAV e]) : GI B σ (tEf K f (tMkV C (spE2 C f g) ta)) (pAV d) := fun H R e0 q => h1 H _ e0 fun vs H1 e1 hv => by
  cases hv with
  | cons hv hn =>
    cases hn with
    | cons hu hn =>
      cases hn
      exact ⟨(show 2 ≤ 1000 by decide), fun a ha => core2 (R := efR K f R) a ha hv hu fun dx v' u' H2 x2 E h2 h3 => ⟨a, C, dx, _, v', rfl, X, N, E.o, E.x, by simp [List.lookup, ng], q _ _ (e1.trans x2) h2⟩⟩
theorem gf2b (X : XfC K C) (N : PySem.W.findIn K (.ref C) g = some none) (h1 : GIs B σ ta [pAV d, pAV e]) : GI B σ (tEf K g (tMkV C (spE2 C f g) ta)) (pAV e) := fun H R e0 q => h1 H _ e0 fun vs H1 e1 hv => by
  cases hv with
  | cons hv hn =>
    cases hn with
    | cons hu hn =>
      cases hn
      exact ⟨(show 2 ≤ 1000 by decide), fun a ha => core2 (R := efR K g R) a ha hv hu fun dx v' u' H2 x2 E h2 h3 => ⟨a, C, dx, _, u', rfl, X, N, E.o, E.x, by simp [List.lookup], q _ _ (e1.trans x2) h3⟩⟩
theorem gm3 (h1 : GIs B σ ta [pAV d, pAV e, pAV b]) : GI B σ (tMkV C (spE3 C f g h) ta) (IsE C) := fun H R e0 q => h1 H _ e0 fun vs H1 e1 hv => by
  cases hv with
  | cons hv hn =>
    cases hn with
    | cons hu hn =>
      cases hn with
      | cons hz hn =>
        cases hn
        exact ⟨(show 3 ≤ 1000 by decide), fun a ha => core3 (R := R) a ha hv hu hz fun dx v' u' z' H2 x2 E h2 h3 h4 => q _ _ (e1.trans x2) E.is⟩
theorem gf3a (X : XfC K C) (N : PySem.W.findIn K (.ref C) f = some none) (ng : (f == g) = false) (nh : (f == h) = false) (h1 : GIs B σ ta [pAV d, pAV e, pAV b]) : GI B σ (tEf K f (tMkV C (spE3 C f g h) ta)) (pAV d) := fun H R e0 q => h1 H _ e0 fun vs H1 e1 hv => by
  cases hv with
  | cons hv hn =>
    cases hn with
    | cons hu hn =>
      cases hn with
      | cons hz hn =>
        cases hn
        exact ⟨(show 3 ≤ 1000 by decide), fun a ha => core3 (R := efR K f R) a ha hv hu hz fun dx v' u' z' H2 x2 E h2 h3 h4 => ⟨a, C, dx, _, v', rfl, X, N, E.o, E.x, by simp [List.lookup, ng, nh], q _ _ (e1.trans x2) h2⟩⟩
theorem gf3b (X : XfC K C) (N : PySem.W.findIn K (.ref C) g = some none) (nh : (g == h) = false) (h1 : GIs B σ ta [pAV d, pAV e, pAV b]) : GI B σ (tEf K g (tMkV C (spE3 C f g h) ta)) (pAV e) := fun H R e0 q => h1 H _ e0 fun vs H1 e1 hv => by
  cases hv with
  | cons hv hn =>
    cases hn with
    | cons hu hn =>
      cases hn with
      | cons hz hn =>
        cases hn
        exact ⟨(show 3 ≤ 1000 by decide), fun a ha => core3 (R := efR K g R) a ha hv hu hz fun dx v' u' z' H2 x2 E h2 h3 h4 => ⟨a, C, dx, _, u', rfl, X, N, E.o, E.x, by simp [List.lookup, nh], q _ _ (e1.trans x2) h3⟩⟩
theorem gf3c (X : XfC K C) (N : PySem.W.findIn K (.ref C) h = some none) (h1 : GIs B σ ta [pAV d, pAV e, pAV b]) : GI B σ (tEf K h (tMkV C (spE3 C f g h) ta)) (pAV b) := fun H R e0 q => h1 H _ e0 fun vs H1 e1 hv => by
  cases hv with
  | cons hv hn =>
    cases hn with
    | cons hu hn =>
      cases hn with
      | cons hz hn =>
        cases hn
        exact ⟨(show 3 ≤ 1000 by decide), fun a ha => core3 (R := efR K h R) a ha hv hu hz fun dx v' u' z' H2 x2 E h2 h3 h4 => ⟨a, C, dx, _, z', rfl, X, N, E.o, E.x, by simp [List.lookup], q _ _ (e1.trans x2) h4⟩⟩
theorem gf1an (X : XfC K C) (N : PySem.W.findIn K (.ref C) f = some none) (h1 : GIs B σ ta [pAV d]) : GI B σ (tEf K f (tMkN C (spE1 C f) 1 cat2 ta)) (pAV d) := fun H R e0 q => h1 H _ e0 fun vs H1 e1 hv => by
  cases hv with
  | cons hv hn =>
    cases hn
    exact ⟨rfl, fun a ha => core1 (R := efR K f R) a ha hv fun dx v' H2 x2 E h2 => ⟨a, C, dx, _, v', rfl, X, N, E.o, E.x, by simp [List.lookup], q _ _ (e1.trans x2) h2⟩⟩
theorem gf2an (X : XfC K C) (N : PySem.W.findIn K (.ref C) f = some none) (ng : (f == g) = false) (h1 : GIs B σ ta [pAV d, pAV e]) : GI B σ (tEf K f (tMkN C (spE2 C f g) 2 cat2 ta)) (pAV d) := fun H R e0 q => h1 H _ e0 fun vs H1 e1 hv => by
  cases hv with
  | cons hv hn =>
    cases hn with
    | cons hu hn =>
      cases hn
      exact ⟨rfl, fun a ha => core2 (R := efR K f R) a ha hv hu fun dx v' u' H2 x2 E h2 h3 => ⟨a, C, dx, _, v', rfl, X, N, E.o, E.x, by simp [List.lookup, ng], q _ _ (e1.trans x2) h2⟩⟩
theorem gf2bn (X : XfC K C) (N : PySem.W.findIn K (.ref C) g = some none) (h1 : GIs B σ ta [pAV d, pAV e]) : GI B σ (tEf K g (tMkN C (spE2 C f g) 2 cat2 ta)) (pAV e) := fun H R e0 q => h1 H _ e0 fun vs H1 e1 hv => by
  cases hv with
  | cons hv hn =>
    cases hn with
    | cons hu hn =>
      cases hn
      exact ⟨rfl, fun a ha => core2 (R := efR K g R) a ha hv hu fun dx v' u' H2 x2 E h2 h3 => ⟨a, C, dx, _, u', rfl, X, N, E.o, E.x, by simp [List.lookup], q _ _ (e1.trans x2) h3⟩⟩
theorem gf3an (X : XfC K C) (N : PySem.W.findIn K (.ref C) f = some none) (ng : (f == g) = false) (nh : (f == h) = false) (h1 : GIs B σ ta [pAV d, pAV e, pAV b]) : GI B σ (tEf K f (tMkN C (spE3 C f g h) 3 cat2 ta)) (pAV d) := fun H R e0 q => h1 H _ e0 fun vs H1 e1 hv => by
  cases hv with
  | cons hv hn =>
    cases hn with
    | cons hu hn =>
      cases hn with
      | cons hz hn =>
        cases hn
        exact ⟨rfl, fun a ha => core3 (R := efR K f R) a ha hv hu hz fun dx v' u' z' H2 x2 E h2 h3 h4 => ⟨a, C, dx, _, v', rfl, X, N, E.o, E.x, by simp [List.lookup, ng, nh], q _ _ (e1.trans x2) h2⟩⟩
theorem gf3bn (X : XfC K C) (N : PySem.W.findIn K (.ref C) g = some none) (nh : (g == h) = false) (h1 : GIs B σ ta [pAV d, pAV e, pAV b]) : GI B σ (tEf K g (tMkN C (spE3 C f g h) 3 cat2 ta)) (pAV e) := fun H R e0 q => h1 H _ e0 fun vs H1 e1 hv => by
  cases hv with
  | cons hv hn =>
    cases hn with
    | cons hu hn =>
      cases hn with
      | cons hz hn =>
        cases hn
        exact ⟨rfl, fun a ha => core3 (R := efR K g R) a ha hv hu hz fun dx v' u' z' H2 x2 E h2 h3 h4 => ⟨a, C, dx, _, u', rfl, X, N, E.o, E.x, by simp [List.lookup, nh], q _ _ (e1.trans x2) h3⟩⟩
theorem gf3cn (X : XfC K C) (N : PySem.W.findIn K (.ref C) h = some none) (h1 : GIs B σ ta [pAV d, pAV e, pAV b]) : GI B σ (tEf K h (tMkN C (spE3 C f g h) 3 cat2 ta)) (pAV b) := fun H R e0 q => h1 H _ e0 fun vs H1 e1 hv => by
  cases hv with
  | cons hv hn =>
    cases hn with
    | cons hu hn =>
      cases hn with
      | cons hz hn =>
        cases hn
        exact ⟨rfl, fun a ha => core3 (R := efR K h R) a ha hv hu hz fun dx v' u' z' H2 x2 E h2 h3 h4 => ⟨a, C, dx, _, z', rfl, X, N, E.o, E.x, by simp [List.lookup], q _ _ (e1.trans x2) h4⟩⟩
end
end Law

namespace Law
open PySem PySem.Spec PyProof.Rows L2 Evl EK
theorem seq_gi {B H : Hp} {σ : L2.St} {te : TE} {p : Hp → V → Prop} {g : TG} {u : TS} {D : Ends} (h : GI B σ te p) (e : Ex B H) (k : ∀ v H', Ex H H' → p H' v → g v σ H' (u D)) : tSeq (tAsg te g) u D σ H := h H _ e k
def cat2V : List Value → List Value → List Value := fun us ws => us ++ ws
theorem kb_of {K : PySem.W.Frag} {x qual : Str} {st : Stmt} {f : Addr} {fd : FuncData} (F : Fun K x qual st f fd) {ps ks : List Str}
    (h : ∀ (kV doc pm : Value) (an : Option Addr) (cdv ct u : Value) (ws : List Value), ws.length = ks.length → bindArgs (PySem.W.fnOf x qual (defArgs st) (defBody st) (defScope st) .none kV doc pm an cdv ct) ⟨[u], ks.zip ws⟩ = pure (ps.zip (u :: ws))) : KBn K fd ps 1 ks cat2V cat2 where
  to := fun s us ws X l1 l2 => by
    obtain ⟨oc, od, kV, doc, pm, an, cdv, ct, osl, rfl, lk, hcd⟩ := F.ex
    match us, l1 with
    | [u], _ => exact .of_eq (h kV doc pm an cdv ct u ws l2)
  rel := fun r1 r2 => r1.append r2
section
variable (P : Program) (w : World) (K : PySem.W.Frag) (mg : Str → Option Value) (base : Heap)
/-- what a class of errors says, beside its fields -/
structure Q0 (x : Str) where
  C : Addr
  o : OexC K C
  g : mg x = some (.ref C)
  e : ExcC K C
/-- .. with an __init__ of its own -/
structure Qn (x : Str) (fs : List Str) (sp : Addr → Sp) extends Q0 K mg x where
  I : Addr
  fd : FuncData
  i : PySem.W.findIn K (.ref C) "__init__" = some (some (.ref I))
  t : PySem.W.typeIn K (.ref I) = some (.type "function")
  F : FnOk P w K mg base CX0 3 I fd ("self" :: fs) (sp C)
  b : Binds K fd ("self" :: fs) []
  k : KBn K fd ("self" :: fs) 1 fs cat2V cat2
  X : XfC K C
  n : ∀ f ∈ fs, PySem.W.findIn K (.ref C) f = some none
/-- .. without one -/
structure Qz (x : Str) extends Q0 K mg x where
  i : PySem.W.findIn K (.ref C) "__init__" = some (some (.builtin "ValueError.__init__"))
structure Errs where
  BadLetters : Qn P w K mg base "BadLetters" ["letters"] (fun C => spE1 C "letters")
  BadWords : Qn P w K mg base "BadWords" ["place"] (fun C => spE1 C "place")
  BadText : Qn P w K mg base "BadText" ["place"] (fun C => spE1 C "place")
  BadWish : Qn P w K mg base "BadWish" ["wish"] (fun C => spE1 C "wish")
  BadWidth : Qn P w K mg base "BadWidth" ["width"] (fun C => spE1 C "width")
  TooMany : Qn P w K mg base "TooMany" ["what", "many", "most"] (fun C => spE3 C "what" "many" "most")
  BadTree : Qn P w K mg base "BadTree" ["state", "node"] (fun C => spE2 C "state" "node")
  BadLine : Qn P w K mg base "BadLine" ["line"] (fun C => spE1 C "line")
  BadWay : Qn P w K mg base "BadWay" ["way"] (fun C => spE1 C "way")
  OtherLetters : Qz K mg "OtherLetters"
  OtherWidth : Qz K mg "OtherWidth"
  BadRule : Qn P w K mg base "BadRule" ["name"] (fun C => spE1 C "name")
  Ring : Qn P w K mg base "Ring" ["name"] (fun C => spE1 C "name")
  NoRule : Qn P w K mg base "NoRule" ["root"] (fun C => spE1 C "root")
  BadPlace : Qn P w K mg base "BadPlace" ["number"] (fun C => spE1 C "number")
  BadOver : Qz K mg "BadOver"
  BadSize : Qn P w K mg base "BadSize" ["size"] (fun C => spE1 C "size")
  BadOrder : Qn P w K mg base "BadOrder" ["order"] (fun C => spE1 C "order")
  NoJoint : Qn P w K mg base "NoJoint" ["joint"] (fun C => spE1 C "joint")
  NoPartial : Qn P w K mg base "NoPartial" ["partial"] (fun C => spE1 C "partial")
end
/-- what is due of three values -/
def due (a b c : PyData) : List PyData := [a, a, a, a, a, a, b, c, a, b, a, a, a, a, a, a, a, a, a, a]
def pds (ds : List PyData) : List (Hp → V → Prop) := ds.map pAV
theorem mono_pds {ds : List PyData} : Monos (pds ds) := fun p hp => by
  obtain ⟨d, _, rfl⟩ := List.mem_map.mp hp
  exact mono_av
def spBy : Sp := fun vs H Q _ => ∃ a da b db c dc, vs = [a, b, c] ∧ AV H a da ∧ AV H b db ∧ AV H c dc ∧ ∀ v H', Ex H H' → LL (pds (due da db dc)) H' v → Q v H'
def spMade (CL : List Addr) : Sp := fun vs H Q _ => ∃ a da b db c dc, vs = [a, b, c] ∧ AV H a da ∧ AV H b db ∧ AV H c dc ∧ ∀ v H', Ex H H' → LL (CL.map IsE) H' v → Q v H'
theorem mono_es {CL : List Addr} : Monos (CL.map IsE) := fun p hp => by
  obtain ⟨d, _, rfl⟩ := List.mem_map.mp hp
  exact mono_isE
section
variable {P : Program} {w : World} {K : PySem.W.Frag} {mg : Str → Option Value} {base : Heap}
def Errs.cl (Z : Errs P w K mg base) : List Addr := [Z.BadLetters.C, Z.BadWords.C, Z.BadText.C, Z.BadWish.C, Z.BadWidth.C, Z.TooMany.C, Z.BadTree.C, Z.BadLine.C, Z.BadWay.C, Z.OtherLetters.C, Z.OtherWidth.C, Z.BadRule.C, Z.Ring.C, Z.NoRule.C, Z.BadPlace.C, Z.BadOver.C, Z.BadSize.C, Z.BadOrder.C, Z.NoJoint.C, Z.NoPartial.C]
theorem ok_lby_position {f : Addr} {fd : FuncData} (F : Fun K "_law_by_position" "_law_by_position" s_lby_position f fd) (Z : Errs P w K mg base) : FnOk P w K mg base CX0 5 f fd ["_law_a", "_law_b", "_law_c"] spBy := by
  refine F.ok sc_lby_position (fun vs H Q E h => ?_) (fun cdv A outer s H vs Q E hr h => ?_)
  · obtain ⟨a, da, b, db, c, dc, rfl, _⟩ := h
    rfl
  · obtain ⟨a, da, b, db, c, dc, rfl, ha, hb, hc, q⟩ := h
    obtain ⟨⟨C_BadLetters, O_BadLetters, g_BadLetters, E_BadLetters⟩, A_BadLetters, fd_BadLetters, i_BadLetters, t_BadLetters, I_BadLetters, B_BadLetters, K_BadLetters, X_BadLetters, n_BadLetters⟩ := Z.BadLetters
    dsimp only at O_BadLetters g_BadLetters i_BadLetters I_BadLetters X_BadLetters n_BadLetters
    obtain ⟨⟨C_BadWords, O_BadWords, g_BadWords, E_BadWords⟩, A_BadWords, fd_BadWords, i_BadWords, t_BadWords, I_BadWords, B_BadWords, K_BadWords, X_BadWords, n_BadWords⟩ := Z.BadWords
    dsimp only at O_BadWords g_BadWords i_BadWords I_BadWords X_BadWords n_BadWords
    obtain ⟨⟨C_BadText, O_BadText, g_BadText, E_BadText⟩, A_BadText, fd_BadText, i_BadText, t_BadText, I_BadText, B_BadText, K_BadText, X_BadText, n_BadText⟩ := Z.BadText
    dsimp only at O_BadText g_BadText i_BadText I_BadText X_BadText n_BadText
    obtain ⟨⟨C_BadWish, O_BadWish, g_BadWish, E_BadWish⟩, A_BadWish, fd_BadWish, i_BadWish, t_BadWish, I_BadWish, B_BadWish, K_BadWish, X_BadWish, n_BadWish⟩ := Z.BadWish
    dsimp only at O_BadWish g_BadWish i_BadWish I_BadWish X_BadWish n_BadWish
    obtain ⟨⟨C_BadWidth, O_BadWidth, g_BadWidth, E_BadWidth⟩, A_BadWidth, fd_BadWidth, i_BadWidth, t_BadWidth, I_BadWidth, B_BadWidth, K_BadWidth, X_BadWidth, n_BadWidth⟩ := Z.BadWidth
    dsimp only at O_BadWidth g_BadWidth i_BadWidth I_BadWidth X_BadWidth n_BadWidth
    obtain ⟨⟨C_TooMany, O_TooMany, g_TooMany, E_TooMany⟩, A_TooMany, fd_TooMany, i_TooMany, t_TooMany, I_TooMany, B_TooMany, K_TooMany, X_TooMany, n_TooMany⟩ := Z.TooMany
    dsimp only at O_TooMany g_TooMany i_TooMany I_TooMany X_TooMany n_TooMany
    obtain ⟨⟨C_BadTree, O_BadTree, g_BadTree, E_BadTree⟩, A_BadTree, fd_BadTree, i_BadTree, t_BadTree, I_BadTree, B_BadTree, K_BadTree, X_BadTree, n_BadTree⟩ := Z.BadTree
    dsimp only at O_BadTree g_BadTree i_BadTree I_BadTree X_BadTree n_BadTree
    obtain ⟨⟨C_BadLine, O_BadLine, g_BadLine, E_BadLine⟩, A_BadLine, fd_BadLine, i_BadLine, t_BadLine, I_BadLine, B_BadLine, K_BadLine, X_BadLine, n_BadLine⟩ := Z.BadLine
    dsimp only at O_BadLine g_BadLine i_BadLine I_BadLine X_BadLine n_BadLine
    obtain ⟨⟨C_BadWay, O_BadWay, g_BadWay, E_BadWay⟩, A_BadWay, fd_BadWay, i_BadWay, t_BadWay, I_BadWay, B_BadWay, K_BadWay, X_BadWay, n_BadWay⟩ := Z.BadWay
    dsimp only at O_BadWay g_BadWay i_BadWay I_BadWay X_BadWay n_BadWay
    obtain ⟨⟨C_BadRule, O_BadRule, g_BadRule, E_BadRule⟩, A_BadRule, fd_BadRule, i_BadRule, t_BadRule, I_BadRule, B_BadRule, K_BadRule, X_BadRule, n_BadRule⟩ := Z.BadRule
    dsimp only at O_BadRule g_BadRule i_BadRule I_BadRule X_BadRule n_BadRule
    obtain ⟨⟨C_Ring, O_Ring, g_Ring, E_Ring⟩, A_Ring, fd_Ring, i_Ring, t_Ring, I_Ring, B_Ring, K_Ring, X_Ring, n_Ring⟩ := Z.Ring
    dsimp only at O_Ring g_Ring i_Ring I_Ring X_Ring n_Ring
    obtain ⟨⟨C_NoRule, O_NoRule, g_NoRule, E_NoRule⟩, A_NoRule, fd_NoRule, i_NoRule, t_NoRule, I_NoRule, B_NoRule, K_NoRule, X_NoRule, n_NoRule⟩ := Z.NoRule
    dsimp only at O_NoRule g_NoRule i_NoRule I_NoRule X_NoRule n_NoRule
    obtain ⟨⟨C_BadPlace, O_BadPlace, g_BadPlace, E_BadPlace⟩, A_BadPlace, fd_BadPlace, i_BadPlace, t_BadPlace, I_BadPlace, B_BadPlace, K_BadPlace, X_BadPlace, n_BadPlace⟩ := Z.BadPlace
    dsimp only at O_BadPlace g_BadPlace i_BadPlace I_BadPlace X_BadPlace n_BadPlace
    obtain ⟨⟨C_BadSize, O_BadSize, g_BadSize, E_BadSize⟩, A_BadSize, fd_BadSize, i_BadSize, t_BadSize, I_BadSize, B_BadSize, K_BadSize, X_BadSize, n_BadSize⟩ := Z.BadSize
    dsimp only at O_BadSize g_BadSize i_BadSize I_BadSize X_BadSize n_BadSize
    obtain ⟨⟨C_BadOrder, O_BadOrder, g_BadOrder, E_BadOrder⟩, A_BadOrder, fd_BadOrder, i_BadOrder, t_BadOrder, I_BadOrder, B_BadOrder, K_BadOrder, X_BadOrder, n_BadOrder⟩ := Z.BadOrder
    dsimp only at O_BadOrder g_BadOrder i_BadOrder I_BadOrder X_BadOrder n_BadOrder
    obtain ⟨⟨C_NoJoint, O_NoJoint, g_NoJoint, E_NoJoint⟩, A_NoJoint, fd_NoJoint, i_NoJoint, t_NoJoint, I_NoJoint, B_NoJoint, K_NoJoint, X_NoJoint, n_NoJoint⟩ := Z.NoJoint
    dsimp only at O_NoJoint g_NoJoint i_NoJoint I_NoJoint X_NoJoint n_NoJoint
    obtain ⟨⟨C_NoPartial, O_NoPartial, g_NoPartial, E_NoPartial⟩, A_NoPartial, fd_NoPartial, i_NoPartial, t_NoPartial, I_NoPartial, B_NoPartial, K_NoPartial, X_NoPartial, n_NoPartial⟩ := Z.NoPartial
    dsimp only at O_NoPartial g_NoPartial i_NoPartial I_NoPartial X_NoPartial n_NoPartial
    refine ⟨_, (pss_cons (ps_set (i := 3) sc_lby_position.nd rfl (Or.inl rfl) (pe_lst (pa_cons (EK.pe_ef (EK.pe_mkv O_BadLetters i_BadLetters t_BadLetters I_BadLetters (hr.mono (by decide)) B_BadLetters pass0 (by rfl) g_BadLetters (pa_cons (pv 0) pa_nil))) (pa_cons (EK.pe_ef (EK.pe_mkv O_BadWords i_BadWords t_BadWords I_BadWords (hr.mono (by decide)) B_BadWords pass0 (by rfl) g_BadWords (pa_cons (pv 0) pa_nil))) (pa_cons (EK.pe_ef (EK.pe_mkv O_BadText i_BadText t_BadText I_BadText (hr.mono (by decide)) B_BadText pass0 (by rfl) g_BadText (pa_cons (pv 0) pa_nil))) (pa_cons (EK.pe_ef (EK.pe_mkv O_BadWish i_BadWish t_BadWish I_BadWish (hr.mono (by decide)) B_BadWish pass0 (by rfl) g_BadWish (pa_cons (pv 0) pa_nil))) pa_nil))))))
      (pss_cons (ps_set (i := 3) sc_lby_position.nd rfl (Or.inl rfl) (pe_op op_cat (pv 3) (pe_lst (pa_cons (EK.pe_ef (EK.pe_mkv O_BadWidth i_BadWidth t_BadWidth I_BadWidth (hr.mono (by decide)) B_BadWidth pass0 (by rfl) g_BadWidth (pa_cons (pv 0) pa_nil))) (pa_cons (EK.pe_ef (EK.pe_mkv O_TooMany i_TooMany t_TooMany I_TooMany (hr.mono (by decide)) B_TooMany pass0 (by rfl) g_TooMany (pa_cons (pv 0) (pa_cons (pv 1) (pa_cons (pv 2) pa_nil))))) (pa_cons (EK.pe_ef (EK.pe_mkv O_TooMany i_TooMany t_TooMany I_TooMany (hr.mono (by decide)) B_TooMany pass0 (by rfl) g_TooMany (pa_cons (pv 0) (pa_cons (pv 1) (pa_cons (pv 2) pa_nil))))) (pa_cons (EK.pe_ef (EK.pe_mkv O_TooMany i_TooMany t_TooMany I_TooMany (hr.mono (by decide)) B_TooMany pass0 (by rfl) g_TooMany (pa_cons (pv 0) (pa_cons (pv 1) (pa_cons (pv 2) pa_nil))))) pa_nil)))))))
      (pss_cons (ps_set (i := 3) sc_lby_position.nd rfl (Or.inl rfl) (pe_op op_cat (pv 3) (pe_lst (pa_cons (EK.pe_ef (EK.pe_mkv O_BadTree i_BadTree t_BadTree I_BadTree (hr.mono (by decide)) B_BadTree pass0 (by rfl) g_BadTree (pa_cons (pv 0) (pa_cons (pv 1) pa_nil)))) (pa_cons (EK.pe_ef (EK.pe_mkv O_BadTree i_BadTree t_BadTree I_BadTree (hr.mono (by decide)) B_BadTree pass0 (by rfl) g_BadTree (pa_cons (pv 0) (pa_cons (pv 1) pa_nil)))) (pa_cons (EK.pe_ef (EK.pe_mkv O_BadLine i_BadLine t_BadLine I_BadLine (hr.mono (by decide)) B_BadLine pass0 (by rfl) g_BadLine (pa_cons (pv 0) pa_nil))) (pa_cons (EK.pe_ef (EK.pe_mkv O_BadWay i_BadWay t_BadWay I_BadWay (hr.mono (by decide)) B_BadWay pass0 (by rfl) g_BadWay (pa_cons (pv 0) pa_nil))) pa_nil)))))))
      (pss_cons (ps_set (i := 3) sc_lby_position.nd rfl (Or.inl rfl) (pe_op op_cat (pv 3) (pe_lst (pa_cons (EK.pe_ef (EK.pe_mkv O_BadRule i_BadRule t_BadRule I_BadRule (hr.mono (by decide)) B_BadRule pass0 (by rfl) g_BadRule (pa_cons (pv 0) pa_nil))) (pa_cons (EK.pe_ef (EK.pe_mkv O_Ring i_Ring t_Ring I_Ring (hr.mono (by decide)) B_Ring pass0 (by rfl) g_Ring (pa_cons (pv 0) pa_nil))) (pa_cons (EK.pe_ef (EK.pe_mkv O_NoRule i_NoRule t_NoRule I_NoRule (hr.mono (by decide)) B_NoRule pass0 (by rfl) g_NoRule (pa_cons (pv 0) pa_nil))) (pa_cons (EK.pe_ef (EK.pe_mkv O_BadPlace i_BadPlace t_BadPlace I_BadPlace (hr.mono (by decide)) B_BadPlace pass0 (by rfl) g_BadPlace (pa_cons (pv 0) pa_nil))) (pa_cons (EK.pe_ef (EK.pe_mkv O_BadSize i_BadSize t_BadSize I_BadSize (hr.mono (by decide)) B_BadSize pass0 (by rfl) g_BadSize (pa_cons (pv 0) pa_nil))) pa_nil))))))))
      (pss_cons (ps_set (i := 3) sc_lby_position.nd rfl (Or.inl rfl) (pe_op op_cat (pv 3) (pe_lst (pa_cons (EK.pe_ef (EK.pe_mkv O_BadOrder i_BadOrder t_BadOrder I_BadOrder (hr.mono (by decide)) B_BadOrder pass0 (by rfl) g_BadOrder (pa_cons (pv 0) pa_nil))) (pa_cons (EK.pe_ef (EK.pe_mkv O_NoJoint i_NoJoint t_NoJoint I_NoJoint (hr.mono (by decide)) B_NoJoint pass0 (by rfl) g_NoJoint (pa_cons (pv 0) pa_nil))) (pa_cons (EK.pe_ef (EK.pe_mkv O_NoPartial i_NoPartial t_NoPartial I_NoPartial (hr.mono (by decide)) B_NoPartial pass0 (by rfl) g_NoPartial (pa_cons (pv 0) pa_nil))) pa_nil))))))
      (pss_one (ps_ret (pv 3)))))))), ?_⟩
    have ga {B : Hp} {v : Option V} (e : Ex H B) : GI B [some a, some b, some c, v] (tVar 0) (pAV da) := gi_var rfl (ha.ex e)
    have gb {B : Hp} {v : Option V} (e : Ex H B) : GI B [some a, some b, some c, v] (tVar 1) (pAV db) := gi_var rfl (hb.ex e)
    have gc {B : Hp} {v : Option V} (e : Ex H B) : GI B [some a, some b, some c, v] (tVar 2) (pAV dc) := gi_var rfl (hc.ex e)
    refine seq_gi (gi_lst (ps := pds [da, da, da, da]) (B := H) (σ := [some a, some b, some c, none]) mono_pds (gis_cons (gf1a X_BadLetters (n_BadLetters "letters" (by simp)) (gis_cons (ga (Ex.refl _)) mono_av gis_nil)) mono_av (gis_cons (gf1a X_BadWords (n_BadWords "place" (by simp)) (gis_cons (ga (Ex.refl _)) mono_av gis_nil)) mono_av (gis_cons (gf1a X_BadText (n_BadText "place" (by simp)) (gis_cons (ga (Ex.refl _)) mono_av gis_nil)) mono_av (gis_cons (gf1a X_BadWish (n_BadWish "wish" (by simp)) (gis_cons (ga (Ex.refl _)) mono_av gis_nil)) mono_av gis_nil)))) (show 4 ≤ 1000 by decide)) (Ex.refl _) fun r1 H1 e1 h1 => ?_
    refine seq_gi (gi_cat (ps := pds [da, da, da, da]) (qs := pds [da, da, db, dc]) (B := H1) (σ := [some a, some b, some c, some r1]) mono_pds mono_pds rfl h1 (gi_lst mono_pds (gis_cons (gf1a X_BadWidth (n_BadWidth "width" (by simp)) (gis_cons (ga e1) mono_av gis_nil)) mono_av (gis_cons (gf3a X_TooMany (n_TooMany "what" (by simp)) (by decide +kernel) (by decide +kernel) (gis_cons (ga e1) mono_av (gis_cons (gb e1) mono_av (gis_cons (gc e1) mono_av gis_nil)))) mono_av (gis_cons (gf3b X_TooMany (n_TooMany "many" (by simp)) (by decide +kernel) (gis_cons (ga e1) mono_av (gis_cons (gb e1) mono_av (gis_cons (gc e1) mono_av gis_nil)))) mono_av (gis_cons (gf3c X_TooMany (n_TooMany "most" (by simp)) (gis_cons (ga e1) mono_av (gis_cons (gb e1) mono_av (gis_cons (gc e1) mono_av gis_nil)))) mono_av gis_nil)))) (show 4 ≤ 1000 by decide)) (show 4 + 4 ≤ 1000 by decide)) (Ex.refl _) fun r2 H2 x2 h2 => ?_
    have e2 := e1.trans x2
    refine seq_gi (gi_cat (ps := pds [da, da, da, da, da, da, db, dc]) (qs := pds [da, db, da, da]) (B := H2) (σ := [some a, some b, some c, some r2]) mono_pds mono_pds rfl h2 (gi_lst mono_pds (gis_cons (gf2a X_BadTree (n_BadTree "state" (by simp)) (by decide +kernel) (gis_cons (ga e2) mono_av (gis_cons (gb e2) mono_av gis_nil))) mono_av (gis_cons (gf2b X_BadTree (n_BadTree "node" (by simp)) (gis_cons (ga e2) mono_av (gis_cons (gb e2) mono_av gis_nil))) mono_av (gis_cons (gf1a X_BadLine (n_BadLine "line" (by simp)) (gis_cons (ga e2) mono_av gis_nil)) mono_av (gis_cons (gf1a X_BadWay (n_BadWay "way" (by simp)) (gis_cons (ga e2) mono_av gis_nil)) mono_av gis_nil)))) (show 4 ≤ 1000 by decide)) (show 8 + 4 ≤ 1000 by decide)) (Ex.refl _) fun r3 H3 x3 h3 => ?_
    have e3 := e2.trans x3
    refine seq_gi (gi_cat (ps := pds [da, da, da, da, da, da, db, dc, da, db, da, da]) (qs := pds [da, da, da, da, da]) (B := H3) (σ := [some a, some b, some c, some r3]) mono_pds mono_pds rfl h3 (gi_lst mono_pds (gis_cons (gf1a X_BadRule (n_BadRule "name" (by simp)) (gis_cons (ga e3) mono_av gis_nil)) mono_av (gis_cons (gf1a X_Ring (n_Ring "name" (by simp)) (gis_cons (ga e3) mono_av gis_nil)) mono_av (gis_cons (gf1a X_NoRule (n_NoRule "root" (by simp)) (gis_cons (ga e3) mono_av gis_nil)) mono_av (gis_cons (gf1a X_BadPlace (n_BadPlace "number" (by simp)) (gis_cons (ga e3) mono_av gis_nil)) mono_av (gis_cons (gf1a X_BadSize (n_BadSize "size" (by simp)) (gis_cons (ga e3) mono_av gis_nil)) mono_av gis_nil))))) (show 5 ≤ 1000 by decide)) (show 12 + 5 ≤ 1000 by decide)) (Ex.refl _) fun r4 H4 x4 h4 => ?_
    have e4 := e3.trans x4
    refine seq_gi (gi_cat (ps := pds [da, da, da, da, da, da, db, dc, da, db, da, da, da, da, da, da, da]) (qs := pds [da, da, da]) (B := H4) (σ := [some a, some b, some c, some r4]) mono_pds mono_pds rfl h4 (gi_lst mono_pds (gis_cons (gf1a X_BadOrder (n_BadOrder "order" (by simp)) (gis_cons (ga e4) mono_av gis_nil)) mono_av (gis_cons (gf1a X_NoJoint (n_NoJoint "joint" (by simp)) (gis_cons (ga e4) mono_av gis_nil)) mono_av (gis_cons (gf1a X_NoPartial (n_NoPartial "partial" (by simp)) (gis_cons (ga e4) mono_av gis_nil)) mono_av gis_nil))) (show 3 ≤ 1000 by decide)) (show 17 + 3 ≤ 1000 by decide)) (Ex.refl _) fun r5 H5 x5 h5 => ?_
    have e5 := e4.trans x5
    exact ⟨_, rfl, q _ _ e5 h5⟩
end
end Law

namespace Law
open PySem PySem.Spec PyProof.Rows L2 Evl EK
section
variable {P : Program} {w : World} {K : PySem.W.Frag} {mg : Str → Option Value} {base : Heap}
theorem ok_lby_name {f : Addr} {fd : FuncData} (F : Fun K "_law_by_name" "_law_by_name" s_lby_name f fd) (Z : Errs P w K mg base) : FnOk P w K mg base CX0 5 f fd ["_law_a", "_law_b", "_law_c"] spBy := by
  refine F.ok sc_lby_name (fun vs H Q E h => ?_) (fun cdv A outer s H vs Q E hr h => ?_)
  · obtain ⟨a, da, b, db, c, dc, rfl, _⟩ := h
    rfl
  · obtain ⟨a, da, b, db, c, dc, rfl, ha, hb, hc, q⟩ := h
    obtain ⟨⟨C_BadLetters, O_BadLetters, g_BadLetters, E_BadLetters⟩, A_BadLetters, fd_BadLetters, i_BadLetters, t_BadLetters, I_BadLetters, B_BadLetters, K_BadLetters, X_BadLetters, n_BadLetters⟩ := Z.BadLetters
    dsimp only at O_BadLetters g_BadLetters i_BadLetters I_BadLetters X_BadLetters n_BadLetters
    obtain ⟨⟨C_BadWords, O_BadWords, g_BadWords, E_BadWords⟩, A_BadWords, fd_BadWords, i_BadWords, t_BadWords, I_BadWords, B_BadWords, K_BadWords, X_BadWords, n_BadWords⟩ := Z.BadWords
    dsimp only at O_BadWords g_BadWords i_BadWords I_BadWords X_BadWords n_BadWords
    obtain ⟨⟨C_BadText, O_BadText, g_BadText, E_BadText⟩, A_BadText, fd_BadText, i_BadText, t_BadText, I_BadText, B_BadText, K_BadText, X_BadText, n_BadText⟩ := Z.BadText
    dsimp only at O_BadText g_BadText i_BadText I_BadText X_BadText n_BadText
    obtain ⟨⟨C_BadWish, O_BadWish, g_BadWish, E_BadWish⟩, A_BadWish, fd_BadWish, i_BadWish, t_BadWish, I_BadWish, B_BadWish, K_BadWish, X_BadWish, n_BadWish⟩ := Z.BadWish
    dsimp only at O_BadWish g_BadWish i_BadWish I_BadWish X_BadWish n_BadWish
    obtain ⟨⟨C_BadWidth, O_BadWidth, g_BadWidth, E_BadWidth⟩, A_BadWidth, fd_BadWidth, i_BadWidth, t_BadWidth, I_BadWidth, B_BadWidth, K_BadWidth, X_BadWidth, n_BadWidth⟩ := Z.BadWidth
    dsimp only at O_BadWidth g_BadWidth i_BadWidth I_BadWidth X_BadWidth n_BadWidth
    obtain ⟨⟨C_TooMany, O_TooMany, g_TooMany, E_TooMany⟩, A_TooMany, fd_TooMany, i_TooMany, t_TooMany, I_TooMany, B_TooMany, K_TooMany, X_TooMany, n_TooMany⟩ := Z.TooMany
    dsimp only at O_TooMany g_TooMany i_TooMany I_TooMany X_TooMany n_TooMany
    obtain ⟨⟨C_BadTree, O_BadTree, g_BadTree, E_BadTree⟩, A_BadTree, fd_BadTree, i_BadTree, t_BadTree, I_BadTree, B_BadTree, K_BadTree, X_BadTree, n_BadTree⟩ := Z.BadTree
    dsimp only at O_BadTree g_BadTree i_BadTree I_BadTree X_BadTree n_BadTree
    obtain ⟨⟨C_BadLine, O_BadLine, g_BadLine, E_BadLine⟩, A_BadLine, fd_BadLine, i_BadLine, t_BadLine, I_BadLine, B_BadLine, K_BadLine, X_BadLine, n_BadLine⟩ := Z.BadLine
    dsimp only at O_BadLine g_BadLine i_BadLine I_BadLine X_BadLine n_BadLine
    obtain ⟨⟨C_BadWay, O_BadWay, g_BadWay, E_BadWay⟩, A_BadWay, fd_BadWay, i_BadWay, t_BadWay, I_BadWay, B_BadWay, K_BadWay, X_BadWay, n_BadWay⟩ := Z.BadWay
    dsimp only at O_BadWay g_BadWay i_BadWay I_BadWay X_BadWay n_BadWay
    obtain ⟨⟨C_BadRule, O_BadRule, g_BadRule, E_BadRule⟩, A_BadRule, fd_BadRule, i_BadRule, t_BadRule, I_BadRule, B_BadRule, K_BadRule, X_BadRule, n_BadRule⟩ := Z.BadRule
    dsimp only at O_BadRule g_BadRule i_BadRule I_BadRule X_BadRule n_BadRule
    obtain ⟨⟨C_Ring, O_Ring, g_Ring, E_Ring⟩, A_Ring, fd_Ring, i_Ring, t_Ring, I_Ring, B_Ring, K_Ring, X_Ring, n_Ring⟩ := Z.Ring
    dsimp only at O_Ring g_Ring i_Ring I_Ring X_Ring n_Ring
    obtain ⟨⟨C_NoRule, O_NoRule, g_NoRule, E_NoRule⟩, A_NoRule, fd_NoRule, i_NoRule, t_NoRule, I_NoRule, B_NoRule, K_NoRule, X_NoRule, n_NoRule⟩ := Z.NoRule
    dsimp only at O_NoRule g_NoRule i_NoRule I_NoRule X_NoRule n_NoRule
    obtain ⟨⟨C_BadPlace, O_BadPlace, g_BadPlace, E_BadPlace⟩, A_BadPlace, fd_BadPlace, i_BadPlace, t_BadPlace, I_BadPlace, B_BadPlace, K_BadPlace, X_BadPlace, n_BadPlace⟩ := Z.BadPlace
    dsimp only at O_BadPlace g_BadPlace i_BadPlace I_BadPlace X_BadPlace n_BadPlace
    obtain ⟨⟨C_BadSize, O_BadSize, g_BadSize, E_BadSize⟩, A_BadSize, fd_BadSize, i_BadSize, t_BadSize, I_BadSize, B_BadSize, K_BadSize, X_BadSize, n_BadSize⟩ := Z.BadSize
    dsimp only at O_BadSize g_BadSize i_BadSize I_BadSize X_BadSize n_BadSize
    obtain ⟨⟨C_BadOrder, O_BadOrder, g_BadOrder, E_BadOrder⟩, A_BadOrder, fd_BadOrder, i_BadOrder, t_BadOrder, I_BadOrder, B_BadOrder, K_BadOrder, X_BadOrder, n_BadOrder⟩ := Z.BadOrder
    dsimp only at O_BadOrder g_BadOrder i_BadOrder I_BadOrder X_BadOrder n_BadOrder
    obtain ⟨⟨C_NoJoint, O_NoJoint, g_NoJoint, E_NoJoint⟩, A_NoJoint, fd_NoJoint, i_NoJoint, t_NoJoint, I_NoJoint, B_NoJoint, K_NoJoint, X_NoJoint, n_NoJoint⟩ := Z.NoJoint
    dsimp only at O_NoJoint g_NoJoint i_NoJoint I_NoJoint X_NoJoint n_NoJoint
    obtain ⟨⟨C_NoPartial, O_NoPartial, g_NoPartial, E_NoPartial⟩, A_NoPartial, fd_NoPartial, i_NoPartial, t_NoPartial, I_NoPartial, B_NoPartial, K_NoPartial, X_NoPartial, n_NoPartial⟩ := Z.NoPartial
    dsimp only at O_NoPartial g_NoPartial i_NoPartial I_NoPartial X_NoPartial n_NoPartial
    refine ⟨_, (pss_cons (ps_set (i := 3) sc_lby_name.nd rfl (Or.inl rfl) (pe_lst (pa_cons (EK.pe_ef (EK.pe_mkn O_BadLetters i_BadLetters t_BadLetters I_BadLetters (hr.mono (by decide)) K_BadLetters pass0 (by rfl) g_BadLetters (pk_cons (pv 0) pk_nil))) (pa_cons (EK.pe_ef (EK.pe_mkn O_BadWords i_BadWords t_BadWords I_BadWords (hr.mono (by decide)) K_BadWords pass0 (by rfl) g_BadWords (pk_cons (pv 0) pk_nil))) (pa_cons (EK.pe_ef (EK.pe_mkn O_BadText i_BadText t_BadText I_BadText (hr.mono (by decide)) K_BadText pass0 (by rfl) g_BadText (pk_cons (pv 0) pk_nil))) pa_nil)))))
      (pss_cons (ps_set (i := 3) sc_lby_name.nd rfl (Or.inl rfl) (pe_op op_cat (pv 3) (pe_lst (pa_cons (EK.pe_ef (EK.pe_mkn O_BadWish i_BadWish t_BadWish I_BadWish (hr.mono (by decide)) K_BadWish pass0 (by rfl) g_BadWish (pk_cons (pv 0) pk_nil))) (pa_cons (EK.pe_ef (EK.pe_mkn O_BadWidth i_BadWidth t_BadWidth I_BadWidth (hr.mono (by decide)) K_BadWidth pass0 (by rfl) g_BadWidth (pk_cons (pv 0) pk_nil))) (pa_cons (EK.pe_ef (EK.pe_mkn O_TooMany i_TooMany t_TooMany I_TooMany (hr.mono (by decide)) K_TooMany pass0 (by rfl) g_TooMany (pk_cons (pv 0) (pk_cons (pv 1) (pk_cons (pv 2) pk_nil))))) pa_nil))))))
      (pss_cons (ps_set (i := 3) sc_lby_name.nd rfl (Or.inl rfl) (pe_op op_cat (pv 3) (pe_lst (pa_cons (EK.pe_ef (EK.pe_mkn O_TooMany i_TooMany t_TooMany I_TooMany (hr.mono (by decide)) K_TooMany pass0 (by rfl) g_TooMany (pk_cons (pv 0) (pk_cons (pv 1) (pk_cons (pv 2) pk_nil))))) (pa_cons (EK.pe_ef (EK.pe_mkn O_TooMany i_TooMany t_TooMany I_TooMany (hr.mono (by decide)) K_TooMany pass0 (by rfl) g_TooMany (pk_cons (pv 0) (pk_cons (pv 1) (pk_cons (pv 2) pk_nil))))) pa_nil)))))
      (pss_cons (ps_set (i := 3) sc_lby_name.nd rfl (Or.inl rfl) (pe_op op_cat (pv 3) (pe_lst (pa_cons (EK.pe_ef (EK.pe_mkn O_BadTree i_BadTree t_BadTree I_BadTree (hr.mono (by decide)) K_BadTree pass0 (by rfl) g_BadTree (pk_cons (pv 0) (pk_cons (pv 1) pk_nil)))) (pa_cons (EK.pe_ef (EK.pe_mkn O_BadTree i_BadTree t_BadTree I_BadTree (hr.mono (by decide)) K_BadTree pass0 (by rfl) g_BadTree (pk_cons (pv 0) (pk_cons (pv 1) pk_nil)))) (pa_cons (EK.pe_ef (EK.pe_mkn O_BadLine i_BadLine t_BadLine I_BadLine (hr.mono (by decide)) K_BadLine pass0 (by rfl) g_BadLine (pk_cons (pv 0) pk_nil))) pa_nil))))))
      (pss_cons (ps_set (i := 3) sc_lby_name.nd rfl (Or.inl rfl) (pe_op op_cat (pv 3) (pe_lst (pa_cons (EK.pe_ef (EK.pe_mkn O_BadWay i_BadWay t_BadWay I_BadWay (hr.mono (by decide)) K_BadWay pass0 (by rfl) g_BadWay (pk_cons (pv 0) pk_nil))) (pa_cons (EK.pe_ef (EK.pe_mkn O_BadRule i_BadRule t_BadRule I_BadRule (hr.mono (by decide)) K_BadRule pass0 (by rfl) g_BadRule (pk_cons (pv 0) pk_nil))) (pa_cons (EK.pe_ef (EK.pe_mkn O_Ring i_Ring t_Ring I_Ring (hr.mono (by decide)) K_Ring pass0 (by rfl) g_Ring (pk_cons (pv 0) pk_nil))) (pa_cons (EK.pe_ef (EK.pe_mkn O_NoRule i_NoRule t_NoRule I_NoRule (hr.mono (by decide)) K_NoRule pass0 (by rfl) g_NoRule (pk_cons (pv 0) pk_nil))) pa_nil)))))))
      (pss_cons (ps_set (i := 3) sc_lby_name.nd rfl (Or.inl rfl) (pe_op op_cat (pv 3) (pe_lst (pa_cons (EK.pe_ef (EK.pe_mkn O_BadPlace i_BadPlace t_BadPlace I_BadPlace (hr.mono (by decide)) K_BadPlace pass0 (by rfl) g_BadPlace (pk_cons (pv 0) pk_nil))) (pa_cons (EK.pe_ef (EK.pe_mkn O_BadSize i_BadSize t_BadSize I_BadSize (hr.mono (by decide)) K_BadSize pass0 (by rfl) g_BadSize (pk_cons (pv 0) pk_nil))) (pa_cons (EK.pe_ef (EK.pe_mkn O_BadOrder i_BadOrder t_BadOrder I_BadOrder (hr.mono (by decide)) K_BadOrder pass0 (by rfl) g_BadOrder (pk_cons (pv 0) pk_nil))) pa_nil))))))
      (pss_cons (ps_set (i := 3) sc_lby_name.nd rfl (Or.inl rfl) (pe_op op_cat (pv 3) (pe_lst (pa_cons (EK.pe_ef (EK.pe_mkn O_NoJoint i_NoJoint t_NoJoint I_NoJoint (hr.mono (by decide)) K_NoJoint pass0 (by rfl) g_NoJoint (pk_cons (pv 0) pk_nil))) (pa_cons (EK.pe_ef (EK.pe_mkn O_NoPartial i_NoPartial t_NoPartial I_NoPartial (hr.mono (by decide)) K_NoPartial pass0 (by rfl) g_NoPartial (pk_cons (pv 0) pk_nil))) pa_nil)))))
      (pss_one (ps_ret (pv 3)))))))))), ?_⟩
    have ga {B : Hp} {v : Option V} (e : Ex H B) : GI B [some a, some b, some c, v] (tVar 0) (pAV da) := gi_var rfl (ha.ex e)
    have gb {B : Hp} {v : Option V} (e : Ex H B) : GI B [some a, some b, some c, v] (tVar 1) (pAV db) := gi_var rfl (hb.ex e)
    have gc {B : Hp} {v : Option V} (e : Ex H B) : GI B [some a, some b, some c, v] (tVar 2) (pAV dc) := gi_var rfl (hc.ex e)
    refine seq_gi (gi_lst (ps := pds [da, da, da]) (B := H) (σ := [some a, some b, some c, none]) mono_pds (gis_cons (gf1an X_BadLetters (n_BadLetters "letters" (by simp)) (gis_cons (ga (Ex.refl _)) mono_av gis_nil)) mono_av (gis_cons (gf1an X_BadWords (n_BadWords "place" (by simp)) (gis_cons (ga (Ex.refl _)) mono_av gis_nil)) mono_av (gis_cons (gf1an X_BadText (n_BadText "place" (by simp)) (gis_cons (ga (Ex.refl _)) mono_av gis_nil)) mono_av gis_nil))) (show 3 ≤ 1000 by decide)) (Ex.refl _) fun r1 H1 e1 h1 => ?_
    refine seq_gi (gi_cat (ps := pds [da, da, da]) (qs := pds [da, da, da]) (B := H1) (σ := [some a, some b, some c, some r1]) mono_pds mono_pds rfl h1 (gi_lst mono_pds (gis_cons (gf1an X_BadWish (n_BadWish "wish" (by simp)) (gis_cons (ga e1) mono_av gis_nil)) mono_av (gis_cons (gf1an X_BadWidth (n_BadWidth "width" (by simp)) (gis_cons (ga e1) mono_av gis_nil)) mono_av (gis_cons (gf3an (g := "many") (h := "most") X_TooMany (n_TooMany "what" (by simp)) (by decide +kernel) (by decide +kernel) (gis_cons (ga e1) mono_av (gis_cons (gb e1) mono_av (gis_cons (gc e1) mono_av gis_nil)))) mono_av gis_nil))) (show 3 ≤ 1000 by decide)) (show 3 + 3 ≤ 1000 by decide)) (Ex.refl _) fun r2 H2 x2 h2 => ?_
    have e2 := e1.trans x2
    refine seq_gi (gi_cat (ps := pds [da, da, da, da, da, da]) (qs := pds [db, dc]) (B := H2) (σ := [some a, some b, some c, some r2]) mono_pds mono_pds rfl h2 (gi_lst mono_pds (gis_cons (gf3bn (f := "what") (h := "most") X_TooMany (n_TooMany "many" (by simp)) (by decide +kernel) (gis_cons (ga e2) mono_av (gis_cons (gb e2) mono_av (gis_cons (gc e2) mono_av gis_nil)))) mono_av (gis_cons (gf3cn (f := "what") (g := "many") X_TooMany (n_TooMany "most" (by simp)) (gis_cons (ga e2) mono_av (gis_cons (gb e2) mono_av (gis_cons (gc e2) mono_av gis_nil)))) mono_av gis_nil)) (show 2 ≤ 1000 by decide)) (show 6 + 2 ≤ 1000 by decide)) (Ex.refl _) fun r3 H3 x3 h3 => ?_
    have e3 := e2.trans x3
    refine seq_gi (gi_cat (ps := pds [da, da, da, da, da, da, db, dc]) (qs := pds [da, db, da]) (B := H3) (σ := [some a, some b, some c, some r3]) mono_pds mono_pds rfl h3 (gi_lst mono_pds (gis_cons (gf2an (g := "node") X_BadTree (n_BadTree "state" (by simp)) (by decide +kernel) (gis_cons (ga e3) mono_av (gis_cons (gb e3) mono_av gis_nil))) mono_av (gis_cons (gf2bn (f := "state") X_BadTree (n_BadTree "node" (by simp)) (gis_cons (ga e3) mono_av (gis_cons (gb e3) mono_av gis_nil))) mono_av (gis_cons (gf1an X_BadLine (n_BadLine "line" (by simp)) (gis_cons (ga e3) mono_av gis_nil)) mono_av gis_nil))) (show 3 ≤ 1000 by decide)) (show 8 + 3 ≤ 1000 by decide)) (Ex.refl _) fun r4 H4 x4 h4 => ?_
    have e4 := e3.trans x4
    refine seq_gi (gi_cat (ps := pds [da, da, da, da, da, da, db, dc, da, db, da]) (qs := pds [da, da, da, da]) (B := H4) (σ := [some a, some b, some c, some r4]) mono_pds mono_pds rfl h4 (gi_lst mono_pds (gis_cons (gf1an X_BadWay (n_BadWay "way" (by simp)) (gis_cons (ga e4) mono_av gis_nil)) mono_av (gis_cons (gf1an X_BadRule (n_BadRule "name" (by simp)) (gis_cons (ga e4) mono_av gis_nil)) mono_av (gis_cons (gf1an X_Ring (n_Ring "name" (by simp)) (gis_cons (ga e4) mono_av gis_nil)) mono_av (gis_cons (gf1an X_NoRule (n_NoRule "root" (by simp)) (gis_cons (ga e4) mono_av gis_nil)) mono_av gis_nil)))) (show 4 ≤ 1000 by decide)) (show 11 + 4 ≤ 1000 by decide)) (Ex.refl _) fun r5 H5 x5 h5 => ?_
    have e5 := e4.trans x5
    refine seq_gi (gi_cat (ps := pds [da, da, da, da, da, da, db, dc, da, db, da, da, da, da, da]) (qs := pds [da, da, da]) (B := H5) (σ := [some a, some b, some c, some r5]) mono_pds mono_pds rfl h5 (gi_lst mono_pds (gis_cons (gf1an X_BadPlace (n_BadPlace "number" (by simp)) (gis_cons (ga e5) mono_av gis_nil)) mono_av (gis_cons (gf1an X_BadSize (n_BadSize "size" (by simp)) (gis_cons (ga e5) mono_av gis_nil)) mono_av (gis_cons (gf1an X_BadOrder (n_BadOrder "order" (by simp)) (gis_cons (ga e5) mono_av gis_nil)) mono_av gis_nil))) (show 3 ≤ 1000 by decide)) (show 15 + 3 ≤ 1000 by decide)) (Ex.refl _) fun r6 H6 x6 h6 => ?_
    have e6 := e5.trans x6
    refine seq_gi (gi_cat (ps := pds [da, da, da, da, da, da, db, dc, da, db, da, da, da, da, da, da, da, da]) (qs := pds [da, da]) (B := H6) (σ := [some a, some b, some c, some r6]) mono_pds mono_pds rfl h6 (gi_lst mono_pds (gis_cons (gf1an X_NoJoint (n_NoJoint "joint" (by simp)) (gis_cons (ga e6) mono_av gis_nil)) mono_av (gis_cons (gf1an X_NoPartial (n_NoPartial "partial" (by simp)) (gis_cons (ga e6) mono_av gis_nil)) mono_av gis_nil)) (show 2 ≤ 1000 by decide)) (show 18 + 2 ≤ 1000 by decide)) (Ex.refl _) fun r7 H7 x7 h7 => ?_
    have e7 := e6.trans x7
    exact ⟨_, rfl, q _ _ e7 h7⟩
theorem ok_lall_made {f : Addr} {fd : FuncData} (F : Fun K "_law_all_made" "_law_all_made" s_lall_made f fd) (Z : Errs P w K mg base) : FnOk P w K mg base CX0 5 f fd ["_law_a", "_law_b", "_law_c"] (spMade Z.cl) := by
  unfold Errs.cl
  refine F.ok sc_lall_made (fun vs H Q E h => ?_) (fun cdv A outer s H vs Q E hr h => ?_)
  · obtain ⟨a, da, b, db, c, dc, rfl, _⟩ := h
    rfl
  · obtain ⟨a, da, b, db, c, dc, rfl, ha, hb, hc, q⟩ := h
    generalize Z.BadLetters = Z_BadLetters at q
    generalize Z.BadWords = Z_BadWords at q
    generalize Z.BadText = Z_BadText at q
    generalize Z.BadWish = Z_BadWish at q
    generalize Z.BadWidth = Z_BadWidth at q
    generalize Z.TooMany = Z_TooMany at q
    generalize Z.BadTree = Z_BadTree at q
    generalize Z.BadLine = Z_BadLine at q
    generalize Z.BadWay = Z_BadWay at q
    generalize Z.OtherLetters = Z_OtherLetters at q
    generalize Z.OtherWidth = Z_OtherWidth at q
    generalize Z.BadRule = Z_BadRule at q
    generalize Z.Ring = Z_Ring at q
    generalize Z.NoRule = Z_NoRule at q
    generalize Z.BadPlace = Z_BadPlace at q
    generalize Z.BadOver = Z_BadOver at q
    generalize Z.BadSize = Z_BadSize at q
    generalize Z.BadOrder = Z_BadOrder at q
    generalize Z.NoJoint = Z_NoJoint at q
    generalize Z.NoPartial = Z_NoPartial at q
    obtain ⟨⟨C_BadLetters, O_BadLetters, g_BadLetters, E_BadLetters⟩, A_BadLetters, fd_BadLetters, i_BadLetters, t_BadLetters, I_BadLetters, B_BadLetters, K_BadLetters, X_BadLetters, n_BadLetters⟩ := Z_BadLetters
    dsimp only at O_BadLetters g_BadLetters i_BadLetters I_BadLetters X_BadLetters n_BadLetters
    obtain ⟨⟨C_BadWords, O_BadWords, g_BadWords, E_BadWords⟩, A_BadWords, fd_BadWords, i_BadWords, t_BadWords, I_BadWords, B_BadWords, K_BadWords, X_BadWords, n_BadWords⟩ := Z_BadWords
    dsimp only at O_BadWords g_BadWords i_BadWords I_BadWords X_BadWords n_BadWords
    obtain ⟨⟨C_BadText, O_BadText, g_BadText, E_BadText⟩, A_BadText, fd_BadText, i_BadText, t_BadText, I_BadText, B_BadText, K_BadText, X_BadText, n_BadText⟩ := Z_BadText
    dsimp only at O_BadText g_BadText i_BadText I_BadText X_BadText n_BadText
    obtain ⟨⟨C_BadWish, O_BadWish, g_BadWish, E_BadWish⟩, A_BadWish, fd_BadWish, i_BadWish, t_BadWish, I_BadWish, B_BadWish, K_BadWish, X_BadWish, n_BadWish⟩ := Z_BadWish
    dsimp only at O_BadWish g_BadWish i_BadWish I_BadWish X_BadWish n_BadWish
    obtain ⟨⟨C_BadWidth, O_BadWidth, g_BadWidth, E_BadWidth⟩, A_BadWidth, fd_BadWidth, i_BadWidth, t_BadWidth, I_BadWidth, B_BadWidth, K_BadWidth, X_BadWidth, n_BadWidth⟩ := Z_BadWidth
    dsimp only at O_BadWidth g_BadWidth i_BadWidth I_BadWidth X_BadWidth n_BadWidth
    obtain ⟨⟨C_TooMany, O_TooMany, g_TooMany, E_TooMany⟩, A_TooMany, fd_TooMany, i_TooMany, t_TooMany, I_TooMany, B_TooMany, K_TooMany, X_TooMany, n_TooMany⟩ := Z_TooMany
    dsimp only at O_TooMany g_TooMany i_TooMany I_TooMany X_TooMany n_TooMany
    obtain ⟨⟨C_BadTree, O_BadTree, g_BadTree, E_BadTree⟩, A_BadTree, fd_BadTree, i_BadTree, t_BadTree, I_BadTree, B_BadTree, K_BadTree, X_BadTree, n_BadTree⟩ := Z_BadTree
    dsimp only at O_BadTree g_BadTree i_BadTree I_BadTree X_BadTree n_BadTree
    obtain ⟨⟨C_BadLine, O_BadLine, g_BadLine, E_BadLine⟩, A_BadLine, fd_BadLine, i_BadLine, t_BadLine, I_BadLine, B_BadLine, K_BadLine, X_BadLine, n_BadLine⟩ := Z_BadLine
    dsimp only at O_BadLine g_BadLine i_BadLine I_BadLine X_BadLine n_BadLine
    obtain ⟨⟨C_BadWay, O_BadWay, g_BadWay, E_BadWay⟩, A_BadWay, fd_BadWay, i_BadWay, t_BadWay, I_BadWay, B_BadWay, K_BadWay, X_BadWay, n_BadWay⟩ := Z_BadWay
    dsimp only at O_BadWay g_BadWay i_BadWay I_BadWay X_BadWay n_BadWay
    obtain ⟨⟨C_OtherLetters, O_OtherLetters, g_OtherLetters, E_OtherLetters⟩, i_OtherLetters⟩ := Z_OtherLetters
    obtain ⟨⟨C_OtherWidth, O_OtherWidth, g_OtherWidth, E_OtherWidth⟩, i_OtherWidth⟩ := Z_OtherWidth
    obtain ⟨⟨C_BadRule, O_BadRule, g_BadRule, E_BadRule⟩, A_BadRule, fd_BadRule, i_BadRule, t_BadRule, I_BadRule, B_BadRule, K_BadRule, X_BadRule, n_BadRule⟩ := Z_BadRule
    dsimp only at O_BadRule g_BadRule i_BadRule I_BadRule X_BadRule n_BadRule
    obtain ⟨⟨C_Ring, O_Ring, g_Ring, E_Ring⟩, A_Ring, fd_Ring, i_Ring, t_Ring, I_Ring, B_Ring, K_Ring, X_Ring, n_Ring⟩ := Z_Ring
    dsimp only at O_Ring g_Ring i_Ring I_Ring X_Ring n_Ring
    obtain ⟨⟨C_NoRule, O_NoRule, g_NoRule, E_NoRule⟩, A_NoRule, fd_NoRule, i_NoRule, t_NoRule, I_NoRule, B_NoRule, K_NoRule, X_NoRule, n_NoRule⟩ := Z_NoRule
    dsimp only at O_NoRule g_NoRule i_NoRule I_NoRule X_NoRule n_NoRule
    obtain ⟨⟨C_BadPlace, O_BadPlace, g_BadPlace, E_BadPlace⟩, A_BadPlace, fd_BadPlace, i_BadPlace, t_BadPlace, I_BadPlace, B_BadPlace, K_BadPlace, X_BadPlace, n_BadPlace⟩ := Z_BadPlace
    dsimp only at O_BadPlace g_BadPlace i_BadPlace I_BadPlace X_BadPlace n_BadPlace
    obtain ⟨⟨C_BadOver, O_BadOver, g_BadOver, E_BadOver⟩, i_BadOver⟩ := Z_BadOver
    obtain ⟨⟨C_BadSize, O_BadSize, g_BadSize, E_BadSize⟩, A_BadSize, fd_BadSize, i_BadSize, t_BadSize, I_BadSize, B_BadSize, K_BadSize, X_BadSize, n_BadSize⟩ := Z_BadSize
    dsimp only at O_BadSize g_BadSize i_BadSize I_BadSize X_BadSize n_BadSize
    obtain ⟨⟨C_BadOrder, O_BadOrder, g_BadOrder, E_BadOrder⟩, A_BadOrder, fd_BadOrder, i_BadOrder, t_BadOrder, I_BadOrder, B_BadOrder, K_BadOrder, X_BadOrder, n_BadOrder⟩ := Z_BadOrder
    dsimp only at O_BadOrder g_BadOrder i_BadOrder I_BadOrder X_BadOrder n_BadOrder
    obtain ⟨⟨C_NoJoint, O_NoJoint, g_NoJoint, E_NoJoint⟩, A_NoJoint, fd_NoJoint, i_NoJoint, t_NoJoint, I_NoJoint, B_NoJoint, K_NoJoint, X_NoJoint, n_NoJoint⟩ := Z_NoJoint
    dsimp only at O_NoJoint g_NoJoint i_NoJoint I_NoJoint X_NoJoint n_NoJoint
    obtain ⟨⟨C_NoPartial, O_NoPartial, g_NoPartial, E_NoPartial⟩, A_NoPartial, fd_NoPartial, i_NoPartial, t_NoPartial, I_NoPartial, B_NoPartial, K_NoPartial, X_NoPartial, n_NoPartial⟩ := Z_NoPartial
    dsimp only at O_NoPartial g_NoPartial i_NoPartial I_NoPartial X_NoPartial n_NoPartial
    refine ⟨_, (pss_cons (ps_set (i := 3) sc_lall_made.nd rfl (Or.inl rfl) (pe_lst (pa_cons (EK.pe_mkv O_BadLetters i_BadLetters t_BadLetters I_BadLetters (hr.mono (by decide)) B_BadLetters pass0 (by rfl) g_BadLetters (pa_cons (pv 0) pa_nil)) (pa_cons (EK.pe_mkv O_BadWords i_BadWords t_BadWords I_BadWords (hr.mono (by decide)) B_BadWords pass0 (by rfl) g_BadWords (pa_cons (pv 0) pa_nil)) (pa_cons (EK.pe_mkv O_BadText i_BadText t_BadText I_BadText (hr.mono (by decide)) B_BadText pass0 (by rfl) g_BadText (pa_cons (pv 0) pa_nil)) (pa_cons (EK.pe_mkv O_BadWish i_BadWish t_BadWish I_BadWish (hr.mono (by decide)) B_BadWish pass0 (by rfl) g_BadWish (pa_cons (pv 0) pa_nil)) (pa_cons (EK.pe_mkv O_BadWidth i_BadWidth t_BadWidth I_BadWidth (hr.mono (by decide)) B_BadWidth pass0 (by rfl) g_BadWidth (pa_cons (pv 0) pa_nil)) (pa_cons (EK.pe_mkv O_TooMany i_TooMany t_TooMany I_TooMany (hr.mono (by decide)) B_TooMany pass0 (by rfl) g_TooMany (pa_cons (pv 0) (pa_cons (pv 1) (pa_cons (pv 2) pa_nil)))) pa_nil))))))))
      (pss_cons (ps_set (i := 3) sc_lall_made.nd rfl (Or.inl rfl) (pe_op op_cat (pv 3) (pe_lst (pa_cons (EK.pe_mkv O_BadTree i_BadTree t_BadTree I_BadTree (hr.mono (by decide)) B_BadTree pass0 (by rfl) g_BadTree (pa_cons (pv 0) (pa_cons (pv 1) pa_nil))) (pa_cons (EK.pe_mkv O_BadLine i_BadLine t_BadLine I_BadLine (hr.mono (by decide)) B_BadLine pass0 (by rfl) g_BadLine (pa_cons (pv 0) pa_nil)) (pa_cons (EK.pe_mkv O_BadWay i_BadWay t_BadWay I_BadWay (hr.mono (by decide)) B_BadWay pass0 (by rfl) g_BadWay (pa_cons (pv 0) pa_nil)) (pa_cons (EK.pe_mk0 O_OtherLetters i_OtherLetters (by rfl) g_OtherLetters) (pa_cons (EK.pe_mk0 O_OtherWidth i_OtherWidth (by rfl) g_OtherWidth) (pa_cons (EK.pe_mkv O_BadRule i_BadRule t_BadRule I_BadRule (hr.mono (by decide)) B_BadRule pass0 (by rfl) g_BadRule (pa_cons (pv 0) pa_nil)) pa_nil)))))))))
      (pss_cons (ps_set (i := 3) sc_lall_made.nd rfl (Or.inl rfl) (pe_op op_cat (pv 3) (pe_lst (pa_cons (EK.pe_mkv O_Ring i_Ring t_Ring I_Ring (hr.mono (by decide)) B_Ring pass0 (by rfl) g_Ring (pa_cons (pv 0) pa_nil)) (pa_cons (EK.pe_mkv O_NoRule i_NoRule t_NoRule I_NoRule (hr.mono (by decide)) B_NoRule pass0 (by rfl) g_NoRule (pa_cons (pv 0) pa_nil)) (pa_cons (EK.pe_mkv O_BadPlace i_BadPlace t_BadPlace I_BadPlace (hr.mono (by decide)) B_BadPlace pass0 (by rfl) g_BadPlace (pa_cons (pv 0) pa_nil)) (pa_cons (EK.pe_mk0 O_BadOver i_BadOver (by rfl) g_BadOver) (pa_cons (EK.pe_mkv O_BadSize i_BadSize t_BadSize I_BadSize (hr.mono (by decide)) B_BadSize pass0 (by rfl) g_BadSize (pa_cons (pv 0) pa_nil)) (pa_cons (EK.pe_mkv O_BadOrder i_BadOrder t_BadOrder I_BadOrder (hr.mono (by decide)) B_BadOrder pass0 (by rfl) g_BadOrder (pa_cons (pv 0) pa_nil)) (pa_cons (EK.pe_mkv O_NoJoint i_NoJoint t_NoJoint I_NoJoint (hr.mono (by decide)) B_NoJoint pass0 (by rfl) g_NoJoint (pa_cons (pv 0) pa_nil)) pa_nil))))))))))
      (pss_cons (ps_set (i := 3) sc_lall_made.nd rfl (Or.inl rfl) (pe_op op_cat (pv 3) (pe_lst (pa_cons (EK.pe_mkv O_NoPartial i_NoPartial t_NoPartial I_NoPartial (hr.mono (by decide)) B_NoPartial pass0 (by rfl) g_NoPartial (pa_cons (pv 0) pa_nil)) pa_nil))))
      (pss_one (ps_ret (pv 3))))))), ?_⟩
    have ga {B : Hp} {v : Option V} (e : Ex H B) : GI B [some a, some b, some c, v] (tVar 0) (pAV da) := gi_var rfl (ha.ex e)
    have gb {B : Hp} {v : Option V} (e : Ex H B) : GI B [some a, some b, some c, v] (tVar 1) (pAV db) := gi_var rfl (hb.ex e)
    have gc {B : Hp} {v : Option V} (e : Ex H B) : GI B [some a, some b, some c, v] (tVar 2) (pAV dc) := gi_var rfl (hc.ex e)
    refine seq_gi (gi_lst (ps := [C_BadLetters, C_BadWords, C_BadText, C_BadWish, C_BadWidth, C_TooMany].map IsE) (B := H) (σ := [some a, some b, some c, none]) mono_es (gis_cons (gm1 (gis_cons (ga (Ex.refl _)) mono_av gis_nil)) mono_isE (gis_cons (gm1 (gis_cons (ga (Ex.refl _)) mono_av gis_nil)) mono_isE (gis_cons (gm1 (gis_cons (ga (Ex.refl _)) mono_av gis_nil)) mono_isE (gis_cons (gm1 (gis_cons (ga (Ex.refl _)) mono_av gis_nil)) mono_isE (gis_cons (gm1 (gis_cons (ga (Ex.refl _)) mono_av gis_nil)) mono_isE (gis_cons (gm3 (gis_cons (ga (Ex.refl _)) mono_av (gis_cons (gb (Ex.refl _)) mono_av (gis_cons (gc (Ex.refl _)) mono_av gis_nil)))) mono_isE gis_nil)))))) (show 6 ≤ 1000 by decide)) (Ex.refl _) fun r1 H1 e1 h1 => ?_
    refine seq_gi (gi_cat (ps := [C_BadLetters, C_BadWords, C_BadText, C_BadWish, C_BadWidth, C_TooMany].map IsE) (qs := [C_BadTree, C_BadLine, C_BadWay, C_OtherLetters, C_OtherWidth, C_BadRule].map IsE) (B := H1) (σ := [some a, some b, some c, some r1]) mono_es mono_es rfl h1 (gi_lst mono_es (gis_cons (gm2 (gis_cons (ga e1) mono_av (gis_cons (gb e1) mono_av gis_nil))) mono_isE (gis_cons (gm1 (gis_cons (ga e1) mono_av gis_nil)) mono_isE (gis_cons (gm1 (gis_cons (ga e1) mono_av gis_nil)) mono_isE (gis_cons gm0 mono_isE (gis_cons gm0 mono_isE (gis_cons (gm1 (gis_cons (ga e1) mono_av gis_nil)) mono_isE gis_nil)))))) (show 6 ≤ 1000 by decide)) (show 6 + 6 ≤ 1000 by decide)) (Ex.refl _) fun r2 H2 x2 h2 => ?_
    have e2 := e1.trans x2
    refine seq_gi (gi_cat (ps := [C_BadLetters, C_BadWords, C_BadText, C_BadWish, C_BadWidth, C_TooMany, C_BadTree, C_BadLine, C_BadWay, C_OtherLetters, C_OtherWidth, C_BadRule].map IsE) (qs := [C_Ring, C_NoRule, C_BadPlace, C_BadOver, C_BadSize, C_BadOrder, C_NoJoint].map IsE) (B := H2) (σ := [some a, some b, some c, some r2]) mono_es mono_es rfl h2 (gi_lst mono_es (gis_cons (gm1 (gis_cons (ga e2) mono_av gis_nil)) mono_isE (gis_cons (gm1 (gis_cons (ga e2) mono_av gis_nil)) mono_isE (gis_cons (gm1 (gis_cons (ga e2) mono_av gis_nil)) mono_isE (gis_cons gm0 mono_isE (gis_cons (gm1 (gis_cons (ga e2) mono_av gis_nil)) mono_isE (gis_cons (gm1 (gis_cons (ga e2) mono_av gis_nil)) mono_isE (gis_cons (gm1 (gis_cons (ga e2) mono_av gis_nil)) mono_isE gis_nil))))))) (show 7 ≤ 1000 by decide)) (show 12 + 7 ≤ 1000 by decide)) (Ex.refl _) fun r3 H3 x3 h3 => ?_
    have e3 := e2.trans x3
    refine seq_gi (gi_cat (ps := [C_BadLetters, C_BadWords, C_BadText, C_BadWish, C_BadWidth, C_TooMany, C_BadTree, C_BadLine, C_BadWay, C_OtherLetters, C_OtherWidth, C_BadRule, C_Ring, C_NoRule, C_BadPlace, C_BadOver, C_BadSize, C_BadOrder, C_NoJoint].map IsE) (qs := [C_NoPartial].map IsE) (B := H3) (σ := [some a, some b, some c, some r3]) mono_es mono_es rfl h3 (gi_lst mono_es (gis_cons (gm1 (gis_cons (ga e3) mono_av gis_nil)) mono_isE gis_nil) (show 1 ≤ 1000 by decide)) (show 19 + 1 ≤ 1000 by decide)) (Ex.refl _) fun r4 H4 x4 h4 => ?_
    have e4 := e3.trans x4
    exact ⟨_, rfl, q _ _ e4 h4⟩
end
end Law

namespace Law
open PySem PySem.Spec PyProof.Rows L2 Evl EK
/-- small enough to be shown -/
structure OkD (d : PyData) : Prop where
  s : d.showable = true
  l : d.shown.length ≤ 60
  h : d.depth ≤ 4
theorem okd_int {i : Int} (h1 : i.natAbs.log2 < 1920) (h2 : ((toString i : String) : Str).length ≤ 60) : OkD (.int i) := ⟨by simp only [PyData.showable]; exact decide_eq_true h1, by simp only [PyData.shown]; exact h2, by simp only [PyData.depth]; omega⟩
theorem okd_r {r : Int} (h0 : 0 ≤ r) (h1 : r < 99) : OkD (.int ((10 : Int) ^ (9 : Int).toNat + r)) := by
  have all : ∀ i : Fin 99, ((10 : Int) ^ (9 : Int).toNat + (i.val : Int)).natAbs.log2 < 1920 ∧ ((toString ((10 : Int) ^ (9 : Int).toNat + (i.val : Int)) : String) : Str).length ≤ 60 := by decide +kernel
  obtain ⟨n, rfl⟩ : ∃ n : Nat, r = (n : Int) := ⟨r.toNat, (Int.toNat_of_nonneg h0).symm⟩
  have hn : n < 99 := by omega
  exact okd_int (all ⟨n, hn⟩).1 (all ⟨n, hn⟩).2
theorem okd_non : OkD .none := ⟨by simp only [PyData.showable], by simp only [PyData.shown]; decide +kernel, by simp only [PyData.depth]; omega⟩
theorem okd_bl : OkD (.bool true) := ⟨by simp only [PyData.showable], by simp only [PyData.shown]; decide +kernel, by simp only [PyData.depth]; omega⟩
theorem okd_str {z : Str} (h : (reprText z).length ≤ 60) : OkD (.str z) := ⟨by simp only [PyData.showable], by simp only [PyData.shown]; exact h, by simp only [PyData.depth]; omega⟩
theorem okd_t0 : OkD (.tuple []) := ⟨by simp only [PyData.showable, PyData.showableAll], by simp only [PyData.shown, PyData.shownAll]; decide +kernel, by simp only [PyData.depth, PyData.depthAll]; omega⟩
theorem okd_t2 : OkD (.tuple [.int 1, .int 2]) := ⟨by simp only [PyData.showable, PyData.showableAll]; decide +kernel, by simp only [PyData.shown, PyData.shownAll]; decide +kernel, by simp only [PyData.depth, PyData.depthAll]; omega⟩
theorem okd_l1 : OkD (.list [.int 3]) := ⟨by simp only [PyData.showable, PyData.showableAll]; decide +kernel, by simp only [PyData.shown, PyData.shownAll]; decide +kernel, by simp only [PyData.depth, PyData.depthAll]; omega⟩
theorem okd_e : OkD (.dict []) := ⟨by simp only [PyData.showable, PyData.showableKv], by simp only [PyData.shown, PyData.shownKv]; decide +kernel, by simp only [PyData.depth, PyData.depthKv]; omega⟩
def spAny : Sp := fun vs H Q _ => ∃ (p : PenI) (B : Hp) (n : Nat), vs = [.ref p.d] ∧ PenAt p B H n ∧ n < 900000 ∧ ∀ v d B' H', Ex B B' → PenAt p B' H' (n + 2) → AV B' v d → OkD d → Q v H'
section
variable {P : Program} {w : World} {K : PySem.W.Frag} {mg : Str → Option Value} {base : Heap}
theorem ok_any {f : Addr} {fd : FuncData} (F : Fun K "_law_any" "_law_any" s_lany f fd) (T : Tx mg) (c_ldraw : Kn P w K mg base "_law_draw" ["_law_pen_here", "_law_base"] 1 spDraw) (c_lpick : Kn P w K mg base "_law_pick" ["_law_pen_here", "_law_some"] 2 spPickL) :
    FnOk P w K mg base CX0 3 f fd ["_law_pen_here"] spAny := by
  refine F.ok sc_lany (fun vs H Q E h => ?_) (fun cdv A outer s H vs Q E hr h => ?_)
  · obtain ⟨p, B, n, rfl, _⟩ := h
    rfl
  · obtain ⟨p, B, n, rfl, P0, hn, q⟩ := h
    refine ⟨_, (pss_one (ps_ret (pe_call c_lpick.ok (hr.mono (by decide)) (by rfl) c_lpick.g c_lpick.kp c_lpick.b .nil pass0 (pa_cons (pv 0) (pa_cons (pe_lst (pa_cons pe_non (pa_cons pe_bl (pa_cons pe_int (pa_cons pe_int (pa_cons (pe_un un_neg pe_int) (pa_cons (pe_op op_pow pe_int pe_int) (pa_cons pe_str (pa_cons pe_str (pa_cons (pe_tup pa_nil) (pa_cons (pe_tup (pa_cons pe_int (pa_cons pe_int pa_nil))) (pa_cons (pe_lst (pa_cons pe_int pa_nil)) (pa_cons pe_dnewK (pa_cons (pe_op op_add (pe_op op_pow pe_int pe_int) (pe_call c_ldraw.ok (hr.mono (by decide)) (by rfl) c_ldraw.g c_ldraw.kp c_ldraw.b .nil pass0 (pa_cons (pv 0) (pa_cons pe_int pa_nil)))) pa_nil)))))))))))))) pa_nil))))), ?_⟩
    refine ⟨_, rfl, ?_⟩
    refine ⟨_, rfl, ?_⟩
    refine ⟨_, _, rfl, rfl, ⟨by decide, by decide, by decide⟩, ?_⟩
    refine ⟨(show 0 ≤ sizeLine by decide), fun a1 h1 => ?_⟩
    obtain ⟨P1, x1⟩ := P0.made (o := .tup []) h1
    have g1 : (upd B a1 (.tup [])) a1 = some (.tup []) := upd_same
    generalize upd B a1 (.tup []) = B1 at P1 x1 g1
    refine ⟨(show 2 ≤ sizeLine by decide), fun a2 h2 => ?_⟩
    obtain ⟨P2, x2⟩ := P1.made (o := .tup [.int 1, .int 2]) h2
    have g2 : (upd B1 a2 (.tup [.int 1, .int 2])) a2 = some (.tup [.int 1, .int 2]) := upd_same
    generalize upd B1 a2 (.tup [.int 1, .int 2]) = B2 at P2 x2 g2
    refine ⟨(show 1 ≤ sizeLine by decide), fun a3 h3 => ?_⟩
    obtain ⟨P3, x3⟩ := P2.made (o := .lst [.int 3]) h3
    have g3 : (upd B2 a3 (.lst [.int 3])) a3 = some (.lst [.int 3]) := upd_same
    generalize upd B2 a3 (.lst [.int 3]) = B3 at P3 x3 g3
    intro a4 h4
    obtain ⟨P4, x4⟩ := P3.made (o := .dK []) h4
    have g4 : (upd B3 a4 (.dK [])) a4 = some (.dK []) := upd_same
    generalize upd B3 a4 (.dK []) = B4 at P4 x4 g4
    refine ⟨_, _, rfl, rfl, ⟨by decide, by decide, by decide⟩, ?_⟩
    refine ⟨_, rfl, p, B4, n, 99, rfl, P4, by omega, by decide, by decide, fun H5 r P5 r0 r1 => ?_⟩
    refine ⟨_, _, rfl, rfl, ?_⟩
    refine ⟨(show 13 ≤ sizeLine by decide), fun a6 h6 => ?_⟩
    obtain ⟨P6, x6⟩ := P5.made (o := .lst [.non, .bl true, .int 0, .int 5, .int (-1), .int ((10 : Int) ^ (30 : Int).toNat), .str "", .str "f", .ref a1, .ref a2, .ref a3, .ref a4, .int ((10 : Int) ^ (9 : Int).toNat + r)]) h6
    refine ⟨p, _, a6, n + 1, _, rfl, P6, by omega, upd_same, (show 0 < 13 by decide), (show 13 < 1000 by decide), fun H7 v P7 hv => ?_⟩
    have x04 : Ex B4 (upd B4 a6 _) := x6
    have ee := ((x1.trans x2).trans x3).trans (x4.trans x6)
    have k1 := x6 _ _ (x4 _ _ (x3 _ _ (x2 _ _ g1)))
    have k2 := x6 _ _ (x4 _ _ (x3 _ _ g2))
    have k3 := x6 _ _ (x4 _ _ g3)
    have k4 := x6 _ _ g4
    simp only [List.mem_cons, List.not_mem_nil, or_false] at hv
    rcases hv with rfl | rfl | rfl | rfl | rfl | rfl | rfl | rfl | rfl | rfl | rfl | rfl | rfl
    · exact q _ _ _ _ ee P7 (.flat .non) okd_non
    · exact q _ _ _ _ ee P7 (.flat (.bl true)) okd_bl
    · exact q _ _ _ _ ee P7 (.flat (.int _)) (okd_int (by decide +kernel) (by decide +kernel))
    · exact q _ _ _ _ ee P7 (.flat (.int _)) (okd_int (by decide +kernel) (by decide +kernel))
    · exact q _ _ _ _ ee P7 (.flat (.int _)) (okd_int (by decide +kernel) (by decide +kernel))
    · exact q _ _ _ _ ee P7 (.flat (.int _)) (okd_int (by decide +kernel) (by decide +kernel))
    · exact q _ _ _ _ ee P7 (.flat (.str _)) (okd_str (by decide +kernel))
    · exact q _ _ _ _ ee P7 (.flat (.str _)) (okd_str (by decide +kernel))
    · exact q _ (.tuple []) _ _ ee P7 (.tup (ns := []) k1 (by decide)) okd_t0
    · exact q _ (.tuple [.int 1, .int 2]) _ _ ee P7 (.tup (ns := [1, 2]) k2 (by decide)) okd_t2
    · exact q _ (.list [.int 3]) _ _ ee P7 (.lst k3) okd_l1
    · exact q _ (.dict []) _ _ ee P7 (.emp k4) okd_e
    · exact q _ _ _ _ ee P7 (.flat (.int _)) (okd_r r0 r1)
end
end Law

namespace Law
open PySem PySem.Spec PyProof.Rows L2 Evl EK
/-- what isinstance says of the class C for the classes of Ds -/
structure KL (K : PySem.W.Frag) (C : Addr) (Ds : List Addr) (bs : List Bool) : Prop where
  l : bs.length = Ds.length
  k : ∀ (j : Nat) (D : Addr) (b : Bool), Ds[j]? = some D → bs[j]? = some b → PySem.W.kitOne K (.ref C) (.ref D) = some b
def pB (b : Bool) : Hp → V → Prop := fun _ v => v = .bl b
theorem mono_b {b : Bool} : Mono (pB b) := fun _ h => h
def pbs (bs : List Bool) : List (Hp → V → Prop) := bs.map pB
theorem mono_bs {bs : List Bool} : Monos (pbs bs) := fun p hp => by
  obtain ⟨d, _, rfl⟩ := List.mem_map.mp hp
  exact mono_b
theorem A2.bools {H : Hp} : ∀ {bs : List Bool} {xs : List V}, A2 H (pbs bs) xs → xs = bs.map V.bl
  | [], _, h => by
    cases h
    rfl
  | b :: r, _, h => by
    cases h with
    | cons h1 h2 =>
      rw [A2.bools h2, show _ = V.bl b from h1]
      rfl
theorem gi_isX {K : PySem.W.Frag} {B : Hp} {σ : L2.St} {i : Nat} {v : V} {C D : Addr} {b : Bool} (EC : ExcC K C) (hi : σ[i]? = some (some v)) (hv : IsE C B v) (hk : PySem.W.kitOne K (.ref C) (.ref D) = some b) :
    GI B σ (tCB (rIsX K) (tCons (tVar i) (tCons (tC (.ref D)) tNil))) (pB b) := by
  intro H R e q
  obtain ⟨a, d, rfl, ha, hd⟩ := hv
  exact ⟨.ref a, hi, a, C, d, .ref D, .ref D, b, rfl, EC, e _ _ ha, fun dd z => let ⟨fs, y⟩ := hd dd z; ⟨fs, e _ _ y⟩, .own D, hk, q _ _ (Ex.refl _) rfl⟩
def idxTo (bs : List Bool) (n : Nat) : List Int := ((List.range n).filter fun k => bs.getD k false).map fun k : Nat => (k : Int)
theorem idx_succ {bs : List Bool} {n : Nat} : idxTo bs (n + 1) = if bs.getD n false = true then idxTo bs n ++ [(n : Int)] else idxTo bs n := by
  unfold idxTo
  rw [List.range_succ, List.filter_append, List.map_append]
  by_cases h : bs.getD n false = true
  · rw [if_pos h, List.filter_cons_of_pos (p := fun k => bs.getD k false) h]
    rfl
  · rw [if_neg h, List.filter_cons_of_neg (p := fun k => bs.getD k false) h]
    exact List.append_nil _
theorem idx_len (bs : List Bool) (n : Nat) : (idxTo bs n).length ≤ n := by
  unfold idxTo
  rw [List.length_map]
  exact Nat.le_trans (List.length_filter_le _ _) (by rw [List.length_range]; exact Nat.le_refl _)
def spSorts (K : PySem.W.Frag) (Ds : List Addr) : Sp := fun vs H Q _ => ∃ v C bs, vs = [v] ∧ IsE C H v ∧ ExcC K C ∧ KL K C Ds bs ∧ ∀ l H', Ex H H' → H l = none → H' l = some (.lst ((idxTo bs 9).map V.int)) → Q (.ref l) H'
section
variable {P : Program} {w : World} {K : PySem.W.Frag} {mg : Str → Option Value} {base : Heap}
theorem ok_sorts {f C_BadLetters C_BadWords C_BadText C_BadPlace C_Ring C_NoRule C_OtherLetters C_OtherWidth C_TooMany : Addr} {fd : FuncData} (F : Fun K "_law_sorts" "_law_sorts" s_lsorts f fd) (T : Tx mg) (g_BadLetters : mg "BadLetters" = some (.ref C_BadLetters))
    (g_BadWords : mg "BadWords" = some (.ref C_BadWords)) (g_BadText : mg "BadText" = some (.ref C_BadText)) (g_BadPlace : mg "BadPlace" = some (.ref C_BadPlace)) (g_Ring : mg "Ring" = some (.ref C_Ring)) (g_NoRule : mg "NoRule" = some (.ref C_NoRule))
    (g_OtherLetters : mg "OtherLetters" = some (.ref C_OtherLetters)) (g_OtherWidth : mg "OtherWidth" = some (.ref C_OtherWidth)) (g_TooMany : mg "TooMany" = some (.ref C_TooMany)) :
    FnOk P w K mg base CX0 1 f fd ["_law_error"] (spSorts K [C_BadLetters, C_BadWords, C_BadText, C_BadPlace, C_Ring, C_NoRule, C_OtherLetters, C_OtherWidth, C_TooMany]) := by
  refine F.ok sc_lsorts (fun vs H Q E h => ?_) (fun cdv A outer s H vs Q E hr h => ?_)
  · obtain ⟨v, C, bs, rfl, _⟩ := h
    rfl
  · obtain ⟨v, C, bs, rfl, hv, EC, KK, q⟩ := h
    have hl := KK.l
    match bs, hl with
    | [b0, b1, b2, b3, b4, b5, b6, b7, b8], _ =>
      refine ⟨_, (pss_cons (ps_set (i := 1) sc_lsorts.nd rfl (Or.inr rfl) (pe_lst (pa_cons (pe_callB (show CallR _ _ (EK.rIsX K) from EK.call_isX) (by rfl) T.isinstance PyProof.Rows.boot_isinstance (pa_cons (pv 0) (pa_cons (pe_glob (v := .ref C_BadLetters) rfl g_BadLetters rfl) pa_nil))) (pa_cons (pe_callB (show CallR _ _ (EK.rIsX K) from EK.call_isX) (by rfl) T.isinstance PyProof.Rows.boot_isinstance (pa_cons (pv 0) (pa_cons (pe_glob (v := .ref C_BadWords) rfl g_BadWords rfl) pa_nil))) (pa_cons (pe_callB (show CallR _ _ (EK.rIsX K) from EK.call_isX) (by rfl) T.isinstance PyProof.Rows.boot_isinstance (pa_cons (pv 0) (pa_cons (pe_glob (v := .ref C_BadText) rfl g_BadText rfl) pa_nil))) pa_nil)))))
      (pss_cons (ps_set (i := 1) sc_lsorts.nd rfl (Or.inr rfl) (pe_op op_cat (pv 1) (pe_lst (pa_cons (pe_callB (show CallR _ _ (EK.rIsX K) from EK.call_isX) (by rfl) T.isinstance PyProof.Rows.boot_isinstance (pa_cons (pv 0) (pa_cons (pe_glob (v := .ref C_BadPlace) rfl g_BadPlace rfl) pa_nil))) (pa_cons (pe_callB (show CallR _ _ (EK.rIsX K) from EK.call_isX) (by rfl) T.isinstance PyProof.Rows.boot_isinstance (pa_cons (pv 0) (pa_cons (pe_glob (v := .ref C_Ring) rfl g_Ring rfl) pa_nil))) (pa_cons (pe_callB (show CallR _ _ (EK.rIsX K) from EK.call_isX) (by rfl) T.isinstance PyProof.Rows.boot_isinstance (pa_cons (pv 0) (pa_cons (pe_glob (v := .ref C_NoRule) rfl g_NoRule rfl) pa_nil))) pa_nil))))))
      (pss_cons (ps_set (i := 1) sc_lsorts.nd rfl (Or.inr rfl) (pe_op op_cat (pv 1) (pe_lst (pa_cons (pe_callB (show CallR _ _ (EK.rIsX K) from EK.call_isX) (by rfl) T.isinstance PyProof.Rows.boot_isinstance (pa_cons (pv 0) (pa_cons (pe_glob (v := .ref C_OtherLetters) rfl g_OtherLetters rfl) pa_nil))) (pa_cons (pe_callB (show CallR _ _ (EK.rIsX K) from EK.call_isX) (by rfl) T.isinstance PyProof.Rows.boot_isinstance (pa_cons (pv 0) (pa_cons (pe_glob (v := .ref C_OtherWidth) rfl g_OtherWidth rfl) pa_nil))) (pa_cons (pe_callB (show CallR _ _ (EK.rIsX K) from EK.call_isX) (by rfl) T.isinstance PyProof.Rows.boot_isinstance (pa_cons (pv 0) (pa_cons (pe_glob (v := .ref C_TooMany) rfl g_TooMany rfl) pa_nil))) pa_nil))))))
      (pss_one (ps_ret (pe_lc (own := [("_law_k", 2)]) (g := gName 2) rfl sc_lsorts.nd (pi_range1 (by rfl) T.range (pa_cons (pe_callB call_len_seq (by rfl) T.len PySem.boot_len (pa_cons (pv 1) pa_nil)) pa_nil)) (blkOk_by (N := N_lsorts) (sc := defScope s_lsorts) (by decide +kernel)) (fun _ _ _ _ _ => (pg_name (i := 2) sc_lsorts.nd rfl (Or.inl rfl))) (fun _ _ _ _ _ => (pts_one (pt_val (pe_ix (show IxR _ (rIxL K) from ix_list) (pv 1) (pv 2) (fun _ _ => rfl))))) (fun _ _ _ _ _ => (pv 2)))))))), ?_⟩
      have gi {B : Hp} {u : Option V} {j : Nat} {D : Addr} {b : Bool} (e : Ex H B) (h1 : [C_BadLetters, C_BadWords, C_BadText, C_BadPlace, C_Ring, C_NoRule, C_OtherLetters, C_OtherWidth, C_TooMany][j]? = some D) (h2 : [b0, b1, b2, b3, b4, b5, b6, b7, b8][j]? = some b) :
          GI B [some v, u, none] (tCB (rIsX K) (tCons (tVar 0) (tCons (tC (.ref D)) tNil))) (pB b) := gi_isX EC rfl (mono_isE e hv) (KK.k j D b h1 h2)
      refine seq_gi (gi_lst (ps := pbs [b0, b1, b2]) (B := H) (σ := [some v, none, none]) mono_bs (gis_cons (gi (j := 0) (Ex.refl _) rfl rfl) mono_b (gis_cons (gi (j := 1) (Ex.refl _) rfl rfl) mono_b (gis_cons (gi (j := 2) (Ex.refl _) rfl rfl) mono_b gis_nil))) (show 3 ≤ 1000 by decide)) (Ex.refl _) fun r1 H1 e1 h1 => ?_
      refine seq_gi (gi_cat (ps := pbs [b0, b1, b2]) (qs := pbs [b3, b4, b5]) (B := H1) (σ := [some v, some r1, none]) mono_bs mono_bs rfl h1 (gi_lst mono_bs (gis_cons (gi (j := 3) e1 rfl rfl) mono_b (gis_cons (gi (j := 4) e1 rfl rfl) mono_b (gis_cons (gi (j := 5) e1 rfl rfl) mono_b gis_nil))) (show 3 ≤ 1000 by decide)) (show 3 + 3 ≤ 1000 by decide)) (Ex.refl _) fun r2 H2 x2 h2 => ?_
      have e2 := e1.trans x2
      refine seq_gi (gi_cat (ps := pbs [b0, b1, b2, b3, b4, b5]) (qs := pbs [b6, b7, b8]) (B := H2) (σ := [some v, some r2, none]) mono_bs mono_bs rfl h2 (gi_lst mono_bs (gis_cons (gi (j := 6) e2 rfl rfl) mono_b (gis_cons (gi (j := 7) e2 rfl rfl) mono_b (gis_cons (gi (j := 8) e2 rfl rfl) mono_b gis_nil))) (show 3 ≤ 1000 by decide)) (show 6 + 3 ≤ 1000 by decide)) (Ex.refl _) fun r3 H3 x3 h3 => ?_
      have e3 := e2.trans x3
      obtain ⟨t, xs, rfl, ht, hx⟩ := h3
      obtain rfl : xs = [b0, b1, b2, b3, b4, b5, b6, b7, b8].map V.bl := A2.bools hx
      generalize hbs : [b0, b1, b2, b3, b4, b5, b6, b7, b8] = bs at *
      have hb9 : bs.length = 9 := by rw [← hbs]; rfl
      refine ⟨_, rfl, t, _, rfl, .inl (sq_of ht), _, rfl, ?_⟩
      rw [List.length_map, hb9]
      refine ⟨by decide, by decide, fun D hD => ?_⟩
      refine lc_range (lo := 0) (n := 9) (fun i H' => Ex H3 H' ∧ H3 D = none ∧ H' D = some (.lst ((idxTo bs i).map V.int))) ⟨Ex.new hD, hD, upd_same⟩ (fun i H' hi p => ?_) (fun H' p => ?_)
      · obtain ⟨e, h0, hz⟩ := p
        refine ⟨rfl, ?_⟩
        have hb : (bs.map V.bl)[i]? = some (V.bl (bs.getD i false)) := by
          rw [List.getElem?_map, List.getD_eq_getElem?_getD, List.getElem?_eq_getElem (by omega)]
          rfl
        have hat : atI (bs.map V.bl) (0 + (i : Int)) = some (V.bl (bs.getD i false)) := by
          rw [Int.zero_add]
          exact atI_nat hb
        refine ⟨_, rfl, _, rfl, t, _, _, _, rfl, rfl, sq_of (e _ _ ht), hat, _, rfl, ?_⟩
        rw [idx_succ]
        refine ite2 (fun hh => ?_) (fun hh => ?_)
        · rw [if_pos hh]
          refine ⟨_, rfl, _, hz, ?_, e.mut h0, h0, ?_⟩
          · rw [List.length_map]
            exact Nat.lt_of_le_of_lt (idx_len _ _) (Nat.lt_trans hi (by decide))
          · rw [upd_same, List.map_append, Int.zero_add]
            rfl
        · rw [if_neg hh]
          exact ⟨e, h0, hz⟩
      · obtain ⟨e, h0, hz⟩ := p
        exact q D H' (e3.trans e) (fresh_back e3 h0) hz
end
end Law

namespace TR
open PySem PySem.Spec L2 Evl
def rLenQ (K : PySem.W.Frag) : List V → Hp → VK → Prop := fun xs H Q => ∃ p ys, xs = [.ref p] ∧ (SqL K H p ys ∨ SqT K H p ys) ∧ Q (.int ys.length) H
theorem room70 {k : Nat} {A : Around} (r : Room k A) : A.units + 70 < cLine := by
  have := r.un
  omega
end TR
namespace Law
open PySem PySem.Spec PyProof.Rows L2 Evl EK
def one (j : Nat) : List Bool := (List.range 9).map fun k => decide (k = j)
def JS : List Nat := [0, 1, 2, 9, 9, 8, 9, 9, 9, 6, 7, 9, 4, 5, 3, 9, 9, 9, 9, 9]
def il (j : Nat) : List Int := if j < 9 then [(j : Int)] else []
theorem one_il {j : Nat} (h : j ≤ 9) : idxTo (one j) 9 = il j := by
  have all : ∀ i : Fin 10, idxTo (one i.val) 9 = il i.val := by decide +kernel
  exact all ⟨j, by omega⟩
theorem JS_le : ∀ j ∈ JS, j ≤ 9 := by decide
/-- what all classes say -/
inductive CS (K : PySem.W.Frag) (C0 : Addr) (Ds : List Addr) : List Addr → List Nat → Prop
  | nil : CS K C0 Ds [] []
  | cons {C : Addr} {j : Nat} {Cs : List Addr} {js : List Nat} (e : ExcC K C) (k : KL K C Ds (one j)) (s : PySem.W.kitOne K (.ref C) (.ref C0) = some true) (v : PySem.W.kitOne K (.ref C) (.type "ValueError") = some true) (r : CS K C0 Ds Cs js) : CS K C0 Ds (C :: Cs) (j :: js)
theorem CS.get {K : PySem.W.Frag} {C0 : Addr} {Ds : List Addr} {Cs : List Addr} {js : List Nat} (h : CS K C0 Ds Cs js) : ∀ {i : Nat} {C : Addr}, Cs[i]? = some C → ∃ j, js[i]? = some j ∧ ExcC K C ∧ KL K C Ds (one j) ∧ PySem.W.kitOne K (.ref C) (.ref C0) = some true ∧ PySem.W.kitOne K (.ref C) (.type "ValueError") = some true := by
  induction h with
  | nil =>
    intro i C h
    simp at h
  | @cons C j Cs js e k s v r ih =>
    intro i D h
    cases i with
    | zero =>
      simp at h
      subst h
      exact ⟨j, rfl, e, k, s, v⟩
    | succ i =>
      simp at h
      obtain ⟨j', z, y⟩ := ih h
      exact ⟨j', by simpa using z, y⟩
theorem CS.len {K : PySem.W.Frag} {C0 : Addr} {Ds : List Addr} {Cs : List Addr} {js : List Nat} (h : CS K C0 Ds Cs js) : Cs.length = js.length := by
  induction h with
  | nil => rfl
  | cons _ _ _ _ _ ih => simp [ih]
theorem A2.des {K : PySem.W.Frag} {H : Hp} : ∀ {ds : List PyData} {xs : List V}, A2 H (pds ds) xs → DX.DEs K H xs ds
  | [], _, h => by
    cases h
    exact .nil
  | d :: r, _, h => by
    cases h with
    | cons h1 h2 => exact .cons (AV.de h1) (A2.des h2)
theorem shown_all {ds : List PyData} (h : ∀ d ∈ ds, OkD d) : PyData.showableAll ds = true ∧ ((PyData.shownAll ds).map (·.length)).sum ≤ 60 * ds.length ∧ (PyData.shownAll ds).length = ds.length ∧ PyData.depthAll ds ≤ 4 := by
  induction ds with
  | nil => simp [PyData.showableAll, PyData.shownAll, PyData.depthAll]
  | cons d r ih =>
    obtain ⟨i1, i2, i3, i4⟩ := ih fun x hx => h x (List.mem_cons_of_mem _ hx)
    have k := h d List.mem_cons_self
    refine ⟨by simp only [PyData.showableAll, k.s, i1, Bool.and_true], ?_, by simp only [PyData.shownAll, List.length_cons, i3], by simp only [PyData.depthAll]; exact Nat.max_le.mpr ⟨k.h, i4⟩⟩
    simp only [PyData.shownAll, List.map_cons, List.sum_cons, List.length_cons]
    have := k.l
    omega
theorem repr_ll {K : PySem.W.Frag} {H : Hp} {v : V} {ds : List PyData} {Q : VK} (h : LL (pds ds) H v) (ok : ∀ d ∈ ds, OkD d) (hl : ds.length ≤ 100) (q : Q (.str (PyData.list ds).shown) H) : DX.RX K [v] H Q := by
  obtain ⟨a, xs, rfl, ha, hx⟩ := h
  obtain ⟨k1, k2, k3, k4⟩ := shown_all ok
  refine ⟨⟨a, .list ds, rfl, .lst (sq_of ha) hx.des, by simp only [PyData.showable]; exact k1, by simp only [PyData.depth]; omega, ?_, q⟩⟩
  simp only [PyData.shown]
  have := listText_len_le (PyData.shownAll ds)
  rw [k3] at this
  exact Nat.le_trans (show _ ≤ 100000 by omega) (by decide)
theorem due_ok {a b c : PyData} (ha : OkD a) (hb : OkD b) (hc : OkD c) : ∀ d ∈ due a b c, OkD d := by
  intro d hd
  unfold due at hd
  simp only [List.mem_cons, List.not_mem_nil, or_false] at hd
  rcases hd with rfl | rfl | rfl | rfl | rfl | rfl | rfl | rfl | rfl | rfl | rfl | rfl | rfl | rfl | rfl | rfl | rfl | rfl | rfl | rfl <;> assumption
/-- the lists of what the errors are -/
def Ss (H : Hp) (us : List V) (js : List Nat) : Prop := us.length = js.length ∧ ∀ (i j : Nat) (u : V), us[i]? = some u → js[i]? = some j → ∃ l, u = .ref l ∧ H l = some (.lst ((il j).map V.int))
theorem Ss.ex {H H' : Hp} {us : List V} {js : List Nat} (h : Ss H us js) (e : Ex H H') : Ss H' us js := ⟨h.1, fun i j u h1 h2 => let ⟨l, z, y⟩ := h.2 i j u h1 h2; ⟨l, z, e _ _ y⟩⟩
def hd (js : List Nat) : List Int := (js.filter fun j => decide (j < 9)).map fun j : Nat => (j : Int)
theorem hd_take {js : List Nat} {i j : Nat} (h : js[i]? = some j) : hd (js.take (i + 1)) = if j < 9 then hd (js.take i) ++ [(j : Int)] else hd (js.take i) := by
  unfold hd
  rw [List.take_add_one, h, List.filter_append, List.map_append]
  by_cases q : j < 9
  · rw [if_pos q]
    simp [q]
  · rw [if_neg q]
    simp [q]
theorem sorted_hd {ns : List Int} (p : ns.Perm (hd JS)) (s : ns.Pairwise (· ≤ ·)) : ns = (List.range 9).map fun k : Nat => (k : Int) := by
  have e : hd JS = [0, 1, 2, 8, 6, 7, 4, 5, 3] := by decide
  have t : ((List.range 9).map fun k : Nat => (k : Int)).Pairwise (· ≤ ·) := by decide
  have p2 : (hd JS).Perm ((List.range 9).map fun k : Nat => (k : Int)) := by
    rw [e]
    decide
  exact List.Perm.eq_of_pairwise (fun a b _ _ h1 h2 => Int.le_antisymm h1 h2) s t (p.trans p2)
def spLaw (K : PySem.W.Frag) : Sp := fun vs H Q _ => ∃ (a : Addr) (ns : List Int), vs = [.ref a] ∧ SqL K H a (ns.map V.int) ∧ ns.length ≤ 63 ∧ ∀ H', Q (.bl true) H'
section
variable {P : Program} {w : World} {K : PySem.W.Frag} {mg : Str → Option Value} {base : Heap}
theorem ok_law {f C_SkipsError : Addr} {fd : FuncData} {CL Ds : List Addr} (F : Fun K "law" "law" s_law f fd) (T : Tx mg) (g_repr : mg "repr" = none) (g_SkipsError : mg "SkipsError" = some (.ref C_SkipsError)) (CC : CS K C_SkipsError Ds CL JS) (c_lpen : Kn P w K mg base "_law_pen" ["_law_script"] 1 (spPen K)) (c_lany : Kn P w K mg base "_law_any" ["_law_pen_here"] 3 spAny)
    (c_lby_position : Kn P w K mg base "_law_by_position" ["_law_a", "_law_b", "_law_c"] 5 spBy) (c_lby_name : Kn P w K mg base "_law_by_name" ["_law_a", "_law_b", "_law_c"] 5 spBy) (c_lall_made : Kn P w K mg base "_law_all_made" ["_law_a", "_law_b", "_law_c"] 5 (spMade CL)) (c_lsorts : Kn P w K mg base "_law_sorts" ["_law_error"] 1 (spSorts K Ds)) :
    GD.Gd P w K mg base 7 f fd ["_law_script"] (spLaw K) := by
  refine GD.okG F sc_law (fun vs H Q E h => ?_) (fun cdv A outer s H vs Q E hr hg h => ?_)
  · obtain ⟨a, ns, rfl, _⟩ := h
    rfl
  · obtain ⟨a, ns, rfl, hS, hl, q⟩ := h
    refine ⟨_, (pss_cons (ps_set (i := 1) sc_law.nd rfl (Or.inl rfl) (pe_call c_lpen.ok (hr.mono (by decide)) (by rfl) c_lpen.g c_lpen.kp c_lpen.b .nil pass0 (pa_cons (pv 0) pa_nil)))
      (pss_cons (ps_par3 (i := 2) (j := 3) (l := 4) (by rfl) sc_law.nd rfl rfl rfl (by decide) (by decide) (by decide) rfl rfl rfl (pa_cons (pe_call c_lany.ok (hr.mono (by decide)) (by rfl) c_lany.g c_lany.kp c_lany.b .nil pass0 (pa_cons (pv 1) pa_nil)) (pa_cons (pe_call c_lany.ok (hr.mono (by decide)) (by rfl) c_lany.g c_lany.kp c_lany.b .nil pass0 (pa_cons (pv 1) pa_nil)) (pa_cons (pe_call c_lany.ok (hr.mono (by decide)) (by rfl) c_lany.g c_lany.kp c_lany.b .nil pass0 (pa_cons (pv 1) pa_nil)) pa_nil))) (by rfl))
      (pss_cons (ps_set (i := 5) sc_law.nd rfl (Or.inl rfl) (pe_lst (pa_cons (pv 2) (pa_cons (pv 2) (pa_cons (pv 2) (pa_cons (pv 2) (pa_cons (pv 2) (pa_cons (pv 2) (pa_cons (pv 3) (pa_cons (pv 4) (pa_cons (pv 2) (pa_cons (pv 3) (pa_cons (pv 2) (pa_cons (pv 2) (pa_cons (pv 2) (pa_cons (pv 2) pa_nil))))))))))))))))
      (pss_cons (ps_set (i := 5) sc_law.nd rfl (Or.inl rfl) (pe_op op_cat (pv 5) (pe_lst (pa_cons (pv 2) (pa_cons (pv 2) (pa_cons (pv 2) (pa_cons (pv 2) (pa_cons (pv 2) (pa_cons (pv 2) pa_nil)))))))))
      (pss_cons (ps_if (PW.pt (pw_or (pt_cmpR op_ne (pe_callB (DX.call_reprX hg (TR.room70 hr)) (by rfl) g_repr boot_repr (pa_cons (pe_call c_lby_position.ok (hr.mono (by decide)) (by rfl) c_lby_position.g c_lby_position.kp c_lby_position.b .nil pass0 (pa_cons (pv 2) (pa_cons (pv 3) (pa_cons (pv 4) pa_nil)))) pa_nil)) (pe_callB (DX.call_reprX hg (TR.room70 hr)) (by rfl) g_repr boot_repr (pa_cons (pv 5) pa_nil)) (nomark _)) (pw_or1 (pt_cmpR op_ne (pe_callB (DX.call_reprX hg (TR.room70 hr)) (by rfl) g_repr boot_repr (pa_cons (pe_call c_lby_name.ok (hr.mono (by decide)) (by rfl) c_lby_name.g c_lby_name.kp c_lby_name.b .nil pass0 (pa_cons (pv 2) (pa_cons (pv 3) (pa_cons (pv 4) pa_nil)))) pa_nil)) (pe_callB (DX.call_reprX hg (TR.room70 hr)) (by rfl) g_repr boot_repr (pa_cons (pv 5) pa_nil)) (nomark _))))) (pss_one (ps_ret pe_bl)) pss_nil)
      (pss_cons (ps_set (i := 6) sc_law.nd rfl (Or.inl rfl) (pe_call c_lall_made.ok (hr.mono (by decide)) (by rfl) c_lall_made.g c_lall_made.kp c_lall_made.b .nil pass0 (pa_cons (pv 2) (pa_cons (pv 3) (pa_cons (pv 4) pa_nil)))))
      (pss_cons (ps_if (pt_cmpR (op_neD hr.units) (pe_lc (own := [("_law_error", 7)]) (g := gName 7) rfl sc_law.nd (pi_list (pv 6)) (blkOk_by (N := N_law) (sc := defScope s_law) (by decide +kernel)) (fun _ _ _ _ _ => (pg_name (i := 7) sc_law.nd rfl (Or.inl rfl))) (fun _ _ _ _ _ => (pts_one (PW.pt (pw_or (pt_not (pt_val (pe_callB (show CallR _ _ (EK.rIsX K) from EK.call_isX) (by rfl) T.isinstance PyProof.Rows.boot_isinstance (pa_cons (pv 7) (pa_cons (pe_glob (v := .ref C_SkipsError) rfl g_SkipsError rfl) pa_nil))))) (pw_or1 (pt_not (pt_val (pe_callB (show CallR _ _ (EK.rIsX K) from EK.call_isX) (by rfl) T.isinstance PyProof.Rows.boot_isinstance (pa_cons (pv 7) (pa_cons (pe_bltn (v := .ty "ValueError") (by rfl) T.ValueError PyProof.Rows.Boot.«ValueError» rfl) pa_nil)))))))))) (fun _ _ _ _ _ => (pv 7))) (pe_lst pa_nil) (nomark _)) (pss_one (ps_ret pe_bl)) pss_nil)
      (pss_cons (ps_setLc (i := 8) (own := [("_law_error", 7)]) (g := gName 7) (tt := tYes) rfl sc_law.nd rfl rfl (sw_true rfl rfl rfl (by decide +kernel)) (pi_list (pv 6)) (blkOk_by (N := N_law) (sc := defScope s_law) (by decide +kernel)) (fun _ _ _ _ _ => (pg_name (i := 7) sc_law.nd rfl (Or.inl rfl))) (fun _ _ _ _ _ => pts_nil) (fun _ _ _ _ _ => (pe_call c_lsorts.ok (hr.mono (by decide)) (by rfl) c_lsorts.g c_lsorts.kp c_lsorts.b .nil pass0 (pa_cons (pv 7) pa_nil))))
      (pss_cons (ps_if (pt_cmpR (op_neD hr.units) (pe_lc (own := [("_law_part", 9)]) (g := gName 9) rfl sc_law.nd (pi_list (pv 8)) (blkOk_by (N := N_law) (sc := defScope s_law) (by decide +kernel)) (fun _ _ _ _ _ => (pg_name (i := 9) sc_law.nd rfl (Or.inl rfl))) (fun _ _ _ _ _ => (pts_one (pt_cmpR op_gt (pe_callB (show CallR _ _ (TR.rLenQ K) from call_len_seq) (by rfl) T.len PySem.boot_len (pa_cons (pv 9) pa_nil)) pe_int (nomark _)))) (fun _ _ _ _ _ => (pv 9))) (pe_lst pa_nil) (nomark _)) (pss_one (ps_ret pe_bl)) pss_nil)
      (pss_cons (ps_if (pt_cmpR (op_neD hr.units) (pe_callB cr_sortedI (by rfl) T.sorted PyProof.Rows.boot_sorted (pa_cons (pe_lc (own := [("_law_part", 9)]) (g := gName 9) rfl sc_law.nd (pi_list (pv 8)) (blkOk_by (N := N_law) (sc := defScope s_law) (by decide +kernel)) (fun _ _ _ _ _ => (pg_name (i := 9) sc_law.nd rfl (Or.inl rfl))) (fun _ _ _ _ _ => (pts_one (pt_cmpR (show OpR _ _ (rNeD K) from op_neD hr.units) (pv 9) (pe_lst pa_nil) (nomark _)))) (fun _ _ _ _ _ => (pe_callTy call_int1 (by rfl) T.int PyProof.Rows.boot_int (pa_cons (pe_ix (show IxR _ (rIxL K) from ix_list) (pv 9) pe_int (fun _ _ => rfl)) pa_nil)))) pa_nil)) (pe_listRg rfl (by rfl) T.list (prg_1 (by rfl) T.range pe_int)) (nomark _)) (pss_one (ps_ret pe_bl)) pss_nil)
      (pss_one (ps_ret (pe_cmpR op_eq (pe_callB call_len_seq (by rfl) T.len PySem.boot_len (pa_cons (pv 6) pa_nil)) pe_int (nomark _)))))))))))))), ?_⟩
    refine ⟨_, rfl, a, ns, rfl, hS, hl, fun p H0 H1 eH P0 => ?_⟩
    refine ⟨_, rfl, p, H0, 0, rfl, P0, by decide, fun va da B1 H2 x1 P1 av1 okA => ?_⟩
    refine ⟨_, rfl, p, B1, _, rfl, P1, by decide, fun vb db B2 H3 x2 P2 bv2 okB => ?_⟩
    refine ⟨_, rfl, p, B2, _, rfl, P2, by decide, fun vc dc B3 H4 x3 P3 cv3 okC => ?_⟩
    refine ⟨_, _, _, rfl, ?_⟩
    have ha : AV H4 va da := ((av1.ex x2).ex x3).ex P3.1
    have hb : AV H4 vb db := (bv2.ex x3).ex P3.1
    have hc : AV H4 vc dc := cv3.ex P3.1
    have oks := due_ok okA okB okC
    have ee := P3.1
    generalize hB : B3 = BB at *
    -- what is due
    have gv (B : Hp) (x : Ex H4 B) (o5 o6 o7 o8 o9 : Option V) : GI B [some (.ref a), some (.ref p.d), some va, some vb, some vc, o5, o6, o7, o8, o9] (tVar 2) (pAV da) ∧ GI B [some (.ref a), some (.ref p.d), some va, some vb, some vc, o5, o6, o7, o8, o9] (tVar 3) (pAV db) ∧ GI B [some (.ref a), some (.ref p.d), some va, some vb, some vc, o5, o6, o7, o8, o9] (tVar 4) (pAV dc) :=
      ⟨gi_var rfl (ha.ex x), gi_var rfl (hb.ex x), gi_var rfl (hc.ex x)⟩
    obtain ⟨ga, gb, gc⟩ := gv H4 (Ex.refl _) none none none none none
    refine seq_gi (gi_lst (ps := pds [da, da, da, da, da, da, db, dc, da, db, da, da, da, da]) (B := H4) (σ := [some (.ref a), some (.ref p.d), some va, some vb, some vc, none, none, none, none, none]) mono_pds
      (gis_cons ga mono_av (gis_cons ga mono_av (gis_cons ga mono_av (gis_cons ga mono_av (gis_cons ga mono_av (gis_cons ga mono_av (gis_cons gb mono_av (gis_cons gc mono_av (gis_cons ga mono_av (gis_cons gb mono_av (gis_cons ga mono_av (gis_cons ga mono_av (gis_cons ga mono_av (gis_cons ga mono_av gis_nil)))))))))))))) (show 14 ≤ 1000 by decide)) (Ex.refl _) fun r1 H5 e5 h5 => ?_
    obtain ⟨ga, gb, gc⟩ := gv H5 e5 (some r1) none none none none
    refine seq_gi (gi_cat (ps := pds [da, da, da, da, da, da, db, dc, da, db, da, da, da, da]) (qs := pds [da, da, da, da, da, da]) (B := H5) (σ := [some (.ref a), some (.ref p.d), some va, some vb, some vc, some r1, none, none, none, none]) mono_pds mono_pds rfl h5
      (gi_lst mono_pds (gis_cons ga mono_av (gis_cons ga mono_av (gis_cons ga mono_av (gis_cons ga mono_av (gis_cons ga mono_av (gis_cons ga mono_av gis_nil)))))) (show 6 ≤ 1000 by decide)) (show 14 + 6 ≤ 1000 by decide)) (Ex.refl _) fun r2 H6 e6 h6 => ?_
    have h6 : LL (pds (due da db dc)) H6 r2 := h6
    have x6 := e5.trans e6
    -- by position, by name
    refine ⟨va, rfl, vb, rfl, vc, rfl, va, da, vb, db, vc, dc, rfl, ha.ex x6, hb.ex x6, hc.ex x6, fun r3 H7 e7 h7 => ?_⟩
    refine repr_ll h7 oks (show 20 ≤ 100 by decide) ?_
    have h67 := mono_ll mono_pds e7 h6
    refine ⟨r2, rfl, repr_ll h67 oks (show 20 ≤ 100 by decide) ?_⟩
    refine ⟨rfl, _, rfl, ite2 (fun hb => absurd hb (by simp)) (fun _ => ?_)⟩
    have x7 := x6.trans e7
    refine ⟨va, rfl, vb, rfl, vc, rfl, va, da, vb, db, vc, dc, rfl, ha.ex x7, hb.ex x7, hc.ex x7, fun r4 H8 e8 h8 => ?_⟩
    refine repr_ll h8 oks (show 20 ≤ 100 by decide) ?_
    have h68 := mono_ll mono_pds e8 h67
    refine ⟨r2, rfl, repr_ll h68 oks (show 20 ≤ 100 by decide) ?_⟩
    refine ⟨rfl, _, rfl, ite2 (fun hb => absurd hb (by simp)) (fun _ => ?_)⟩
    have x8 := x7.trans e8
    -- all made
    refine ⟨va, rfl, vb, rfl, vc, rfl, va, da, vb, db, vc, dc, rfl, ha.ex x8, hb.ex x8, hc.ex x8, fun r5 H9 e9 h9 => ?_⟩
    obtain ⟨t, xs, rfl, ht, hx⟩ := h9
    have hlen : xs.length = 20 := by
      rw [hx.len, List.length_map, CC.len]
      rfl
    have each : ∀ {i : Nat} {v : V}, xs[i]? = some v → ∃ C j, JS[i]? = some j ∧ IsE C H9 v ∧ ExcC K C ∧ KL K C Ds (one j) ∧ PySem.W.kitOne K (.ref C) (.ref C_SkipsError) = some true ∧ PySem.W.kitOne K (.ref C) (.type "ValueError") = some true := fun {i v} hv => by
      obtain ⟨p, hp, h⟩ := hx.get hv
      rw [List.getElem?_map] at hp
      obtain ⟨C, hC, rfl⟩ := Option.map_eq_some_iff.mp hp
      obtain ⟨j, hj, y⟩ := CC.get hC
      exact ⟨C, j, hj, h, y⟩
    -- none that is no SkipsError
    refine ⟨_, rfl, t, rfl, ⟨_, sq_of ht⟩, fun D hD => ?_⟩
    refine lc_list (fun i H' => Ex H9 H' ∧ H9 D = none ∧ H' D = some (.lst [])) ⟨Ex.new hD, hD, upd_same⟩ (fun i H' _ p => sq_of (p.1 _ _ ht)) (fun i x H' hx p => ?_) (fun H10 p => ?_)
    · obtain ⟨e, h0, hz⟩ := p
      obtain ⟨C, j, hj, hv, EC, KK, ks, kv⟩ := each hx
      obtain ⟨b, d, rfl, hb1, hd1⟩ := mono_isE e hv
      refine ⟨rfl, ?_⟩
      refine ⟨_, rfl, b, C, d, .ref C_SkipsError, .ref C_SkipsError, true, rfl, EC, hb1, hd1, .own _, ks, true, rfl, ?_⟩
      refine ite2 (fun hb => absurd hb (by simp)) (fun _ => ?_)
      refine ⟨_, rfl, b, C, d, .ty "ValueError", .type "ValueError", true, rfl, EC, hb1, hd1, .ty _, kv, true, rfl, ?_⟩
      exact ⟨e, h0, hz⟩
    obtain ⟨e10, _, hz⟩ := p
    have t10 := e10 _ _ ht
    refine ⟨Nat.zero_le _, fun el hel => ?_⟩
    have n1 := Ex.new (o := .lst []) hel
    refine ⟨.list [], .list [], .lst (sq_of (n1 _ _ hz)) .nil, .lst (sq_of upd_same) .nil, rfl, rfl, _, rfl, ite2 (fun hb => absurd hb (by decide)) (fun _ => ?_)⟩
    have e11 := e10.trans n1
    have t11 := n1 _ _ t10
    generalize upd H10 el (.lst []) = H11 at e11 t11 ⊢
    -- what they are
    refine ⟨_, rfl, t, rfl, ⟨_, sq_of t11⟩, fun D2 hD2 => ?_⟩
    refine lc_list (fun i H' => Ex H11 H' ∧ H11 D2 = none ∧ ∃ us : List V, H' D2 = some (.lst us) ∧ us.length = i ∧ ∀ (k j : Nat) (u : V), us[k]? = some u → JS[k]? = some j → ∃ l, u = .ref l ∧ l ≠ D2 ∧ H' l = some (.lst ((il j).map V.int)))
      ⟨Ex.new hD2, hD2, [], upd_same, rfl, fun k j u h => by simp at h⟩ (fun i H' _ p => sq_of (p.1 _ _ t11)) (fun i x H' hx p => ?_) (fun H12 p => ?_)
    · obtain ⟨e, h0, us, hz, hn, hu⟩ := p
      obtain ⟨C, j, hj, hv, EC, KK, ks, kv⟩ := each hx
      have hi : i < 20 := by
        have := (List.getElem?_eq_some_iff.mp hx).1
        omega
      refine ⟨rfl, ?_⟩
      refine ⟨_, rfl, x, C, one j, rfl, mono_isE (e11.trans e) hv, EC, KK, fun l H2 e2 hl0 hl2 => ?_⟩
      have nl : l ≠ D2 := fun z => by
        rw [z, hz] at hl0
        cases hl0
      have hj9 : j ≤ 9 := JS_le j (List.mem_of_getElem? hj)
      rw [one_il hj9] at hl2
      refine ⟨us, e2 _ _ hz, by rw [hn]; exact Nat.lt_trans hi (by decide), (e.trans e2).mut h0, h0, us ++ [.ref l], upd_same, by rw [List.length_append, hn]; rfl, fun k j' u hk hj' => ?_⟩
      by_cases q : k < us.length
      · rw [List.getElem?_append_left q] at hk
        obtain ⟨l', z1, z2, z3⟩ := hu k j' u hk hj'
        exact ⟨l', z1, z2, by rw [upd_ne z2]; exact e2 _ _ z3⟩
      · have hk2 : k = us.length := by
          have := (List.getElem?_eq_some_iff.mp hk).1
          rw [List.length_append] at this
          simp at this
          omega
        subst hk2
        rw [List.getElem?_append_right (Nat.le_refl _)] at hk
        simp at hk
        subst hk
        rw [hn, hj] at hj'
        cases hj'
        exact ⟨l, rfl, nl, by rw [upd_ne nl]; exact hl2⟩
    obtain ⟨e12, _, us, hz2, hn, hu⟩ := p
    rw [hlen] at hn
    have t12 := e12 _ _ t11
    have one_u : ∀ {i : Nat} {u : V}, us[i]? = some u → ∃ j l, JS[i]? = some j ∧ j ≤ 9 ∧ u = .ref l ∧ H12 l = some (.lst ((il j).map V.int)) := fun {i u} h => by
      have hi : i < 20 := by
        have := (List.getElem?_eq_some_iff.mp h).1
        omega
      have hJ : i < JS.length := hi
      obtain ⟨l, z1, _, z3⟩ := hu i _ u h (List.getElem?_eq_getElem hJ)
      exact ⟨_, l, List.getElem?_eq_getElem hJ, JS_le _ (List.getElem_mem hJ), z1, z3⟩
    -- none is two of them
    refine ⟨_, rfl, D2, rfl, ⟨_, sq_of hz2⟩, fun D3 hD3 => ?_⟩
    refine lc_list (fun i H' => Ex H12 H' ∧ H12 D3 = none ∧ H' D3 = some (.lst [])) ⟨Ex.new hD3, hD3, upd_same⟩ (fun i H' _ p => sq_of (p.1 _ _ hz2)) (fun i x H' hx p => ?_) (fun H13 p => ?_)
    · obtain ⟨e, h0, hz⟩ := p
      obtain ⟨j, l, hj, hj9, rfl, hl⟩ := one_u hx
      refine ⟨rfl, ?_⟩
      refine ⟨_, rfl, l, _, rfl, .inl (sq_of (e _ _ hl)), _, _, rfl, rfl, _, rfl, ?_⟩
      have hle : (il j).length ≤ 1 := by
        unfold il
        by_cases q : j < 9
        · rw [if_pos q]
          exact Nat.le_refl _
        · rw [if_neg q]
          exact Nat.zero_le _
      refine ite2 (fun hb => absurd (of_decide_eq_true hb) (by rw [List.length_map]; omega)) (fun _ => ?_)
      exact ⟨e, h0, hz⟩
    obtain ⟨e13, _, hz3⟩ := p
    refine ⟨Nat.zero_le _, fun el2 hel2 => ?_⟩
    have n2 := Ex.new (o := .lst []) hel2
    refine ⟨.list [], .list [], .lst (sq_of (n2 _ _ hz3)) .nil, .lst (sq_of upd_same) .nil, rfl, rfl, _, rfl, ite2 (fun hb => absurd hb (by decide)) (fun _ => ?_)⟩
    have e14 := e13.trans n2
    generalize upd H13 el2 (.lst []) = H14 at e14 ⊢
    have z14 := e14 _ _ hz2
    have t14 := e14 _ _ t12
    -- each comes once
    refine ⟨_, rfl, D2, rfl, ⟨_, sq_of z14⟩, fun D4 hD4 => ?_⟩
    refine lc_list (fun i H' => Ex H14 H' ∧ H14 D4 = none ∧ H' D4 = some (.lst ((hd (JS.take i)).map V.int))) ⟨Ex.new hD4, hD4, upd_same⟩ (fun i H' _ p => sq_of (p.1 _ _ z14)) (fun i x H' hx p => ?_) (fun H15 p => ?_)
    · obtain ⟨e, h0, hz⟩ := p
      obtain ⟨j, l, hj, hj9, rfl, hl⟩ := one_u hx
      have hl2 := e _ _ (e14 _ _ hl)
      refine ⟨rfl, ?_⟩
      refine ⟨_, rfl, Nat.zero_le _, fun el3 hel3 => ?_⟩
      have n3 := Ex.new (o := .lst []) hel3
      refine ⟨.list ((il j).map PyData.int), .list [], .lst (sq_of (n3 _ _ hl2)) (dp_ints _), .lst (sq_of upd_same) .nil, shaped_ints _, rfl, _, rfl, ?_⟩
      rw [eqv_nil, hd_take hj]
      by_cases q : j < 9
      · have ei : il j = [(j : Int)] := if_pos q
        rw [if_pos q]
        refine ite2 (fun _ => ?_) (fun hb => absurd (by rw [ei]; rfl) hb)
        have hl3 := n3 _ _ hl2
        rw [ei] at hl3
        refine ⟨_, rfl, l, _, 0, .int (j : Int), rfl, rfl, sq_of hl3, rfl, .inl ⟨_, rfl, _, n3 _ _ hz, ?_, (e.trans n3).mut h0, h0, ?_⟩⟩
        · rw [List.length_map]
          exact Nat.lt_of_le_of_lt (show (hd (JS.take i)).length ≤ 20 by
            unfold hd
            rw [List.length_map]
            exact Nat.le_trans (List.length_filter_le _ _) (by rw [List.length_take]; exact Nat.min_le_right _ _)) (by decide)
        · rw [upd_same, List.map_append]
          rfl
      · have ei : il j = [] := if_neg q
        rw [if_neg q]
        refine ite2 (fun hb => absurd hb (by rw [ei]; decide)) (fun _ => ?_)
        exact ⟨e.trans n3, h0, n3 _ _ hz⟩
    obtain ⟨e15, _, hz4⟩ := p
    have full : JS.take us.length = JS := by
      rw [hn]
      rfl
    rw [full] at hz4
    refine ⟨D4, hd JS, rfl, sq_of hz4, fun ns' p1 perm srt hp1 => ?_⟩
    have es := sorted_hd perm srt
    have n5 := Ex.new (o := .lst (ns'.map V.int)) hp1
    refine ⟨_, rfl, ⟨by decide, by decide, by decide, by decide, by decide⟩, fun p2 hp2 => ?_⟩
    have n6 := Ex.new (o := .lst (rgV 0 9)) hp2
    subst es
    refine ⟨.list (((List.range 9).map fun k : Nat => (k : Int)).map PyData.int), .list (((List.range 9).map fun k : Nat => (k : Int)).map PyData.int), .lst (sq_of (n6 _ _ upd_same)) (dp_ints _), .lst (sq_of upd_same) (dp_ints ((List.range 9).map fun k : Nat => (k : Int))), shaped_ints _, shaped_ints _, _, rfl, ite2 (fun hb => absurd hb (by decide)) (fun _ => ?_)⟩
    have tE := n6 _ _ (n5 _ _ (e15 _ _ t14))
    refine ⟨_, rfl, t, _, rfl, .inl (sq_of tE), rfl, ?_⟩
    rw [hlen]
    exact q _
end
end Law

namespace Law
open PySem PySem.Spec PyProof.Rows L2 Evl EK
theorem kit_mk {K : PySem.W.Frag} {t : Value} {c : Addr} {b : Bool} (n : (t == .ref c) = false ∨ b = true) (h1 : PySem.W.isClsIn K c = true) (h2 : PySem.W.typeIn K (.ref c) = some (.type "type")) (h3 : PySem.W.subIn K t (.ref c) = some b) : PySem.W.kitOne K t (.ref c) = some b := by
  have e : PySem.W.kitCls K t (.ref c) = some b := by
    unfold PySem.W.kitCls
    show (if ((PySem.W.clsIn K c).isSome && PySem.W.typeIn K (.ref c) == some (.type "type")) = true then PySem.W.subIn K t (.ref c) else none) = some b
    rw [if_pos (by rw [Bool.and_eq_true]; exact ⟨h1, by rw [h2]; simp⟩)]
    exact h3
  unfold PySem.W.kitOne
  by_cases q : (t == .ref c) = true
  · rw [if_pos q]
    rcases n with n | n
    · rw [n] at q
      cases q
    · rw [n]
  · rw [if_neg q]
    exact e
theorem kit_ve {K : PySem.W.Frag} {C : Addr} (h : PySem.W.subIn K (.ref C) (.type "ValueError") = some true) : PySem.W.kitOne K (.ref C) (.type "ValueError") = some true := by
  have hm : PySem.W.kitMeta "ValueError" = true := by decide +kernel
  unfold PySem.W.kitOne
  rw [if_neg (by simp)]
  show (if PySem.W.kitMeta "ValueError" = true then PySem.W.subIn K (.ref C) (.type "ValueError") else none) = some true
  rw [if_pos hm]
  exact h
theorem kl_mk {K : PySem.W.Frag} {C d0 d1 d2 d3 d4 d5 d6 d7 d8 : Addr} {bs : List Bool} {b0 b1 b2 b3 b4 b5 b6 b7 b8 : Bool} (e : bs = [b0, b1, b2, b3, b4, b5, b6, b7, b8]) (hz : (([d0, d1, d2, d3, d4, d5, d6, d7, d8].zip bs).all fun p => p.2 || p.1 != C) = true)
    (y : ∀ D ∈ [d0, d1, d2, d3, d4, d5, d6, d7, d8], PySem.W.isClsIn K D = true ∧ PySem.W.typeIn K (.ref D) = some (.type "type"))
    (h0 : PySem.W.subIn K (.ref C) (.ref d0) = some b0) (h1 : PySem.W.subIn K (.ref C) (.ref d1) = some b1) (h2 : PySem.W.subIn K (.ref C) (.ref d2) = some b2) (h3 : PySem.W.subIn K (.ref C) (.ref d3) = some b3) (h4 : PySem.W.subIn K (.ref C) (.ref d4) = some b4)
    (h5 : PySem.W.subIn K (.ref C) (.ref d5) = some b5) (h6 : PySem.W.subIn K (.ref C) (.ref d6) = some b6) (h7 : PySem.W.subIn K (.ref C) (.ref d7) = some b7) (h8 : PySem.W.subIn K (.ref C) (.ref d8) = some b8) : KL K C [d0, d1, d2, d3, d4, d5, d6, d7, d8] bs := by
  subst e
  have go : ∀ {D : Addr} {b : Bool}, D ∈ [d0, d1, d2, d3, d4, d5, d6, d7, d8] → (b || D != C) = true → PySem.W.subIn K (.ref C) (.ref D) = some b → PySem.W.kitOne K (.ref C) (.ref D) = some b := fun {D b} m z h => by
    refine kit_mk ?_ (y D m).1 (y D m).2 h
    cases b with
    | true => exact .inr rfl
    | false =>
      refine .inl ?_
      have z2 : (D != C) = true := by simpa using z
      have z3 : D ≠ C := by simpa using z2
      exact beq_eq_false_iff_ne.mpr fun w => z3 (Value.ref.inj w).symm
  simp only [List.zip_cons_cons, List.zip_nil_right, List.all_cons, List.all_nil, Bool.and_true, Bool.and_eq_true] at hz
  obtain ⟨z0, z1, z2, z3, z4, z5, z6, z7, z8⟩ := hz
  refine ⟨rfl, fun j D b hD hb => ?_⟩
  match j with
  | 0 => cases hD; cases hb; exact go (by simp) z0 h0
  | 1 => cases hD; cases hb; exact go (by simp) z1 h1
  | 2 => cases hD; cases hb; exact go (by simp) z2 h2
  | 3 => cases hD; cases hb; exact go (by simp) z3 h3
  | 4 => cases hD; cases hb; exact go (by simp) z4 h4
  | 5 => cases hD; cases hb; exact go (by simp) z5 h5
  | 6 => cases hD; cases hb; exact go (by simp) z6 h6
  | 7 => cases hD; cases hb; exact go (by simp) z7 h7
  | 8 => cases hD; cases hb; exact go (by simp) z8 h8
  | j + 9 => cases hD
theorem fin1 {K : PySem.W.Frag} {C : Addr} {a : Str} (h : PySem.W.findIn K (.ref C) a = some none) : ∀ f ∈ [a], PySem.W.findIn K (.ref C) f = some none := fun f hf => by
  rw [List.mem_singleton.mp hf]
  exact h
theorem fin2 {K : PySem.W.Frag} {C : Addr} {a b : Str} (h : PySem.W.findIn K (.ref C) a = some none) (h2 : PySem.W.findIn K (.ref C) b = some none) : ∀ f ∈ [a, b], PySem.W.findIn K (.ref C) f = some none := fun f hf => by
  rcases List.mem_cons.mp hf with e | hf
  · rw [e]
    exact h
  · exact fin1 h2 f hf
theorem fin3 {K : PySem.W.Frag} {C : Addr} {a b c : Str} (h : PySem.W.findIn K (.ref C) a = some none) (h2 : PySem.W.findIn K (.ref C) b = some none) (h3 : PySem.W.findIn K (.ref C) c = some none) : ∀ f ∈ [a, b, c], PySem.W.findIn K (.ref C) f = some none := fun f hf => by
  rcases List.mem_cons.mp hf with e | hf
  · rw [e]
    exact h
  · exact fin2 h2 h3 f hf
theorem all_mk {l : PySem.W.OpenLaw} {w : World} {K : PySem.W.Frag} {h : Heap} {mg : Str → Option Value} {fa C0 f1 f2 f3 f4 f5 f6 f7 f8 f9 f10 fBadLetters fBadWords fBadText fBadWish fBadWidth fTooMany fBadTree fBadLine fBadWay fBadRule fRing fNoRule fBadPlace fBadSize fBadOrder fNoJoint fNoPartial CBadLetters CBadWords CBadText CBadWish CBadWidth CTooMany CBadTree CBadLine CBadWay COtherLetters COtherWidth CBadRule CRing CNoRule CBadPlace CBadOver CBadSize CBadOrder CNoJoint CNoPartial : Addr} (X : K.In h) (G : h.Ns mainGlobals mg) (hfa : mg "law" = some (.ref fa))
    {od1 an1 od2 an2 od3 an3 od4 an4 od5 an5 od6 an6 od7 an7 od8 an8 od9 an9 od10 an10 odBadLetters anBadLetters odBadWords anBadWords odBadText anBadText odBadWish anBadWish odBadWidth anBadWidth odTooMany anTooMany odBadTree anBadTree odBadLine anBadLine odBadWay anBadWay odBadRule anBadRule odRing anRing odNoRule anNoRule odBadPlace anBadPlace odBadSize anBadSize odBadOrder anBadOrder odNoJoint anNoJoint odNoPartial anNoPartial : Option Addr} {sl1 sl2 sl3 sl4 sl5 sl6 sl7 sl8 sl9 sl10 slBadLetters slBadWords slBadText slBadWish slBadWidth slTooMany slBadTree slBadLine slBadWay slBadRule slRing slNoRule slBadPlace slBadSize slBadOrder slNoJoint slNoPartial : Array (Option Value)} {oc1 kV1 dc1 pm1 cd1 ct1 oc2 kV2 dc2 pm2 cd2 ct2 oc3 kV3 dc3 pm3 cd3 ct3 oc4 kV4 dc4 pm4 cd4 ct4 oc5 kV5 dc5 pm5 cd5 ct5 oc6 kV6 dc6 pm6 cd6 ct6 oc7 kV7 dc7 pm7 cd7 ct7 oc8 kV8 dc8 pm8 cd8 ct8 oc9 kV9 dc9 pm9 cd9 ct9 oc10 kV10 dc10 pm10 cd10 ct10 ocBadLetters kVBadLetters dcBadLetters pmBadLetters cdBadLetters ctBadLetters ocBadWords kVBadWords dcBadWords pmBadWords cdBadWords ctBadWords ocBadText kVBadText dcBadText pmBadText cdBadText ctBadText ocBadWish kVBadWish dcBadWish pmBadWish cdBadWish ctBadWish ocBadWidth kVBadWidth dcBadWidth pmBadWidth cdBadWidth ctBadWidth ocTooMany kVTooMany dcTooMany pmTooMany cdTooMany ctTooMany ocBadTree kVBadTree dcBadTree pmBadTree cdBadTree ctBadTree ocBadLine kVBadLine dcBadLine pmBadLine cdBadLine ctBadLine ocBadWay kVBadWay dcBadWay pmBadWay cdBadWay ctBadWay ocBadRule kVBadRule dcBadRule pmBadRule cdBadRule ctBadRule ocRing kVRing dcRing pmRing cdRing ctRing ocNoRule kVNoRule dcNoRule pmNoRule cdNoRule ctNoRule ocBadPlace kVBadPlace dcBadPlace pmBadPlace cdBadPlace ctBadPlace ocBadSize kVBadSize dcBadSize pmBadSize cdBadSize ctBadSize ocBadOrder kVBadOrder dcBadOrder pmBadOrder cdBadOrder ctBadOrder ocNoJoint kVNoJoint dcNoJoint pmNoJoint cdNoJoint ctNoJoint ocNoPartial kVNoPartial dcNoPartial pmNoPartial cdNoPartial ctNoPartial : Value}
    {nmBadLetters qBadLetters nmBadWords qBadWords nmBadText qBadText nmBadWish qBadWish nmBadWidth qBadWidth nmTooMany qTooMany nmBadTree qBadTree nmBadLine qBadLine nmBadWay qBadWay nmOtherLetters qOtherLetters nmOtherWidth qOtherWidth nmBadRule qBadRule nmRing qRing nmNoRule qNoRule nmBadPlace qBadPlace nmBadOver qBadOver nmBadSize qBadSize nmBadOrder qBadOrder nmNoJoint qNoJoint nmNoPartial qNoPartial : Str} {NBadLetters NBadWords NBadText NBadWish NBadWidth NTooMany NBadTree NBadLine NBadWay NOtherLetters NOtherWidth NBadRule NRing NNoRule NBadPlace NBadOver NBadSize NBadOrder NNoJoint NNoPartial : Addr} {bsBadLetters bmBadLetters suBadLetters bsBadWords bmBadWords suBadWords bsBadText bmBadText suBadText bsBadWish bmBadWish suBadWish bsBadWidth bmBadWidth suBadWidth bsTooMany bmTooMany suTooMany bsBadTree bmBadTree suBadTree bsBadLine bmBadLine suBadLine bsBadWay bmBadWay suBadWay bsOtherLetters bmOtherLetters suOtherLetters bsOtherWidth bmOtherWidth suOtherWidth bsBadRule bmBadRule suBadRule bsRing bmRing suRing bsNoRule bmNoRule suNoRule bsBadPlace bmBadPlace suBadPlace bsBadOver bmBadOver suBadOver bsBadSize bmBadSize suBadSize bsBadOrder bmBadOrder suBadOrder bsNoJoint bmNoJoint suNoJoint bsNoPartial bmNoPartial suNoPartial : List Value} {snBadLetters snBadWords snBadText snBadWish snBadWidth snTooMany snBadTree snBadLine snBadWay snOtherLetters snOtherWidth snBadRule snRing snNoRule snBadPlace snBadOver snBadSize snBadOrder snNoJoint snNoPartial : List Str} {abBadLetters abBadWords abBadText abBadWish abBadWidth abTooMany abBadTree abBadLine abBadWay abOtherLetters abOtherWidth abBadRule abRing abNoRule abBadPlace abBadOver abBadSize abBadOrder abNoJoint abNoPartial : Bool} {colBadLetters colBadWords colBadText colBadWish colBadWidth colTooMany colBadTree colBadLine colBadWay colOtherLetters colOtherWidth colBadRule colRing colNoRule colBadPlace colBadOver colBadSize colBadOrder colNoJoint colNoPartial : Option Bool} {ddBadLetters ddBadWords ddBadText ddBadWish ddBadWidth ddTooMany ddBadTree ddBadLine ddBadWay ddOtherLetters ddOtherWidth ddBadRule ddRing ddNoRule ddBadPlace ddBadOver ddBadSize ddBadOrder ddNoJoint ddNoPartial : Option Addr} {k0BadLetters k1BadLetters k2BadLetters k3BadLetters k5BadLetters k0BadWords k1BadWords k2BadWords k3BadWords k5BadWords k0BadText k1BadText k2BadText k3BadText k5BadText k0BadWish k1BadWish k2BadWish k3BadWish k5BadWish k0BadWidth k1BadWidth k2BadWidth k3BadWidth k5BadWidth k0TooMany k1TooMany k2TooMany k3TooMany k5TooMany k0BadTree k1BadTree k2BadTree k3BadTree k5BadTree k0BadLine k1BadLine k2BadLine k3BadLine k5BadLine k0BadWay k1BadWay k2BadWay k3BadWay k5BadWay k0OtherLetters k1OtherLetters k2OtherLetters k3OtherLetters k5OtherLetters k0OtherWidth k1OtherWidth k2OtherWidth k3OtherWidth k5OtherWidth k0BadRule k1BadRule k2BadRule k3BadRule k5BadRule k0Ring k1Ring k2Ring k3Ring k5Ring k0NoRule k1NoRule k2NoRule k3NoRule k5NoRule k0BadPlace k1BadPlace k2BadPlace k3BadPlace k5BadPlace k0BadOver k1BadOver k2BadOver k3BadOver k5BadOver k0BadSize k1BadSize k2BadSize k3BadSize k5BadSize k0BadOrder k1BadOrder k2BadOrder k3BadOrder k5BadOrder k0NoJoint k1NoJoint k2NoJoint k3NoJoint k5NoJoint k0NoPartial k1NoPartial k2NoPartial k3NoPartial k5NoPartial : Option Value}
    (a1 : PySem.W.nsIn K mainGlobals "law" = some (some (.ref f1)))
    (l1 : K.lookup f1 = some ⟨oc1, od1, .func (PySem.W.fnOf "law" "law" (defArgs s_law) (defBody s_law) (defScope s_law) .none kV1 dc1 pm1 an1 cd1 ct1), sl1⟩)
    (c1 : PySem.W.codeIn K cd1 "law" = true)
    (k1 : PySem.W.keepIn K (.ref f1) = true)
    (a2 : PySem.W.nsIn K mainGlobals "_law_pen" = some (some (.ref f2)))
    (l2 : K.lookup f2 = some ⟨oc2, od2, .func (PySem.W.fnOf "_law_pen" "_law_pen" (defArgs s_lpen) (defBody s_lpen) (defScope s_lpen) .none kV2 dc2 pm2 an2 cd2 ct2), sl2⟩)
    (c2 : PySem.W.codeIn K cd2 "_law_pen" = true)
    (k2 : PySem.W.keepIn K (.ref f2) = true)
    (a3 : PySem.W.nsIn K mainGlobals "_law_draw" = some (some (.ref f3)))
    (l3 : K.lookup f3 = some ⟨oc3, od3, .func (PySem.W.fnOf "_law_draw" "_law_draw" (defArgs s_ldraw) (defBody s_ldraw) (defScope s_ldraw) .none kV3 dc3 pm3 an3 cd3 ct3), sl3⟩)
    (c3 : PySem.W.codeIn K cd3 "_law_draw" = true)
    (k3 : PySem.W.keepIn K (.ref f3) = true)
    (a4 : PySem.W.nsIn K mainGlobals "_law_pick" = some (some (.ref f4)))
    (l4 : K.lookup f4 = some ⟨oc4, od4, .func (PySem.W.fnOf "_law_pick" "_law_pick" (defArgs s_lpick) (defBody s_lpick) (defScope s_lpick) .none kV4 dc4 pm4 an4 cd4 ct4), sl4⟩)
    (c4 : PySem.W.codeIn K cd4 "_law_pick" = true)
    (k4 : PySem.W.keepIn K (.ref f4) = true)
    (a5 : PySem.W.nsIn K mainGlobals "_law_any" = some (some (.ref f5)))
    (l5 : K.lookup f5 = some ⟨oc5, od5, .func (PySem.W.fnOf "_law_any" "_law_any" (defArgs s_lany) (defBody s_lany) (defScope s_lany) .none kV5 dc5 pm5 an5 cd5 ct5), sl5⟩)
    (c5 : PySem.W.codeIn K cd5 "_law_any" = true)
    (k5 : PySem.W.keepIn K (.ref f5) = true)
    (a6 : PySem.W.nsIn K mainGlobals "_kept" = some (some (.ref f6)))
    (l6 : K.lookup f6 = some ⟨oc6, od6, .func (PySem.W.fnOf "_kept" "_kept" (defArgs s_kept) (defBody s_kept) (defScope s_kept) .none kV6 dc6 pm6 an6 cd6 ct6), sl6⟩)
    (c6 : PySem.W.codeIn K cd6 "_kept" = true)
    (k6 : PySem.W.keepIn K (.ref f6) = true)
    (a7 : PySem.W.nsIn K mainGlobals "_law_by_position" = some (some (.ref f7)))
    (l7 : K.lookup f7 = some ⟨oc7, od7, .func (PySem.W.fnOf "_law_by_position" "_law_by_position" (defArgs s_lby_position) (defBody s_lby_position) (defScope s_lby_position) .none kV7 dc7 pm7 an7 cd7 ct7), sl7⟩)
    (c7 : PySem.W.codeIn K cd7 "_law_by_position" = true)
    (k7 : PySem.W.keepIn K (.ref f7) = true)
    (a8 : PySem.W.nsIn K mainGlobals "_law_by_name" = some (some (.ref f8)))
    (l8 : K.lookup f8 = some ⟨oc8, od8, .func (PySem.W.fnOf "_law_by_name" "_law_by_name" (defArgs s_lby_name) (defBody s_lby_name) (defScope s_lby_name) .none kV8 dc8 pm8 an8 cd8 ct8), sl8⟩)
    (c8 : PySem.W.codeIn K cd8 "_law_by_name" = true)
    (k8 : PySem.W.keepIn K (.ref f8) = true)
    (a9 : PySem.W.nsIn K mainGlobals "_law_all_made" = some (some (.ref f9)))
    (l9 : K.lookup f9 = some ⟨oc9, od9, .func (PySem.W.fnOf "_law_all_made" "_law_all_made" (defArgs s_lall_made) (defBody s_lall_made) (defScope s_lall_made) .none kV9 dc9 pm9 an9 cd9 ct9), sl9⟩)
    (c9 : PySem.W.codeIn K cd9 "_law_all_made" = true)
    (k9 : PySem.W.keepIn K (.ref f9) = true)
    (a10 : PySem.W.nsIn K mainGlobals "_law_sorts" = some (some (.ref f10)))
    (l10 : K.lookup f10 = some ⟨oc10, od10, .func (PySem.W.fnOf "_law_sorts" "_law_sorts" (defArgs s_lsorts) (defBody s_lsorts) (defScope s_lsorts) .none kV10 dc10 pm10 an10 cd10 ct10), sl10⟩)
    (c10 : PySem.W.codeIn K cd10 "_law_sorts" = true)
    (k10 : PySem.W.keepIn K (.ref f10) = true)
    (aC0 : PySem.W.nsIn K mainGlobals "SkipsError" = some (some (.ref C0)))
    (r1 : PySem.W.readsIn K C0 (.type "type") = true)
    (r2 : PySem.W.specialIn K (.ref C0) "__getattribute__" = some (some (.builtin "type.__getattribute__")))
    (r3 : PySem.W.findCls K (.ref C0) (.type "type") "__init__" = some (.val (.builtin "ValueError.__init__")))
    (s1 : PySem.W.isClsIn K C0 = true)
    (s2 : PySem.W.typeIn K (.ref C0) = some (.type "type"))
    (s3 : PySem.W.specialIn K (.builtin "object.__class__") "__get__" = some (some (.builtin "getset_descriptor.__get__")))
    (s4 : PySem.W.takesIn K (.builtin "object.__class__") = some true)
    (aCBadLetters : PySem.W.nsIn K mainGlobals "BadLetters" = some (some (.ref CBadLetters)))
    (aBadLetters : PySem.W.findIn K (.ref CBadLetters) "__init__" = some (some (.ref fBadLetters)))
    (lBadLetters : K.lookup fBadLetters = some ⟨ocBadLetters, odBadLetters, .func (PySem.W.fnOf "__init__" "BadLetters.__init__" (defArgs s_BadLetters_init) (defBody s_BadLetters_init) (defScope s_BadLetters_init) .none kVBadLetters dcBadLetters pmBadLetters anBadLetters cdBadLetters ctBadLetters), slBadLetters⟩)
    (cBadLetters : PySem.W.codeIn K cdBadLetters "BadLetters.__init__" = true)
    (kBadLetters : PySem.W.keepIn K (.ref fBadLetters) = true)
    (n0BadLetters : PySem.W.findIn K (.ref CBadLetters) "letters" = some none)
    (tBadLetters : PySem.W.typeIn K (.ref fBadLetters) = some (.type "function"))
    (g4BadLetters : PySem.W.findIn K (.ref CBadLetters) "__setattr__" = some (some (.builtin "object.__setattr__")))
    (m2BadLetters : PySem.W.keepIn K (.ref CBadLetters) = true)
    (o1BadLetters : K.lookup CBadLetters = some (excClassObj nmBadLetters qBadLetters CBadLetters NBadLetters bsBadLetters bmBadLetters true snBadLetters suBadLetters abBadLetters colBadLetters ddBadLetters k0BadLetters k1BadLetters k2BadLetters k3BadLetters k5BadLetters "ValueError.__new__"))
    (o2BadLetters : PySem.HandSPX.refsVE bmBadLetters = true)
    (o3BadLetters : PySem.W.subIn K (.ref CBadLetters) (.type "BaseException") = some true)
    (o4BadLetters : PySem.W.typeIn K (.ref CBadLetters) = some (.type "type"))
    (x1BadLetters : PySem.W.findIn K (.ref CBadLetters) "__getattribute__" = some (some (.builtin "BaseException.__getattribute__")))
    (x2BadLetters : PySem.W.findIn K (.ref CBadLetters) "__getattr__" = some none)
    (x3BadLetters : PySem.W.hasDictIn K CBadLetters = true)
    (e1BadLetters : PySem.W.findIn K (.ref CBadLetters) "__class__" = some (some (.builtin "object.__class__")))
    (e2BadLetters : PySem.W.mroIn K CBadLetters (.type "object") = some true)
    (p1BadLetters : PySem.W.subIn K (.ref CBadLetters) (.ref C0) = some true)
    (p2BadLetters : PySem.W.subIn K (.ref CBadLetters) (.type "ValueError") = some true)
    (aCBadWords : PySem.W.nsIn K mainGlobals "BadWords" = some (some (.ref CBadWords)))
    (aBadWords : PySem.W.findIn K (.ref CBadWords) "__init__" = some (some (.ref fBadWords)))
    (lBadWords : K.lookup fBadWords = some ⟨ocBadWords, odBadWords, .func (PySem.W.fnOf "__init__" "BadWords.__init__" (defArgs s_BadWords_init) (defBody s_BadWords_init) (defScope s_BadWords_init) .none kVBadWords dcBadWords pmBadWords anBadWords cdBadWords ctBadWords), slBadWords⟩)
    (cBadWords : PySem.W.codeIn K cdBadWords "BadWords.__init__" = true)
    (kBadWords : PySem.W.keepIn K (.ref fBadWords) = true)
    (n0BadWords : PySem.W.findIn K (.ref CBadWords) "place" = some none)
    (tBadWords : PySem.W.typeIn K (.ref fBadWords) = some (.type "function"))
    (g4BadWords : PySem.W.findIn K (.ref CBadWords) "__setattr__" = some (some (.builtin "object.__setattr__")))
    (m2BadWords : PySem.W.keepIn K (.ref CBadWords) = true)
    (o1BadWords : K.lookup CBadWords = some (excClassObj nmBadWords qBadWords CBadWords NBadWords bsBadWords bmBadWords true snBadWords suBadWords abBadWords colBadWords ddBadWords k0BadWords k1BadWords k2BadWords k3BadWords k5BadWords "ValueError.__new__"))
    (o2BadWords : PySem.HandSPX.refsVE bmBadWords = true)
    (o3BadWords : PySem.W.subIn K (.ref CBadWords) (.type "BaseException") = some true)
    (o4BadWords : PySem.W.typeIn K (.ref CBadWords) = some (.type "type"))
    (x1BadWords : PySem.W.findIn K (.ref CBadWords) "__getattribute__" = some (some (.builtin "BaseException.__getattribute__")))
    (x2BadWords : PySem.W.findIn K (.ref CBadWords) "__getattr__" = some none)
    (x3BadWords : PySem.W.hasDictIn K CBadWords = true)
    (e1BadWords : PySem.W.findIn K (.ref CBadWords) "__class__" = some (some (.builtin "object.__class__")))
    (e2BadWords : PySem.W.mroIn K CBadWords (.type "object") = some true)
    (p1BadWords : PySem.W.subIn K (.ref CBadWords) (.ref C0) = some true)
    (p2BadWords : PySem.W.subIn K (.ref CBadWords) (.type "ValueError") = some true)
    (aCBadText : PySem.W.nsIn K mainGlobals "BadText" = some (some (.ref CBadText)))
    (aBadText : PySem.W.findIn K (.ref CBadText) "__init__" = some (some (.ref fBadText)))
    (lBadText : K.lookup fBadText = some ⟨ocBadText, odBadText, .func (PySem.W.fnOf "__init__" "BadText.__init__" (defArgs s_BadText_init) (defBody s_BadText_init) (defScope s_BadText_init) .none kVBadText dcBadText pmBadText anBadText cdBadText ctBadText), slBadText⟩)
    (cBadText : PySem.W.codeIn K cdBadText "BadText.__init__" = true)
    (kBadText : PySem.W.keepIn K (.ref fBadText) = true)
    (n0BadText : PySem.W.findIn K (.ref CBadText) "place" = some none)
    (tBadText : PySem.W.typeIn K (.ref fBadText) = some (.type "function"))
    (g4BadText : PySem.W.findIn K (.ref CBadText) "__setattr__" = some (some (.builtin "object.__setattr__")))
    (m2BadText : PySem.W.keepIn K (.ref CBadText) = true)
    (o1BadText : K.lookup CBadText = some (excClassObj nmBadText qBadText CBadText NBadText bsBadText bmBadText true snBadText suBadText abBadText colBadText ddBadText k0BadText k1BadText k2BadText k3BadText k5BadText "ValueError.__new__"))
    (o2BadText : PySem.HandSPX.refsVE bmBadText = true)
    (o3BadText : PySem.W.subIn K (.ref CBadText) (.type "BaseException") = some true)
    (o4BadText : PySem.W.typeIn K (.ref CBadText) = some (.type "type"))
    (x1BadText : PySem.W.findIn K (.ref CBadText) "__getattribute__" = some (some (.builtin "BaseException.__getattribute__")))
    (x2BadText : PySem.W.findIn K (.ref CBadText) "__getattr__" = some none)
    (x3BadText : PySem.W.hasDictIn K CBadText = true)
    (e1BadText : PySem.W.findIn K (.ref CBadText) "__class__" = some (some (.builtin "object.__class__")))
    (e2BadText : PySem.W.mroIn K CBadText (.type "object") = some true)
    (p1BadText : PySem.W.subIn K (.ref CBadText) (.ref C0) = some true)
    (p2BadText : PySem.W.subIn K (.ref CBadText) (.type "ValueError") = some true)
    (aCBadWish : PySem.W.nsIn K mainGlobals "BadWish" = some (some (.ref CBadWish)))
    (aBadWish : PySem.W.findIn K (.ref CBadWish) "__init__" = some (some (.ref fBadWish)))
    (lBadWish : K.lookup fBadWish = some ⟨ocBadWish, odBadWish, .func (PySem.W.fnOf "__init__" "BadWish.__init__" (defArgs s_BadWish_init) (defBody s_BadWish_init) (defScope s_BadWish_init) .none kVBadWish dcBadWish pmBadWish anBadWish cdBadWish ctBadWish), slBadWish⟩)
    (cBadWish : PySem.W.codeIn K cdBadWish "BadWish.__init__" = true)
    (kBadWish : PySem.W.keepIn K (.ref fBadWish) = true)
    (n0BadWish : PySem.W.findIn K (.ref CBadWish) "wish" = some none)
    (tBadWish : PySem.W.typeIn K (.ref fBadWish) = some (.type "function"))
    (g4BadWish : PySem.W.findIn K (.ref CBadWish) "__setattr__" = some (some (.builtin "object.__setattr__")))
    (m2BadWish : PySem.W.keepIn K (.ref CBadWish) = true)
    (o1BadWish : K.lookup CBadWish = some (excClassObj nmBadWish qBadWish CBadWish NBadWish bsBadWish bmBadWish true snBadWish suBadWish abBadWish colBadWish ddBadWish k0BadWish k1BadWish k2BadWish k3BadWish k5BadWish "ValueError.__new__"))
    (o2BadWish : PySem.HandSPX.refsVE bmBadWish = true)
    (o3BadWish : PySem.W.subIn K (.ref CBadWish) (.type "BaseException") = some true)
    (o4BadWish : PySem.W.typeIn K (.ref CBadWish) = some (.type "type"))
    (x1BadWish : PySem.W.findIn K (.ref CBadWish) "__getattribute__" = some (some (.builtin "BaseException.__getattribute__")))
    (x2BadWish : PySem.W.findIn K (.ref CBadWish) "__getattr__" = some none)
    (x3BadWish : PySem.W.hasDictIn K CBadWish = true)
    (e1BadWish : PySem.W.findIn K (.ref CBadWish) "__class__" = some (some (.builtin "object.__class__")))
    (e2BadWish : PySem.W.mroIn K CBadWish (.type "object") = some true)
    (p1BadWish : PySem.W.subIn K (.ref CBadWish) (.ref C0) = some true)
    (p2BadWish : PySem.W.subIn K (.ref CBadWish) (.type "ValueError") = some true)
    (aCBadWidth : PySem.W.nsIn K mainGlobals "BadWidth" = some (some (.ref CBadWidth)))
    (aBadWidth : PySem.W.findIn K (.ref CBadWidth) "__init__" = some (some (.ref fBadWidth)))
    (lBadWidth : K.lookup fBadWidth = some ⟨ocBadWidth, odBadWidth, .func (PySem.W.fnOf "__init__" "BadWidth.__init__" (defArgs s_BadWidth_init) (defBody s_BadWidth_init) (defScope s_BadWidth_init) .none kVBadWidth dcBadWidth pmBadWidth anBadWidth cdBadWidth ctBadWidth), slBadWidth⟩)
    (cBadWidth : PySem.W.codeIn K cdBadWidth "BadWidth.__init__" = true)
    (kBadWidth : PySem.W.keepIn K (.ref fBadWidth) = true)
    (n0BadWidth : PySem.W.findIn K (.ref CBadWidth) "width" = some none)
    (tBadWidth : PySem.W.typeIn K (.ref fBadWidth) = some (.type "function"))
    (g4BadWidth : PySem.W.findIn K (.ref CBadWidth) "__setattr__" = some (some (.builtin "object.__setattr__")))
    (m2BadWidth : PySem.W.keepIn K (.ref CBadWidth) = true)
    (o1BadWidth : K.lookup CBadWidth = some (excClassObj nmBadWidth qBadWidth CBadWidth NBadWidth bsBadWidth bmBadWidth true snBadWidth suBadWidth abBadWidth colBadWidth ddBadWidth k0BadWidth k1BadWidth k2BadWidth k3BadWidth k5BadWidth "ValueError.__new__"))
    (o2BadWidth : PySem.HandSPX.refsVE bmBadWidth = true)
    (o3BadWidth : PySem.W.subIn K (.ref CBadWidth) (.type "BaseException") = some true)
    (o4BadWidth : PySem.W.typeIn K (.ref CBadWidth) = some (.type "type"))
    (x1BadWidth : PySem.W.findIn K (.ref CBadWidth) "__getattribute__" = some (some (.builtin "BaseException.__getattribute__")))
    (x2BadWidth : PySem.W.findIn K (.ref CBadWidth) "__getattr__" = some none)
    (x3BadWidth : PySem.W.hasDictIn K CBadWidth = true)
    (e1BadWidth : PySem.W.findIn K (.ref CBadWidth) "__class__" = some (some (.builtin "object.__class__")))
    (e2BadWidth : PySem.W.mroIn K CBadWidth (.type "object") = some true)
    (p1BadWidth : PySem.W.subIn K (.ref CBadWidth) (.ref C0) = some true)
    (p2BadWidth : PySem.W.subIn K (.ref CBadWidth) (.type "ValueError") = some true)
    (aCTooMany : PySem.W.nsIn K mainGlobals "TooMany" = some (some (.ref CTooMany)))
    (aTooMany : PySem.W.findIn K (.ref CTooMany) "__init__" = some (some (.ref fTooMany)))
    (lTooMany : K.lookup fTooMany = some ⟨ocTooMany, odTooMany, .func (PySem.W.fnOf "__init__" "TooMany.__init__" (defArgs s_TooMany_init) (defBody s_TooMany_init) (defScope s_TooMany_init) .none kVTooMany dcTooMany pmTooMany anTooMany cdTooMany ctTooMany), slTooMany⟩)
    (cTooMany : PySem.W.codeIn K cdTooMany "TooMany.__init__" = true)
    (kTooMany : PySem.W.keepIn K (.ref fTooMany) = true)
    (n0TooMany : PySem.W.findIn K (.ref CTooMany) "what" = some none)
    (n1TooMany : PySem.W.findIn K (.ref CTooMany) "many" = some none)
    (n2TooMany : PySem.W.findIn K (.ref CTooMany) "most" = some none)
    (tTooMany : PySem.W.typeIn K (.ref fTooMany) = some (.type "function"))
    (g4TooMany : PySem.W.findIn K (.ref CTooMany) "__setattr__" = some (some (.builtin "object.__setattr__")))
    (m2TooMany : PySem.W.keepIn K (.ref CTooMany) = true)
    (o1TooMany : K.lookup CTooMany = some (excClassObj nmTooMany qTooMany CTooMany NTooMany bsTooMany bmTooMany true snTooMany suTooMany abTooMany colTooMany ddTooMany k0TooMany k1TooMany k2TooMany k3TooMany k5TooMany "ValueError.__new__"))
    (o2TooMany : PySem.HandSPX.refsVE bmTooMany = true)
    (o3TooMany : PySem.W.subIn K (.ref CTooMany) (.type "BaseException") = some true)
    (o4TooMany : PySem.W.typeIn K (.ref CTooMany) = some (.type "type"))
    (x1TooMany : PySem.W.findIn K (.ref CTooMany) "__getattribute__" = some (some (.builtin "BaseException.__getattribute__")))
    (x2TooMany : PySem.W.findIn K (.ref CTooMany) "__getattr__" = some none)
    (x3TooMany : PySem.W.hasDictIn K CTooMany = true)
    (e1TooMany : PySem.W.findIn K (.ref CTooMany) "__class__" = some (some (.builtin "object.__class__")))
    (e2TooMany : PySem.W.mroIn K CTooMany (.type "object") = some true)
    (p1TooMany : PySem.W.subIn K (.ref CTooMany) (.ref C0) = some true)
    (p2TooMany : PySem.W.subIn K (.ref CTooMany) (.type "ValueError") = some true)
    (aCBadTree : PySem.W.nsIn K mainGlobals "BadTree" = some (some (.ref CBadTree)))
    (aBadTree : PySem.W.findIn K (.ref CBadTree) "__init__" = some (some (.ref fBadTree)))
    (lBadTree : K.lookup fBadTree = some ⟨ocBadTree, odBadTree, .func (PySem.W.fnOf "__init__" "BadTree.__init__" (defArgs s_BadTree_init) (defBody s_BadTree_init) (defScope s_BadTree_init) .none kVBadTree dcBadTree pmBadTree anBadTree cdBadTree ctBadTree), slBadTree⟩)
    (cBadTree : PySem.W.codeIn K cdBadTree "BadTree.__init__" = true)
    (kBadTree : PySem.W.keepIn K (.ref fBadTree) = true)
    (n0BadTree : PySem.W.findIn K (.ref CBadTree) "state" = some none)
    (n1BadTree : PySem.W.findIn K (.ref CBadTree) "node" = some none)
    (tBadTree : PySem.W.typeIn K (.ref fBadTree) = some (.type "function"))
    (g4BadTree : PySem.W.findIn K (.ref CBadTree) "__setattr__" = some (some (.builtin "object.__setattr__")))
    (m2BadTree : PySem.W.keepIn K (.ref CBadTree) = true)
    (o1BadTree : K.lookup CBadTree = some (excClassObj nmBadTree qBadTree CBadTree NBadTree bsBadTree bmBadTree true snBadTree suBadTree abBadTree colBadTree ddBadTree k0BadTree k1BadTree k2BadTree k3BadTree k5BadTree "ValueError.__new__"))
    (o2BadTree : PySem.HandSPX.refsVE bmBadTree = true)
    (o3BadTree : PySem.W.subIn K (.ref CBadTree) (.type "BaseException") = some true)
    (o4BadTree : PySem.W.typeIn K (.ref CBadTree) = some (.type "type"))
    (x1BadTree : PySem.W.findIn K (.ref CBadTree) "__getattribute__" = some (some (.builtin "BaseException.__getattribute__")))
    (x2BadTree : PySem.W.findIn K (.ref CBadTree) "__getattr__" = some none)
    (x3BadTree : PySem.W.hasDictIn K CBadTree = true)
    (e1BadTree : PySem.W.findIn K (.ref CBadTree) "__class__" = some (some (.builtin "object.__class__")))
    (e2BadTree : PySem.W.mroIn K CBadTree (.type "object") = some true)
    (p1BadTree : PySem.W.subIn K (.ref CBadTree) (.ref C0) = some true)
    (p2BadTree : PySem.W.subIn K (.ref CBadTree) (.type "ValueError") = some true)
    (aCBadLine : PySem.W.nsIn K mainGlobals "BadLine" = some (some (.ref CBadLine)))
    (aBadLine : PySem.W.findIn K (.ref CBadLine) "__init__" = some (some (.ref fBadLine)))
    (lBadLine : K.lookup fBadLine = some ⟨ocBadLine, odBadLine, .func (PySem.W.fnOf "__init__" "BadLine.__init__" (defArgs s_BadLine_init) (defBody s_BadLine_init) (defScope s_BadLine_init) .none kVBadLine dcBadLine pmBadLine anBadLine cdBadLine ctBadLine), slBadLine⟩)
    (cBadLine : PySem.W.codeIn K cdBadLine "BadLine.__init__" = true)
    (kBadLine : PySem.W.keepIn K (.ref fBadLine) = true)
    (n0BadLine : PySem.W.findIn K (.ref CBadLine) "line" = some none)
    (tBadLine : PySem.W.typeIn K (.ref fBadLine) = some (.type "function"))
    (g4BadLine : PySem.W.findIn K (.ref CBadLine) "__setattr__" = some (some (.builtin "object.__setattr__")))
    (m2BadLine : PySem.W.keepIn K (.ref CBadLine) = true)
    (o1BadLine : K.lookup CBadLine = some (excClassObj nmBadLine qBadLine CBadLine NBadLine bsBadLine bmBadLine true snBadLine suBadLine abBadLine colBadLine ddBadLine k0BadLine k1BadLine k2BadLine k3BadLine k5BadLine "ValueError.__new__"))
    (o2BadLine : PySem.HandSPX.refsVE bmBadLine = true)
    (o3BadLine : PySem.W.subIn K (.ref CBadLine) (.type "BaseException") = some true)
    (o4BadLine : PySem.W.typeIn K (.ref CBadLine) = some (.type "type"))
    (x1BadLine : PySem.W.findIn K (.ref CBadLine) "__getattribute__" = some (some (.builtin "BaseException.__getattribute__")))
    (x2BadLine : PySem.W.findIn K (.ref CBadLine) "__getattr__" = some none)
    (x3BadLine : PySem.W.hasDictIn K CBadLine = true)
    (e1BadLine : PySem.W.findIn K (.ref CBadLine) "__class__" = some (some (.builtin "object.__class__")))
    (e2BadLine : PySem.W.mroIn K CBadLine (.type "object") = some true)
    (p1BadLine : PySem.W.subIn K (.ref CBadLine) (.ref C0) = some true)
    (p2BadLine : PySem.W.subIn K (.ref CBadLine) (.type "ValueError") = some true)
    (aCBadWay : PySem.W.nsIn K mainGlobals "BadWay" = some (some (.ref CBadWay)))
    (aBadWay : PySem.W.findIn K (.ref CBadWay) "__init__" = some (some (.ref fBadWay)))
    (lBadWay : K.lookup fBadWay = some ⟨ocBadWay, odBadWay, .func (PySem.W.fnOf "__init__" "BadWay.__init__" (defArgs s_BadWay_init) (defBody s_BadWay_init) (defScope s_BadWay_init) .none kVBadWay dcBadWay pmBadWay anBadWay cdBadWay ctBadWay), slBadWay⟩)
    (cBadWay : PySem.W.codeIn K cdBadWay "BadWay.__init__" = true)
    (kBadWay : PySem.W.keepIn K (.ref fBadWay) = true)
    (n0BadWay : PySem.W.findIn K (.ref CBadWay) "way" = some none)
    (tBadWay : PySem.W.typeIn K (.ref fBadWay) = some (.type "function"))
    (g4BadWay : PySem.W.findIn K (.ref CBadWay) "__setattr__" = some (some (.builtin "object.__setattr__")))
    (m2BadWay : PySem.W.keepIn K (.ref CBadWay) = true)
    (o1BadWay : K.lookup CBadWay = some (excClassObj nmBadWay qBadWay CBadWay NBadWay bsBadWay bmBadWay true snBadWay suBadWay abBadWay colBadWay ddBadWay k0BadWay k1BadWay k2BadWay k3BadWay k5BadWay "ValueError.__new__"))
    (o2BadWay : PySem.HandSPX.refsVE bmBadWay = true)
    (o3BadWay : PySem.W.subIn K (.ref CBadWay) (.type "BaseException") = some true)
    (o4BadWay : PySem.W.typeIn K (.ref CBadWay) = some (.type "type"))
    (x1BadWay : PySem.W.findIn K (.ref CBadWay) "__getattribute__" = some (some (.builtin "BaseException.__getattribute__")))
    (x2BadWay : PySem.W.findIn K (.ref CBadWay) "__getattr__" = some none)
    (x3BadWay : PySem.W.hasDictIn K CBadWay = true)
    (e1BadWay : PySem.W.findIn K (.ref CBadWay) "__class__" = some (some (.builtin "object.__class__")))
    (e2BadWay : PySem.W.mroIn K CBadWay (.type "object") = some true)
    (p1BadWay : PySem.W.subIn K (.ref CBadWay) (.ref C0) = some true)
    (p2BadWay : PySem.W.subIn K (.ref CBadWay) (.type "ValueError") = some true)
    (aCOtherLetters : PySem.W.nsIn K mainGlobals "OtherLetters" = some (some (.ref COtherLetters)))
    (aOtherLetters : PySem.W.findIn K (.ref COtherLetters) "__init__" = some (some (.builtin "ValueError.__init__")))
    (g4OtherLetters : PySem.W.findIn K (.ref COtherLetters) "__setattr__" = some (some (.builtin "object.__setattr__")))
    (m2OtherLetters : PySem.W.keepIn K (.ref COtherLetters) = true)
    (o1OtherLetters : K.lookup COtherLetters = some (excClassObj nmOtherLetters qOtherLetters COtherLetters NOtherLetters bsOtherLetters bmOtherLetters true snOtherLetters suOtherLetters abOtherLetters colOtherLetters ddOtherLetters k0OtherLetters k1OtherLetters k2OtherLetters k3OtherLetters k5OtherLetters "ValueError.__new__"))
    (o2OtherLetters : PySem.HandSPX.refsVE bmOtherLetters = true)
    (o3OtherLetters : PySem.W.subIn K (.ref COtherLetters) (.type "BaseException") = some true)
    (o4OtherLetters : PySem.W.typeIn K (.ref COtherLetters) = some (.type "type"))
    (x1OtherLetters : PySem.W.findIn K (.ref COtherLetters) "__getattribute__" = some (some (.builtin "BaseException.__getattribute__")))
    (x2OtherLetters : PySem.W.findIn K (.ref COtherLetters) "__getattr__" = some none)
    (x3OtherLetters : PySem.W.hasDictIn K COtherLetters = true)
    (e1OtherLetters : PySem.W.findIn K (.ref COtherLetters) "__class__" = some (some (.builtin "object.__class__")))
    (e2OtherLetters : PySem.W.mroIn K COtherLetters (.type "object") = some true)
    (p1OtherLetters : PySem.W.subIn K (.ref COtherLetters) (.ref C0) = some true)
    (p2OtherLetters : PySem.W.subIn K (.ref COtherLetters) (.type "ValueError") = some true)
    (aCOtherWidth : PySem.W.nsIn K mainGlobals "OtherWidth" = some (some (.ref COtherWidth)))
    (aOtherWidth : PySem.W.findIn K (.ref COtherWidth) "__init__" = some (some (.builtin "ValueError.__init__")))
    (g4OtherWidth : PySem.W.findIn K (.ref COtherWidth) "__setattr__" = some (some (.builtin "object.__setattr__")))
    (m2OtherWidth : PySem.W.keepIn K (.ref COtherWidth) = true)
    (o1OtherWidth : K.lookup COtherWidth = some (excClassObj nmOtherWidth qOtherWidth COtherWidth NOtherWidth bsOtherWidth bmOtherWidth true snOtherWidth suOtherWidth abOtherWidth colOtherWidth ddOtherWidth k0OtherWidth k1OtherWidth k2OtherWidth k3OtherWidth k5OtherWidth "ValueError.__new__"))
    (o2OtherWidth : PySem.HandSPX.refsVE bmOtherWidth = true)
    (o3OtherWidth : PySem.W.subIn K (.ref COtherWidth) (.type "BaseException") = some true)
    (o4OtherWidth : PySem.W.typeIn K (.ref COtherWidth) = some (.type "type"))
    (x1OtherWidth : PySem.W.findIn K (.ref COtherWidth) "__getattribute__" = some (some (.builtin "BaseException.__getattribute__")))
    (x2OtherWidth : PySem.W.findIn K (.ref COtherWidth) "__getattr__" = some none)
    (x3OtherWidth : PySem.W.hasDictIn K COtherWidth = true)
    (e1OtherWidth : PySem.W.findIn K (.ref COtherWidth) "__class__" = some (some (.builtin "object.__class__")))
    (e2OtherWidth : PySem.W.mroIn K COtherWidth (.type "object") = some true)
    (p1OtherWidth : PySem.W.subIn K (.ref COtherWidth) (.ref C0) = some true)
    (p2OtherWidth : PySem.W.subIn K (.ref COtherWidth) (.type "ValueError") = some true)
    (aCBadRule : PySem.W.nsIn K mainGlobals "BadRule" = some (some (.ref CBadRule)))
    (aBadRule : PySem.W.findIn K (.ref CBadRule) "__init__" = some (some (.ref fBadRule)))
    (lBadRule : K.lookup fBadRule = some ⟨ocBadRule, odBadRule, .func (PySem.W.fnOf "__init__" "BadRule.__init__" (defArgs s_BadRule_init) (defBody s_BadRule_init) (defScope s_BadRule_init) .none kVBadRule dcBadRule pmBadRule anBadRule cdBadRule ctBadRule), slBadRule⟩)
    (cBadRule : PySem.W.codeIn K cdBadRule "BadRule.__init__" = true)
    (kBadRule : PySem.W.keepIn K (.ref fBadRule) = true)
    (n0BadRule : PySem.W.findIn K (.ref CBadRule) "name" = some none)
    (tBadRule : PySem.W.typeIn K (.ref fBadRule) = some (.type "function"))
    (g4BadRule : PySem.W.findIn K (.ref CBadRule) "__setattr__" = some (some (.builtin "object.__setattr__")))
    (m2BadRule : PySem.W.keepIn K (.ref CBadRule) = true)
    (o1BadRule : K.lookup CBadRule = some (excClassObj nmBadRule qBadRule CBadRule NBadRule bsBadRule bmBadRule true snBadRule suBadRule abBadRule colBadRule ddBadRule k0BadRule k1BadRule k2BadRule k3BadRule k5BadRule "ValueError.__new__"))
    (o2BadRule : PySem.HandSPX.refsVE bmBadRule = true)
    (o3BadRule : PySem.W.subIn K (.ref CBadRule) (.type "BaseException") = some true)
    (o4BadRule : PySem.W.typeIn K (.ref CBadRule) = some (.type "type"))
    (x1BadRule : PySem.W.findIn K (.ref CBadRule) "__getattribute__" = some (some (.builtin "BaseException.__getattribute__")))
    (x2BadRule : PySem.W.findIn K (.ref CBadRule) "__getattr__" = some none)
    (x3BadRule : PySem.W.hasDictIn K CBadRule = true)
    (e1BadRule : PySem.W.findIn K (.ref CBadRule) "__class__" = some (some (.builtin "object.__class__")))
    (e2BadRule : PySem.W.mroIn K CBadRule (.type "object") = some true)
    (p1BadRule : PySem.W.subIn K (.ref CBadRule) (.ref C0) = some true)
    (p2BadRule : PySem.W.subIn K (.ref CBadRule) (.type "ValueError") = some true)
    (aCRing : PySem.W.nsIn K mainGlobals "Ring" = some (some (.ref CRing)))
    (aRing : PySem.W.findIn K (.ref CRing) "__init__" = some (some (.ref fRing)))
    (lRing : K.lookup fRing = some ⟨ocRing, odRing, .func (PySem.W.fnOf "__init__" "Ring.__init__" (defArgs s_Ring_init) (defBody s_Ring_init) (defScope s_Ring_init) .none kVRing dcRing pmRing anRing cdRing ctRing), slRing⟩)
    (cRing : PySem.W.codeIn K cdRing "Ring.__init__" = true)
    (kRing : PySem.W.keepIn K (.ref fRing) = true)
    (n0Ring : PySem.W.findIn K (.ref CRing) "name" = some none)
    (tRing : PySem.W.typeIn K (.ref fRing) = some (.type "function"))
    (g4Ring : PySem.W.findIn K (.ref CRing) "__setattr__" = some (some (.builtin "object.__setattr__")))
    (m2Ring : PySem.W.keepIn K (.ref CRing) = true)
    (o1Ring : K.lookup CRing = some (excClassObj nmRing qRing CRing NRing bsRing bmRing true snRing suRing abRing colRing ddRing k0Ring k1Ring k2Ring k3Ring k5Ring "ValueError.__new__"))
    (o2Ring : PySem.HandSPX.refsVE bmRing = true)
    (o3Ring : PySem.W.subIn K (.ref CRing) (.type "BaseException") = some true)
    (o4Ring : PySem.W.typeIn K (.ref CRing) = some (.type "type"))
    (x1Ring : PySem.W.findIn K (.ref CRing) "__getattribute__" = some (some (.builtin "BaseException.__getattribute__")))
    (x2Ring : PySem.W.findIn K (.ref CRing) "__getattr__" = some none)
    (x3Ring : PySem.W.hasDictIn K CRing = true)
    (e1Ring : PySem.W.findIn K (.ref CRing) "__class__" = some (some (.builtin "object.__class__")))
    (e2Ring : PySem.W.mroIn K CRing (.type "object") = some true)
    (p1Ring : PySem.W.subIn K (.ref CRing) (.ref C0) = some true)
    (p2Ring : PySem.W.subIn K (.ref CRing) (.type "ValueError") = some true)
    (aCNoRule : PySem.W.nsIn K mainGlobals "NoRule" = some (some (.ref CNoRule)))
    (aNoRule : PySem.W.findIn K (.ref CNoRule) "__init__" = some (some (.ref fNoRule)))
    (lNoRule : K.lookup fNoRule = some ⟨ocNoRule, odNoRule, .func (PySem.W.fnOf "__init__" "NoRule.__init__" (defArgs s_NoRule_init) (defBody s_NoRule_init) (defScope s_NoRule_init) .none kVNoRule dcNoRule pmNoRule anNoRule cdNoRule ctNoRule), slNoRule⟩)
    (cNoRule : PySem.W.codeIn K cdNoRule "NoRule.__init__" = true)
    (kNoRule : PySem.W.keepIn K (.ref fNoRule) = true)
    (n0NoRule : PySem.W.findIn K (.ref CNoRule) "root" = some none)
    (tNoRule : PySem.W.typeIn K (.ref fNoRule) = some (.type "function"))
    (g4NoRule : PySem.W.findIn K (.ref CNoRule) "__setattr__" = some (some (.builtin "object.__setattr__")))
    (m2NoRule : PySem.W.keepIn K (.ref CNoRule) = true)
    (o1NoRule : K.lookup CNoRule = some (excClassObj nmNoRule qNoRule CNoRule NNoRule bsNoRule bmNoRule true snNoRule suNoRule abNoRule colNoRule ddNoRule k0NoRule k1NoRule k2NoRule k3NoRule k5NoRule "ValueError.__new__"))
    (o2NoRule : PySem.HandSPX.refsVE bmNoRule = true)
    (o3NoRule : PySem.W.subIn K (.ref CNoRule) (.type "BaseException") = some true)
    (o4NoRule : PySem.W.typeIn K (.ref CNoRule) = some (.type "type"))
    (x1NoRule : PySem.W.findIn K (.ref CNoRule) "__getattribute__" = some (some (.builtin "BaseException.__getattribute__")))
    (x2NoRule : PySem.W.findIn K (.ref CNoRule) "__getattr__" = some none)
    (x3NoRule : PySem.W.hasDictIn K CNoRule = true)
    (e1NoRule : PySem.W.findIn K (.ref CNoRule) "__class__" = some (some (.builtin "object.__class__")))
    (e2NoRule : PySem.W.mroIn K CNoRule (.type "object") = some true)
    (p1NoRule : PySem.W.subIn K (.ref CNoRule) (.ref C0) = some true)
    (p2NoRule : PySem.W.subIn K (.ref CNoRule) (.type "ValueError") = some true)
    (aCBadPlace : PySem.W.nsIn K mainGlobals "BadPlace" = some (some (.ref CBadPlace)))
    (aBadPlace : PySem.W.findIn K (.ref CBadPlace) "__init__" = some (some (.ref fBadPlace)))
    (lBadPlace : K.lookup fBadPlace = some ⟨ocBadPlace, odBadPlace, .func (PySem.W.fnOf "__init__" "BadPlace.__init__" (defArgs s_BadPlace_init) (defBody s_BadPlace_init) (defScope s_BadPlace_init) .none kVBadPlace dcBadPlace pmBadPlace anBadPlace cdBadPlace ctBadPlace), slBadPlace⟩)
    (cBadPlace : PySem.W.codeIn K cdBadPlace "BadPlace.__init__" = true)
    (kBadPlace : PySem.W.keepIn K (.ref fBadPlace) = true)
    (n0BadPlace : PySem.W.findIn K (.ref CBadPlace) "number" = some none)
    (tBadPlace : PySem.W.typeIn K (.ref fBadPlace) = some (.type "function"))
    (g4BadPlace : PySem.W.findIn K (.ref CBadPlace) "__setattr__" = some (some (.builtin "object.__setattr__")))
    (m2BadPlace : PySem.W.keepIn K (.ref CBadPlace) = true)
    (o1BadPlace : K.lookup CBadPlace = some (excClassObj nmBadPlace qBadPlace CBadPlace NBadPlace bsBadPlace bmBadPlace true snBadPlace suBadPlace abBadPlace colBadPlace ddBadPlace k0BadPlace k1BadPlace k2BadPlace k3BadPlace k5BadPlace "ValueError.__new__"))
    (o2BadPlace : PySem.HandSPX.refsVE bmBadPlace = true)
    (o3BadPlace : PySem.W.subIn K (.ref CBadPlace) (.type "BaseException") = some true)
    (o4BadPlace : PySem.W.typeIn K (.ref CBadPlace) = some (.type "type"))
    (x1BadPlace : PySem.W.findIn K (.ref CBadPlace) "__getattribute__" = some (some (.builtin "BaseException.__getattribute__")))
    (x2BadPlace : PySem.W.findIn K (.ref CBadPlace) "__getattr__" = some none)
    (x3BadPlace : PySem.W.hasDictIn K CBadPlace = true)
    (e1BadPlace : PySem.W.findIn K (.ref CBadPlace) "__class__" = some (some (.builtin "object.__class__")))
    (e2BadPlace : PySem.W.mroIn K CBadPlace (.type "object") = some true)
    (p1BadPlace : PySem.W.subIn K (.ref CBadPlace) (.ref C0) = some true)
    (p2BadPlace : PySem.W.subIn K (.ref CBadPlace) (.type "ValueError") = some true)
    (aCBadOver : PySem.W.nsIn K mainGlobals "BadOver" = some (some (.ref CBadOver)))
    (aBadOver : PySem.W.findIn K (.ref CBadOver) "__init__" = some (some (.builtin "ValueError.__init__")))
    (g4BadOver : PySem.W.findIn K (.ref CBadOver) "__setattr__" = some (some (.builtin "object.__setattr__")))
    (m2BadOver : PySem.W.keepIn K (.ref CBadOver) = true)
    (o1BadOver : K.lookup CBadOver = some (excClassObj nmBadOver qBadOver CBadOver NBadOver bsBadOver bmBadOver true snBadOver suBadOver abBadOver colBadOver ddBadOver k0BadOver k1BadOver k2BadOver k3BadOver k5BadOver "ValueError.__new__"))
    (o2BadOver : PySem.HandSPX.refsVE bmBadOver = true)
    (o3BadOver : PySem.W.subIn K (.ref CBadOver) (.type "BaseException") = some true)
    (o4BadOver : PySem.W.typeIn K (.ref CBadOver) = some (.type "type"))
    (x1BadOver : PySem.W.findIn K (.ref CBadOver) "__getattribute__" = some (some (.builtin "BaseException.__getattribute__")))
    (x2BadOver : PySem.W.findIn K (.ref CBadOver) "__getattr__" = some none)
    (x3BadOver : PySem.W.hasDictIn K CBadOver = true)
    (e1BadOver : PySem.W.findIn K (.ref CBadOver) "__class__" = some (some (.builtin "object.__class__")))
    (e2BadOver : PySem.W.mroIn K CBadOver (.type "object") = some true)
    (p1BadOver : PySem.W.subIn K (.ref CBadOver) (.ref C0) = some true)
    (p2BadOver : PySem.W.subIn K (.ref CBadOver) (.type "ValueError") = some true)
    (aCBadSize : PySem.W.nsIn K mainGlobals "BadSize" = some (some (.ref CBadSize)))
    (aBadSize : PySem.W.findIn K (.ref CBadSize) "__init__" = some (some (.ref fBadSize)))
    (lBadSize : K.lookup fBadSize = some ⟨ocBadSize, odBadSize, .func (PySem.W.fnOf "__init__" "BadSize.__init__" (defArgs s_BadSize_init) (defBody s_BadSize_init) (defScope s_BadSize_init) .none kVBadSize dcBadSize pmBadSize anBadSize cdBadSize ctBadSize), slBadSize⟩)
    (cBadSize : PySem.W.codeIn K cdBadSize "BadSize.__init__" = true)
    (kBadSize : PySem.W.keepIn K (.ref fBadSize) = true)
    (n0BadSize : PySem.W.findIn K (.ref CBadSize) "size" = some none)
    (tBadSize : PySem.W.typeIn K (.ref fBadSize) = some (.type "function"))
    (g4BadSize : PySem.W.findIn K (.ref CBadSize) "__setattr__" = some (some (.builtin "object.__setattr__")))
    (m2BadSize : PySem.W.keepIn K (.ref CBadSize) = true)
    (o1BadSize : K.lookup CBadSize = some (excClassObj nmBadSize qBadSize CBadSize NBadSize bsBadSize bmBadSize true snBadSize suBadSize abBadSize colBadSize ddBadSize k0BadSize k1BadSize k2BadSize k3BadSize k5BadSize "ValueError.__new__"))
    (o2BadSize : PySem.HandSPX.refsVE bmBadSize = true)
    (o3BadSize : PySem.W.subIn K (.ref CBadSize) (.type "BaseException") = some true)
    (o4BadSize : PySem.W.typeIn K (.ref CBadSize) = some (.type "type"))
    (x1BadSize : PySem.W.findIn K (.ref CBadSize) "__getattribute__" = some (some (.builtin "BaseException.__getattribute__")))
    (x2BadSize : PySem.W.findIn K (.ref CBadSize) "__getattr__" = some none)
    (x3BadSize : PySem.W.hasDictIn K CBadSize = true)
    (e1BadSize : PySem.W.findIn K (.ref CBadSize) "__class__" = some (some (.builtin "object.__class__")))
    (e2BadSize : PySem.W.mroIn K CBadSize (.type "object") = some true)
    (p1BadSize : PySem.W.subIn K (.ref CBadSize) (.ref C0) = some true)
    (p2BadSize : PySem.W.subIn K (.ref CBadSize) (.type "ValueError") = some true)
    (aCBadOrder : PySem.W.nsIn K mainGlobals "BadOrder" = some (some (.ref CBadOrder)))
    (aBadOrder : PySem.W.findIn K (.ref CBadOrder) "__init__" = some (some (.ref fBadOrder)))
    (lBadOrder : K.lookup fBadOrder = some ⟨ocBadOrder, odBadOrder, .func (PySem.W.fnOf "__init__" "BadOrder.__init__" (defArgs s_BadOrder_init) (defBody s_BadOrder_init) (defScope s_BadOrder_init) .none kVBadOrder dcBadOrder pmBadOrder anBadOrder cdBadOrder ctBadOrder), slBadOrder⟩)
    (cBadOrder : PySem.W.codeIn K cdBadOrder "BadOrder.__init__" = true)
    (kBadOrder : PySem.W.keepIn K (.ref fBadOrder) = true)
    (n0BadOrder : PySem.W.findIn K (.ref CBadOrder) "order" = some none)
    (tBadOrder : PySem.W.typeIn K (.ref fBadOrder) = some (.type "function"))
    (g4BadOrder : PySem.W.findIn K (.ref CBadOrder) "__setattr__" = some (some (.builtin "object.__setattr__")))
    (m2BadOrder : PySem.W.keepIn K (.ref CBadOrder) = true)
    (o1BadOrder : K.lookup CBadOrder = some (excClassObj nmBadOrder qBadOrder CBadOrder NBadOrder bsBadOrder bmBadOrder true snBadOrder suBadOrder abBadOrder colBadOrder ddBadOrder k0BadOrder k1BadOrder k2BadOrder k3BadOrder k5BadOrder "ValueError.__new__"))
    (o2BadOrder : PySem.HandSPX.refsVE bmBadOrder = true)
    (o3BadOrder : PySem.W.subIn K (.ref CBadOrder) (.type "BaseException") = some true)
    (o4BadOrder : PySem.W.typeIn K (.ref CBadOrder) = some (.type "type"))
    (x1BadOrder : PySem.W.findIn K (.ref CBadOrder) "__getattribute__" = some (some (.builtin "BaseException.__getattribute__")))
    (x2BadOrder : PySem.W.findIn K (.ref CBadOrder) "__getattr__" = some none)
    (x3BadOrder : PySem.W.hasDictIn K CBadOrder = true)
    (e1BadOrder : PySem.W.findIn K (.ref CBadOrder) "__class__" = some (some (.builtin "object.__class__")))
    (e2BadOrder : PySem.W.mroIn K CBadOrder (.type "object") = some true)
    (p1BadOrder : PySem.W.subIn K (.ref CBadOrder) (.ref C0) = some true)
    (p2BadOrder : PySem.W.subIn K (.ref CBadOrder) (.type "ValueError") = some true)
    (aCNoJoint : PySem.W.nsIn K mainGlobals "NoJoint" = some (some (.ref CNoJoint)))
    (aNoJoint : PySem.W.findIn K (.ref CNoJoint) "__init__" = some (some (.ref fNoJoint)))
    (lNoJoint : K.lookup fNoJoint = some ⟨ocNoJoint, odNoJoint, .func (PySem.W.fnOf "__init__" "NoJoint.__init__" (defArgs s_NoJoint_init) (defBody s_NoJoint_init) (defScope s_NoJoint_init) .none kVNoJoint dcNoJoint pmNoJoint anNoJoint cdNoJoint ctNoJoint), slNoJoint⟩)
    (cNoJoint : PySem.W.codeIn K cdNoJoint "NoJoint.__init__" = true)
    (kNoJoint : PySem.W.keepIn K (.ref fNoJoint) = true)
    (n0NoJoint : PySem.W.findIn K (.ref CNoJoint) "joint" = some none)
    (tNoJoint : PySem.W.typeIn K (.ref fNoJoint) = some (.type "function"))
    (g4NoJoint : PySem.W.findIn K (.ref CNoJoint) "__setattr__" = some (some (.builtin "object.__setattr__")))
    (m2NoJoint : PySem.W.keepIn K (.ref CNoJoint) = true)
    (o1NoJoint : K.lookup CNoJoint = some (excClassObj nmNoJoint qNoJoint CNoJoint NNoJoint bsNoJoint bmNoJoint true snNoJoint suNoJoint abNoJoint colNoJoint ddNoJoint k0NoJoint k1NoJoint k2NoJoint k3NoJoint k5NoJoint "ValueError.__new__"))
    (o2NoJoint : PySem.HandSPX.refsVE bmNoJoint = true)
    (o3NoJoint : PySem.W.subIn K (.ref CNoJoint) (.type "BaseException") = some true)
    (o4NoJoint : PySem.W.typeIn K (.ref CNoJoint) = some (.type "type"))
    (x1NoJoint : PySem.W.findIn K (.ref CNoJoint) "__getattribute__" = some (some (.builtin "BaseException.__getattribute__")))
    (x2NoJoint : PySem.W.findIn K (.ref CNoJoint) "__getattr__" = some none)
    (x3NoJoint : PySem.W.hasDictIn K CNoJoint = true)
    (e1NoJoint : PySem.W.findIn K (.ref CNoJoint) "__class__" = some (some (.builtin "object.__class__")))
    (e2NoJoint : PySem.W.mroIn K CNoJoint (.type "object") = some true)
    (p1NoJoint : PySem.W.subIn K (.ref CNoJoint) (.ref C0) = some true)
    (p2NoJoint : PySem.W.subIn K (.ref CNoJoint) (.type "ValueError") = some true)
    (aCNoPartial : PySem.W.nsIn K mainGlobals "NoPartial" = some (some (.ref CNoPartial)))
    (aNoPartial : PySem.W.findIn K (.ref CNoPartial) "__init__" = some (some (.ref fNoPartial)))
    (lNoPartial : K.lookup fNoPartial = some ⟨ocNoPartial, odNoPartial, .func (PySem.W.fnOf "__init__" "NoPartial.__init__" (defArgs s_NoPartial_init) (defBody s_NoPartial_init) (defScope s_NoPartial_init) .none kVNoPartial dcNoPartial pmNoPartial anNoPartial cdNoPartial ctNoPartial), slNoPartial⟩)
    (cNoPartial : PySem.W.codeIn K cdNoPartial "NoPartial.__init__" = true)
    (kNoPartial : PySem.W.keepIn K (.ref fNoPartial) = true)
    (n0NoPartial : PySem.W.findIn K (.ref CNoPartial) "partial" = some none)
    (tNoPartial : PySem.W.typeIn K (.ref fNoPartial) = some (.type "function"))
    (g4NoPartial : PySem.W.findIn K (.ref CNoPartial) "__setattr__" = some (some (.builtin "object.__setattr__")))
    (m2NoPartial : PySem.W.keepIn K (.ref CNoPartial) = true)
    (o1NoPartial : K.lookup CNoPartial = some (excClassObj nmNoPartial qNoPartial CNoPartial NNoPartial bsNoPartial bmNoPartial true snNoPartial suNoPartial abNoPartial colNoPartial ddNoPartial k0NoPartial k1NoPartial k2NoPartial k3NoPartial k5NoPartial "ValueError.__new__"))
    (o2NoPartial : PySem.HandSPX.refsVE bmNoPartial = true)
    (o3NoPartial : PySem.W.subIn K (.ref CNoPartial) (.type "BaseException") = some true)
    (o4NoPartial : PySem.W.typeIn K (.ref CNoPartial) = some (.type "type"))
    (x1NoPartial : PySem.W.findIn K (.ref CNoPartial) "__getattribute__" = some (some (.builtin "BaseException.__getattribute__")))
    (x2NoPartial : PySem.W.findIn K (.ref CNoPartial) "__getattr__" = some none)
    (x3NoPartial : PySem.W.hasDictIn K CNoPartial = true)
    (e1NoPartial : PySem.W.findIn K (.ref CNoPartial) "__class__" = some (some (.builtin "object.__class__")))
    (e2NoPartial : PySem.W.mroIn K CNoPartial (.type "object") = some true)
    (p1NoPartial : PySem.W.subIn K (.ref CNoPartial) (.ref C0) = some true)
    (p2NoPartial : PySem.W.subIn K (.ref CNoPartial) (.type "ValueError") = some true)
    (yBadLetters : PySem.W.isClsIn K CBadLetters = true)
    (yBadWords : PySem.W.isClsIn K CBadWords = true)
    (yBadText : PySem.W.isClsIn K CBadText = true)
    (yBadPlace : PySem.W.isClsIn K CBadPlace = true)
    (yRing : PySem.W.isClsIn K CRing = true)
    (yNoRule : PySem.W.isClsIn K CNoRule = true)
    (yOtherLetters : PySem.W.isClsIn K COtherLetters = true)
    (yOtherWidth : PySem.W.isClsIn K COtherWidth = true)
    (yTooMany : PySem.W.isClsIn K CTooMany = true)
    (w0BadLetters : PySem.W.subIn K (.ref CBadLetters) (.ref CBadLetters) = some true)
    (w1BadLetters : PySem.W.subIn K (.ref CBadLetters) (.ref CBadWords) = some false)
    (w2BadLetters : PySem.W.subIn K (.ref CBadLetters) (.ref CBadText) = some false)
    (w3BadLetters : PySem.W.subIn K (.ref CBadLetters) (.ref CBadPlace) = some false)
    (w4BadLetters : PySem.W.subIn K (.ref CBadLetters) (.ref CRing) = some false)
    (w5BadLetters : PySem.W.subIn K (.ref CBadLetters) (.ref CNoRule) = some false)
    (w6BadLetters : PySem.W.subIn K (.ref CBadLetters) (.ref COtherLetters) = some false)
    (w7BadLetters : PySem.W.subIn K (.ref CBadLetters) (.ref COtherWidth) = some false)
    (w8BadLetters : PySem.W.subIn K (.ref CBadLetters) (.ref CTooMany) = some false)
    (zBadLetters : (([CBadLetters, CBadWords, CBadText, CBadPlace, CRing, CNoRule, COtherLetters, COtherWidth, CTooMany].zip (one 0)).all fun p => p.2 || p.1 != CBadLetters) = true)
    (w0BadWords : PySem.W.subIn K (.ref CBadWords) (.ref CBadLetters) = some false)
    (w1BadWords : PySem.W.subIn K (.ref CBadWords) (.ref CBadWords) = some true)
    (w2BadWords : PySem.W.subIn K (.ref CBadWords) (.ref CBadText) = some false)
    (w3BadWords : PySem.W.subIn K (.ref CBadWords) (.ref CBadPlace) = some false)
    (w4BadWords : PySem.W.subIn K (.ref CBadWords) (.ref CRing) = some false)
    (w5BadWords : PySem.W.subIn K (.ref CBadWords) (.ref CNoRule) = some false)
    (w6BadWords : PySem.W.subIn K (.ref CBadWords) (.ref COtherLetters) = some false)
    (w7BadWords : PySem.W.subIn K (.ref CBadWords) (.ref COtherWidth) = some false)
    (w8BadWords : PySem.W.subIn K (.ref CBadWords) (.ref CTooMany) = some false)
    (zBadWords : (([CBadLetters, CBadWords, CBadText, CBadPlace, CRing, CNoRule, COtherLetters, COtherWidth, CTooMany].zip (one 1)).all fun p => p.2 || p.1 != CBadWords) = true)
    (w0BadText : PySem.W.subIn K (.ref CBadText) (.ref CBadLetters) = some false)
    (w1BadText : PySem.W.subIn K (.ref CBadText) (.ref CBadWords) = some false)
    (w2BadText : PySem.W.subIn K (.ref CBadText) (.ref CBadText) = some true)
    (w3BadText : PySem.W.subIn K (.ref CBadText) (.ref CBadPlace) = some false)
    (w4BadText : PySem.W.subIn K (.ref CBadText) (.ref CRing) = some false)
    (w5BadText : PySem.W.subIn K (.ref CBadText) (.ref CNoRule) = some false)
    (w6BadText : PySem.W.subIn K (.ref CBadText) (.ref COtherLetters) = some false)
    (w7BadText : PySem.W.subIn K (.ref CBadText) (.ref COtherWidth) = some false)
    (w8BadText : PySem.W.subIn K (.ref CBadText) (.ref CTooMany) = some false)
    (zBadText : (([CBadLetters, CBadWords, CBadText, CBadPlace, CRing, CNoRule, COtherLetters, COtherWidth, CTooMany].zip (one 2)).all fun p => p.2 || p.1 != CBadText) = true)
    (w0BadWish : PySem.W.subIn K (.ref CBadWish) (.ref CBadLetters) = some false)
    (w1BadWish : PySem.W.subIn K (.ref CBadWish) (.ref CBadWords) = some false)
    (w2BadWish : PySem.W.subIn K (.ref CBadWish) (.ref CBadText) = some false)
    (w3BadWish : PySem.W.subIn K (.ref CBadWish) (.ref CBadPlace) = some false)
    (w4BadWish : PySem.W.subIn K (.ref CBadWish) (.ref CRing) = some false)
    (w5BadWish : PySem.W.subIn K (.ref CBadWish) (.ref CNoRule) = some false)
    (w6BadWish : PySem.W.subIn K (.ref CBadWish) (.ref COtherLetters) = some false)
    (w7BadWish : PySem.W.subIn K (.ref CBadWish) (.ref COtherWidth) = some false)
    (w8BadWish : PySem.W.subIn K (.ref CBadWish) (.ref CTooMany) = some false)
    (zBadWish : (([CBadLetters, CBadWords, CBadText, CBadPlace, CRing, CNoRule, COtherLetters, COtherWidth, CTooMany].zip (one 9)).all fun p => p.2 || p.1 != CBadWish) = true)
    (w0BadWidth : PySem.W.subIn K (.ref CBadWidth) (.ref CBadLetters) = some false)
    (w1BadWidth : PySem.W.subIn K (.ref CBadWidth) (.ref CBadWords) = some false)
    (w2BadWidth : PySem.W.subIn K (.ref CBadWidth) (.ref CBadText) = some false)
    (w3BadWidth : PySem.W.subIn K (.ref CBadWidth) (.ref CBadPlace) = some false)
    (w4BadWidth : PySem.W.subIn K (.ref CBadWidth) (.ref CRing) = some false)
    (w5BadWidth : PySem.W.subIn K (.ref CBadWidth) (.ref CNoRule) = some false)
    (w6BadWidth : PySem.W.subIn K (.ref CBadWidth) (.ref COtherLetters) = some false)
    (w7BadWidth : PySem.W.subIn K (.ref CBadWidth) (.ref COtherWidth) = some false)
    (w8BadWidth : PySem.W.subIn K (.ref CBadWidth) (.ref CTooMany) = some false)
    (zBadWidth : (([CBadLetters, CBadWords, CBadText, CBadPlace, CRing, CNoRule, COtherLetters, COtherWidth, CTooMany].zip (one 9)).all fun p => p.2 || p.1 != CBadWidth) = true)
    (w0TooMany : PySem.W.subIn K (.ref CTooMany) (.ref CBadLetters) = some false)
    (w1TooMany : PySem.W.subIn K (.ref CTooMany) (.ref CBadWords) = some false)
    (w2TooMany : PySem.W.subIn K (.ref CTooMany) (.ref CBadText) = some false)
    (w3TooMany : PySem.W.subIn K (.ref CTooMany) (.ref CBadPlace) = some false)
    (w4TooMany : PySem.W.subIn K (.ref CTooMany) (.ref CRing) = some false)
    (w5TooMany : PySem.W.subIn K (.ref CTooMany) (.ref CNoRule) = some false)
    (w6TooMany : PySem.W.subIn K (.ref CTooMany) (.ref COtherLetters) = some false)
    (w7TooMany : PySem.W.subIn K (.ref CTooMany) (.ref COtherWidth) = some false)
    (w8TooMany : PySem.W.subIn K (.ref CTooMany) (.ref CTooMany) = some true)
    (zTooMany : (([CBadLetters, CBadWords, CBadText, CBadPlace, CRing, CNoRule, COtherLetters, COtherWidth, CTooMany].zip (one 8)).all fun p => p.2 || p.1 != CTooMany) = true)
    (w0BadTree : PySem.W.subIn K (.ref CBadTree) (.ref CBadLetters) = some false)
    (w1BadTree : PySem.W.subIn K (.ref CBadTree) (.ref CBadWords) = some false)
    (w2BadTree : PySem.W.subIn K (.ref CBadTree) (.ref CBadText) = some false)
    (w3BadTree : PySem.W.subIn K (.ref CBadTree) (.ref CBadPlace) = some false)
    (w4BadTree : PySem.W.subIn K (.ref CBadTree) (.ref CRing) = some false)
    (w5BadTree : PySem.W.subIn K (.ref CBadTree) (.ref CNoRule) = some false)
    (w6BadTree : PySem.W.subIn K (.ref CBadTree) (.ref COtherLetters) = some false)
    (w7BadTree : PySem.W.subIn K (.ref CBadTree) (.ref COtherWidth) = some false)
    (w8BadTree : PySem.W.subIn K (.ref CBadTree) (.ref CTooMany) = some false)
    (zBadTree : (([CBadLetters, CBadWords, CBadText, CBadPlace, CRing, CNoRule, COtherLetters, COtherWidth, CTooMany].zip (one 9)).all fun p => p.2 || p.1 != CBadTree) = true)
    (w0BadLine : PySem.W.subIn K (.ref CBadLine) (.ref CBadLetters) = some false)
    (w1BadLine : PySem.W.subIn K (.ref CBadLine) (.ref CBadWords) = some false)
    (w2BadLine : PySem.W.subIn K (.ref CBadLine) (.ref CBadText) = some false)
    (w3BadLine : PySem.W.subIn K (.ref CBadLine) (.ref CBadPlace) = some false)
    (w4BadLine : PySem.W.subIn K (.ref CBadLine) (.ref CRing) = some false)
    (w5BadLine : PySem.W.subIn K (.ref CBadLine) (.ref CNoRule) = some false)
    (w6BadLine : PySem.W.subIn K (.ref CBadLine) (.ref COtherLetters) = some false)
    (w7BadLine : PySem.W.subIn K (.ref CBadLine) (.ref COtherWidth) = some false)
    (w8BadLine : PySem.W.subIn K (.ref CBadLine) (.ref CTooMany) = some false)
    (zBadLine : (([CBadLetters, CBadWords, CBadText, CBadPlace, CRing, CNoRule, COtherLetters, COtherWidth, CTooMany].zip (one 9)).all fun p => p.2 || p.1 != CBadLine) = true)
    (w0BadWay : PySem.W.subIn K (.ref CBadWay) (.ref CBadLetters) = some false)
    (w1BadWay : PySem.W.subIn K (.ref CBadWay) (.ref CBadWords) = some false)
    (w2BadWay : PySem.W.subIn K (.ref CBadWay) (.ref CBadText) = some false)
    (w3BadWay : PySem.W.subIn K (.ref CBadWay) (.ref CBadPlace) = some false)
    (w4BadWay : PySem.W.subIn K (.ref CBadWay) (.ref CRing) = some false)
    (w5BadWay : PySem.W.subIn K (.ref CBadWay) (.ref CNoRule) = some false)
    (w6BadWay : PySem.W.subIn K (.ref CBadWay) (.ref COtherLetters) = some false)
    (w7BadWay : PySem.W.subIn K (.ref CBadWay) (.ref COtherWidth) = some false)
    (w8BadWay : PySem.W.subIn K (.ref CBadWay) (.ref CTooMany) = some false)
    (zBadWay : (([CBadLetters, CBadWords, CBadText, CBadPlace, CRing, CNoRule, COtherLetters, COtherWidth, CTooMany].zip (one 9)).all fun p => p.2 || p.1 != CBadWay) = true)
    (w0OtherLetters : PySem.W.subIn K (.ref COtherLetters) (.ref CBadLetters) = some false)
    (w1OtherLetters : PySem.W.subIn K (.ref COtherLetters) (.ref CBadWords) = some false)
    (w2OtherLetters : PySem.W.subIn K (.ref COtherLetters) (.ref CBadText) = some false)
    (w3OtherLetters : PySem.W.subIn K (.ref COtherLetters) (.ref CBadPlace) = some false)
    (w4OtherLetters : PySem.W.subIn K (.ref COtherLetters) (.ref CRing) = some false)
    (w5OtherLetters : PySem.W.subIn K (.ref COtherLetters) (.ref CNoRule) = some false)
    (w6OtherLetters : PySem.W.subIn K (.ref COtherLetters) (.ref COtherLetters) = some true)
    (w7OtherLetters : PySem.W.subIn K (.ref COtherLetters) (.ref COtherWidth) = some false)
    (w8OtherLetters : PySem.W.subIn K (.ref COtherLetters) (.ref CTooMany) = some false)
    (zOtherLetters : (([CBadLetters, CBadWords, CBadText, CBadPlace, CRing, CNoRule, COtherLetters, COtherWidth, CTooMany].zip (one 6)).all fun p => p.2 || p.1 != COtherLetters) = true)
    (w0OtherWidth : PySem.W.subIn K (.ref COtherWidth) (.ref CBadLetters) = some false)
    (w1OtherWidth : PySem.W.subIn K (.ref COtherWidth) (.ref CBadWords) = some false)
    (w2OtherWidth : PySem.W.subIn K (.ref COtherWidth) (.ref CBadText) = some false)
    (w3OtherWidth : PySem.W.subIn K (.ref COtherWidth) (.ref CBadPlace) = some false)
    (w4OtherWidth : PySem.W.subIn K (.ref COtherWidth) (.ref CRing) = some false)
    (w5OtherWidth : PySem.W.subIn K (.ref COtherWidth) (.ref CNoRule) = some false)
    (w6OtherWidth : PySem.W.subIn K (.ref COtherWidth) (.ref COtherLetters) = some false)
    (w7OtherWidth : PySem.W.subIn K (.ref COtherWidth) (.ref COtherWidth) = some true)
    (w8OtherWidth : PySem.W.subIn K (.ref COtherWidth) (.ref CTooMany) = some false)
    (zOtherWidth : (([CBadLetters, CBadWords, CBadText, CBadPlace, CRing, CNoRule, COtherLetters, COtherWidth, CTooMany].zip (one 7)).all fun p => p.2 || p.1 != COtherWidth) = true)
    (w0BadRule : PySem.W.subIn K (.ref CBadRule) (.ref CBadLetters) = some false)
    (w1BadRule : PySem.W.subIn K (.ref CBadRule) (.ref CBadWords) = some false)
    (w2BadRule : PySem.W.subIn K (.ref CBadRule) (.ref CBadText) = some false)
    (w3BadRule : PySem.W.subIn K (.ref CBadRule) (.ref CBadPlace) = some false)
    (w4BadRule : PySem.W.subIn K (.ref CBadRule) (.ref CRing) = some false)
    (w5BadRule : PySem.W.subIn K (.ref CBadRule) (.ref CNoRule) = some false)
    (w6BadRule : PySem.W.subIn K (.ref CBadRule) (.ref COtherLetters) = some false)
    (w7BadRule : PySem.W.subIn K (.ref CBadRule) (.ref COtherWidth) = some false)
    (w8BadRule : PySem.W.subIn K (.ref CBadRule) (.ref CTooMany) = some false)
    (zBadRule : (([CBadLetters, CBadWords, CBadText, CBadPlace, CRing, CNoRule, COtherLetters, COtherWidth, CTooMany].zip (one 9)).all fun p => p.2 || p.1 != CBadRule) = true)
    (w0Ring : PySem.W.subIn K (.ref CRing) (.ref CBadLetters) = some false)
    (w1Ring : PySem.W.subIn K (.ref CRing) (.ref CBadWords) = some false)
    (w2Ring : PySem.W.subIn K (.ref CRing) (.ref CBadText) = some false)
    (w3Ring : PySem.W.subIn K (.ref CRing) (.ref CBadPlace) = some false)
    (w4Ring : PySem.W.subIn K (.ref CRing) (.ref CRing) = some true)
    (w5Ring : PySem.W.subIn K (.ref CRing) (.ref CNoRule) = some false)
    (w6Ring : PySem.W.subIn K (.ref CRing) (.ref COtherLetters) = some false)
    (w7Ring : PySem.W.subIn K (.ref CRing) (.ref COtherWidth) = some false)
    (w8Ring : PySem.W.subIn K (.ref CRing) (.ref CTooMany) = some false)
    (zRing : (([CBadLetters, CBadWords, CBadText, CBadPlace, CRing, CNoRule, COtherLetters, COtherWidth, CTooMany].zip (one 4)).all fun p => p.2 || p.1 != CRing) = true)
    (w0NoRule : PySem.W.subIn K (.ref CNoRule) (.ref CBadLetters) = some false)
    (w1NoRule : PySem.W.subIn K (.ref CNoRule) (.ref CBadWords) = some false)
    (w2NoRule : PySem.W.subIn K (.ref CNoRule) (.ref CBadText) = some false)
    (w3NoRule : PySem.W.subIn K (.ref CNoRule) (.ref CBadPlace) = some false)
    (w4NoRule : PySem.W.subIn K (.ref CNoRule) (.ref CRing) = some false)
    (w5NoRule : PySem.W.subIn K (.ref CNoRule) (.ref CNoRule) = some true)
    (w6NoRule : PySem.W.subIn K (.ref CNoRule) (.ref COtherLetters) = some false)
    (w7NoRule : PySem.W.subIn K (.ref CNoRule) (.ref COtherWidth) = some false)
    (w8NoRule : PySem.W.subIn K (.ref CNoRule) (.ref CTooMany) = some false)
    (zNoRule : (([CBadLetters, CBadWords, CBadText, CBadPlace, CRing, CNoRule, COtherLetters, COtherWidth, CTooMany].zip (one 5)).all fun p => p.2 || p.1 != CNoRule) = true)
    (w0BadPlace : PySem.W.subIn K (.ref CBadPlace) (.ref CBadLetters) = some false)
    (w1BadPlace : PySem.W.subIn K (.ref CBadPlace) (.ref CBadWords) = some false)
    (w2BadPlace : PySem.W.subIn K (.ref CBadPlace) (.ref CBadText) = some false)
    (w3BadPlace : PySem.W.subIn K (.ref CBadPlace) (.ref CBadPlace) = some true)
    (w4BadPlace : PySem.W.subIn K (.ref CBadPlace) (.ref CRing) = some false)
    (w5BadPlace : PySem.W.subIn K (.ref CBadPlace) (.ref CNoRule) = some false)
    (w6BadPlace : PySem.W.subIn K (.ref CBadPlace) (.ref COtherLetters) = some false)
    (w7BadPlace : PySem.W.subIn K (.ref CBadPlace) (.ref COtherWidth) = some false)
    (w8BadPlace : PySem.W.subIn K (.ref CBadPlace) (.ref CTooMany) = some false)
    (zBadPlace : (([CBadLetters, CBadWords, CBadText, CBadPlace, CRing, CNoRule, COtherLetters, COtherWidth, CTooMany].zip (one 3)).all fun p => p.2 || p.1 != CBadPlace) = true)
    (w0BadOver : PySem.W.subIn K (.ref CBadOver) (.ref CBadLetters) = some false)
    (w1BadOver : PySem.W.subIn K (.ref CBadOver) (.ref CBadWords) = some false)
    (w2BadOver : PySem.W.subIn K (.ref CBadOver) (.ref CBadText) = some false)
    (w3BadOver : PySem.W.subIn K (.ref CBadOver) (.ref CBadPlace) = some false)
    (w4BadOver : PySem.W.subIn K (.ref CBadOver) (.ref CRing) = some false)
    (w5BadOver : PySem.W.subIn K (.ref CBadOver) (.ref CNoRule) = some false)
    (w6BadOver : PySem.W.subIn K (.ref CBadOver) (.ref COtherLetters) = some false)
    (w7BadOver : PySem.W.subIn K (.ref CBadOver) (.ref COtherWidth) = some false)
    (w8BadOver : PySem.W.subIn K (.ref CBadOver) (.ref CTooMany) = some false)
    (zBadOver : (([CBadLetters, CBadWords, CBadText, CBadPlace, CRing, CNoRule, COtherLetters, COtherWidth, CTooMany].zip (one 9)).all fun p => p.2 || p.1 != CBadOver) = true)
    (w0BadSize : PySem.W.subIn K (.ref CBadSize) (.ref CBadLetters) = some false)
    (w1BadSize : PySem.W.subIn K (.ref CBadSize) (.ref CBadWords) = some false)
    (w2BadSize : PySem.W.subIn K (.ref CBadSize) (.ref CBadText) = some false)
    (w3BadSize : PySem.W.subIn K (.ref CBadSize) (.ref CBadPlace) = some false)
    (w4BadSize : PySem.W.subIn K (.ref CBadSize) (.ref CRing) = some false)
    (w5BadSize : PySem.W.subIn K (.ref CBadSize) (.ref CNoRule) = some false)
    (w6BadSize : PySem.W.subIn K (.ref CBadSize) (.ref COtherLetters) = some false)
    (w7BadSize : PySem.W.subIn K (.ref CBadSize) (.ref COtherWidth) = some false)
    (w8BadSize : PySem.W.subIn K (.ref CBadSize) (.ref CTooMany) = some false)
    (zBadSize : (([CBadLetters, CBadWords, CBadText, CBadPlace, CRing, CNoRule, COtherLetters, COtherWidth, CTooMany].zip (one 9)).all fun p => p.2 || p.1 != CBadSize) = true)
    (w0BadOrder : PySem.W.subIn K (.ref CBadOrder) (.ref CBadLetters) = some false)
    (w1BadOrder : PySem.W.subIn K (.ref CBadOrder) (.ref CBadWords) = some false)
    (w2BadOrder : PySem.W.subIn K (.ref CBadOrder) (.ref CBadText) = some false)
    (w3BadOrder : PySem.W.subIn K (.ref CBadOrder) (.ref CBadPlace) = some false)
    (w4BadOrder : PySem.W.subIn K (.ref CBadOrder) (.ref CRing) = some false)
    (w5BadOrder : PySem.W.subIn K (.ref CBadOrder) (.ref CNoRule) = some false)
    (w6BadOrder : PySem.W.subIn K (.ref CBadOrder) (.ref COtherLetters) = some false)
    (w7BadOrder : PySem.W.subIn K (.ref CBadOrder) (.ref COtherWidth) = some false)
    (w8BadOrder : PySem.W.subIn K (.ref CBadOrder) (.ref CTooMany) = some false)
    (zBadOrder : (([CBadLetters, CBadWords, CBadText, CBadPlace, CRing, CNoRule, COtherLetters, COtherWidth, CTooMany].zip (one 9)).all fun p => p.2 || p.1 != CBadOrder) = true)
    (w0NoJoint : PySem.W.subIn K (.ref CNoJoint) (.ref CBadLetters) = some false)
    (w1NoJoint : PySem.W.subIn K (.ref CNoJoint) (.ref CBadWords) = some false)
    (w2NoJoint : PySem.W.subIn K (.ref CNoJoint) (.ref CBadText) = some false)
    (w3NoJoint : PySem.W.subIn K (.ref CNoJoint) (.ref CBadPlace) = some false)
    (w4NoJoint : PySem.W.subIn K (.ref CNoJoint) (.ref CRing) = some false)
    (w5NoJoint : PySem.W.subIn K (.ref CNoJoint) (.ref CNoRule) = some false)
    (w6NoJoint : PySem.W.subIn K (.ref CNoJoint) (.ref COtherLetters) = some false)
    (w7NoJoint : PySem.W.subIn K (.ref CNoJoint) (.ref COtherWidth) = some false)
    (w8NoJoint : PySem.W.subIn K (.ref CNoJoint) (.ref CTooMany) = some false)
    (zNoJoint : (([CBadLetters, CBadWords, CBadText, CBadPlace, CRing, CNoRule, COtherLetters, COtherWidth, CTooMany].zip (one 9)).all fun p => p.2 || p.1 != CNoJoint) = true)
    (w0NoPartial : PySem.W.subIn K (.ref CNoPartial) (.ref CBadLetters) = some false)
    (w1NoPartial : PySem.W.subIn K (.ref CNoPartial) (.ref CBadWords) = some false)
    (w2NoPartial : PySem.W.subIn K (.ref CNoPartial) (.ref CBadText) = some false)
    (w3NoPartial : PySem.W.subIn K (.ref CNoPartial) (.ref CBadPlace) = some false)
    (w4NoPartial : PySem.W.subIn K (.ref CNoPartial) (.ref CRing) = some false)
    (w5NoPartial : PySem.W.subIn K (.ref CNoPartial) (.ref CNoRule) = some false)
    (w6NoPartial : PySem.W.subIn K (.ref CNoPartial) (.ref COtherLetters) = some false)
    (w7NoPartial : PySem.W.subIn K (.ref CNoPartial) (.ref COtherWidth) = some false)
    (w8NoPartial : PySem.W.subIn K (.ref CNoPartial) (.ref CTooMany) = some false)
    (zNoPartial : (([CBadLetters, CBadWords, CBadText, CBadPlace, CRing, CNoRule, COtherLetters, COtherWidth, CTooMany].zip (one 9)).all fun p => p.2 || p.1 != CNoPartial) = true)
    (z0 : PySem.W.nsIn K mainGlobals "len" = some none)
    (z1 : PySem.W.nsIn K mainGlobals "int" = some none)
    (z2 : PySem.W.nsIn K mainGlobals "bool" = some none)
    (z3 : PySem.W.nsIn K mainGlobals "abs" = some none)
    (z4 : PySem.W.nsIn K mainGlobals "min" = some none)
    (z5 : PySem.W.nsIn K mainGlobals "list" = some none)
    (z6 : PySem.W.nsIn K mainGlobals "all" = some none)
    (z7 : PySem.W.nsIn K mainGlobals "range" = some none)
    (z8 : PySem.W.nsIn K mainGlobals "isinstance" = some none)
    (z9 : PySem.W.nsIn K mainGlobals "str" = some none)
    (z10 : PySem.W.nsIn K mainGlobals "set" = some none)
    (z11 : PySem.W.nsIn K mainGlobals "tuple" = some none)
    (z12 : PySem.W.nsIn K mainGlobals "enumerate" = some none)
    (z13 : PySem.W.nsIn K mainGlobals "reversed" = some none)
    (z14 : PySem.W.nsIn K mainGlobals "sum" = some none)
    (z15 : PySem.W.nsIn K mainGlobals "dict" = some none)
    (z16 : PySem.W.nsIn K mainGlobals "sorted" = some none)
    (z17 : PySem.W.nsIn K mainGlobals "ValueError" = some none)
    (z18 : PySem.W.nsIn K mainGlobals "repr" = some none) :
    ∃ fd : FuncData, (∀ (s : Shared) (v : Value), BindsTo s fd ⟨[v], []⟩ [("_law_script", v)]) ∧ ∀ base : Heap, K.In base → base.Ns mainGlobals mg → GD.Gd l.prog w K mg base 7 fa fd ["_law_script"] (spLaw K) := by
  have e := hfa.symm.trans (PySem.W.mg_of X G a1)
  cases e
  have F1 := fun_mk (st := s_law) l1 c1 k1
  have F2 := fun_mk (st := s_lpen) l2 c2 k2
  have b2 := F2.binds (ps := ["_law_script"]) fun _ _ _ _ _ _ us hl => match us, hl with | [_], _ => rfl
  have F3 := fun_mk (st := s_ldraw) l3 c3 k3
  have b3 := F3.binds (ps := ["_law_pen_here", "_law_base"]) fun _ _ _ _ _ _ us hl => match us, hl with | [_, _], _ => rfl
  have F4 := fun_mk (st := s_lpick) l4 c4 k4
  have b4 := F4.binds (ps := ["_law_pen_here", "_law_some"]) fun _ _ _ _ _ _ us hl => match us, hl with | [_, _], _ => rfl
  have F5 := fun_mk (st := s_lany) l5 c5 k5
  have b5 := F5.binds (ps := ["_law_pen_here"]) fun _ _ _ _ _ _ us hl => match us, hl with | [_], _ => rfl
  have F6 := fun_mk (st := s_kept) l6 c6 k6
  have b6 := F6.binds (ps := ["value"]) fun _ _ _ _ _ _ us hl => match us, hl with | [_], _ => rfl
  have F7 := fun_mk (st := s_lby_position) l7 c7 k7
  have b7 := F7.binds (ps := ["_law_a", "_law_b", "_law_c"]) fun _ _ _ _ _ _ us hl => match us, hl with | [_, _, _], _ => rfl
  have F8 := fun_mk (st := s_lby_name) l8 c8 k8
  have b8 := F8.binds (ps := ["_law_a", "_law_b", "_law_c"]) fun _ _ _ _ _ _ us hl => match us, hl with | [_, _, _], _ => rfl
  have F9 := fun_mk (st := s_lall_made) l9 c9 k9
  have b9 := F9.binds (ps := ["_law_a", "_law_b", "_law_c"]) fun _ _ _ _ _ _ us hl => match us, hl with | [_, _, _], _ => rfl
  have F10 := fun_mk (st := s_lsorts) l10 c10 k10
  have b10 := F10.binds (ps := ["_law_error"]) fun _ _ _ _ _ _ us hl => match us, hl with | [_], _ => rfl
  have mBadLetters := PySem.W.mg_of X G aCBadLetters
  have OBadLetters : OexC K CBadLetters := ⟨⟨_, _, _, _, _, _, _, _, _, _, _, _, _, _, _, o1BadLetters, o2BadLetters⟩, g4BadLetters, o3BadLetters, o4BadLetters, m2BadLetters⟩
  have EBadLetters : ExcC K CBadLetters := ⟨x1BadLetters, x2BadLetters, o3BadLetters, x3BadLetters, e1BadLetters, s3, s4, e2BadLetters⟩
  have FBadLetters := fun_mk (x := "__init__") (qual := "BadLetters.__init__") (st := s_BadLetters_init) lBadLetters cBadLetters kBadLetters
  have bBadLetters := FBadLetters.binds (ps := ["self", "letters"]) fun _ _ _ _ _ _ us hl => match us, hl with | [_, _], _ => rfl
  have kbBadLetters : KBn K _ ["self", "letters"] 1 ["letters"] cat2V cat2 := kb_of FBadLetters fun _ _ _ _ _ _ _ ws hl => match ws, hl with | [_], _ => rfl
  have mBadWords := PySem.W.mg_of X G aCBadWords
  have OBadWords : OexC K CBadWords := ⟨⟨_, _, _, _, _, _, _, _, _, _, _, _, _, _, _, o1BadWords, o2BadWords⟩, g4BadWords, o3BadWords, o4BadWords, m2BadWords⟩
  have EBadWords : ExcC K CBadWords := ⟨x1BadWords, x2BadWords, o3BadWords, x3BadWords, e1BadWords, s3, s4, e2BadWords⟩
  have FBadWords := fun_mk (x := "__init__") (qual := "BadWords.__init__") (st := s_BadWords_init) lBadWords cBadWords kBadWords
  have bBadWords := FBadWords.binds (ps := ["self", "place"]) fun _ _ _ _ _ _ us hl => match us, hl with | [_, _], _ => rfl
  have kbBadWords : KBn K _ ["self", "place"] 1 ["place"] cat2V cat2 := kb_of FBadWords fun _ _ _ _ _ _ _ ws hl => match ws, hl with | [_], _ => rfl
  have mBadText := PySem.W.mg_of X G aCBadText
  have OBadText : OexC K CBadText := ⟨⟨_, _, _, _, _, _, _, _, _, _, _, _, _, _, _, o1BadText, o2BadText⟩, g4BadText, o3BadText, o4BadText, m2BadText⟩
  have EBadText : ExcC K CBadText := ⟨x1BadText, x2BadText, o3BadText, x3BadText, e1BadText, s3, s4, e2BadText⟩
  have FBadText := fun_mk (x := "__init__") (qual := "BadText.__init__") (st := s_BadText_init) lBadText cBadText kBadText
  have bBadText := FBadText.binds (ps := ["self", "place"]) fun _ _ _ _ _ _ us hl => match us, hl with | [_, _], _ => rfl
  have kbBadText : KBn K _ ["self", "place"] 1 ["place"] cat2V cat2 := kb_of FBadText fun _ _ _ _ _ _ _ ws hl => match ws, hl with | [_], _ => rfl
  have mBadWish := PySem.W.mg_of X G aCBadWish
  have OBadWish : OexC K CBadWish := ⟨⟨_, _, _, _, _, _, _, _, _, _, _, _, _, _, _, o1BadWish, o2BadWish⟩, g4BadWish, o3BadWish, o4BadWish, m2BadWish⟩
  have EBadWish : ExcC K CBadWish := ⟨x1BadWish, x2BadWish, o3BadWish, x3BadWish, e1BadWish, s3, s4, e2BadWish⟩
  have FBadWish := fun_mk (x := "__init__") (qual := "BadWish.__init__") (st := s_BadWish_init) lBadWish cBadWish kBadWish
  have bBadWish := FBadWish.binds (ps := ["self", "wish"]) fun _ _ _ _ _ _ us hl => match us, hl with | [_, _], _ => rfl
  have kbBadWish : KBn K _ ["self", "wish"] 1 ["wish"] cat2V cat2 := kb_of FBadWish fun _ _ _ _ _ _ _ ws hl => match ws, hl with | [_], _ => rfl
  have mBadWidth := PySem.W.mg_of X G aCBadWidth
  have OBadWidth : OexC K CBadWidth := ⟨⟨_, _, _, _, _, _, _, _, _, _, _, _, _, _, _, o1BadWidth, o2BadWidth⟩, g4BadWidth, o3BadWidth, o4BadWidth, m2BadWidth⟩
  have EBadWidth : ExcC K CBadWidth := ⟨x1BadWidth, x2BadWidth, o3BadWidth, x3BadWidth, e1BadWidth, s3, s4, e2BadWidth⟩
  have FBadWidth := fun_mk (x := "__init__") (qual := "BadWidth.__init__") (st := s_BadWidth_init) lBadWidth cBadWidth kBadWidth
  have bBadWidth := FBadWidth.binds (ps := ["self", "width"]) fun _ _ _ _ _ _ us hl => match us, hl with | [_, _], _ => rfl
  have kbBadWidth : KBn K _ ["self", "width"] 1 ["width"] cat2V cat2 := kb_of FBadWidth fun _ _ _ _ _ _ _ ws hl => match ws, hl with | [_], _ => rfl
  have mTooMany := PySem.W.mg_of X G aCTooMany
  have OTooMany : OexC K CTooMany := ⟨⟨_, _, _, _, _, _, _, _, _, _, _, _, _, _, _, o1TooMany, o2TooMany⟩, g4TooMany, o3TooMany, o4TooMany, m2TooMany⟩
  have ETooMany : ExcC K CTooMany := ⟨x1TooMany, x2TooMany, o3TooMany, x3TooMany, e1TooMany, s3, s4, e2TooMany⟩
  have FTooMany := fun_mk (x := "__init__") (qual := "TooMany.__init__") (st := s_TooMany_init) lTooMany cTooMany kTooMany
  have bTooMany := FTooMany.binds (ps := ["self", "what", "many", "most"]) fun _ _ _ _ _ _ us hl => match us, hl with | [_, _, _, _], _ => rfl
  have kbTooMany : KBn K _ ["self", "what", "many", "most"] 1 ["what", "many", "most"] cat2V cat2 := kb_of FTooMany fun _ _ _ _ _ _ _ ws hl => match ws, hl with | [_, _, _], _ => rfl
  have mBadTree := PySem.W.mg_of X G aCBadTree
  have OBadTree : OexC K CBadTree := ⟨⟨_, _, _, _, _, _, _, _, _, _, _, _, _, _, _, o1BadTree, o2BadTree⟩, g4BadTree, o3BadTree, o4BadTree, m2BadTree⟩
  have EBadTree : ExcC K CBadTree := ⟨x1BadTree, x2BadTree, o3BadTree, x3BadTree, e1BadTree, s3, s4, e2BadTree⟩
  have FBadTree := fun_mk (x := "__init__") (qual := "BadTree.__init__") (st := s_BadTree_init) lBadTree cBadTree kBadTree
  have bBadTree := FBadTree.binds (ps := ["self", "state", "node"]) fun _ _ _ _ _ _ us hl => match us, hl with | [_, _, _], _ => rfl
  have kbBadTree : KBn K _ ["self", "state", "node"] 1 ["state", "node"] cat2V cat2 := kb_of FBadTree fun _ _ _ _ _ _ _ ws hl => match ws, hl with | [_, _], _ => rfl
  have mBadLine := PySem.W.mg_of X G aCBadLine
  have OBadLine : OexC K CBadLine := ⟨⟨_, _, _, _, _, _, _, _, _, _, _, _, _, _, _, o1BadLine, o2BadLine⟩, g4BadLine, o3BadLine, o4BadLine, m2BadLine⟩
  have EBadLine : ExcC K CBadLine := ⟨x1BadLine, x2BadLine, o3BadLine, x3BadLine, e1BadLine, s3, s4, e2BadLine⟩
  have FBadLine := fun_mk (x := "__init__") (qual := "BadLine.__init__") (st := s_BadLine_init) lBadLine cBadLine kBadLine
  have bBadLine := FBadLine.binds (ps := ["self", "line"]) fun _ _ _ _ _ _ us hl => match us, hl with | [_, _], _ => rfl
  have kbBadLine : KBn K _ ["self", "line"] 1 ["line"] cat2V cat2 := kb_of FBadLine fun _ _ _ _ _ _ _ ws hl => match ws, hl with | [_], _ => rfl
  have mBadWay := PySem.W.mg_of X G aCBadWay
  have OBadWay : OexC K CBadWay := ⟨⟨_, _, _, _, _, _, _, _, _, _, _, _, _, _, _, o1BadWay, o2BadWay⟩, g4BadWay, o3BadWay, o4BadWay, m2BadWay⟩
  have EBadWay : ExcC K CBadWay := ⟨x1BadWay, x2BadWay, o3BadWay, x3BadWay, e1BadWay, s3, s4, e2BadWay⟩
  have FBadWay := fun_mk (x := "__init__") (qual := "BadWay.__init__") (st := s_BadWay_init) lBadWay cBadWay kBadWay
  have bBadWay := FBadWay.binds (ps := ["self", "way"]) fun _ _ _ _ _ _ us hl => match us, hl with | [_, _], _ => rfl
  have kbBadWay : KBn K _ ["self", "way"] 1 ["way"] cat2V cat2 := kb_of FBadWay fun _ _ _ _ _ _ _ ws hl => match ws, hl with | [_], _ => rfl
  have mOtherLetters := PySem.W.mg_of X G aCOtherLetters
  have OOtherLetters : OexC K COtherLetters := ⟨⟨_, _, _, _, _, _, _, _, _, _, _, _, _, _, _, o1OtherLetters, o2OtherLetters⟩, g4OtherLetters, o3OtherLetters, o4OtherLetters, m2OtherLetters⟩
  have EOtherLetters : ExcC K COtherLetters := ⟨x1OtherLetters, x2OtherLetters, o3OtherLetters, x3OtherLetters, e1OtherLetters, s3, s4, e2OtherLetters⟩
  have mOtherWidth := PySem.W.mg_of X G aCOtherWidth
  have OOtherWidth : OexC K COtherWidth := ⟨⟨_, _, _, _, _, _, _, _, _, _, _, _, _, _, _, o1OtherWidth, o2OtherWidth⟩, g4OtherWidth, o3OtherWidth, o4OtherWidth, m2OtherWidth⟩
  have EOtherWidth : ExcC K COtherWidth := ⟨x1OtherWidth, x2OtherWidth, o3OtherWidth, x3OtherWidth, e1OtherWidth, s3, s4, e2OtherWidth⟩
  have mBadRule := PySem.W.mg_of X G aCBadRule
  have OBadRule : OexC K CBadRule := ⟨⟨_, _, _, _, _, _, _, _, _, _, _, _, _, _, _, o1BadRule, o2BadRule⟩, g4BadRule, o3BadRule, o4BadRule, m2BadRule⟩
  have EBadRule : ExcC K CBadRule := ⟨x1BadRule, x2BadRule, o3BadRule, x3BadRule, e1BadRule, s3, s4, e2BadRule⟩
  have FBadRule := fun_mk (x := "__init__") (qual := "BadRule.__init__") (st := s_BadRule_init) lBadRule cBadRule kBadRule
  have bBadRule := FBadRule.binds (ps := ["self", "name"]) fun _ _ _ _ _ _ us hl => match us, hl with | [_, _], _ => rfl
  have kbBadRule : KBn K _ ["self", "name"] 1 ["name"] cat2V cat2 := kb_of FBadRule fun _ _ _ _ _ _ _ ws hl => match ws, hl with | [_], _ => rfl
  have mRing := PySem.W.mg_of X G aCRing
  have ORing : OexC K CRing := ⟨⟨_, _, _, _, _, _, _, _, _, _, _, _, _, _, _, o1Ring, o2Ring⟩, g4Ring, o3Ring, o4Ring, m2Ring⟩
  have ERing : ExcC K CRing := ⟨x1Ring, x2Ring, o3Ring, x3Ring, e1Ring, s3, s4, e2Ring⟩
  have FRing := fun_mk (x := "__init__") (qual := "Ring.__init__") (st := s_Ring_init) lRing cRing kRing
  have bRing := FRing.binds (ps := ["self", "name"]) fun _ _ _ _ _ _ us hl => match us, hl with | [_, _], _ => rfl
  have kbRing : KBn K _ ["self", "name"] 1 ["name"] cat2V cat2 := kb_of FRing fun _ _ _ _ _ _ _ ws hl => match ws, hl with | [_], _ => rfl
  have mNoRule := PySem.W.mg_of X G aCNoRule
  have ONoRule : OexC K CNoRule := ⟨⟨_, _, _, _, _, _, _, _, _, _, _, _, _, _, _, o1NoRule, o2NoRule⟩, g4NoRule, o3NoRule, o4NoRule, m2NoRule⟩
  have ENoRule : ExcC K CNoRule := ⟨x1NoRule, x2NoRule, o3NoRule, x3NoRule, e1NoRule, s3, s4, e2NoRule⟩
  have FNoRule := fun_mk (x := "__init__") (qual := "NoRule.__init__") (st := s_NoRule_init) lNoRule cNoRule kNoRule
  have bNoRule := FNoRule.binds (ps := ["self", "root"]) fun _ _ _ _ _ _ us hl => match us, hl with | [_, _], _ => rfl
  have kbNoRule : KBn K _ ["self", "root"] 1 ["root"] cat2V cat2 := kb_of FNoRule fun _ _ _ _ _ _ _ ws hl => match ws, hl with | [_], _ => rfl
  have mBadPlace := PySem.W.mg_of X G aCBadPlace
  have OBadPlace : OexC K CBadPlace := ⟨⟨_, _, _, _, _, _, _, _, _, _, _, _, _, _, _, o1BadPlace, o2BadPlace⟩, g4BadPlace, o3BadPlace, o4BadPlace, m2BadPlace⟩
  have EBadPlace : ExcC K CBadPlace := ⟨x1BadPlace, x2BadPlace, o3BadPlace, x3BadPlace, e1BadPlace, s3, s4, e2BadPlace⟩
  have FBadPlace := fun_mk (x := "__init__") (qual := "BadPlace.__init__") (st := s_BadPlace_init) lBadPlace cBadPlace kBadPlace
  have bBadPlace := FBadPlace.binds (ps := ["self", "number"]) fun _ _ _ _ _ _ us hl => match us, hl with | [_, _], _ => rfl
  have kbBadPlace : KBn K _ ["self", "number"] 1 ["number"] cat2V cat2 := kb_of FBadPlace fun _ _ _ _ _ _ _ ws hl => match ws, hl with | [_], _ => rfl
  have mBadOver := PySem.W.mg_of X G aCBadOver
  have OBadOver : OexC K CBadOver := ⟨⟨_, _, _, _, _, _, _, _, _, _, _, _, _, _, _, o1BadOver, o2BadOver⟩, g4BadOver, o3BadOver, o4BadOver, m2BadOver⟩
  have EBadOver : ExcC K CBadOver := ⟨x1BadOver, x2BadOver, o3BadOver, x3BadOver, e1BadOver, s3, s4, e2BadOver⟩
  have mBadSize := PySem.W.mg_of X G aCBadSize
  have OBadSize : OexC K CBadSize := ⟨⟨_, _, _, _, _, _, _, _, _, _, _, _, _, _, _, o1BadSize, o2BadSize⟩, g4BadSize, o3BadSize, o4BadSize, m2BadSize⟩
  have EBadSize : ExcC K CBadSize := ⟨x1BadSize, x2BadSize, o3BadSize, x3BadSize, e1BadSize, s3, s4, e2BadSize⟩
  have FBadSize := fun_mk (x := "__init__") (qual := "BadSize.__init__") (st := s_BadSize_init) lBadSize cBadSize kBadSize
  have bBadSize := FBadSize.binds (ps := ["self", "size"]) fun _ _ _ _ _ _ us hl => match us, hl with | [_, _], _ => rfl
  have kbBadSize : KBn K _ ["self", "size"] 1 ["size"] cat2V cat2 := kb_of FBadSize fun _ _ _ _ _ _ _ ws hl => match ws, hl with | [_], _ => rfl
  have mBadOrder := PySem.W.mg_of X G aCBadOrder
  have OBadOrder : OexC K CBadOrder := ⟨⟨_, _, _, _, _, _, _, _, _, _, _, _, _, _, _, o1BadOrder, o2BadOrder⟩, g4BadOrder, o3BadOrder, o4BadOrder, m2BadOrder⟩
  have EBadOrder : ExcC K CBadOrder := ⟨x1BadOrder, x2BadOrder, o3BadOrder, x3BadOrder, e1BadOrder, s3, s4, e2BadOrder⟩
  have FBadOrder := fun_mk (x := "__init__") (qual := "BadOrder.__init__") (st := s_BadOrder_init) lBadOrder cBadOrder kBadOrder
  have bBadOrder := FBadOrder.binds (ps := ["self", "order"]) fun _ _ _ _ _ _ us hl => match us, hl with | [_, _], _ => rfl
  have kbBadOrder : KBn K _ ["self", "order"] 1 ["order"] cat2V cat2 := kb_of FBadOrder fun _ _ _ _ _ _ _ ws hl => match ws, hl with | [_], _ => rfl
  have mNoJoint := PySem.W.mg_of X G aCNoJoint
  have ONoJoint : OexC K CNoJoint := ⟨⟨_, _, _, _, _, _, _, _, _, _, _, _, _, _, _, o1NoJoint, o2NoJoint⟩, g4NoJoint, o3NoJoint, o4NoJoint, m2NoJoint⟩
  have ENoJoint : ExcC K CNoJoint := ⟨x1NoJoint, x2NoJoint, o3NoJoint, x3NoJoint, e1NoJoint, s3, s4, e2NoJoint⟩
  have FNoJoint := fun_mk (x := "__init__") (qual := "NoJoint.__init__") (st := s_NoJoint_init) lNoJoint cNoJoint kNoJoint
  have bNoJoint := FNoJoint.binds (ps := ["self", "joint"]) fun _ _ _ _ _ _ us hl => match us, hl with | [_, _], _ => rfl
  have kbNoJoint : KBn K _ ["self", "joint"] 1 ["joint"] cat2V cat2 := kb_of FNoJoint fun _ _ _ _ _ _ _ ws hl => match ws, hl with | [_], _ => rfl
  have mNoPartial := PySem.W.mg_of X G aCNoPartial
  have ONoPartial : OexC K CNoPartial := ⟨⟨_, _, _, _, _, _, _, _, _, _, _, _, _, _, _, o1NoPartial, o2NoPartial⟩, g4NoPartial, o3NoPartial, o4NoPartial, m2NoPartial⟩
  have ENoPartial : ExcC K CNoPartial := ⟨x1NoPartial, x2NoPartial, o3NoPartial, x3NoPartial, e1NoPartial, s3, s4, e2NoPartial⟩
  have FNoPartial := fun_mk (x := "__init__") (qual := "NoPartial.__init__") (st := s_NoPartial_init) lNoPartial cNoPartial kNoPartial
  have bNoPartial := FNoPartial.binds (ps := ["self", "partial"]) fun _ _ _ _ _ _ us hl => match us, hl with | [_, _], _ => rfl
  have kbNoPartial : KBn K _ ["self", "partial"] 1 ["partial"] cat2V cat2 := kb_of FNoPartial fun _ _ _ _ _ _ _ ws hl => match ws, hl with | [_], _ => rfl
  have T : Tx mg := { len := PySem.W.mg_none_of X G z0, int := PySem.W.mg_none_of X G z1, bool := PySem.W.mg_none_of X G z2, abs := PySem.W.mg_none_of X G z3, min := PySem.W.mg_none_of X G z4, list := PySem.W.mg_none_of X G z5, all := PySem.W.mg_none_of X G z6, range := PySem.W.mg_none_of X G z7, isinstance := PySem.W.mg_none_of X G z8, str := PySem.W.mg_none_of X G z9, set := PySem.W.mg_none_of X G z10, tuple := PySem.W.mg_none_of X G z11, enumerate := PySem.W.mg_none_of X G z12, reversed := PySem.W.mg_none_of X G z13, sum := PySem.W.mg_none_of X G z14, dict := PySem.W.mg_none_of X G z15, sorted := PySem.W.mg_none_of X G z16, ValueError := PySem.W.mg_none_of X G z17 }
  have B0 : BaseC K mg C0 := ⟨PySem.W.mg_of X G aC0, ⟨r1, r2⟩, r3⟩
  have yy : ∀ D ∈ [CBadLetters, CBadWords, CBadText, CBadPlace, CRing, CNoRule, COtherLetters, COtherWidth, CTooMany], PySem.W.isClsIn K D = true ∧ PySem.W.typeIn K (.ref D) = some (.type "type") := by
    intro D hD
    simp only [List.mem_cons, List.not_mem_nil, or_false] at hD
    rcases hD with rfl | rfl | rfl | rfl | rfl | rfl | rfl | rfl | rfl
    · exact ⟨yBadLetters, o4BadLetters⟩
    · exact ⟨yBadWords, o4BadWords⟩
    · exact ⟨yBadText, o4BadText⟩
    · exact ⟨yBadPlace, o4BadPlace⟩
    · exact ⟨yRing, o4Ring⟩
    · exact ⟨yNoRule, o4NoRule⟩
    · exact ⟨yOtherLetters, o4OtherLetters⟩
    · exact ⟨yOtherWidth, o4OtherWidth⟩
    · exact ⟨yTooMany, o4TooMany⟩
  have CC : CS K C0 [CBadLetters, CBadWords, CBadText, CBadPlace, CRing, CNoRule, COtherLetters, COtherWidth, CTooMany] [CBadLetters, CBadWords, CBadText, CBadWish, CBadWidth, CTooMany, CBadTree, CBadLine, CBadWay, COtherLetters, COtherWidth, CBadRule, CRing, CNoRule, CBadPlace, CBadOver, CBadSize, CBadOrder, CNoJoint, CNoPartial] JS := .cons EBadLetters (kl_mk (by decide) zBadLetters yy w0BadLetters w1BadLetters w2BadLetters w3BadLetters w4BadLetters w5BadLetters w6BadLetters w7BadLetters w8BadLetters) (kit_mk (.inr rfl) s1 s2 p1BadLetters) (kit_ve p2BadLetters) (.cons EBadWords (kl_mk (by decide) zBadWords yy w0BadWords w1BadWords w2BadWords w3BadWords w4BadWords w5BadWords w6BadWords w7BadWords w8BadWords) (kit_mk (.inr rfl) s1 s2 p1BadWords) (kit_ve p2BadWords) (.cons EBadText (kl_mk (by decide) zBadText yy w0BadText w1BadText w2BadText w3BadText w4BadText w5BadText w6BadText w7BadText w8BadText) (kit_mk (.inr rfl) s1 s2 p1BadText) (kit_ve p2BadText) (.cons EBadWish (kl_mk (by decide) zBadWish yy w0BadWish w1BadWish w2BadWish w3BadWish w4BadWish w5BadWish w6BadWish w7BadWish w8BadWish) (kit_mk (.inr rfl) s1 s2 p1BadWish) (kit_ve p2BadWish) (.cons EBadWidth (kl_mk (by decide) zBadWidth yy w0BadWidth w1BadWidth w2BadWidth w3BadWidth w4BadWidth w5BadWidth w6BadWidth w7BadWidth w8BadWidth) (kit_mk (.inr rfl) s1 s2 p1BadWidth) (kit_ve p2BadWidth) (.cons ETooMany (kl_mk (by decide) zTooMany yy w0TooMany w1TooMany w2TooMany w3TooMany w4TooMany w5TooMany w6TooMany w7TooMany w8TooMany) (kit_mk (.inr rfl) s1 s2 p1TooMany) (kit_ve p2TooMany) (.cons EBadTree (kl_mk (by decide) zBadTree yy w0BadTree w1BadTree w2BadTree w3BadTree w4BadTree w5BadTree w6BadTree w7BadTree w8BadTree) (kit_mk (.inr rfl) s1 s2 p1BadTree) (kit_ve p2BadTree) (.cons EBadLine (kl_mk (by decide) zBadLine yy w0BadLine w1BadLine w2BadLine w3BadLine w4BadLine w5BadLine w6BadLine w7BadLine w8BadLine) (kit_mk (.inr rfl) s1 s2 p1BadLine) (kit_ve p2BadLine) (.cons EBadWay (kl_mk (by decide) zBadWay yy w0BadWay w1BadWay w2BadWay w3BadWay w4BadWay w5BadWay w6BadWay w7BadWay w8BadWay) (kit_mk (.inr rfl) s1 s2 p1BadWay) (kit_ve p2BadWay) (.cons EOtherLetters (kl_mk (by decide) zOtherLetters yy w0OtherLetters w1OtherLetters w2OtherLetters w3OtherLetters w4OtherLetters w5OtherLetters w6OtherLetters w7OtherLetters w8OtherLetters) (kit_mk (.inr rfl) s1 s2 p1OtherLetters) (kit_ve p2OtherLetters) (.cons EOtherWidth (kl_mk (by decide) zOtherWidth yy w0OtherWidth w1OtherWidth w2OtherWidth w3OtherWidth w4OtherWidth w5OtherWidth w6OtherWidth w7OtherWidth w8OtherWidth) (kit_mk (.inr rfl) s1 s2 p1OtherWidth) (kit_ve p2OtherWidth) (.cons EBadRule (kl_mk (by decide) zBadRule yy w0BadRule w1BadRule w2BadRule w3BadRule w4BadRule w5BadRule w6BadRule w7BadRule w8BadRule) (kit_mk (.inr rfl) s1 s2 p1BadRule) (kit_ve p2BadRule) (.cons ERing (kl_mk (by decide) zRing yy w0Ring w1Ring w2Ring w3Ring w4Ring w5Ring w6Ring w7Ring w8Ring) (kit_mk (.inr rfl) s1 s2 p1Ring) (kit_ve p2Ring) (.cons ENoRule (kl_mk (by decide) zNoRule yy w0NoRule w1NoRule w2NoRule w3NoRule w4NoRule w5NoRule w6NoRule w7NoRule w8NoRule) (kit_mk (.inr rfl) s1 s2 p1NoRule) (kit_ve p2NoRule) (.cons EBadPlace (kl_mk (by decide) zBadPlace yy w0BadPlace w1BadPlace w2BadPlace w3BadPlace w4BadPlace w5BadPlace w6BadPlace w7BadPlace w8BadPlace) (kit_mk (.inr rfl) s1 s2 p1BadPlace) (kit_ve p2BadPlace) (.cons EBadOver (kl_mk (by decide) zBadOver yy w0BadOver w1BadOver w2BadOver w3BadOver w4BadOver w5BadOver w6BadOver w7BadOver w8BadOver) (kit_mk (.inr rfl) s1 s2 p1BadOver) (kit_ve p2BadOver) (.cons EBadSize (kl_mk (by decide) zBadSize yy w0BadSize w1BadSize w2BadSize w3BadSize w4BadSize w5BadSize w6BadSize w7BadSize w8BadSize) (kit_mk (.inr rfl) s1 s2 p1BadSize) (kit_ve p2BadSize) (.cons EBadOrder (kl_mk (by decide) zBadOrder yy w0BadOrder w1BadOrder w2BadOrder w3BadOrder w4BadOrder w5BadOrder w6BadOrder w7BadOrder w8BadOrder) (kit_mk (.inr rfl) s1 s2 p1BadOrder) (kit_ve p2BadOrder) (.cons ENoJoint (kl_mk (by decide) zNoJoint yy w0NoJoint w1NoJoint w2NoJoint w3NoJoint w4NoJoint w5NoJoint w6NoJoint w7NoJoint w8NoJoint) (kit_mk (.inr rfl) s1 s2 p1NoJoint) (kit_ve p2NoJoint) (.cons ENoPartial (kl_mk (by decide) zNoPartial yy w0NoPartial w1NoPartial w2NoPartial w3NoPartial w4NoPartial w5NoPartial w6NoPartial w7NoPartial w8NoPartial) (kit_mk (.inr rfl) s1 s2 p1NoPartial) (kit_ve p2NoPartial) (.nil))))))))))))))))))))
  refine ⟨PySem.W.fnOf "law" "law" (defArgs s_law) (defBody s_law) (defScope s_law) .none kV1 dc1 pm1 an1 cd1 ct1, fun s v => .of_eq rfl, fun base _ _ => ?_⟩
  have c_lpen : Kn l.prog w K mg base "_law_pen" ["_law_script"] 1 (spPen K) := ⟨f2, _, ok_pen F2 T, PySem.W.mg_of X G a2, F2.kp, b2⟩
  have c_ldraw : Kn l.prog w K mg base "_law_draw" ["_law_pen_here", "_law_base"] 1 spDraw := ⟨f3, _, ok_draw F3 T, PySem.W.mg_of X G a3, F3.kp, b3⟩
  have c_lpick : Kn l.prog w K mg base "_law_pick" ["_law_pen_here", "_law_some"] 2 spPickL := ⟨f4, _, ok_pickL F4 T c_ldraw, PySem.W.mg_of X G a4, F4.kp, b4⟩
  have c_lany : Kn l.prog w K mg base "_law_any" ["_law_pen_here"] 3 spAny := ⟨f5, _, ok_any F5 T c_ldraw c_lpick, PySem.W.mg_of X G a5, F5.kp, b5⟩
  have c_kf : Kn l.prog w K mg base "_kept" ["value"] 1 spKf := ⟨f6, _, ok_kf F6 T, PySem.W.mg_of X G a6, F6.kp, b6⟩
  have c_kept : Kn l.prog w K mg base "_kept" ["value"] 2 spKept := ⟨f6, _, ok_kept F6 T c_kf, PySem.W.mg_of X G a6, F6.kp, b6⟩
  have IBadLetters := ok_BadLetters (P := l.prog) (w := w) (base := base) FBadLetters T B0 OBadLetters n0BadLetters c_kept
  have IBadWords := ok_BadWords (P := l.prog) (w := w) (base := base) FBadWords T B0 OBadWords n0BadWords c_kept
  have IBadText := ok_BadText (P := l.prog) (w := w) (base := base) FBadText T B0 OBadText n0BadText c_kept
  have IBadWish := ok_BadWish (P := l.prog) (w := w) (base := base) FBadWish T B0 OBadWish n0BadWish c_kept
  have IBadWidth := ok_BadWidth (P := l.prog) (w := w) (base := base) FBadWidth T B0 OBadWidth n0BadWidth c_kept
  have ITooMany := ok_TooMany (P := l.prog) (w := w) (base := base) FTooMany T B0 OTooMany n0TooMany n1TooMany n2TooMany c_kept
  have IBadTree := ok_BadTree (P := l.prog) (w := w) (base := base) FBadTree T B0 OBadTree n0BadTree n1BadTree c_kept
  have IBadLine := ok_BadLine (P := l.prog) (w := w) (base := base) FBadLine T B0 OBadLine n0BadLine c_kept
  have IBadWay := ok_BadWay (P := l.prog) (w := w) (base := base) FBadWay T B0 OBadWay n0BadWay c_kept
  have IBadRule := ok_BadRule (P := l.prog) (w := w) (base := base) FBadRule T B0 OBadRule n0BadRule c_kept
  have IRing := ok_Ring (P := l.prog) (w := w) (base := base) FRing T B0 ORing n0Ring c_kept
  have INoRule := ok_NoRule (P := l.prog) (w := w) (base := base) FNoRule T B0 ONoRule n0NoRule c_kept
  have IBadPlace := ok_BadPlace (P := l.prog) (w := w) (base := base) FBadPlace T B0 OBadPlace n0BadPlace c_kept
  have IBadSize := ok_BadSize (P := l.prog) (w := w) (base := base) FBadSize T B0 OBadSize n0BadSize c_kept
  have IBadOrder := ok_BadOrder (P := l.prog) (w := w) (base := base) FBadOrder T B0 OBadOrder n0BadOrder c_kept
  have INoJoint := ok_NoJoint (P := l.prog) (w := w) (base := base) FNoJoint T B0 ONoJoint n0NoJoint c_kept
  have INoPartial := ok_NoPartial (P := l.prog) (w := w) (base := base) FNoPartial T B0 ONoPartial n0NoPartial c_kept
  obtain ⟨Z, hZ⟩ : ∃ Z : Errs l.prog w K mg base, Z.cl = [CBadLetters, CBadWords, CBadText, CBadWish, CBadWidth, CTooMany, CBadTree, CBadLine, CBadWay, COtherLetters, COtherWidth, CBadRule, CRing, CNoRule, CBadPlace, CBadOver, CBadSize, CBadOrder, CNoJoint, CNoPartial] := ⟨{
    BadLetters := { C := CBadLetters, o := OBadLetters, g := mBadLetters, e := EBadLetters, I := fBadLetters, fd := _, i := aBadLetters, t := tBadLetters, F := IBadLetters, b := bBadLetters, k := kbBadLetters, X := ⟨x1BadLetters, x2BadLetters, o3BadLetters, x3BadLetters⟩, n := fin1 n0BadLetters }
    BadWords := { C := CBadWords, o := OBadWords, g := mBadWords, e := EBadWords, I := fBadWords, fd := _, i := aBadWords, t := tBadWords, F := IBadWords, b := bBadWords, k := kbBadWords, X := ⟨x1BadWords, x2BadWords, o3BadWords, x3BadWords⟩, n := fin1 n0BadWords }
    BadText := { C := CBadText, o := OBadText, g := mBadText, e := EBadText, I := fBadText, fd := _, i := aBadText, t := tBadText, F := IBadText, b := bBadText, k := kbBadText, X := ⟨x1BadText, x2BadText, o3BadText, x3BadText⟩, n := fin1 n0BadText }
    BadWish := { C := CBadWish, o := OBadWish, g := mBadWish, e := EBadWish, I := fBadWish, fd := _, i := aBadWish, t := tBadWish, F := IBadWish, b := bBadWish, k := kbBadWish, X := ⟨x1BadWish, x2BadWish, o3BadWish, x3BadWish⟩, n := fin1 n0BadWish }
    BadWidth := { C := CBadWidth, o := OBadWidth, g := mBadWidth, e := EBadWidth, I := fBadWidth, fd := _, i := aBadWidth, t := tBadWidth, F := IBadWidth, b := bBadWidth, k := kbBadWidth, X := ⟨x1BadWidth, x2BadWidth, o3BadWidth, x3BadWidth⟩, n := fin1 n0BadWidth }
    TooMany := { C := CTooMany, o := OTooMany, g := mTooMany, e := ETooMany, I := fTooMany, fd := _, i := aTooMany, t := tTooMany, F := ITooMany, b := bTooMany, k := kbTooMany, X := ⟨x1TooMany, x2TooMany, o3TooMany, x3TooMany⟩, n := fin3 n0TooMany n1TooMany n2TooMany }
    BadTree := { C := CBadTree, o := OBadTree, g := mBadTree, e := EBadTree, I := fBadTree, fd := _, i := aBadTree, t := tBadTree, F := IBadTree, b := bBadTree, k := kbBadTree, X := ⟨x1BadTree, x2BadTree, o3BadTree, x3BadTree⟩, n := fin2 n0BadTree n1BadTree }
    BadLine := { C := CBadLine, o := OBadLine, g := mBadLine, e := EBadLine, I := fBadLine, fd := _, i := aBadLine, t := tBadLine, F := IBadLine, b := bBadLine, k := kbBadLine, X := ⟨x1BadLine, x2BadLine, o3BadLine, x3BadLine⟩, n := fin1 n0BadLine }
    BadWay := { C := CBadWay, o := OBadWay, g := mBadWay, e := EBadWay, I := fBadWay, fd := _, i := aBadWay, t := tBadWay, F := IBadWay, b := bBadWay, k := kbBadWay, X := ⟨x1BadWay, x2BadWay, o3BadWay, x3BadWay⟩, n := fin1 n0BadWay }
    OtherLetters := { C := COtherLetters, o := OOtherLetters, g := mOtherLetters, e := EOtherLetters, i := aOtherLetters }
    OtherWidth := { C := COtherWidth, o := OOtherWidth, g := mOtherWidth, e := EOtherWidth, i := aOtherWidth }
    BadRule := { C := CBadRule, o := OBadRule, g := mBadRule, e := EBadRule, I := fBadRule, fd := _, i := aBadRule, t := tBadRule, F := IBadRule, b := bBadRule, k := kbBadRule, X := ⟨x1BadRule, x2BadRule, o3BadRule, x3BadRule⟩, n := fin1 n0BadRule }
    Ring := { C := CRing, o := ORing, g := mRing, e := ERing, I := fRing, fd := _, i := aRing, t := tRing, F := IRing, b := bRing, k := kbRing, X := ⟨x1Ring, x2Ring, o3Ring, x3Ring⟩, n := fin1 n0Ring }
    NoRule := { C := CNoRule, o := ONoRule, g := mNoRule, e := ENoRule, I := fNoRule, fd := _, i := aNoRule, t := tNoRule, F := INoRule, b := bNoRule, k := kbNoRule, X := ⟨x1NoRule, x2NoRule, o3NoRule, x3NoRule⟩, n := fin1 n0NoRule }
    BadPlace := { C := CBadPlace, o := OBadPlace, g := mBadPlace, e := EBadPlace, I := fBadPlace, fd := _, i := aBadPlace, t := tBadPlace, F := IBadPlace, b := bBadPlace, k := kbBadPlace, X := ⟨x1BadPlace, x2BadPlace, o3BadPlace, x3BadPlace⟩, n := fin1 n0BadPlace }
    BadOver := { C := CBadOver, o := OBadOver, g := mBadOver, e := EBadOver, i := aBadOver }
    BadSize := { C := CBadSize, o := OBadSize, g := mBadSize, e := EBadSize, I := fBadSize, fd := _, i := aBadSize, t := tBadSize, F := IBadSize, b := bBadSize, k := kbBadSize, X := ⟨x1BadSize, x2BadSize, o3BadSize, x3BadSize⟩, n := fin1 n0BadSize }
    BadOrder := { C := CBadOrder, o := OBadOrder, g := mBadOrder, e := EBadOrder, I := fBadOrder, fd := _, i := aBadOrder, t := tBadOrder, F := IBadOrder, b := bBadOrder, k := kbBadOrder, X := ⟨x1BadOrder, x2BadOrder, o3BadOrder, x3BadOrder⟩, n := fin1 n0BadOrder }
    NoJoint := { C := CNoJoint, o := ONoJoint, g := mNoJoint, e := ENoJoint, I := fNoJoint, fd := _, i := aNoJoint, t := tNoJoint, F := INoJoint, b := bNoJoint, k := kbNoJoint, X := ⟨x1NoJoint, x2NoJoint, o3NoJoint, x3NoJoint⟩, n := fin1 n0NoJoint }
    NoPartial := { C := CNoPartial, o := ONoPartial, g := mNoPartial, e := ENoPartial, I := fNoPartial, fd := _, i := aNoPartial, t := tNoPartial, F := INoPartial, b := bNoPartial, k := kbNoPartial, X := ⟨x1NoPartial, x2NoPartial, o3NoPartial, x3NoPartial⟩, n := fin1 n0NoPartial }
  }, rfl⟩
  clear l1 c1 k1 l2 c2 k2 l3 c3 k3 l4 c4 k4 l5 c5 k5 l6 c6 k6 l7 c7 k7 l8 c8 k8 l9 c9 k9 l10 c10 k10 r1 r2 r3 s1 s2 s3 s4 aCBadLetters aBadLetters lBadLetters cBadLetters kBadLetters n0BadLetters tBadLetters g4BadLetters m2BadLetters o1BadLetters o2BadLetters o3BadLetters o4BadLetters x1BadLetters x2BadLetters x3BadLetters e1BadLetters e2BadLetters p1BadLetters p2BadLetters aCBadWords aBadWords lBadWords cBadWords kBadWords n0BadWords tBadWords g4BadWords m2BadWords o1BadWords o2BadWords o3BadWords o4BadWords x1BadWords x2BadWords x3BadWords e1BadWords e2BadWords p1BadWords p2BadWords aCBadText aBadText lBadText cBadText kBadText n0BadText tBadText g4BadText m2BadText o1BadText o2BadText o3BadText o4BadText x1BadText x2BadText x3BadText e1BadText e2BadText p1BadText p2BadText aCBadWish aBadWish lBadWish cBadWish kBadWish n0BadWish tBadWish g4BadWish m2BadWish o1BadWish o2BadWish o3BadWish o4BadWish x1BadWish x2BadWish x3BadWish e1BadWish e2BadWish p1BadWish p2BadWish aCBadWidth aBadWidth lBadWidth cBadWidth kBadWidth n0BadWidth tBadWidth g4BadWidth m2BadWidth o1BadWidth o2BadWidth o3BadWidth o4BadWidth x1BadWidth x2BadWidth x3BadWidth e1BadWidth e2BadWidth p1BadWidth p2BadWidth aCTooMany aTooMany lTooMany cTooMany kTooMany n0TooMany n1TooMany n2TooMany tTooMany g4TooMany m2TooMany o1TooMany o2TooMany o3TooMany o4TooMany x1TooMany x2TooMany x3TooMany e1TooMany e2TooMany p1TooMany p2TooMany aCBadTree aBadTree lBadTree cBadTree kBadTree n0BadTree n1BadTree tBadTree g4BadTree m2BadTree o1BadTree o2BadTree o3BadTree o4BadTree x1BadTree x2BadTree x3BadTree e1BadTree e2BadTree p1BadTree p2BadTree aCBadLine aBadLine lBadLine cBadLine kBadLine n0BadLine tBadLine g4BadLine m2BadLine o1BadLine o2BadLine o3BadLine o4BadLine x1BadLine x2BadLine x3BadLine e1BadLine e2BadLine p1BadLine p2BadLine aCBadWay aBadWay lBadWay cBadWay kBadWay n0BadWay tBadWay g4BadWay m2BadWay o1BadWay o2BadWay o3BadWay o4BadWay x1BadWay x2BadWay x3BadWay e1BadWay e2BadWay p1BadWay p2BadWay aCOtherLetters aOtherLetters g4OtherLetters m2OtherLetters o1OtherLetters o2OtherLetters o3OtherLetters o4OtherLetters x1OtherLetters x2OtherLetters x3OtherLetters e1OtherLetters e2OtherLetters p1OtherLetters p2OtherLetters aCOtherWidth aOtherWidth g4OtherWidth m2OtherWidth o1OtherWidth o2OtherWidth o3OtherWidth o4OtherWidth x1OtherWidth x2OtherWidth x3OtherWidth e1OtherWidth e2OtherWidth p1OtherWidth p2OtherWidth aCBadRule aBadRule lBadRule cBadRule kBadRule n0BadRule tBadRule g4BadRule m2BadRule o1BadRule o2BadRule o3BadRule o4BadRule x1BadRule x2BadRule x3BadRule e1BadRule e2BadRule p1BadRule p2BadRule aCRing aRing lRing cRing kRing n0Ring tRing g4Ring m2Ring o1Ring o2Ring o3Ring o4Ring x1Ring x2Ring x3Ring e1Ring e2Ring p1Ring p2Ring aCNoRule aNoRule lNoRule cNoRule kNoRule n0NoRule tNoRule g4NoRule m2NoRule o1NoRule o2NoRule o3NoRule o4NoRule x1NoRule x2NoRule x3NoRule e1NoRule e2NoRule p1NoRule p2NoRule aCBadPlace aBadPlace lBadPlace cBadPlace kBadPlace n0BadPlace tBadPlace g4BadPlace m2BadPlace o1BadPlace o2BadPlace o3BadPlace o4BadPlace x1BadPlace x2BadPlace x3BadPlace e1BadPlace e2BadPlace p1BadPlace p2BadPlace aCBadOver aBadOver g4BadOver m2BadOver o1BadOver o2BadOver o3BadOver o4BadOver x1BadOver x2BadOver x3BadOver e1BadOver e2BadOver p1BadOver p2BadOver aCBadSize aBadSize lBadSize cBadSize kBadSize n0BadSize tBadSize g4BadSize m2BadSize o1BadSize o2BadSize o3BadSize o4BadSize x1BadSize x2BadSize x3BadSize e1BadSize e2BadSize p1BadSize p2BadSize aCBadOrder aBadOrder lBadOrder cBadOrder kBadOrder n0BadOrder tBadOrder g4BadOrder m2BadOrder o1BadOrder o2BadOrder o3BadOrder o4BadOrder x1BadOrder x2BadOrder x3BadOrder e1BadOrder e2BadOrder p1BadOrder p2BadOrder aCNoJoint aNoJoint lNoJoint cNoJoint kNoJoint n0NoJoint tNoJoint g4NoJoint m2NoJoint o1NoJoint o2NoJoint o3NoJoint o4NoJoint x1NoJoint x2NoJoint x3NoJoint e1NoJoint e2NoJoint p1NoJoint p2NoJoint aCNoPartial aNoPartial lNoPartial cNoPartial kNoPartial n0NoPartial tNoPartial g4NoPartial m2NoPartial o1NoPartial o2NoPartial o3NoPartial o4NoPartial x1NoPartial x2NoPartial x3NoPartial e1NoPartial e2NoPartial p1NoPartial p2NoPartial yBadLetters yBadWords yBadText yBadPlace yRing yNoRule yOtherLetters yOtherWidth yTooMany w0BadLetters w1BadLetters w2BadLetters w3BadLetters w4BadLetters w5BadLetters w6BadLetters w7BadLetters w8BadLetters zBadLetters w0BadWords w1BadWords w2BadWords w3BadWords w4BadWords w5BadWords w6BadWords w7BadWords w8BadWords zBadWords w0BadText w1BadText w2BadText w3BadText w4BadText w5BadText w6BadText w7BadText w8BadText zBadText w0BadWish w1BadWish w2BadWish w3BadWish w4BadWish w5BadWish w6BadWish w7BadWish w8BadWish zBadWish w0BadWidth w1BadWidth w2BadWidth w3BadWidth w4BadWidth w5BadWidth w6BadWidth w7BadWidth w8BadWidth zBadWidth w0TooMany w1TooMany w2TooMany w3TooMany w4TooMany w5TooMany w6TooMany w7TooMany w8TooMany zTooMany w0BadTree w1BadTree w2BadTree w3BadTree w4BadTree w5BadTree w6BadTree w7BadTree w8BadTree zBadTree w0BadLine w1BadLine w2BadLine w3BadLine w4BadLine w5BadLine w6BadLine w7BadLine w8BadLine zBadLine w0BadWay w1BadWay w2BadWay w3BadWay w4BadWay w5BadWay w6BadWay w7BadWay w8BadWay zBadWay w0OtherLetters w1OtherLetters w2OtherLetters w3OtherLetters w4OtherLetters w5OtherLetters w6OtherLetters w7OtherLetters w8OtherLetters zOtherLetters w0OtherWidth w1OtherWidth w2OtherWidth w3OtherWidth w4OtherWidth w5OtherWidth w6OtherWidth w7OtherWidth w8OtherWidth zOtherWidth w0BadRule w1BadRule w2BadRule w3BadRule w4BadRule w5BadRule w6BadRule w7BadRule w8BadRule zBadRule w0Ring w1Ring w2Ring w3Ring w4Ring w5Ring w6Ring w7Ring w8Ring zRing w0NoRule w1NoRule w2NoRule w3NoRule w4NoRule w5NoRule w6NoRule w7NoRule w8NoRule zNoRule w0BadPlace w1BadPlace w2BadPlace w3BadPlace w4BadPlace w5BadPlace w6BadPlace w7BadPlace w8BadPlace zBadPlace w0BadOver w1BadOver w2BadOver w3BadOver w4BadOver w5BadOver w6BadOver w7BadOver w8BadOver zBadOver w0BadSize w1BadSize w2BadSize w3BadSize w4BadSize w5BadSize w6BadSize w7BadSize w8BadSize zBadSize w0BadOrder w1BadOrder w2BadOrder w3BadOrder w4BadOrder w5BadOrder w6BadOrder w7BadOrder w8BadOrder zBadOrder w0NoJoint w1NoJoint w2NoJoint w3NoJoint w4NoJoint w5NoJoint w6NoJoint w7NoJoint w8NoJoint zNoJoint w0NoPartial w1NoPartial w2NoPartial w3NoPartial w4NoPartial w5NoPartial w6NoPartial w7NoPartial w8NoPartial zNoPartial z0 z1 z2 z3 z4 z5 z6 z7 z8 z9 z10 z11 z12 z13 z14 z15 z16 z17
  have CC2 : CS K C0 [CBadLetters, CBadWords, CBadText, CBadPlace, CRing, CNoRule, COtherLetters, COtherWidth, CTooMany] Z.cl JS := by
    rw [hZ]
    exact CC
  have c_lby_position : Kn l.prog w K mg base "_law_by_position" ["_law_a", "_law_b", "_law_c"] 5 spBy := ⟨f7, _, ok_lby_position F7 Z, PySem.W.mg_of X G a7, F7.kp, b7⟩
  have c_lby_name : Kn l.prog w K mg base "_law_by_name" ["_law_a", "_law_b", "_law_c"] 5 spBy := ⟨f8, _, ok_lby_name F8 Z, PySem.W.mg_of X G a8, F8.kp, b8⟩
  have c_lall_made : Kn l.prog w K mg base "_law_all_made" ["_law_a", "_law_b", "_law_c"] 5 (spMade Z.cl) := ⟨f9, _, ok_lall_made F9 Z, PySem.W.mg_of X G a9, F9.kp, b9⟩
  have c_lsorts : Kn l.prog w K mg base "_law_sorts" ["_law_error"] 1 (spSorts K [CBadLetters, CBadWords, CBadText, CBadPlace, CRing, CNoRule, COtherLetters, COtherWidth, CTooMany]) := ⟨f10, _, ok_sorts F10 T mBadLetters mBadWords mBadText mBadPlace mRing mNoRule mOtherLetters mOtherWidth mTooMany, PySem.W.mg_of X G a10, F10.kp, b10⟩
  exact ok_law F1 T (PySem.W.mg_none_of X G z18) (PySem.W.mg_of X G aC0) CC2 c_lpen c_lany c_lby_position c_lby_name c_lall_made c_lsorts
end Law
open PySem PySem.W PyProof.Rows
set_option maxHeartbeats 0 in
theorem PySem.Challenge.cw_wordskips_k00_errors_holds : PySem.Challenge.rw_wordskips_k00_errors.Holds := by
  w_on; o_law; k_head; (case hw => w_witness2)
  k_fill
  refine GD.walkG (l := PySem.Challenge.rw_wordskips_k00_errors) (n := 63) (k := 7) (x := "_law_script") (sp := fun w => Law.spLaw _) rfl (by decide) rfl ⟨rfl, by decide, by decide⟩ (fun w h Y => PySem.W.kIn_of Y) ?F (fun _ _ a ns hl hS => ⟨a, ns, rfl, hS, hl, fun _ => rfl⟩)
  case F =>
    intro w mg fa h KX G hmg
    refine' Law.all_mk KX G hmg (a1 := ?a1) (l1 := ?l1) (c1 := ?c1) (k1 := ?k1) (a2 := ?a2) (l2 := ?l2) (c2 := ?c2) (k2 := ?k2) (a3 := ?a3) (l3 := ?l3) (c3 := ?c3) (k3 := ?k3) (a4 := ?a4) (l4 := ?l4) (c4 := ?c4) (k4 := ?k4) (a5 := ?a5) (l5 := ?l5) (c5 := ?c5) (k5 := ?k5) (a6 := ?a6) (l6 := ?l6) (c6 := ?c6) (k6 := ?k6) (a7 := ?a7) (l7 := ?l7) (c7 := ?c7) (k7 := ?k7) (a8 := ?a8) (l8 := ?l8) (c8 := ?c8) (k8 := ?k8) (a9 := ?a9) (l9 := ?l9) (c9 := ?c9) (k9 := ?k9) (a10 := ?a10) (l10 := ?l10) (c10 := ?c10) (k10 := ?k10) (aC0 := ?aC0) (r1 := ?r1) (r2 := ?r2) (r3 := ?r3) (s1 := ?s1) (s2 := ?s2) (s3 := ?s3) (s4 := ?s4) (aCBadLetters := ?aCBadLetters) (aBadLetters := ?aBadLetters) (lBadLetters := ?lBadLetters) (cBadLetters := ?cBadLetters) (kBadLetters := ?kBadLetters) (n0BadLetters := ?n0BadLetters) (tBadLetters := ?tBadLetters) (g4BadLetters := ?g4BadLetters) (m2BadLetters := ?m2BadLetters) (o1BadLetters := ?o1BadLetters) (o2BadLetters := ?o2BadLetters) (o3BadLetters := ?o3BadLetters) (o4BadLetters := ?o4BadLetters) (x1BadLetters := ?x1BadLetters) (x2BadLetters := ?x2BadLetters) (x3BadLetters := ?x3BadLetters) (e1BadLetters := ?e1BadLetters) (e2BadLetters := ?e2BadLetters) (p1BadLetters := ?p1BadLetters) (p2BadLetters := ?p2BadLetters) (aCBadWords := ?aCBadWords) (aBadWords := ?aBadWords) (lBadWords := ?lBadWords) (cBadWords := ?cBadWords) (kBadWords := ?kBadWords) (n0BadWords := ?n0BadWords) (tBadWords := ?tBadWords) (g4BadWords := ?g4BadWords) (m2BadWords := ?m2BadWords) (o1BadWords := ?o1BadWords) (o2BadWords := ?o2BadWords) (o3BadWords := ?o3BadWords) (o4BadWords := ?o4BadWords) (x1BadWords := ?x1BadWords) (x2BadWords := ?x2BadWords) (x3BadWords := ?x3BadWords) (e1BadWords := ?e1BadWords) (e2BadWords := ?e2BadWords) (p1BadWords := ?p1BadWords) (p2BadWords := ?p2BadWords) (aCBadText := ?aCBadText) (aBadText := ?aBadText) (lBadText := ?lBadText) (cBadText := ?cBadText) (kBadText := ?kBadText) (n0BadText := ?n0BadText) (tBadText := ?tBadText) (g4BadText := ?g4BadText) (m2BadText := ?m2BadText) (o1BadText := ?o1BadText) (o2BadText := ?o2BadText) (o3BadText := ?o3BadText) (o4BadText := ?o4BadText) (x1BadText := ?x1BadText) (x2BadText := ?x2BadText) (x3BadText := ?x3BadText) (e1BadText := ?e1BadText) (e2BadText := ?e2BadText) (p1BadText := ?p1BadText) (p2BadText := ?p2BadText) (aCBadWish := ?aCBadWish) (aBadWish := ?aBadWish) (lBadWish := ?lBadWish) (cBadWish := ?cBadWish) (kBadWish := ?kBadWish) (n0BadWish := ?n0BadWish) (tBadWish := ?tBadWish) (g4BadWish := ?g4BadWish) (m2BadWish := ?m2BadWish) (o1BadWish := ?o1BadWish) (o2BadWish := ?o2BadWish) (o3BadWish := ?o3BadWish) (o4BadWish := ?o4BadWish) (x1BadWish := ?x1BadWish) (x2BadWish := ?x2BadWish) (x3BadWish := ?x3BadWish) (e1BadWish := ?e1BadWish) (e2BadWish := ?e2BadWish) (p1BadWish := ?p1BadWish) (p2BadWish := ?p2BadWish) (aCBadWidth := ?aCBadWidth) (aBadWidth := ?aBadWidth) (lBadWidth := ?lBadWidth) (cBadWidth := ?cBadWidth) (kBadWidth := ?kBadWidth) (n0BadWidth := ?n0BadWidth) (tBadWidth := ?tBadWidth) (g4BadWidth := ?g4BadWidth) (m2BadWidth := ?m2BadWidth) (o1BadWidth := ?o1BadWidth) (o2BadWidth := ?o2BadWidth) (o3BadWidth := ?o3BadWidth) (o4BadWidth := ?o4BadWidth) (x1BadWidth := ?x1BadWidth) (x2BadWidth := ?x2BadWidth) (x3BadWidth := ?x3BadWidth) (e1BadWidth := ?e1BadWidth) (e2BadWidth := ?e2BadWidth) (p1BadWidth := ?p1BadWidth) (p2BadWidth := ?p2BadWidth) (aCTooMany := ?aCTooMany) (aTooMany := ?aTooMany) (lTooMany := ?lTooMany) (cTooMany := ?cTooMany) (kTooMany := ?kTooMany) (n0TooMany := ?n0TooMany) (n1TooMany := ?n1TooMany) (n2TooMany := ?n2TooMany) (tTooMany := ?tTooMany) (g4TooMany := ?g4TooMany) (m2TooMany := ?m2TooMany) (o1TooMany := ?o1TooMany) (o2TooMany := ?o2TooMany) (o3TooMany := ?o3TooMany) (o4TooMany := ?o4TooMany) (x1TooMany := ?x1TooMany) (x2TooMany := ?x2TooMany) (x3TooMany := ?x3TooMany) (e1TooMany := ?e1TooMany) (e2TooMany := ?e2TooMany) (p1TooMany := ?p1TooMany) (p2TooMany := ?p2TooMany) (aCBadTree := ?aCBadTree) (aBadTree := ?aBadTree) (lBadTree := ?lBadTree) (cBadTree := ?cBadTree) (kBadTree := ?kBadTree) (n0BadTree := ?n0BadTree) (n1BadTree := ?n1BadTree) (tBadTree := ?tBadTree) (g4BadTree := ?g4BadTree) (m2BadTree := ?m2BadTree) (o1BadTree := ?o1BadTree) (o2BadTree := ?o2BadTree) (o3BadTree := ?o3BadTree) (o4BadTree := ?o4BadTree) (x1BadTree := ?x1BadTree) (x2BadTree := ?x2BadTree) (x3BadTree := ?x3BadTree) (e1BadTree := ?e1BadTree) (e2BadTree := ?e2BadTree) (p1BadTree := ?p1BadTree) (p2BadTree := ?p2BadTree) (aCBadLine := ?aCBadLine) (aBadLine := ?aBadLine) (lBadLine := ?lBadLine) (cBadLine := ?cBadLine) (kBadLine := ?kBadLine) (n0BadLine := ?n0BadLine) (tBadLine := ?tBadLine) (g4BadLine := ?g4BadLine) (m2BadLine := ?m2BadLine) (o1BadLine := ?o1BadLine) (o2BadLine := ?o2BadLine) (o3BadLine := ?o3BadLine) (o4BadLine := ?o4BadLine) (x1BadLine := ?x1BadLine) (x2BadLine := ?x2BadLine) (x3BadLine := ?x3BadLine) (e1BadLine := ?e1BadLine) (e2BadLine := ?e2BadLine) (p1BadLine := ?p1BadLine) (p2BadLine := ?p2BadLine) (aCBadWay := ?aCBadWay) (aBadWay := ?aBadWay) (lBadWay := ?lBadWay) (cBadWay := ?cBadWay) (kBadWay := ?kBadWay) (n0BadWay := ?n0BadWay) (tBadWay := ?tBadWay) (g4BadWay := ?g4BadWay) (m2BadWay := ?m2BadWay) (o1BadWay := ?o1BadWay) (o2BadWay := ?o2BadWay) (o3BadWay := ?o3BadWay) (o4BadWay := ?o4BadWay) (x1BadWay := ?x1BadWay) (x2BadWay := ?x2BadWay) (x3BadWay := ?x3BadWay) (e1BadWay := ?e1BadWay) (e2BadWay := ?e2BadWay) (p1BadWay := ?p1BadWay) (p2BadWay := ?p2BadWay) (aCOtherLetters := ?aCOtherLetters) (aOtherLetters := ?aOtherLetters) (g4OtherLetters := ?g4OtherLetters) (m2OtherLetters := ?m2OtherLetters) (o1OtherLetters := ?o1OtherLetters) (o2OtherLetters := ?o2OtherLetters) (o3OtherLetters := ?o3OtherLetters) (o4OtherLetters := ?o4OtherLetters) (x1OtherLetters := ?x1OtherLetters) (x2OtherLetters := ?x2OtherLetters) (x3OtherLetters := ?x3OtherLetters) (e1OtherLetters := ?e1OtherLetters) (e2OtherLetters := ?e2OtherLetters) (p1OtherLetters := ?p1OtherLetters) (p2OtherLetters := ?p2OtherLetters) (aCOtherWidth := ?aCOtherWidth) (aOtherWidth := ?aOtherWidth) (g4OtherWidth := ?g4OtherWidth) (m2OtherWidth := ?m2OtherWidth) (o1OtherWidth := ?o1OtherWidth) (o2OtherWidth := ?o2OtherWidth) (o3OtherWidth := ?o3OtherWidth) (o4OtherWidth := ?o4OtherWidth) (x1OtherWidth := ?x1OtherWidth) (x2OtherWidth := ?x2OtherWidth) (x3OtherWidth := ?x3OtherWidth) (e1OtherWidth := ?e1OtherWidth) (e2OtherWidth := ?e2OtherWidth) (p1OtherWidth := ?p1OtherWidth) (p2OtherWidth := ?p2OtherWidth) (aCBadRule := ?aCBadRule) (aBadRule := ?aBadRule) (lBadRule := ?lBadRule) (cBadRule := ?cBadRule) (kBadRule := ?kBadRule) (n0BadRule := ?n0BadRule) (tBadRule := ?tBadRule) (g4BadRule := ?g4BadRule) (m2BadRule := ?m2BadRule) (o1BadRule := ?o1BadRule) (o2BadRule := ?o2BadRule) (o3BadRule := ?o3BadRule) (o4BadRule := ?o4BadRule) (x1BadRule := ?x1BadRule) (x2BadRule := ?x2BadRule) (x3BadRule := ?x3BadRule) (e1BadRule := ?e1BadRule) (e2BadRule := ?e2BadRule) (p1BadRule := ?p1BadRule) (p2BadRule := ?p2BadRule) (aCRing := ?aCRing) (aRing := ?aRing) (lRing := ?lRing) (cRing := ?cRing) (kRing := ?kRing) (n0Ring := ?n0Ring) (tRing := ?tRing) (g4Ring := ?g4Ring) (m2Ring := ?m2Ring) (o1Ring := ?o1Ring) (o2Ring := ?o2Ring) (o3Ring := ?o3Ring) (o4Ring := ?o4Ring) (x1Ring := ?x1Ring) (x2Ring := ?x2Ring) (x3Ring := ?x3Ring) (e1Ring := ?e1Ring) (e2Ring := ?e2Ring) (p1Ring := ?p1Ring) (p2Ring := ?p2Ring) (aCNoRule := ?aCNoRule) (aNoRule := ?aNoRule) (lNoRule := ?lNoRule) (cNoRule := ?cNoRule) (kNoRule := ?kNoRule) (n0NoRule := ?n0NoRule) (tNoRule := ?tNoRule) (g4NoRule := ?g4NoRule) (m2NoRule := ?m2NoRule) (o1NoRule := ?o1NoRule) (o2NoRule := ?o2NoRule) (o3NoRule := ?o3NoRule) (o4NoRule := ?o4NoRule) (x1NoRule := ?x1NoRule) (x2NoRule := ?x2NoRule) (x3NoRule := ?x3NoRule) (e1NoRule := ?e1NoRule) (e2NoRule := ?e2NoRule) (p1NoRule := ?p1NoRule) (p2NoRule := ?p2NoRule) (aCBadPlace := ?aCBadPlace) (aBadPlace := ?aBadPlace) (lBadPlace := ?lBadPlace) (cBadPlace := ?cBadPlace) (kBadPlace := ?kBadPlace) (n0BadPlace := ?n0BadPlace) (tBadPlace := ?tBadPlace) (g4BadPlace := ?g4BadPlace) (m2BadPlace := ?m2BadPlace) (o1BadPlace := ?o1BadPlace) (o2BadPlace := ?o2BadPlace) (o3BadPlace := ?o3BadPlace) (o4BadPlace := ?o4BadPlace) (x1BadPlace := ?x1BadPlace) (x2BadPlace := ?x2BadPlace) (x3BadPlace := ?x3BadPlace) (e1BadPlace := ?e1BadPlace) (e2BadPlace := ?e2BadPlace) (p1BadPlace := ?p1BadPlace) (p2BadPlace := ?p2BadPlace) (aCBadOver := ?aCBadOver) (aBadOver := ?aBadOver) (g4BadOver := ?g4BadOver) (m2BadOver := ?m2BadOver) (o1BadOver := ?o1BadOver) (o2BadOver := ?o2BadOver) (o3BadOver := ?o3BadOver) (o4BadOver := ?o4BadOver) (x1BadOver := ?x1BadOver) (x2BadOver := ?x2BadOver) (x3BadOver := ?x3BadOver) (e1BadOver := ?e1BadOver) (e2BadOver := ?e2BadOver) (p1BadOver := ?p1BadOver) (p2BadOver := ?p2BadOver) (aCBadSize := ?aCBadSize) (aBadSize := ?aBadSize) (lBadSize := ?lBadSize) (cBadSize := ?cBadSize) (kBadSize := ?kBadSize) (n0BadSize := ?n0BadSize) (tBadSize := ?tBadSize) (g4BadSize := ?g4BadSize) (m2BadSize := ?m2BadSize) (o1BadSize := ?o1BadSize) (o2BadSize := ?o2BadSize) (o3BadSize := ?o3BadSize) (o4BadSize := ?o4BadSize) (x1BadSize := ?x1BadSize) (x2BadSize := ?x2BadSize) (x3BadSize := ?x3BadSize) (e1BadSize := ?e1BadSize) (e2BadSize := ?e2BadSize) (p1BadSize := ?p1BadSize) (p2BadSize := ?p2BadSize) (aCBadOrder := ?aCBadOrder) (aBadOrder := ?aBadOrder) (lBadOrder := ?lBadOrder) (cBadOrder := ?cBadOrder) (kBadOrder := ?kBadOrder) (n0BadOrder := ?n0BadOrder) (tBadOrder := ?tBadOrder) (g4BadOrder := ?g4BadOrder) (m2BadOrder := ?m2BadOrder) (o1BadOrder := ?o1BadOrder) (o2BadOrder := ?o2BadOrder) (o3BadOrder := ?o3BadOrder) (o4BadOrder := ?o4BadOrder) (x1BadOrder := ?x1BadOrder) (x2BadOrder := ?x2BadOrder) (x3BadOrder := ?x3BadOrder) (e1BadOrder := ?e1BadOrder) (e2BadOrder := ?e2BadOrder) (p1BadOrder := ?p1BadOrder) (p2BadOrder := ?p2BadOrder) (aCNoJoint := ?aCNoJoint) (aNoJoint := ?aNoJoint) (lNoJoint := ?lNoJoint) (cNoJoint := ?cNoJoint) (kNoJoint := ?kNoJoint) (n0NoJoint := ?n0NoJoint) (tNoJoint := ?tNoJoint) (g4NoJoint := ?g4NoJoint) (m2NoJoint := ?m2NoJoint) (o1NoJoint := ?o1NoJoint) (o2NoJoint := ?o2NoJoint) (o3NoJoint := ?o3NoJoint) (o4NoJoint := ?o4NoJoint) (x1NoJoint := ?x1NoJoint) (x2NoJoint := ?x2NoJoint) (x3NoJoint := ?x3NoJoint) (e1NoJoint := ?e1NoJoint) (e2NoJoint := ?e2NoJoint) (p1NoJoint := ?p1NoJoint) (p2NoJoint := ?p2NoJoint) (aCNoPartial := ?aCNoPartial) (aNoPartial := ?aNoPartial) (lNoPartial := ?lNoPartial) (cNoPartial := ?cNoPartial) (kNoPartial := ?kNoPartial) (n0NoPartial := ?n0NoPartial) (tNoPartial := ?tNoPartial) (g4NoPartial := ?g4NoPartial) (m2NoPartial := ?m2NoPartial) (o1NoPartial := ?o1NoPartial) (o2NoPartial := ?o2NoPartial) (o3NoPartial := ?o3NoPartial) (o4NoPartial := ?o4NoPartial) (x1NoPartial := ?x1NoPartial) (x2NoPartial := ?x2NoPartial) (x3NoPartial := ?x3NoPartial) (e1NoPartial := ?e1NoPartial) (e2NoPartial := ?e2NoPartial) (p1NoPartial := ?p1NoPartial) (p2NoPartial := ?p2NoPartial) (yBadLetters := ?yBadLetters) (yBadWords := ?yBadWords) (yBadText := ?yBadText) (yBadPlace := ?yBadPlace) (yRing := ?yRing) (yNoRule := ?yNoRule) (yOtherLetters := ?yOtherLetters) (yOtherWidth := ?yOtherWidth) (yTooMany := ?yTooMany) (w0BadLetters := ?w0BadLetters) (w1BadLetters := ?w1BadLetters) (w2BadLetters := ?w2BadLetters) (w3BadLetters := ?w3BadLetters) (w4BadLetters := ?w4BadLetters) (w5BadLetters := ?w5BadLetters) (w6BadLetters := ?w6BadLetters) (w7BadLetters := ?w7BadLetters) (w8BadLetters := ?w8BadLetters) (zBadLetters := ?zBadLetters) (w0BadWords := ?w0BadWords) (w1BadWords := ?w1BadWords) (w2BadWords := ?w2BadWords) (w3BadWords := ?w3BadWords) (w4BadWords := ?w4BadWords) (w5BadWords := ?w5BadWords) (w6BadWords := ?w6BadWords) (w7BadWords := ?w7BadWords) (w8BadWords := ?w8BadWords) (zBadWords := ?zBadWords) (w0BadText := ?w0BadText) (w1BadText := ?w1BadText) (w2BadText := ?w2BadText) (w3BadText := ?w3BadText) (w4BadText := ?w4BadText) (w5BadText := ?w5BadText) (w6BadText := ?w6BadText) (w7BadText := ?w7BadText) (w8BadText := ?w8BadText) (zBadText := ?zBadText) (w0BadWish := ?w0BadWish) (w1BadWish := ?w1BadWish) (w2BadWish := ?w2BadWish) (w3BadWish := ?w3BadWish) (w4BadWish := ?w4BadWish) (w5BadWish := ?w5BadWish) (w6BadWish := ?w6BadWish) (w7BadWish := ?w7BadWish) (w8BadWish := ?w8BadWish) (zBadWish := ?zBadWish) (w0BadWidth := ?w0BadWidth) (w1BadWidth := ?w1BadWidth) (w2BadWidth := ?w2BadWidth) (w3BadWidth := ?w3BadWidth) (w4BadWidth := ?w4BadWidth) (w5BadWidth := ?w5BadWidth) (w6BadWidth := ?w6BadWidth) (w7BadWidth := ?w7BadWidth) (w8BadWidth := ?w8BadWidth) (zBadWidth := ?zBadWidth) (w0TooMany := ?w0TooMany) (w1TooMany := ?w1TooMany) (w2TooMany := ?w2TooMany) (w3TooMany := ?w3TooMany) (w4TooMany := ?w4TooMany) (w5TooMany := ?w5TooMany) (w6TooMany := ?w6TooMany) (w7TooMany := ?w7TooMany) (w8TooMany := ?w8TooMany) (zTooMany := ?zTooMany) (w0BadTree := ?w0BadTree) (w1BadTree := ?w1BadTree) (w2BadTree := ?w2BadTree) (w3BadTree := ?w3BadTree) (w4BadTree := ?w4BadTree) (w5BadTree := ?w5BadTree) (w6BadTree := ?w6BadTree) (w7BadTree := ?w7BadTree) (w8BadTree := ?w8BadTree) (zBadTree := ?zBadTree) (w0BadLine := ?w0BadLine) (w1BadLine := ?w1BadLine) (w2BadLine := ?w2BadLine) (w3BadLine := ?w3BadLine) (w4BadLine := ?w4BadLine) (w5BadLine := ?w5BadLine) (w6BadLine := ?w6BadLine) (w7BadLine := ?w7BadLine) (w8BadLine := ?w8BadLine) (zBadLine := ?zBadLine) (w0BadWay := ?w0BadWay) (w1BadWay := ?w1BadWay) (w2BadWay := ?w2BadWay) (w3BadWay := ?w3BadWay) (w4BadWay := ?w4BadWay) (w5BadWay := ?w5BadWay) (w6BadWay := ?w6BadWay) (w7BadWay := ?w7BadWay) (w8BadWay := ?w8BadWay) (zBadWay := ?zBadWay) (w0OtherLetters := ?w0OtherLetters) (w1OtherLetters := ?w1OtherLetters) (w2OtherLetters := ?w2OtherLetters) (w3OtherLetters := ?w3OtherLetters) (w4OtherLetters := ?w4OtherLetters) (w5OtherLetters := ?w5OtherLetters) (w6OtherLetters := ?w6OtherLetters) (w7OtherLetters := ?w7OtherLetters) (w8OtherLetters := ?w8OtherLetters) (zOtherLetters := ?zOtherLetters) (w0OtherWidth := ?w0OtherWidth) (w1OtherWidth := ?w1OtherWidth) (w2OtherWidth := ?w2OtherWidth) (w3OtherWidth := ?w3OtherWidth) (w4OtherWidth := ?w4OtherWidth) (w5OtherWidth := ?w5OtherWidth) (w6OtherWidth := ?w6OtherWidth) (w7OtherWidth := ?w7OtherWidth) (w8OtherWidth := ?w8OtherWidth) (zOtherWidth := ?zOtherWidth) (w0BadRule := ?w0BadRule) (w1BadRule := ?w1BadRule) (w2BadRule := ?w2BadRule) (w3BadRule := ?w3BadRule) (w4BadRule := ?w4BadRule) (w5BadRule := ?w5BadRule) (w6BadRule := ?w6BadRule) (w7BadRule := ?w7BadRule) (w8BadRule := ?w8BadRule) (zBadRule := ?zBadRule) (w0Ring := ?w0Ring) (w1Ring := ?w1Ring) (w2Ring := ?w2Ring) (w3Ring := ?w3Ring) (w4Ring := ?w4Ring) (w5Ring := ?w5Ring) (w6Ring := ?w6Ring) (w7Ring := ?w7Ring) (w8Ring := ?w8Ring) (zRing := ?zRing) (w0NoRule := ?w0NoRule) (w1NoRule := ?w1NoRule) (w2NoRule := ?w2NoRule) (w3NoRule := ?w3NoRule) (w4NoRule := ?w4NoRule) (w5NoRule := ?w5NoRule) (w6NoRule := ?w6NoRule) (w7NoRule := ?w7NoRule) (w8NoRule := ?w8NoRule) (zNoRule := ?zNoRule) (w0BadPlace := ?w0BadPlace) (w1BadPlace := ?w1BadPlace) (w2BadPlace := ?w2BadPlace) (w3BadPlace := ?w3BadPlace) (w4BadPlace := ?w4BadPlace) (w5BadPlace := ?w5BadPlace) (w6BadPlace := ?w6BadPlace) (w7BadPlace := ?w7BadPlace) (w8BadPlace := ?w8BadPlace) (zBadPlace := ?zBadPlace) (w0BadOver := ?w0BadOver) (w1BadOver := ?w1BadOver) (w2BadOver := ?w2BadOver) (w3BadOver := ?w3BadOver) (w4BadOver := ?w4BadOver) (w5BadOver := ?w5BadOver) (w6BadOver := ?w6BadOver) (w7BadOver := ?w7BadOver) (w8BadOver := ?w8BadOver) (zBadOver := ?zBadOver) (w0BadSize := ?w0BadSize) (w1BadSize := ?w1BadSize) (w2BadSize := ?w2BadSize) (w3BadSize := ?w3BadSize) (w4BadSize := ?w4BadSize) (w5BadSize := ?w5BadSize) (w6BadSize := ?w6BadSize) (w7BadSize := ?w7BadSize) (w8BadSize := ?w8BadSize) (zBadSize := ?zBadSize) (w0BadOrder := ?w0BadOrder) (w1BadOrder := ?w1BadOrder) (w2BadOrder := ?w2BadOrder) (w3BadOrder := ?w3BadOrder) (w4BadOrder := ?w4BadOrder) (w5BadOrder := ?w5BadOrder) (w6BadOrder := ?w6BadOrder) (w7BadOrder := ?w7BadOrder) (w8BadOrder := ?w8BadOrder) (zBadOrder := ?zBadOrder) (w0NoJoint := ?w0NoJoint) (w1NoJoint := ?w1NoJoint) (w2NoJoint := ?w2NoJoint) (w3NoJoint := ?w3NoJoint) (w4NoJoint := ?w4NoJoint) (w5NoJoint := ?w5NoJoint) (w6NoJoint := ?w6NoJoint) (w7NoJoint := ?w7NoJoint) (w8NoJoint := ?w8NoJoint) (zNoJoint := ?zNoJoint) (w0NoPartial := ?w0NoPartial) (w1NoPartial := ?w1NoPartial) (w2NoPartial := ?w2NoPartial) (w3NoPartial := ?w3NoPartial) (w4NoPartial := ?w4NoPartial) (w5NoPartial := ?w5NoPartial) (w6NoPartial := ?w6NoPartial) (w7NoPartial := ?w7NoPartial) (w8NoPartial := ?w8NoPartial) (zNoPartial := ?zNoPartial) (z0 := ?z0) (z1 := ?z1) (z2 := ?z2) (z3 := ?z3) (z4 := ?z4) (z5 := ?z5) (z6 := ?z6) (z7 := ?z7) (z8 := ?z8) (z9 := ?z9) (z10 := ?z10) (z11 := ?z11) (z12 := ?z12) (z13 := ?z13) (z14 := ?z14) (z15 := ?z15) (z16 := ?z16) (z17 := ?z17) (z18 := ?z18)
    (case a1 => k_is); (case l1 => k_is); (case c1 => k_is); (case k1 => k_is); (case a2 => k_is); (case l2 => k_is); (case c2 => k_is); (case k2 => k_is); (case a3 => k_is); (case l3 => k_is); (case c3 => k_is); (case k3 => k_is); (case a4 => k_is); (case l4 => k_is); (case c4 => k_is); (case k4 => k_is); (case a5 => k_is); (case l5 => k_is); (case c5 => k_is); (case k5 => k_is); (case a6 => k_is); (case l6 => k_is); (case c6 => k_is); (case k6 => k_is); (case a7 => k_is); (case l7 => k_is); (case c7 => k_is); (case k7 => k_is); (case a8 => k_is); (case l8 => k_is); (case c8 => k_is); (case k8 => k_is); (case a9 => k_is); (case l9 => k_is); (case c9 => k_is); (case k9 => k_is); (case a10 => k_is); (case l10 => k_is); (case c10 => k_is); (case k10 => k_is); (case aC0 => k_is); (case r1 => k_is); (case r2 => k_is); (case r3 => k_is); (case s1 => k_is); (case s2 => k_is); (case s3 => k_is); (case s4 => k_is); (case aCBadLetters => k_is); (case aBadLetters => k_is); (case lBadLetters => k_is); (case cBadLetters => k_is); (case kBadLetters => k_is); (case n0BadLetters => k_is); (case tBadLetters => k_is); (case g4BadLetters => k_is); (case m2BadLetters => k_is); (case o1BadLetters => k_is); (case o2BadLetters => rfl); (case o3BadLetters => k_is); (case o4BadLetters => k_is); (case x1BadLetters => k_is); (case x2BadLetters => k_is); (case x3BadLetters => k_is); (case e1BadLetters => k_is); (case e2BadLetters => k_is); (case p1BadLetters => k_is); (case p2BadLetters => k_is); (case aCBadWords => k_is); (case aBadWords => k_is); (case lBadWords => k_is); (case cBadWords => k_is); (case kBadWords => k_is); (case n0BadWords => k_is); (case tBadWords => k_is); (case g4BadWords => k_is); (case m2BadWords => k_is); (case o1BadWords => k_is); (case o2BadWords => rfl); (case o3BadWords => k_is); (case o4BadWords => k_is); (case x1BadWords => k_is); (case x2BadWords => k_is); (case x3BadWords => k_is); (case e1BadWords => k_is); (case e2BadWords => k_is); (case p1BadWords => k_is); (case p2BadWords => k_is); (case aCBadText => k_is); (case aBadText => k_is); (case lBadText => k_is); (case cBadText => k_is); (case kBadText => k_is); (case n0BadText => k_is); (case tBadText => k_is); (case g4BadText => k_is); (case m2BadText => k_is); (case o1BadText => k_is); (case o2BadText => rfl); (case o3BadText => k_is); (case o4BadText => k_is); (case x1BadText => k_is); (case x2BadText => k_is); (case x3BadText => k_is); (case e1BadText => k_is); (case e2BadText => k_is); (case p1BadText => k_is); (case p2BadText => k_is); (case aCBadWish => k_is); (case aBadWish => k_is); (case lBadWish => k_is); (case cBadWish => k_is); (case kBadWish => k_is); (case n0BadWish => k_is); (case tBadWish => k_is); (case g4BadWish => k_is); (case m2BadWish => k_is); (case o1BadWish => k_is); (case o2BadWish => rfl); (case o3BadWish => k_is); (case o4BadWish => k_is); (case x1BadWish => k_is); (case x2BadWish => k_is); (case x3BadWish => k_is); (case e1BadWish => k_is); (case e2BadWish => k_is); (case p1BadWish => k_is); (case p2BadWish => k_is); (case aCBadWidth => k_is); (case aBadWidth => k_is); (case lBadWidth => k_is); (case cBadWidth => k_is); (case kBadWidth => k_is); (case n0BadWidth => k_is); (case tBadWidth => k_is); (case g4BadWidth => k_is); (case m2BadWidth => k_is); (case o1BadWidth => k_is); (case o2BadWidth => rfl); (case o3BadWidth => k_is); (case o4BadWidth => k_is); (case x1BadWidth => k_is); (case x2BadWidth => k_is); (case x3BadWidth => k_is); (case e1BadWidth => k_is); (case e2BadWidth => k_is); (case p1BadWidth => k_is); (case p2BadWidth => k_is); (case aCTooMany => k_is); (case aTooMany => k_is); (case lTooMany => k_is); (case cTooMany => k_is); (case kTooMany => k_is); (case n0TooMany => k_is); (case n1TooMany => k_is); (case n2TooMany => k_is); (case tTooMany => k_is); (case g4TooMany => k_is); (case m2TooMany => k_is); (case o1TooMany => k_is); (case o2TooMany => rfl); (case o3TooMany => k_is); (case o4TooMany => k_is); (case x1TooMany => k_is); (case x2TooMany => k_is); (case x3TooMany => k_is); (case e1TooMany => k_is); (case e2TooMany => k_is); (case p1TooMany => k_is); (case p2TooMany => k_is); (case aCBadTree => k_is); (case aBadTree => k_is); (case lBadTree => k_is); (case cBadTree => k_is); (case kBadTree => k_is); (case n0BadTree => k_is); (case n1BadTree => k_is); (case tBadTree => k_is); (case g4BadTree => k_is); (case m2BadTree => k_is); (case o1BadTree => k_is); (case o2BadTree => rfl); (case o3BadTree => k_is); (case o4BadTree => k_is); (case x1BadTree => k_is); (case x2BadTree => k_is); (case x3BadTree => k_is); (case e1BadTree => k_is); (case e2BadTree => k_is); (case p1BadTree => k_is); (case p2BadTree => k_is); (case aCBadLine => k_is); (case aBadLine => k_is); (case lBadLine => k_is); (case cBadLine => k_is); (case kBadLine => k_is); (case n0BadLine => k_is); (case tBadLine => k_is); (case g4BadLine => k_is); (case m2BadLine => k_is); (case o1BadLine => k_is); (case o2BadLine => rfl); (case o3BadLine => k_is); (case o4BadLine => k_is); (case x1BadLine => k_is); (case x2BadLine => k_is); (case x3BadLine => k_is); (case e1BadLine => k_is); (case e2BadLine => k_is); (case p1BadLine => k_is); (case p2BadLine => k_is); (case aCBadWay => k_is); (case aBadWay => k_is); (case lBadWay => k_is); (case cBadWay => k_is); (case kBadWay => k_is); (case n0BadWay => k_is); (case tBadWay => k_is); (case g4BadWay => k_is); (case m2BadWay => k_is); (case o1BadWay => k_is); (case o2BadWay => rfl); (case o3BadWay => k_is); (case o4BadWay => k_is); (case x1BadWay => k_is); (case x2BadWay => k_is); (case x3BadWay => k_is); (case e1BadWay => k_is); (case e2BadWay => k_is); (case p1BadWay => k_is); (case p2BadWay => k_is); (case aCOtherLetters => k_is); (case aOtherLetters => k_is); (case g4OtherLetters => k_is); (case m2OtherLetters => k_is); (case o1OtherLetters => k_is); (case o2OtherLetters => rfl); (case o3OtherLetters => k_is); (case o4OtherLetters => k_is); (case x1OtherLetters => k_is); (case x2OtherLetters => k_is); (case x3OtherLetters => k_is); (case e1OtherLetters => k_is); (case e2OtherLetters => k_is); (case p1OtherLetters => k_is); (case p2OtherLetters => k_is); (case aCOtherWidth => k_is); (case aOtherWidth => k_is); (case g4OtherWidth => k_is); (case m2OtherWidth => k_is); (case o1OtherWidth => k_is); (case o2OtherWidth => rfl); (case o3OtherWidth => k_is); (case o4OtherWidth => k_is); (case x1OtherWidth => k_is); (case x2OtherWidth => k_is); (case x3OtherWidth => k_is); (case e1OtherWidth => k_is); (case e2OtherWidth => k_is); (case p1OtherWidth => k_is); (case p2OtherWidth => k_is); (case aCBadRule => k_is); (case aBadRule => k_is); (case lBadRule => k_is); (case cBadRule => k_is); (case kBadRule => k_is); (case n0BadRule => k_is); (case tBadRule => k_is); (case g4BadRule => k_is); (case m2BadRule => k_is); (case o1BadRule => k_is); (case o2BadRule => rfl); (case o3BadRule => k_is); (case o4BadRule => k_is); (case x1BadRule => k_is); (case x2BadRule => k_is); (case x3BadRule => k_is); (case e1BadRule => k_is); (case e2BadRule => k_is); (case p1BadRule => k_is); (case p2BadRule => k_is); (case aCRing => k_is); (case aRing => k_is); (case lRing => k_is); (case cRing => k_is); (case kRing => k_is); (case n0Ring => k_is); (case tRing => k_is); (case g4Ring => k_is); (case m2Ring => k_is); (case o1Ring => k_is); (case o2Ring => rfl); (case o3Ring => k_is); (case o4Ring => k_is); (case x1Ring => k_is); (case x2Ring => k_is); (case x3Ring => k_is); (case e1Ring => k_is); (case e2Ring => k_is); (case p1Ring => k_is); (case p2Ring => k_is); (case aCNoRule => k_is); (case aNoRule => k_is); (case lNoRule => k_is); (case cNoRule => k_is); (case kNoRule => k_is); (case n0NoRule => k_is); (case tNoRule => k_is); (case g4NoRule => k_is); (case m2NoRule => k_is); (case o1NoRule => k_is); (case o2NoRule => rfl); (case o3NoRule => k_is); (case o4NoRule => k_is); (case x1NoRule => k_is); (case x2NoRule => k_is); (case x3NoRule => k_is); (case e1NoRule => k_is); (case e2NoRule => k_is); (case p1NoRule => k_is); (case p2NoRule => k_is); (case aCBadPlace => k_is); (case aBadPlace => k_is); (case lBadPlace => k_is); (case cBadPlace => k_is); (case kBadPlace => k_is); (case n0BadPlace => k_is); (case tBadPlace => k_is); (case g4BadPlace => k_is); (case m2BadPlace => k_is); (case o1BadPlace => k_is); (case o2BadPlace => rfl); (case o3BadPlace => k_is); (case o4BadPlace => k_is); (case x1BadPlace => k_is); (case x2BadPlace => k_is); (case x3BadPlace => k_is); (case e1BadPlace => k_is); (case e2BadPlace => k_is); (case p1BadPlace => k_is); (case p2BadPlace => k_is); (case aCBadOver => k_is); (case aBadOver => k_is); (case g4BadOver => k_is); (case m2BadOver => k_is); (case o1BadOver => k_is); (case o2BadOver => rfl); (case o3BadOver => k_is); (case o4BadOver => k_is); (case x1BadOver => k_is); (case x2BadOver => k_is); (case x3BadOver => k_is); (case e1BadOver => k_is); (case e2BadOver => k_is); (case p1BadOver => k_is); (case p2BadOver => k_is); (case aCBadSize => k_is); (case aBadSize => k_is); (case lBadSize => k_is); (case cBadSize => k_is); (case kBadSize => k_is); (case n0BadSize => k_is); (case tBadSize => k_is); (case g4BadSize => k_is); (case m2BadSize => k_is); (case o1BadSize => k_is); (case o2BadSize => rfl); (case o3BadSize => k_is); (case o4BadSize => k_is); (case x1BadSize => k_is); (case x2BadSize => k_is); (case x3BadSize => k_is); (case e1BadSize => k_is); (case e2BadSize => k_is); (case p1BadSize => k_is); (case p2BadSize => k_is); (case aCBadOrder => k_is); (case aBadOrder => k_is); (case lBadOrder => k_is); (case cBadOrder => k_is); (case kBadOrder => k_is); (case n0BadOrder => k_is); (case tBadOrder => k_is); (case g4BadOrder => k_is); (case m2BadOrder => k_is); (case o1BadOrder => k_is); (case o2BadOrder => rfl); (case o3BadOrder => k_is); (case o4BadOrder => k_is); (case x1BadOrder => k_is); (case x2BadOrder => k_is); (case x3BadOrder => k_is); (case e1BadOrder => k_is); (case e2BadOrder => k_is); (case p1BadOrder => k_is); (case p2BadOrder => k_is); (case aCNoJoint => k_is); (case aNoJoint => k_is); (case lNoJoint => k_is); (case cNoJoint => k_is); (case kNoJoint => k_is); (case n0NoJoint => k_is); (case tNoJoint => k_is); (case g4NoJoint => k_is); (case m2NoJoint => k_is); (case o1NoJoint => k_is); (case o2NoJoint => rfl); (case o3NoJoint => k_is); (case o4NoJoint => k_is); (case x1NoJoint => k_is); (case x2NoJoint => k_is); (case x3NoJoint => k_is); (case e1NoJoint => k_is); (case e2NoJoint => k_is); (case p1NoJoint => k_is); (case p2NoJoint => k_is); (case aCNoPartial => k_is); (case aNoPartial => k_is); (case lNoPartial => k_is); (case cNoPartial => k_is); (case kNoPartial => k_is); (case n0NoPartial => k_is); (case tNoPartial => k_is); (case g4NoPartial => k_is); (case m2NoPartial => k_is); (case o1NoPartial => k_is); (case o2NoPartial => rfl); (case o3NoPartial => k_is); (case o4NoPartial => k_is); (case x1NoPartial => k_is); (case x2NoPartial => k_is); (case x3NoPartial => k_is); (case e1NoPartial => k_is); (case e2NoPartial => k_is); (case p1NoPartial => k_is); (case p2NoPartial => k_is); (case yBadLetters => k_is); (case yBadWords => k_is); (case yBadText => k_is); (case yBadPlace => k_is); (case yRing => k_is); (case yNoRule => k_is); (case yOtherLetters => k_is); (case yOtherWidth => k_is); (case yTooMany => k_is); (case w0BadLetters => k_is); (case w1BadLetters => k_is); (case w2BadLetters => k_is); (case w3BadLetters => k_is); (case w4BadLetters => k_is); (case w5BadLetters => k_is); (case w6BadLetters => k_is); (case w7BadLetters => k_is); (case w8BadLetters => k_is); (case zBadLetters => rfl); (case w0BadWords => k_is); (case w1BadWords => k_is); (case w2BadWords => k_is); (case w3BadWords => k_is); (case w4BadWords => k_is); (case w5BadWords => k_is); (case w6BadWords => k_is); (case w7BadWords => k_is); (case w8BadWords => k_is); (case zBadWords => rfl); (case w0BadText => k_is); (case w1BadText => k_is); (case w2BadText => k_is); (case w3BadText => k_is); (case w4BadText => k_is); (case w5BadText => k_is); (case w6BadText => k_is); (case w7BadText => k_is); (case w8BadText => k_is); (case zBadText => rfl); (case w0BadWish => k_is); (case w1BadWish => k_is); (case w2BadWish => k_is); (case w3BadWish => k_is); (case w4BadWish => k_is); (case w5BadWish => k_is); (case w6BadWish => k_is); (case w7BadWish => k_is); (case w8BadWish => k_is); (case zBadWish => rfl); (case w0BadWidth => k_is); (case w1BadWidth => k_is); (case w2BadWidth => k_is); (case w3BadWidth => k_is); (case w4BadWidth => k_is); (case w5BadWidth => k_is); (case w6BadWidth => k_is); (case w7BadWidth => k_is); (case w8BadWidth => k_is); (case zBadWidth => rfl); (case w0TooMany => k_is); (case w1TooMany => k_is); (case w2TooMany => k_is); (case w3TooMany => k_is); (case w4TooMany => k_is); (case w5TooMany => k_is); (case w6TooMany => k_is); (case w7TooMany => k_is); (case w8TooMany => k_is); (case zTooMany => rfl); (case w0BadTree => k_is); (case w1BadTree => k_is); (case w2BadTree => k_is); (case w3BadTree => k_is); (case w4BadTree => k_is); (case w5BadTree => k_is); (case w6BadTree => k_is); (case w7BadTree => k_is); (case w8BadTree => k_is); (case zBadTree => rfl); (case w0BadLine => k_is); (case w1BadLine => k_is); (case w2BadLine => k_is); (case w3BadLine => k_is); (case w4BadLine => k_is); (case w5BadLine => k_is); (case w6BadLine => k_is); (case w7BadLine => k_is); (case w8BadLine => k_is); (case zBadLine => rfl); (case w0BadWay => k_is); (case w1BadWay => k_is); (case w2BadWay => k_is); (case w3BadWay => k_is); (case w4BadWay => k_is); (case w5BadWay => k_is); (case w6BadWay => k_is); (case w7BadWay => k_is); (case w8BadWay => k_is); (case zBadWay => rfl); (case w0OtherLetters => k_is); (case w1OtherLetters => k_is); (case w2OtherLetters => k_is); (case w3OtherLetters => k_is); (case w4OtherLetters => k_is); (case w5OtherLetters => k_is); (case w6OtherLetters => k_is); (case w7OtherLetters => k_is); (case w8OtherLetters => k_is); (case zOtherLetters => rfl); (case w0OtherWidth => k_is); (case w1OtherWidth => k_is); (case w2OtherWidth => k_is); (case w3OtherWidth => k_is); (case w4OtherWidth => k_is); (case w5OtherWidth => k_is); (case w6OtherWidth => k_is); (case w7OtherWidth => k_is); (case w8OtherWidth => k_is); (case zOtherWidth => rfl); (case w0BadRule => k_is); (case w1BadRule => k_is); (case w2BadRule => k_is); (case w3BadRule => k_is); (case w4BadRule => k_is); (case w5BadRule => k_is); (case w6BadRule => k_is); (case w7BadRule => k_is); (case w8BadRule => k_is); (case zBadRule => rfl); (case w0Ring => k_is); (case w1Ring => k_is); (case w2Ring => k_is); (case w3Ring => k_is); (case w4Ring => k_is); (case w5Ring => k_is); (case w6Ring => k_is); (case w7Ring => k_is); (case w8Ring => k_is); (case zRing => rfl); (case w0NoRule => k_is); (case w1NoRule => k_is); (case w2NoRule => k_is); (case w3NoRule => k_is); (case w4NoRule => k_is); (case w5NoRule => k_is); (case w6NoRule => k_is); (case w7NoRule => k_is); (case w8NoRule => k_is); (case zNoRule => rfl); (case w0BadPlace => k_is); (case w1BadPlace => k_is); (case w2BadPlace => k_is); (case w3BadPlace => k_is); (case w4BadPlace => k_is); (case w5BadPlace => k_is); (case w6BadPlace => k_is); (case w7BadPlace => k_is); (case w8BadPlace => k_is); (case zBadPlace => rfl); (case w0BadOver => k_is); (case w1BadOver => k_is); (case w2BadOver => k_is); (case w3BadOver => k_is); (case w4BadOver => k_is); (case w5BadOver => k_is); (case w6BadOver => k_is); (case w7BadOver => k_is); (case w8BadOver => k_is); (case zBadOver => rfl); (case w0BadSize => k_is); (case w1BadSize => k_is); (case w2BadSize => k_is); (case w3BadSize => k_is); (case w4BadSize => k_is); (case w5BadSize => k_is); (case w6BadSize => k_is); (case w7BadSize => k_is); (case w8BadSize => k_is); (case zBadSize => rfl); (case w0BadOrder => k_is); (case w1BadOrder => k_is); (case w2BadOrder => k_is); (case w3BadOrder => k_is); (case w4BadOrder => k_is); (case w5BadOrder => k_is); (case w6BadOrder => k_is); (case w7BadOrder => k_is); (case w8BadOrder => k_is); (case zBadOrder => rfl); (case w0NoJoint => k_is); (case w1NoJoint => k_is); (case w2NoJoint => k_is); (case w3NoJoint => k_is); (case w4NoJoint => k_is); (case w5NoJoint => k_is); (case w6NoJoint => k_is); (case w7NoJoint => k_is); (case w8NoJoint => k_is); (case zNoJoint => rfl); (case w0NoPartial => k_is); (case w1NoPartial => k_is); (case w2NoPartial => k_is); (case w3NoPartial => k_is); (case w4NoPartial => k_is); (case w5NoPartial => k_is); (case w6NoPartial => k_is); (case w7NoPartial => k_is); (case w8NoPartial => k_is); (case zNoPartial => rfl); (case z0 => k_is); (case z1 => k_is); (case z2 => k_is); (case z3 => k_is); (case z4 => k_is); (case z5 => k_is); (case z6 => k_is); (case z7 => k_is); (case z8 => k_is); (case z9 => k_is); (case z10 => k_is); (case z11 => k_is); (case z12 => k_is); (case z13 => k_is); (case z14 => k_is); (case z15 => k_is); (case z16 => k_is); (case z17 => k_is); (case z18 => k_is)

